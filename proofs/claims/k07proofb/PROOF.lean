import PyProof.Rows.All
import Wide.All
import OpenK.AllK
import Wide.FinOn
import HandS.ForMost
import HandS.ForExc
import HandS.Deep
import HandS.TupSets
import HandS.Wide
import HandS.IsInst
import HandS.Zip
import HandS.SetFor
import HandS.SortInts
import HandS.AnyAll
import HandS.Nested
import HandS.GenList
import HandS.EndTab
import HandS.ExcSuper
import HandS.ExcInit
import HandS.TupAny
import PyProof.EnumMake
import KE.GoesMore
import KE.KSuper
import KE.KExcSuper
import HandS.FStr
import HandS.ExcIs
import HandS.ExcField
import KE.KExcIs
import HandS.SetBool
import HandS.Head0
import HandS.Head1
import HandS.Head2
import HandS.HeadEnd
import HandS.HeadHook1
import HandS.HeadHook2
import HandS.HeadHook3
import HandS.HeadHook4
import HandS.HeadWalk
import PySem.Challenge.RW_piecedeal_k07_letters_lost
set_option Elab.async false
set_option linter.all false
set_option maxRecDepth 100000
set_option maxHeartbeats 1000000
/-! Dn: what an expression, a statement, a def of plain data computes, as a Lean function over values and a store of lists; each construct's rule once. -/
namespace Dn
open PySem PySem.Spec PyProof.Rows L2

/-- a value: plain data; a list is a place of the store -/
inductive W where
  | non | bl (b : Bool) | int (i : Int) | str (s : Str) | tup (l : List W) | loc (n : Nat) | ty (n : String) | obj (a : Addr) | frz (l : List W)
abbrev Store := List (List W)
abbrev Sl := List (Option W)
/-- an error: its class's name, its fields -/
structure Er where
  cls : Str
  fs : List (Str × W)
inductive Res (A : Type) where
  | ok (a : A) (st : Store)
  | er (x : Er) (st : Store)
def bnd {A B : Type} (m : Option (Res A)) (k : A → Store → Option (Res B)) : Option (Res B) := match m with
  | none => none
  | some (.er x st) => some (.er x st)
  | some (.ok a st) => k a st
abbrev Den (A : Type) := Sl → Store → Option (Res A)

/-- a list that is only read: locked, or of the written part -/
def FzL (K : PySem.W.Frag) (H : Hp) (a : Addr) (xs : List V) : Prop := (∃ o, H a = some (.frz o (.lst xs))) ∨
  ∃ (o : Obj) (its : Array Value) (n : Nat), K.lookup a = some o ∧ o.cls = .type "list" ∧ o.dict = none ∧ o.data = .seq its n ∧ its.size ≤ sizeLine ∧ Vals xs its.toList
theorem FzL.seq {K : PySem.W.Frag} {H : Hp} {a : Addr} {xs : List V} (h : FzL K H a xs) : SqL K H a xs := by
  rcases h with ⟨o, h⟩ | h
  · exact .inl (.inr ⟨o, h⟩)
  · exact .inr h
mutual
inductive Rep (K : PySem.W.Frag) (α : List Addr) (H : Hp) : V → W → Prop
  | non : Rep K α H .non .non
  | bl (b : Bool) : Rep K α H (.bl b) (.bl b)
  | int (i : Int) : Rep K α H (.int i) (.int i)
  | str (s : Str) : Rep K α H (.str s) (.str s)
  | tup {a : Addr} {vs : List V} {ws : List W} : SqT K H a vs → Reps K α H vs ws → Rep K α H (.ref a) (.tup ws)
  | loc {a : Addr} {n : Nat} : α[n]? = some a → Rep K α H (.ref a) (.loc n)
  | ty (n : String) : Rep K α H (.ty n) (.ty n)
  | obj (a : Addr) : Rep K α H (.ref a) (.obj a)
  | frz {a : Addr} {vs : List V} {ws : List W} : FzL K H a vs → Reps K α H vs ws → Rep K α H (.ref a) (.frz ws)
inductive Reps (K : PySem.W.Frag) (α : List Addr) (H : Hp) : List V → List W → Prop
  | nil : Reps K α H [] []
  | cons {v : V} {w : W} {vs : List V} {ws : List W} : Rep K α H v w → Reps K α H vs ws → Reps K α H (v :: vs) (w :: ws)
end

/-- what may happen to the heap: lists change, tables grow, all else stays -/
def Stays : HO → Option HO → Prop
  | .lst _, o' => ∃ xs, o' = some (.lst xs)
  | .tbl ps, o' => ∃ ps' : Array Value, o' = some (.tbl ps') ∧ (TriplesOk ps.toList → TriplesOk ps'.toList)
  | o, o' => o' = some o
def Fr (H H' : Hp) : Prop := ∀ a o, H a = some o → Stays o (H' a)
theorem Stays.refl (o : HO) : Stays o (some o) := by
  cases o <;> first | exact ⟨_, rfl⟩ | exact ⟨_, rfl, id⟩ | rfl
theorem Fr.refl (H : Hp) : Fr H H := fun a o h => by rw [h]; exact Stays.refl o
theorem Fr.trans {H H1 H2 : Hp} (a : Fr H H1) (b : Fr H1 H2) : Fr H H2 := fun p o h => by
  have q := a p o h
  cases o with
  | lst xs =>
    obtain ⟨ys, e⟩ := q
    exact (b p (.lst ys) e : Stays (.lst ys) (H2 p))
  | tbl ps =>
    obtain ⟨ps', e, t⟩ := q
    obtain ⟨ps2, e2, t2⟩ := b p _ e
    exact ⟨ps2, e2, fun z => t2 (t z)⟩
  | _ => exact b p _ q
theorem Fr.new {H : Hp} {p : Addr} {o : HO} (h : H p = none) : Fr H (upd H p o) := fun a u e => by
  rw [upd_ne (ne_of_none e h), e]; exact Stays.refl u
theorem Fr.set {H : Hp} {p : Addr} {xs ys : List V} (h : H p = some (.lst xs)) : Fr H (upd H p (.lst ys)) := fun a u e => by
  by_cases q : a = p
  · subst q; rw [h] at e; cases e; rw [upd_same]; exact ⟨_, rfl⟩
  · rw [upd_ne q, e]; exact Stays.refl u
theorem Fr.tup {H H' : Hp} (f : Fr H H') {a : Addr} {xs : List V} (h : H a = some (.tup xs)) : H' a = some (.tup xs) := f a _ h
theorem Fr.frz {H H' : Hp} (f : Fr H H') {a : Addr} {o : Obj} {u : HO} (h : H a = some (.frz o u)) : H' a = some (.frz o u) := f a _ h
theorem Fr.sqT {K : PySem.W.Frag} {H H' : Hp} (f : Fr H H') {a : Addr} {xs : List V} (h : SqT K H a xs) : SqT K H' a xs := by
  rcases h with (h | ⟨o, h⟩) | h
  · exact .inl (.inl (f.tup h))
  · exact .inl (.inr ⟨o, f.frz h⟩)
  · exact .inr h
theorem Fr.none {H H' : Hp} (f : Fr H H') {a : Addr} (h : H' a = none) : H a = none := by
  cases q : H a with
  | none => rfl
  | some o =>
    have z := f a o q
    rw [h] at z
    cases o with
    | lst xs => obtain ⟨_, e⟩ := z; cases e
    | tbl ps => obtain ⟨_, e, _⟩ := z; cases e
    | _ => cases z

theorem Fr.fzL {K : PySem.W.Frag} {H H' : Hp} (f : Fr H H') {a : Addr} {xs : List V} (h : FzL K H a xs) : FzL K H' a xs := by
  rcases h with ⟨o, h⟩ | h
  · exact .inl ⟨o, f.frz h⟩
  · exact .inr h
theorem pre_get {α α' : List Addr} (p : α <+: α') {n : Nat} {a : Addr} (h : α[n]? = some a) : α'[n]? = some a := by
  obtain ⟨t, rfl⟩ := p
  rw [List.getElem?_append_left (List.getElem?_eq_some_iff.mp h).1]; exact h
mutual
theorem Rep.mono {K : PySem.W.Frag} {α α' : List Addr} {H H' : Hp} (p : α <+: α') (f : Fr H H') {v : V} {w : W} (r : Rep K α H v w) : Rep K α' H' v w := by
  cases r with
  | non => exact .non
  | bl b => exact .bl b
  | int i => exact .int i
  | str s => exact .str s
  | tup h rs => exact .tup (f.sqT h) (Reps.mono p f rs)
  | loc h => exact .loc (pre_get p h)
  | ty n => exact .ty n
  | obj a => exact .obj a
  | frz h rs => exact .frz (f.fzL h) (Reps.mono p f rs)
theorem Reps.mono {K : PySem.W.Frag} {α α' : List Addr} {H H' : Hp} (p : α <+: α') (f : Fr H H') {vs : List V} {ws : List W} (r : Reps K α H vs ws) : Reps K α' H' vs ws := by
  cases r with
  | nil => exact .nil
  | cons a b => exact .cons (Rep.mono p f a) (Reps.mono p f b)
end
theorem Reps.length {K : PySem.W.Frag} {α : List Addr} {H : Hp} : ∀ {vs : List V} {ws : List W}, Reps K α H vs ws → vs.length = ws.length
  | [], _, r => by cases r; rfl
  | v :: vs, _, r => by cases r with | cons a b => simp [Reps.length b]
theorem Reps.get {K : PySem.W.Frag} {α : List Addr} {H : Hp} : ∀ {vs : List V} {ws : List W} {i : Nat} {w : W}, Reps K α H vs ws → ws[i]? = some w → ∃ v, vs[i]? = some v ∧ Rep K α H v w
  | _, _, _, _, .nil, e => by simp at e
  | _, _, 0, _, .cons a b, e => by simp at e; subst e; exact ⟨_, by simp, a⟩
  | _, _, i + 1, _, .cons a b, e => by
    obtain ⟨v, h1, h2⟩ := Reps.get (i := i) b (by simpa using e)
    exact ⟨v, by simpa using h1, h2⟩
theorem Reps.getV {K : PySem.W.Frag} {α : List Addr} {H : Hp} : ∀ {vs : List V} {ws : List W} {i : Nat} {v : V}, Reps K α H vs ws → vs[i]? = some v → ∃ w, ws[i]? = some w ∧ Rep K α H v w
  | _, _, _, _, .nil, e => by simp at e
  | _, _, 0, _, .cons a b, e => by simp at e; subst e; exact ⟨_, by simp, a⟩
  | _, _, i + 1, _, .cons a b, e => by
    obtain ⟨v, h1, h2⟩ := Reps.getV (i := i) b (by simpa using e)
    exact ⟨v, by simpa using h1, h2⟩
theorem Reps.app {K : PySem.W.Frag} {α : List Addr} {H : Hp} : ∀ {vs : List V} {ws : List W} {vs' : List V} {ws' : List W}, Reps K α H vs ws → Reps K α H vs' ws' → Reps K α H (vs ++ vs') (ws ++ ws')
  | _, _, _, _, .nil, s => s
  | _, _, _, _, .cons a b, s => .cons a (Reps.app b s)
theorem Reps.take {K : PySem.W.Frag} {α : List Addr} {H : Hp} : ∀ {vs : List V} {ws : List W} (n : Nat), Reps K α H vs ws → Reps K α H (vs.take n) (ws.take n)
  | _, _, 0, _ => by simp; exact .nil
  | _, _, _ + 1, .nil => by simp; exact .nil
  | _, _, n + 1, .cons a b => by simp; exact .cons a (Reps.take n b)
theorem Reps.drop {K : PySem.W.Frag} {α : List Addr} {H : Hp} : ∀ {vs : List V} {ws : List W} (n : Nat), Reps K α H vs ws → Reps K α H (vs.drop n) (ws.drop n)
  | _, _, 0, r => by simpa using r
  | _, _, _ + 1, .nil => by simp; exact .nil
  | _, _, n + 1, .cons a b => by simp; exact Reps.drop n b
theorem Reps.set {K : PySem.W.Frag} {α : List Addr} {H : Hp} : ∀ {vs : List V} {ws : List W} (n : Nat) {v : V} {w : W}, Reps K α H vs ws → Rep K α H v w → Reps K α H (vs.set n v) (ws.set n w)
  | _, _, _, _, _, .nil, _ => by simp; exact .nil
  | _, _, 0, _, _, .cons a b, r => by simp; exact .cons r b
  | _, _, n + 1, _, _, .cons a b, r => by simp; exact .cons a (Reps.set n b r)
theorem Reps.rev {K : PySem.W.Frag} {α : List Addr} {H : Hp} : ∀ {vs : List V} {ws : List W}, Reps K α H vs ws → Reps K α H vs.reverse ws.reverse
  | _, _, .nil => by simp; exact .nil
  | _, _, .cons a b => by simp; exact Reps.app (Reps.rev b) (.cons a .nil)

structure StR (K : PySem.W.Frag) (α : List Addr) (H : Hp) (st : Store) : Prop where
  nd : α.Nodup
  len : α.length = st.length
  at_ : ∀ (n : Nat) (a : Addr) (ws : List W), α[n]? = some a → st[n]? = some ws → ∃ vs, H a = some (.lst vs) ∧ Reps K α H vs ws
/-- the table at P is known, in order -/
def TabAt (H : Hp) (P : Addr) : Prop := ∃ ps : Array Value, H P = some (.tbl ps) ∧ TriplesOk ps.toList
theorem TabAt.mono {H H' : Hp} {P : Addr} (f : Fr H H') (t : TabAt H P) : TabAt H' P := by
  obtain ⟨ps, h1, h2⟩ := t
  obtain ⟨ps', h3, h4⟩ := (f P _ h1 : Stays (.tbl ps) (H' P))
  exact ⟨ps', h3, h4 h2⟩
/-- what is wanted of an exception; the tables that are known -/
structure XT where
  k : XK
  T : List Addr
abbrev XT.no (E : XT) : XT := ⟨E0, E.T⟩
structure SvR (K : PySem.W.Frag) (T : List Addr) (α : List Addr) (H : Hp) (sl : Sl) (σ : L2.St) : Prop where
  tabs : ∀ P ∈ T, TabAt H P
  len : sl.length = σ.length
  at_ : ∀ (i : Nat) (w : W), sl[i]? = some (some w) → ∃ v, σ[i]? = some (some v) ∧ Rep K α H v w
theorem SvR.mono {K : PySem.W.Frag} {T : List Addr} {α α' : List Addr} {H H' : Hp} {sl : Sl} {σ : L2.St} (p : α <+: α') (f : Fr H H') (r : SvR K T α H sl σ) : SvR K T α' H' sl σ :=
  ⟨fun P hP => (r.tabs P hP).mono f, r.len, fun i w e => let ⟨v, h1, h2⟩ := r.at_ i w e; ⟨v, h1, h2.mono p f⟩⟩
theorem StR.loc {K : PySem.W.Frag} {α : List Addr} {H : Hp} {st : Store} (s : StR K α H st) {n : Nat} {a : Addr} (h : α[n]? = some a) : ∃ ws vs, st[n]? = some ws ∧ H a = some (.lst vs) ∧ Reps K α H vs ws := by
  have hn : n < st.length := by rw [← s.len]; exact (List.getElem?_eq_some_iff.mp h).1
  obtain ⟨vs, h1, h2⟩ := s.at_ n a st[n] h (List.getElem?_eq_getElem hn)
  exact ⟨st[n], vs, List.getElem?_eq_getElem hn, h1, h2⟩
/-- a new list -/
theorem StR.new {K : PySem.W.Frag} {α : List Addr} {H : Hp} {st : Store} {p : Addr} {vs : List V} {ws : List W} (s : StR K α H st) (h : H p = none) (r : Reps K α H vs ws) : StR K (α ++ [p]) (upd H p (.lst vs)) (st ++ [ws]) := by
  have np : p ∉ α := fun hm => by
    obtain ⟨n, e⟩ := List.mem_iff_getElem?.mp hm
    obtain ⟨_, _, _, e2, _⟩ := s.loc e
    rw [h] at e2; cases e2
  have pr : α <+: α ++ [p] := List.prefix_append _ _
  have fr : Fr H (upd H p (.lst vs)) := Fr.new h
  refine ⟨by rw [List.nodup_append]; exact ⟨s.nd, by simp, fun a ha b hb => by rw [List.mem_singleton.mp hb]; exact fun z => np (z ▸ ha)⟩, by simp [s.len], fun n a ws' e1 e2 => ?_⟩
  by_cases hn : n < α.length
  · rw [List.getElem?_append_left hn] at e1
    rw [List.getElem?_append_left (by rw [← s.len]; exact hn)] at e2
    obtain ⟨vs', q1, q2⟩ := s.at_ n a ws' e1 e2
    exact ⟨vs', by rw [upd_ne (ne_of_none q1 h)]; exact q1, q2.mono pr fr⟩
  · have hl : n < (α ++ [p]).length := (List.getElem?_eq_some_iff.mp e1).1
    have hn' : n = α.length := by simp at hl; omega
    subst hn'
    simp at e1
    subst e1
    rw [s.len] at e2
    simp at e2
    subst e2
    exact ⟨vs, upd_same, r.mono pr fr⟩
/-- a list is stored -/
theorem StR.set {K : PySem.W.Frag} {α : List Addr} {H : Hp} {st : Store} {n : Nat} {p : Addr} {xs vs : List V} {ws : List W} (s : StR K α H st) (ha : α[n]? = some p) (h : H p = some (.lst xs)) (r : Reps K α H vs ws) : StR K α (upd H p (.lst vs)) (st.set n ws) := by
  have fr : Fr H (upd H p (.lst vs)) := Fr.set h
  refine ⟨s.nd, by simp [s.len], fun m a ws' e1 e2 => ?_⟩
  by_cases hm : m = n
  · subst hm
    rw [ha] at e1; cases e1
    rw [List.getElem?_set_self (by rw [← s.len]; exact (List.getElem?_eq_some_iff.mp ha).1)] at e2
    cases e2
    exact ⟨vs, upd_same, r.mono (List.prefix_refl _) fr⟩
  · rw [List.getElem?_set_ne (Ne.symm hm)] at e2
    obtain ⟨vs', q1, q2⟩ := s.at_ m a ws' e1 e2
    have ne : a ≠ p := fun z => hm ((nd_ix s.nd e1 (z ▸ ha)))
    exact ⟨vs', by rw [upd_ne ne]; exact q1, q2.mono (List.prefix_refl _) fr⟩
/-- nothing of ours changed -/
theorem StR.keep {K : PySem.W.Frag} {α : List Addr} {H H' : Hp} {st : Store} (s : StR K α H st) (f : Fr H H') (k : ∀ a xs, a ∈ α → H a = some (.lst xs) → H' a = some (.lst xs)) : StR K α H' st :=
  ⟨s.nd, s.len, fun n a ws e1 e2 => let ⟨vs, q1, q2⟩ := s.at_ n a ws e1 e2; ⟨vs, k a vs (List.mem_of_getElem? e1) q1, q2.mono (List.prefix_refl _) f⟩⟩
theorem StR.tup {K : PySem.W.Frag} {α : List Addr} {H : Hp} {st : Store} {p : Addr} {o : HO} (s : StR K α H st) (h : H p = none) : StR K α (upd H p o) st :=
  s.keep (Fr.new h) fun a xs _ e => by rw [upd_ne (ne_of_none e h)]; exact e

/-! ### what is wanted behind an evaluation -/
def ErrR (K : PySem.W.Frag) (mg : Str → Option Value) (α : List Addr) (H : Hp) (x : Er) (c : Value) (d : Option Addr) : Prop :=
  mg x.cls = some c ∧ match d with
    | none => x.fs = []
    | some a => ∃ fs : List (Str × V), H a = some (.xd fs) ∧ fs.map (·.1) = x.fs.map (·.1) ∧ Reps K α H (fs.map (·.2)) (x.fs.map (·.2))
section
variable (K : PySem.W.Frag) (mg : Str → Option Value)
abbrev RelT (A B : Type) := List Addr → Hp → A → B → Prop
def Post {A B : Type} (rel : RelT A B) (α : List Addr) (H : Hp) (Q : A → Hp → Prop) (E : XT) : Res B → Prop
  | .ok w st => ∀ α' v H', α <+: α' → Fr H H' → rel α' H' v w → StR K α' H' st → Q v H'
  | .er x st => ∀ α' c d H', α <+: α' → Fr H H' → ErrR K mg α' H' x c d → StR K α' H' st → E.k c d H'
def Ev {A B : Type} (rel : RelT A B) (t : L2.St → Hp → (A → Hp → Prop) → Prop) (f : Den B) (E : XT) : Prop :=
  ∀ sl st r α σ H Q, f sl st = some r → SvR K E.T α H sl σ → StR K α H st → Post K mg rel α H Q E r → t σ H Q
inductive Out where
  | nx (sl : Sl) (st : Store)
  | rt (w : W) (st : Store)
  | bk (sl : Sl) (st : Store)
  | ct (sl : Sl) (st : Store)
  | er (x : Er) (st : Store)
abbrev SD := Sl → Store → Option Out
def PostS (α : List Addr) (H : Hp) (D : Ends) (E : XT) : Out → Prop
  | .nx sl st => ∀ α' σ' H', α <+: α' → Fr H H' → SvR K E.T α' H' sl σ' → StR K α' H' st → D.nx σ' H'
  | .bk sl st => ∀ α' σ' H', α <+: α' → Fr H H' → SvR K E.T α' H' sl σ' → StR K α' H' st → D.bk σ' H'
  | .ct sl st => ∀ α' σ' H', α <+: α' → Fr H H' → SvR K E.T α' H' sl σ' → StR K α' H' st → D.ct σ' H'
  | .rt w st => ∀ α' v H', α <+: α' → Fr H H' → Rep K α' H' v w → StR K α' H' st → D.rt v H'
  | .er x st => ∀ α' c d H', α <+: α' → Fr H H' → ErrR K mg α' H' x c d → StR K α' H' st → E.k c d H'
def EvS (t : TS) (f : SD) (E : XT) : Prop :=
  ∀ sl st o α σ H D, f sl st = some o → SvR K E.T α H sl σ → StR K α H st → PostS K mg α H D E o → t D σ H
end
abbrev ERel : RelT Bool Bool := fun _ _ a b => a = b
section
variable {K : PySem.W.Frag} {mg : Str → Option Value} {E : XT}
theorem Post.mono {A B : Type} {rel : RelT A B} {α α' : List Addr} {H H' : Hp} {Q : A → Hp → Prop} {r : Res B} (p : α <+: α') (f : Fr H H') (h : Post K mg rel α H Q E r) : Post K mg rel α' H' Q E r := by
  cases r with
  | ok w st => exact fun α2 v H2 p2 f2 => h α2 v H2 (p.trans p2) (f.trans f2)
  | er x st => exact fun α2 c d H2 p2 f2 => h α2 c d H2 (p.trans p2) (f.trans f2)
theorem PostS.mono {α α' : List Addr} {H H' : Hp} {D : Ends} {r : Out} (p : α <+: α') (f : Fr H H') (h : PostS K mg α H D E r) : PostS K mg α' H' D E r := by
  cases r with
  | nx w st => exact fun α2 v H2 p2 f2 => h α2 v H2 (p.trans p2) (f.trans f2)
  | bk w st => exact fun α2 v H2 p2 f2 => h α2 v H2 (p.trans p2) (f.trans f2)
  | ct w st => exact fun α2 v H2 p2 f2 => h α2 v H2 (p.trans p2) (f.trans f2)
  | rt w st => exact fun α2 v H2 p2 f2 => h α2 v H2 (p.trans p2) (f.trans f2)
  | er x st => exact fun α2 c d H2 p2 f2 => h α2 c d H2 (p.trans p2) (f.trans f2)
/-- the answer here and now -/
theorem Post.here {A B : Type} {rel : RelT A B} {α : List Addr} {H : Hp} {Q : A → Hp → Prop} {w : B} {st : Store} {v : A} (h : Post K mg rel α H Q E (.ok w st)) (r : rel α H v w) (s : StR K α H st) : Q v H :=
  h α v H (List.prefix_refl _) (Fr.refl _) r s
theorem Ev.bind {A B A' B' : Type} {rel : RelT A B} {rel' : RelT A' B'} {t : L2.St → Hp → (A → Hp → Prop) → Prop} {f : Den B} {sl : Sl} {st : Store} {α : List Addr} {σ : L2.St} {H : Hp} {k : B → Store → Option (Res B')} {r : Res B'} {Q : A → Hp → Prop} {Q' : A' → Hp → Prop}
    (h : Ev K mg rel t f E) (hs : SvR K E.T α H sl σ) (hst : StR K α H st) (he : bnd (f sl st) k = some r) (hP : Post K mg rel' α H Q' E r)
    (hk : ∀ b st1 α1 x H1, k b st1 = some r → α <+: α1 → Fr H H1 → rel α1 H1 x b → StR K α1 H1 st1 → Q x H1) : t σ H Q := by
  cases e : f sl st with
  | none => rw [e] at he; cases he
  | some r1 =>
    rw [e] at he
    cases r1 with
    | er x st1 =>
      have z : some (Res.er x st1 : Res B') = some r := he
      cases z
      exact h sl st _ α σ H Q e hs hst hP
    | ok b st1 => exact h sl st _ α σ H Q e hs hst fun α1 x H1 p q rr s1 => hk b st1 α1 x H1 he p q rr s1
/-- .. a statement behind it -/
def bndS {A : Type} (m : Option (Res A)) (k : A → Store → Option Out) : Option Out := match m with
  | none => none
  | some (.er x st) => some (.er x st)
  | some (.ok a st) => k a st
theorem Ev.bindS {A B : Type} {rel : RelT A B} {t : L2.St → Hp → (A → Hp → Prop) → Prop} {f : Den B} {sl : Sl} {st : Store} {α : List Addr} {σ : L2.St} {H : Hp} {k : B → Store → Option Out} {o : Out} {Q : A → Hp → Prop} {D : Ends}
    (h : Ev K mg rel t f E) (hs : SvR K E.T α H sl σ) (hst : StR K α H st) (he : bndS (f sl st) k = some o) (hP : PostS K mg α H D E o)
    (hk : ∀ b st1 α1 x H1, k b st1 = some o → α <+: α1 → Fr H H1 → rel α1 H1 x b → StR K α1 H1 st1 → Q x H1) : t σ H Q := by
  cases e : f sl st with
  | none => rw [e] at he; cases he
  | some r1 =>
    rw [e] at he
    cases r1 with
    | er x st1 =>
      have z : some (Out.er x st1) = some o := he
      cases z
      exact h sl st _ α σ H Q e hs hst hP
    | ok b st1 => exact h sl st _ α σ H Q e hs hst fun α1 x H1 p q rr s1 => hk b st1 α1 x H1 he p q rr s1
end

/-! ### the judgements -/
def DE (X : Cx) (E : XT) (e : Expr) (f : Den W) : Prop := ∃ t, PE X e t ∧ Ev X.K X.mg (Rep X.K) t f E
def DA (X : Cx) (E : XT) (es : List Expr) (f : Den (List W)) : Prop := ∃ t, PA X es t ∧ Ev X.K X.mg (Reps X.K) t f E
def DT (X : Cx) (E : XT) (e : Expr) (f : Den Bool) : Prop := ∃ t, PT X e t ∧ Ev X.K X.mg ERel t f E
def DW (X : Cx) (E : XT) (e : Expr) (f : Den Bool) : Prop := ∃ t, PW X e t ∧ Ev X.K X.mg ERel t f E
def DS (X : Cx) (E : XT) (s : Stmt) (f : SD) : Prop := ∃ t, PS X s t ∧ EvS X.K X.mg t f E
def DSs (X : Cx) (E : XT) (s : List Stmt) (f : SD) : Prop := ∃ t, PSs X s t ∧ EvS X.K X.mg t f E

/-! ### the simplest expressions -/
def okW {A : Type} (a : A) (st : Store) : Option (Res A) := some (.ok a st)
def eC (w : W) : Den W := fun _ st => okW w st
def eV (i : Nat) : Den W := fun sl st => match sl[i]? with
  | some (some w) => okW w st
  | _ => none
section
variable {X : Cx} {E : XT} {pos : Pos}
theorem Post.now {A B : Type} {K : PySem.W.Frag} {mg : Str → Option Value} {rel : RelT A B} {α : List Addr} {H : Hp} {Q : A → Hp → Prop} {w : B} {st : Store} {r : Res B} {v : A} (e : okW w st = some r) (h : Post K mg rel α H Q E r) (rv : rel α H v w) (s : StR K α H st) : Q v H := by
  cases e; exact h.here rv s
theorem ev_c {K : PySem.W.Frag} {mg : Str → Option Value} {v : V} {w : W} (h : ∀ α H, Rep K α H v w) : Ev K mg (Rep K) (tC v) (eC w) E := fun sl st r α σ H Q e hs hst hP => Post.now (B := W) e hP (h α H) hst
theorem d_int {i j} : DE X E (.Constant (.int i) j pos) (eC (.int i)) := ⟨_, pe_int, ev_c fun _ _ => .int i⟩
theorem d_bl {i j} : DE X E (.Constant (.bool i) j pos) (eC (.bl i)) := ⟨_, pe_bl, ev_c fun _ _ => .bl i⟩
theorem d_str {i j} : DE X E (.Constant (.str i) j pos) (eC (.str i)) := ⟨_, pe_str, ev_c fun _ _ => .str i⟩
theorem d_non {j} : DE X E (.Constant .none j pos) (eC .non) := ⟨_, pe_non, ev_c fun _ _ => .non⟩
theorem d_v (i : Nat) {x : Str} (hN : X.N[i]? = some x := by rfl) (hv : Vis X.env.scope x := by first | exact Or.inl rfl | exact Or.inr (Or.inl rfl) | exact Or.inr (Or.inr rfl)) (hd : (x == ("__debug__" : Str)) = false := by decide)
    (hcd : (x == ("__classdict__" : Str)) = false := by decide) : DE X E (.Name x pos) (eV i) := by
  refine ⟨_, pe_var hN hv hd hcd, fun sl st r α σ H Q e hs hst hP => ?_⟩
  cases q : sl[i]? with
  | none => simp [eV, q] at e
  | some o =>
    cases o with
    | none => simp [eV, q] at e
    | some w =>
      obtain ⟨v, h1, h2⟩ := hs.at_ i w q
      refine ⟨v, h1, Post.now (w := w) (st := st) ?_ hP h2 hst⟩
      simpa [eV, q] using e
end
end Dn

set_option Elab.async false
set_option linter.all false
set_option maxRecDepth 100000
set_option maxHeartbeats 1000000
/-! Dn2: operators, comparisons, tests, displays, calls. -/
namespace Dn
open PySem PySem.Spec PyProof.Rows L2
section
variable {X : Cx} {E : XT} {pos : Pos} {a b c : Expr} {f g h : Den W}
/-! ### two-place operators by values -/
abbrev O2 := W → W → Store → Option (Res W)
def RvD (K : PySem.W.Frag) (mg : Str → Option Value) (E : XT) (r : R2) (o : O2) : Prop := ∀ x y st res α H v u Q, o x y st = some res → Rep K α H v x → Rep K α H u y → StR K α H st → Post K mg (Rep K) α H Q E res → r v u H Q
def e2 (o : O2) (f g : Den W) : Den W := fun sl st => bnd (f sl st) fun x st1 => bnd (g sl st1) fun y st2 => o x y st2
theorem ev_op {K : PySem.W.Frag} {mg : Str → Option Value} {r : R2} {o : O2} {ta tb : TE} (hr : RvD K mg E r o) (ha : Ev K mg (Rep K) ta f E) (hb : Ev K mg (Rep K) tb g E) : Ev K mg (Rep K) (tOp r ta tb) (e2 o f g) E :=
  fun sl st res α σ H Q e hs hst hP => ha.bind hs hst e hP fun x st1 α1 v H1 e1 p1 f1 rx s1 => hb.bind (hs.mono p1 f1) s1 e1 (hP.mono p1 f1) fun y st2 α2 u H2 e2 p2 f2 ry s2 =>
    hr x y st2 res α2 H2 v u Q e2 (rx.mono p2 f2) ry s2 ((hP.mono p1 f1).mono p2 f2)
/-- the same rule by an operator that is one of two -/
theorem RvD.or {K : PySem.W.Frag} {mg : Str → Option Value} {r r' : R2} {o o' : O2} (h : RvD K mg E r o) (h' : RvD K mg E r' o') : RvD K mg E (fun x y H Q => r x y H Q ∨ r' x y H Q) (fun x y st => match o x y st with | some z => some z | none => o' x y st) := by
  intro x y st res α H v u Q e rx ry s hP
  cases q : o x y st with
  | some z =>
    simp only [q] at e
    exact .inl (h x y st res α H v u Q (by rw [q]; exact e) rx ry s hP)
  | none =>
    simp only [q] at e
    exact .inr (h' x y st res α H v u Q e rx ry s hP)
def oI (C : Int → Int → Bool) (k : Int → Int → W) : O2 := fun x y st => match x, y with
  | .int i, .int j => if C i j then okW (k i j) st else none
  | _, _ => none
theorem oI_inv {C : Int → Int → Bool} {k : Int → Int → W} {x y : W} {st : Store} {res : Res W} (h : oI C k x y st = some res) : ∃ i j, x = .int i ∧ y = .int j ∧ C i j = true ∧ okW (k i j) st = some res := by
  cases x <;> cases y <;> simp only [oI] at h <;> try (cases h; done)
  rename_i i j
  by_cases q : C i j = true
  · rw [if_pos q] at h; exact ⟨i, j, rfl, rfl, q, h⟩
  · rw [if_neg q] at h; cases h
theorem rv_I {K : PySem.W.Frag} {mg : Str → Option Value} {C : Int → Int → Prop} {Cb : Int → Int → Bool} {kv : Int → Int → V} {kw : Int → Int → W} (hc : ∀ i j, Cb i j = true → C i j) (hk : ∀ α H i j, Rep K α H (kv i j) (kw i j)) : RvD K mg E (rI C kv) (oI Cb kw) := by
  intro x y st res α H v u Q e rx ry s hP
  obtain ⟨i, j, rfl, rfl, q, e⟩ := oI_inv e
  cases rx; cases ry
  exact ⟨i, j, rfl, rfl, hc i j q, Post.now e hP (hk α H i j) s⟩
theorem rv_I0 {K : PySem.W.Frag} {mg : Str → Option Value} {kv : Int → Int → V} {kw : Int → Int → W} (hk : ∀ α H i j, Rep K α H (kv i j) (kw i j)) : RvD K mg E (rI0 kv) (oI (fun _ _ => true) kw) := by
  intro x y st res α H v u Q e rx ry s hP
  obtain ⟨i, j, rfl, rfl, q, e⟩ := oI_inv e
  cases rx; cases ry
  exact ⟨i, j, rfl, rfl, Post.now e hP (hk α H i j) s⟩
def oAdd : O2 := oI (fun _ _ => true) fun i j => .int (i + j)
def oSub : O2 := oI (fun _ _ => true) fun i j => .int (i - j)
theorem d_sub (ha : DE X E a f) (hb : DE X E b g) : DE X E (.BinOp a .Sub b pos) (e2 oSub f g) := by
  obtain ⟨ta, pa, qa⟩ := ha
  obtain ⟨tb, pb, qb⟩ := hb
  exact ⟨_, pe_op op_sub pa pb, ev_op (rv_I0 fun _ _ _ _ => .int _) qa qb⟩
/-- whole numbers added -/
theorem d_add (ha : DE X E a f) (hb : DE X E b g) : DE X E (.BinOp a .Add b pos) (e2 oAdd f g) := by
  obtain ⟨ta, pa, qa⟩ := ha
  obtain ⟨tb, pb, qb⟩ := hb
  exact ⟨_, pe_op op_add pa pb, ev_op (rv_I0 fun _ _ _ _ => .int _) qa qb⟩
def oLt : O2 := oI (fun _ _ => true) fun i j => .bl (decide (i < j))
def oLe : O2 := oI (fun _ _ => true) fun i j => .bl (decide (i ≤ j))
def oGt : O2 := oI (fun _ _ => true) fun i j => .bl (decide (j < i))
def oGe : O2 := oI (fun _ _ => true) fun i j => .bl (decide (j ≤ i))
/-- a comparison's rule -/
structure CmpD (X : Cx) (E : XT) (op : CmpOp) (o : O2) : Prop where
  ex : ∃ r, OpR X (compareOp op) r ∧ RvD X.K X.mg E r o
theorem c_lt : CmpD X E .Lt oLt := ⟨_, op_lt, rv_I0 fun _ _ _ _ => .bl _⟩
theorem c_le : CmpD X E .LtE oLe := ⟨_, op_le, rv_I0 fun _ _ _ _ => .bl _⟩
theorem c_gt : CmpD X E .Gt oGt := ⟨_, op_gt, rv_I0 fun _ _ _ _ => .bl _⟩
theorem c_ge : CmpD X E .GtE oGe := ⟨_, op_ge, rv_I0 fun _ _ _ _ => .bl _⟩
theorem d_cmp {op : CmpOp} {o : O2} (hc : CmpD X E op o) (ha : DE X E a f) (hb : DE X E b g) (hm : behindInMarks op b = false := by first | exact nomark _ (by decide) (by decide) | rfl) : DE X E (.Compare a [op] [b] pos) (e2 o f g) := by
  obtain ⟨r, po, qo⟩ := hc.ex
  obtain ⟨ta, pa, qa⟩ := ha
  obtain ⟨tb, pb, qb⟩ := hb
  exact ⟨_, pe_cmpR po pa pb hm, ev_op qo qa qb⟩
/-! ### == of data -/
def allS {A : Type} : List (Option A) → Option (List A)
  | [] => some []
  | none :: _ => none
  | some x :: r => (allS r).map (x :: ·)
/-- plain data; fuel: how deep it is looked through -/
def toD (st : Store) : Nat → W → Option PyData
  | _, .non => some .none
  | _, .bl b => some (.bool b)
  | _, .int i => some (.int i)
  | _, .str s => if PyData.strOk s = true then some (.str s) else none
  | 0, .tup _ => none
  | n + 1, .tup l => (allS (l.map (toD st n))).map .tuple
  | 0, .loc _ => none
  | n + 1, .loc k => match st[k]? with
    | some l => (allS (l.map (toD st n))).map .list
    | none => none
  | _, .ty _ => none
  | _, .obj _ => none
  | _, .frz _ => none
theorem toD_lay {st : Store} : ∀ (n : Nat) (w : W) (d : PyData), toD st n w = some d → d.canLay0 = true ∧ d.depth ≤ n := by
  have all : ∀ (n : Nat), (∀ (w : W) (d : PyData), toD st n w = some d → d.canLay0 = true ∧ d.depth ≤ n) → ∀ (l : List W) (ds : List PyData), allS (l.map (toD st n)) = some ds → PyData.canLayAll0 ds = true ∧ PyData.depthAll ds ≤ n := by
    intro n h l
    induction l with
    | nil => intro ds e; cases e; simp [PyData.canLayAll0, PyData.depthAll]
    | cons w l ih =>
      intro ds e
      cases q : toD st n w with
      | none => simp [q, allS] at e
      | some d =>
        cases q2 : allS (l.map (toD st n)) with
        | none => simp [q, allS, q2] at e
        | some ds' =>
          simp [q, allS, q2] at e
          subst e
          obtain ⟨h1, h2⟩ := h w d q
          obtain ⟨h3, h4⟩ := ih ds' q2
          simp [PyData.canLayAll0, PyData.depthAll, h1, h3]
          omega
  intro n
  induction n with
  | zero =>
    intro w d e
    cases w with
    | str s =>
      simp only [toD] at e
      split at e
      · rename_i h; cases e; simp [PyData.canLay0, PyData.depth, h]
      · cases e
    | _ => simp [toD] at e <;> subst e <;> simp [PyData.canLay0, PyData.depth]
  | succ n ih =>
    intro w d e
    cases w with
    | tup l =>
      simp only [toD, Option.map_eq_some_iff] at e
      obtain ⟨ds, e1, rfl⟩ := e
      obtain ⟨h1, h2⟩ := all n ih l ds e1
      simp only [PyData.canLay0, PyData.depth]
      exact ⟨h1, by omega⟩
    | loc k =>
      simp only [toD] at e
      split at e
      · rw [Option.map_eq_some_iff] at e
        obtain ⟨ds, e1, rfl⟩ := e
        obtain ⟨h1, h2⟩ := all n ih _ ds e1
        simp only [PyData.canLay0, PyData.depth]
        exact ⟨h1, by omega⟩
      · cases e
    | str s =>
      simp only [toD] at e
      split at e
      · rename_i h; cases e; simp [PyData.canLay0, PyData.depth, h]
      · cases e
    | ty n => simp [toD] at e
    | obj n => simp [toD] at e
    | frz l => simp [toD] at e
    | _ => simp [toD] at e; subst e; simp [PyData.canLay0, PyData.depth]
theorem toD_shaped {st : Store} {n : Nat} {w : W} {d : PyData} (h : toD st n w = some d) (hn : n ≤ 64) : SeqAt.shaped d = true := by
  obtain ⟨h1, h2⟩ := toD_lay n w d h
  show (d.canLay0 && decide (d.depth ≤ 64)) = true
  rw [h1, decide_eq_true (by omega)]; rfl
theorem toD_dp {K : PySem.W.Frag} {α : List Addr} {H : Hp} {st : Store} (s : StR K α H st) : ∀ (n : Nat) (w : W) (d : PyData) (v : V), toD st n w = some d → Rep K α H v w → Dp K H v d := by
  have all : ∀ (n : Nat), (∀ (w : W) (d : PyData) (v : V), toD st n w = some d → Rep K α H v w → Dp K H v d) → ∀ (l : List W) (ds : List PyData) (vs : List V), allS (l.map (toD st n)) = some ds → Reps K α H vs l → DpAll K H vs ds := by
    intro n h l
    induction l with
    | nil => intro ds vs e r; cases e; cases r; exact .nil
    | cons w l ih =>
      intro ds vs e r
      cases q : toD st n w with
      | none => simp [q, allS] at e
      | some d =>
        cases q2 : allS (l.map (toD st n)) with
        | none => simp [q, allS, q2] at e
        | some ds' =>
          simp [q, allS, q2] at e
          subst e
          cases r with
          | cons a b => exact .cons (h w d _ q a) (ih ds' _ q2 b)
  intro n
  induction n with
  | zero =>
    intro w d v e r
    cases r with
    | non => simp [toD] at e; subst e; exact .non
    | bl b => simp [toD] at e; subst e; exact .bl _
    | int i => simp [toD] at e; subst e; exact .int _
    | str i =>
      simp only [toD] at e
      split at e
      · cases e; exact .str _
      · cases e
    | tup h rs => simp [toD] at e
    | loc h => simp [toD] at e
    | ty n => simp [toD] at e
    | obj n => simp [toD] at e
    | frz h rs => simp [toD] at e
  | succ n ih =>
    intro w d v e r
    cases r with
    | tup h rs =>
      simp only [toD, Option.map_eq_some_iff] at e
      obtain ⟨ds, e1, rfl⟩ := e
      exact .tup h (all n ih _ ds _ e1 rs)
    | loc h =>
      obtain ⟨ws, vs, h1, h2, h3⟩ := s.loc h
      simp only [toD, h1, Option.map_eq_some_iff] at e
      obtain ⟨ds, e1, rfl⟩ := e
      exact .lst (.inl (.inl h2)) (all n ih _ ds _ e1 h3)
    | non => simp [toD] at e; subst e; exact .non
    | bl b => simp [toD] at e; subst e; exact .bl _
    | int i => simp [toD] at e; subst e; exact .int _
    | str i =>
      simp only [toD] at e
      split at e
      · cases e; exact .str _
      · cases e
    | ty n => simp [toD] at e
    | obj n => simp [toD] at e
    | frz h rs => simp [toD] at e
def oEqD : O2 := fun x y st => match toD st 8 x, toD st 8 y with
  | some d, some e => okW (.bl (PyData.eqv d e)) st
  | _, _ => none
def oNeD : O2 := fun x y st => match toD st 8 x, toD st 8 y with
  | some d, some e => okW (.bl (!PyData.eqv d e)) st
  | _, _ => none
theorem c_eq (hu : X.A.units + 64 < cLine) : CmpD X E .Eq oEqD := by
  refine ⟨_, op_eqD hu, fun x y st res α H v u Q e rx ry s hP => ?_⟩
  unfold oEqD at e
  split at e
  · rename_i d d' h1 h2
    exact ⟨d, d', toD_dp s 8 x d v h1 rx, toD_dp s 8 y d' u h2 ry, toD_shaped h1 (by decide), toD_shaped h2 (by decide), Post.now e hP (.bl _) s⟩
  · cases e
theorem c_ne (hu : X.A.units + 64 < cLine) : CmpD X E .NotEq oNeD := by
  refine ⟨_, op_neD hu, fun x y st res α H v u Q e rx ry s hP => ?_⟩
  unfold oNeD at e
  split at e
  · rename_i d d' h1 h2
    exact ⟨d, d', toD_dp s 8 x d v h1 rx, toD_dp s 8 y d' u h2 ry, toD_shaped h1 (by decide), toD_shaped h2 (by decide), Post.now e hP (.bl _) s⟩
  · cases e
/-- x in a list, in a tuple: of data -/
def inW (x y : W) (st : Store) : Option Bool := match toD st 7 x, toD st 8 y with
  | some d, some (.list ds) => some (ds.any fun z => PyData.eqv z d)
  | some d, some (.tuple ds) => some (ds.any fun z => PyData.eqv z d)
  | _, _ => none
def oIn : O2 := fun x y st => match inW x y st with
  | some b => okW (.bl b) st
  | none => none
def oNi : O2 := fun x y st => match inW x y st with
  | some b => okW (.bl (!b)) st
  | none => none
def rInTD (K : PySem.W.Frag) : R2 := fun x y H Q => ∃ d ds, Dp K H x d ∧ Dp K H y (.tuple ds) ∧ SeqAt.shaped d = true ∧ SeqAt.shaped (.tuple ds) = true ∧ Q (.bl (ds.any fun z => PyData.eqv z d)) H
def rNotInTD (K : PySem.W.Frag) : R2 := fun x y H Q => ∃ d ds, Dp K H x d ∧ Dp K H y (.tuple ds) ∧ SeqAt.shaped d = true ∧ SeqAt.shaped (.tuple ds) = true ∧ Q (.bl (!ds.any fun z => PyData.eqv z d)) H
theorem op_inTD (hu : X.A.units + 65 < cLine) : OpR X (compareOp .In) (rInTD X.K) := by
  intro pins s σ H x y v u Q I rx ry h
  obtain ⟨d, ds, hd, he, sd, se, q⟩ := h
  obtain ⟨as, r1⟩ := Dp.reads I d x v hd rx
  obtain ⟨bs, r2⟩ := Dp.reads I (.tuple ds) y u he ry
  exact SeqAt.in_tuple_reads r2 r1 (SeqAt.canLay_of_shaped se) (SeqAt.canLay_of_shaped sd) (room_in_shaped sd hu) ⟨.bl _, H, I, rfl, q⟩
theorem op_notInTD (hu : X.A.units + 65 < cLine) : OpR X (compareOp .NotIn) (rNotInTD X.K) := by
  intro pins s σ H x y v u Q I rx ry h
  obtain ⟨d, ds, hd, he, sd, se, q⟩ := h
  obtain ⟨as, r1⟩ := Dp.reads I d x v hd rx
  obtain ⟨bs, r2⟩ := Dp.reads I (.tuple ds) y u he ry
  exact SeqAt.notIn_tuple_reads r2 r1 (SeqAt.canLay_of_shaped se) (SeqAt.canLay_of_shaped sd) (room_in_shaped sd hu) ⟨.bl _, H, I, rfl, q⟩
theorem inW_in {K : PySem.W.Frag} {α : List Addr} {H : Hp} {st : Store} {x y : W} {v u : V} {k : Bool} (s : StR K α H st) (rx : Rep K α H v x) (ry : Rep K α H u y) (e : inW x y st = some k) :
    (∃ d ds, Dp K H v d ∧ Dp K H u (.tuple ds) ∧ SeqAt.shaped d = true ∧ SeqAt.shaped (.tuple ds) = true ∧ (ds.any fun z => PyData.eqv z d) = k) ∨ (∃ d ds, Dp K H v d ∧ Dp K H u (.list ds) ∧ SeqAt.shaped d = true ∧ SeqAt.shaped (.list ds) = true ∧ (ds.any fun z => PyData.eqv z d) = k) := by
  unfold inW at e
  split at e
  · rename_i d ds h1 h2
    exact .inr ⟨d, ds, toD_dp s 7 x d v h1 rx, toD_dp s 8 _ _ u h2 ry, toD_shaped h1 (by decide), toD_shaped h2 (by decide), Option.some.inj e⟩
  · rename_i d ds h1 h2
    exact .inl ⟨d, ds, toD_dp s 7 x d v h1 rx, toD_dp s 8 _ _ u h2 ry, toD_shaped h1 (by decide), toD_shaped h2 (by decide), Option.some.inj e⟩
  · cases e
theorem c_in (hu : X.A.units + 65 < cLine) : CmpD X E .In oIn := by
  refine ⟨_, (op_inTD hu).or (op_inD hu), fun x y st res α H v u Q e rx ry s hP => ?_⟩
  unfold oIn at e
  split at e
  · rename_i k hk
    rcases inW_in s rx ry hk with ⟨d, ds, h1, h2, h3, h4, h5⟩ | ⟨d, ds, h1, h2, h3, h4, h5⟩
    · exact .inl ⟨d, ds, h1, h2, h3, h4, by rw [h5]; exact Post.now e hP (.bl _) s⟩
    · exact .inr ⟨d, ds, h1, h2, h3, h4, by rw [h5]; exact Post.now e hP (.bl _) s⟩
  · cases e
theorem c_ni (hu : X.A.units + 65 < cLine) : CmpD X E .NotIn oNi := by
  refine ⟨_, (op_notInTD hu).or (op_notInD hu), fun x y st res α H v u Q e rx ry s hP => ?_⟩
  unfold oNi at e
  split at e
  · rename_i k hk
    rcases inW_in s rx ry hk with ⟨d, ds, h1, h2, h3, h4, h5⟩ | ⟨d, ds, h1, h2, h3, h4, h5⟩
    · exact .inl ⟨d, ds, h1, h2, h3, h4, by rw [h5]; exact Post.now e hP (.bl _) s⟩
    · exact .inr ⟨d, ds, h1, h2, h3, h4, by rw [h5]; exact Post.now e hP (.bl _) s⟩
  · cases e
/-! ### tests, and, or, not -/
def eB (f : Den W) : Den Bool := fun sl st => bnd (f sl st) fun w st1 => match w with
  | .bl b => okW b st1
  | _ => none
theorem ev_B {K : PySem.W.Frag} {mg : Str → Option Value} {te : TE} (h : Ev K mg (Rep K) te f E) : Ev K mg ERel (tB te) (eB f) E := fun sl st res α σ H Q e hs hst hP =>
  h.bind hs hst e hP fun x st1 α1 v H1 e1 p1 f1 rx s1 => by
    cases rx with
    | bl b => exact ⟨b, rfl, Post.now e1 (hP.mono p1 f1) rfl s1⟩
    | _ => cases e1
/-- a value True or False as a test -/
theorem t_val (h : DE X E a f) (he : ∀ whole, isTrue a X.env whole = (do let v ← whole; standAt a.pos; holding [v] (truthy v)) := by intro _; rfl) : DT X E a (eB f) := by
  obtain ⟨ta, pa, qa⟩ := h
  exact ⟨_, pt_val pa he, ev_B qa⟩
theorem t_cmp {op : CmpOp} {o : O2} (hc : CmpD X E op o) (ha : DE X E a f) (hb : DE X E b g) (hm : behindInMarks op b = false := by first | exact nomark _ (by decide) (by decide) | rfl) : DT X E (.Compare a [op] [b] pos) (eB (e2 o f g)) := by
  obtain ⟨r, po, qo⟩ := hc.ex
  obtain ⟨ta, pa, qa⟩ := ha
  obtain ⟨tb, pb, qb⟩ := hb
  exact ⟨_, pt_cmpR po pa pb hm, ev_B (ev_op qo qa qb)⟩
def bAnd (f g : Den Bool) : Den Bool := fun sl st => bnd (f sl st) fun k st1 => if k = true then g sl st1 else okW false st1
def bOr (f g : Den Bool) : Den Bool := fun sl st => bnd (f sl st) fun k st1 => if k = true then okW true st1 else g sl st1
def bNot (f : Den Bool) : Den Bool := fun sl st => bnd (f sl st) fun k st1 => okW (!k) st1
section
variable {K : PySem.W.Frag} {mg : Str → Option Value} {t u : TT} {p q : Den Bool}
theorem ev_and (ha : Ev K mg ERel t p E) (hb : Ev K mg ERel u q E) : Ev K mg ERel (tAnd t u) (bAnd p q) E := fun sl st res α σ H Q e hs hst hP =>
  ha.bind hs hst e hP fun k st1 α1 k' H1 e1 p1 f1 rx s1 => by
    have rx : k' = k := rx
    subst rx
    cases k' with
    | true => exact hb sl st1 res α1 σ H1 Q (by simpa using e1) (hs.mono p1 f1) s1 (hP.mono p1 f1)
    | false => exact Post.now (w := false) (by simpa using e1) (hP.mono p1 f1) rfl s1
theorem ev_or (ha : Ev K mg ERel t p E) (hb : Ev K mg ERel u q E) : Ev K mg ERel (tOr t u) (bOr p q) E := fun sl st res α σ H Q e hs hst hP =>
  ha.bind hs hst e hP fun k st1 α1 k' H1 e1 p1 f1 rx s1 => by
    have rx : k' = k := rx
    subst rx
    cases k' with
    | false => exact hb sl st1 res α1 σ H1 Q (by simpa using e1) (hs.mono p1 f1) s1 (hP.mono p1 f1)
    | true => exact Post.now (w := true) (by simpa using e1) (hP.mono p1 f1) rfl s1
theorem ev_not (ha : Ev K mg ERel t p E) : Ev K mg ERel (tNot t) (bNot p) E := fun sl st res α σ H Q e hs hst hP =>
  ha.bind hs hst e hP fun k st1 α1 k' H1 e1 p1 f1 rx s1 => by
    have rx : k' = k := rx
    subst rx
    exact Post.now e1 (hP.mono p1 f1) rfl s1
end
variable {p q : Den Bool} {rest : List Expr}
theorem w_and1 (h : DT X E a p) : DW X E (.BoolOp .And [a] pos) p := let ⟨_, x, y⟩ := h; ⟨_, pw_and1 x, y⟩
theorem w_or1 (h : DT X E a p) : DW X E (.BoolOp .Or [a] pos) p := let ⟨_, x, y⟩ := h; ⟨_, pw_or1 x, y⟩
theorem w_and (h : DT X E a p) (h2 : DW X E (.BoolOp .And (b :: rest) pos) q) : DW X E (.BoolOp .And (a :: b :: rest) pos) (bAnd p q) := by
  obtain ⟨_, x, y⟩ := h
  obtain ⟨_, x2, y2⟩ := h2
  exact ⟨_, pw_and x x2, ev_and y y2⟩
theorem w_or (h : DT X E a p) (h2 : DW X E (.BoolOp .Or (b :: rest) pos) q) : DW X E (.BoolOp .Or (a :: b :: rest) pos) (bOr p q) := by
  obtain ⟨_, x, y⟩ := h
  obtain ⟨_, x2, y2⟩ := h2
  exact ⟨_, pw_or x x2, ev_or y y2⟩
theorem t_w (h : DW X E a p) : DT X E a p := let ⟨_, x, y⟩ := h; ⟨_, x.pt, y⟩
theorem t_not (h : DT X E a p) : DT X E (.UnaryOp .Not a pos) (bNot p) := let ⟨_, x, y⟩ := h; ⟨_, pt_not x, ev_not y⟩
/-- as values -/
def vAnd (f g : Den W) : Den W := fun sl st => bnd (f sl st) fun w st1 => match w with
  | .bl true => g sl st1
  | .bl false => okW (.bl false) st1
  | _ => none
def vOr (f g : Den W) : Den W := fun sl st => bnd (f sl st) fun w st1 => match w with
  | .bl false => g sl st1
  | .bl true => okW (.bl true) st1
  | _ => none
def vNot (f : Den W) : Den W := fun sl st => bnd (f sl st) fun w st1 => match w with
  | .bl b => okW (.bl (!b)) st1
  | _ => none
theorem d_one {op} (h : DE X E a f) : DE X E (.BoolOp op [a] pos) f := let ⟨_, x, y⟩ := h; ⟨_, pe_one x, y⟩
theorem d_and (ha : DE X E a f) (hb : DE X E (.BoolOp .And (b :: rest) pos) g) : DE X E (.BoolOp .And (a :: b :: rest) pos) (vAnd f g) := by
  obtain ⟨_, x, y⟩ := ha
  obtain ⟨_, x2, y2⟩ := hb
  refine ⟨_, pe_and x x2, fun sl st res α σ H Q e hs hst hP => y.bind hs hst e hP fun k st1 α1 v H1 e1 p1 f1 rx s1 => ?_⟩
  cases rx with
  | bl b =>
    refine ⟨b, rfl, ?_⟩
    cases b with
    | true => exact iteT (y2 sl st1 res α1 σ H1 Q e1 (hs.mono p1 f1) s1 (hP.mono p1 f1))
    | false => exact iteF (Post.now e1 (hP.mono p1 f1) (.bl _) s1)
  | _ => cases e1
theorem d_or (ha : DE X E a f) (hb : DE X E (.BoolOp .Or (b :: rest) pos) g) : DE X E (.BoolOp .Or (a :: b :: rest) pos) (vOr f g) := by
  obtain ⟨_, x, y⟩ := ha
  obtain ⟨_, x2, y2⟩ := hb
  refine ⟨_, pe_or x x2, fun sl st res α σ H Q e hs hst hP => y.bind hs hst e hP fun k st1 α1 v H1 e1 p1 f1 rx s1 => ?_⟩
  cases rx with
  | bl b =>
    refine ⟨b, rfl, ?_⟩
    cases b with
    | false => exact iteF (y2 sl st1 res α1 σ H1 Q e1 (hs.mono p1 f1) s1 (hP.mono p1 f1))
    | true => exact iteT (Post.now e1 (hP.mono p1 f1) (.bl _) s1)
  | _ => cases e1
theorem d_not (ha : DE X E a f) : DE X E (.UnaryOp .Not a pos) (vNot f) := by
  obtain ⟨_, x, y⟩ := ha
  refine ⟨_, pe_not x, fun sl st res α σ H Q e hs hst hP => y.bind hs hst e hP fun k st1 α1 v H1 e1 p1 f1 rx s1 => ?_⟩
  cases rx with
  | bl b => exact ⟨b, rfl, Post.now e1 (hP.mono p1 f1) (.bl _) s1⟩
  | _ => cases e1
def eIf (p : Den Bool) (f g : Den W) : Den W := fun sl st => bnd (p sl st) fun k st1 => if k = true then f sl st1 else g sl st1
theorem d_if (hc : DT X E c p) (ha : DE X E a f) (hb : DE X E b g) : DE X E (.IfExp c a b pos) (eIf p f g) := by
  obtain ⟨_, x, y⟩ := hc
  obtain ⟨_, x1, y1⟩ := ha
  obtain ⟨_, x2, y2⟩ := hb
  refine ⟨_, pe_ifExp x x1 x2, fun sl st res α σ H Q e hs hst hP => y.bind hs hst e hP fun k st1 α1 k' H1 e1 p1 f1 rx s1 => ?_⟩
  have rx : k' = k := rx
  subst rx
  cases k' with
  | true => exact iteT (y1 sl st1 res α1 σ H1 Q (by simpa using e1) (hs.mono p1 f1) s1 (hP.mono p1 f1))
  | false => exact iteF (y2 sl st1 res α1 σ H1 Q (by simpa using e1) (hs.mono p1 f1) s1 (hP.mono p1 f1))
/-- a < b < c -/
def eChain (o o' : O2) (f g h : Den W) : Den W := fun sl st => bnd (f sl st) fun x st1 => bnd (g sl st1) fun y st2 => bnd (o x y st2) fun z st3 => match z with
  | .bl true => bnd (h sl st3) fun w st4 => o' y w st4
  | .bl false => okW (.bl false) st3
  | _ => none
theorem ev_chain {K : PySem.W.Frag} {mg : Str → Option Value} {r r' : R2} {o o' : O2} {ta tb tc : TE} (hr : RvD K mg E r o) (hr' : RvD K mg E r' o') (ha : Ev K mg (Rep K) ta f E) (hb : Ev K mg (Rep K) tb g E) (hc : Ev K mg (Rep K) tc h E) : Ev K mg (Rep K) (tChain r r' ta tb tc) (eChain o o' f g h) E := by
  intro sl st res α σ H Q e hs hst hP
  refine ha.bind hs hst e hP fun x st1 α1 v H1 e1 p1 f1 rx s1 => hb.bind (hs.mono p1 f1) s1 e1 (hP.mono p1 f1) fun y st2 α2 u H2 e2 p2 f2 ry s2 => ?_
  have hP2 := (hP.mono p1 f1).mono p2 f2
  cases q : o x y st2 with
  | none => rw [q] at e2; cases e2
  | some z =>
    rw [q] at e2
    cases z with
    | er z st3 =>
      have q2 : some (Res.er z st3 : Res W) = some res := e2
      cases q2
      exact hr x y st2 _ α2 H2 v u _ q (rx.mono p2 f2) ry s2 hP2
    | ok z st3 =>
      refine hr x y st2 _ α2 H2 v u _ q (rx.mono p2 f2) ry s2 fun α3 z' H3 p3 f3 rz s3 => ?_
      have hP3 := hP2.mono p3 f3
      cases rz with
      | bl b =>
        refine ⟨b, rfl, ?_⟩
        cases b with
        | true =>
          have e3 : bnd (h sl st3) (fun w st4 => o' y w st4) = some res := e2
          refine iteT (hc.bind (((hs.mono p1 f1).mono p2 f2).mono p3 f3) s3 e3 hP3 fun w st4 α4 w' H4 e4 p4 f4 rw' s4 => ?_)
          exact hr' y w st4 res α4 H4 u w' Q e4 ((ry.mono p3 f3).mono p4 f4) rw' s4 (hP3.mono p4 f4)
        | false => exact iteF (Post.now (show okW (W.bl false) st3 = some res from e2) hP3 (.bl _) s3)
      | _ => cases e2
theorem d_chain {op op' : CmpOp} {o o' : O2} (ho : CmpD X E op o) (ho' : CmpD X E op' o') (ha : DE X E a f) (hb : DE X E b g) (hc : DE X E c h) (hm : lastMarks [op, op'] [b, c] = false := by with_unfolding_all rfl) : DE X E (.Compare a [op, op'] [b, c] pos) (eChain o o' f g h) := by
  obtain ⟨r, po, qo⟩ := ho.ex
  obtain ⟨r', po', qo'⟩ := ho'.ex
  obtain ⟨ta, pa, qa⟩ := ha
  obtain ⟨tb, pb, qb⟩ := hb
  obtain ⟨tc, pc, qc⟩ := hc
  exact ⟨_, pe_chain po po' pa pb pc hm, ev_chain qo qo' qa qb qc⟩
theorem t_chain {op op' : CmpOp} {o o' : O2} (ho : CmpD X E op o) (ho' : CmpD X E op' o') (ha : DE X E a f) (hb : DE X E b g) (hc : DE X E c h) (hm : lastMarks [op, op'] [b, c] = false := by with_unfolding_all rfl) : DT X E (.Compare a [op, op'] [b, c] pos) (eB (eChain o o' f g h)) := by
  obtain ⟨r, po, qo⟩ := ho.ex
  obtain ⟨r', po', qo'⟩ := ho'.ex
  obtain ⟨ta, pa, qa⟩ := ha
  obtain ⟨tb, pb, qb⟩ := hb
  obtain ⟨tc, pc, qc⟩ := hc
  exact ⟨_, pt_chain po po' pa pb pc hm, ev_B (ev_chain qo qo' qa qb qc)⟩
/-! ### arguments, displays -/
def aNil : Den (List W) := fun _ st => okW [] st
def aCons (f : Den W) (g : Den (List W)) : Den (List W) := fun sl st => bnd (f sl st) fun w st1 => bnd (g sl st1) fun ws st2 => okW (w :: ws) st2
theorem a_nil : DA X E [] aNil := ⟨_, pa_nil, fun sl st res α σ H Q e hs hst hP => Post.now (w := ([] : List W)) e hP .nil hst⟩
theorem a_cons {es : List Expr} {fs : Den (List W)} (h1 : DE X E a f) (h2 : DA X E es fs) (hs : starEach (a :: es) X.env = (false, eval a X.env) :: starEach es X.env := by rfl) : DA X E (a :: es) (aCons f fs) := by
  obtain ⟨_, x, y⟩ := h1
  obtain ⟨_, x2, y2⟩ := h2
  exact ⟨_, pa_cons x x2 hs, fun sl st res α σ H Q e hs hst hP => y.bind hs hst e hP fun w st1 α1 v H1 e1 p1 f1 rx s1 => y2.bind (hs.mono p1 f1) s1 e1 (hP.mono p1 f1) fun ws st2 α2 vs H2 e2 p2 f2 ry s2 =>
    Post.now e2 ((hP.mono p1 f1).mono p2 f2) (.cons (rx.mono p2 f2) ry) s2⟩
def eTup (f : Den (List W)) : Den W := fun sl st => bnd (f sl st) fun ws st1 => if ws.length ≤ 10000 then okW (.tup ws) st1 else none
def eLst (f : Den (List W)) : Den W := fun sl st => bnd (f sl st) fun ws st1 => if ws.length ≤ 10000 then okW (.loc st1.length) (st1 ++ [ws]) else none
theorem len_ok {K : PySem.W.Frag} {α : List Addr} {H : Hp} {vs : List V} {ws : List W} (r : Reps K α H vs ws) (h : ws.length ≤ 20000) : vs.length ≤ sizeLine := by rw [r.length, sizeLine_eq]; omega
/-- a new list in the store -/
theorem Post.newL {K : PySem.W.Frag} {mg : Str → Option Value} {α : List Addr} {H : Hp} {Q : VK} {st : Store} {ws : List W} {vs : List V} {res : Res W} {p : Addr} (e : okW (.loc st.length) (st ++ [ws]) = some res) (hP : Post K mg (Rep K) α H Q E res) (s : StR K α H st) (r : Reps K α H vs ws) (hp : H p = none) : Q (.ref p) (upd H p (.lst vs)) := by
  cases e
  exact hP (α ++ [p]) (.ref p) _ (List.prefix_append _ _) (Fr.new hp) (.loc (by rw [← s.len]; simp)) (s.new hp r)
theorem Post.newT {K : PySem.W.Frag} {mg : Str → Option Value} {α : List Addr} {H : Hp} {Q : VK} {st : Store} {ws : List W} {vs : List V} {res : Res W} {p : Addr} (e : okW (.tup ws) st = some res) (hP : Post K mg (Rep K) α H Q E res) (s : StR K α H st) (r : Reps K α H vs ws) (hp : H p = none) : Q (.ref p) (upd H p (.tup vs)) := by
  cases e
  exact hP α (.ref p) _ (List.prefix_refl _) (Fr.new hp) (.tup (.inl (.inl upd_same)) (r.mono (List.prefix_refl _) (Fr.new hp))) (s.tup hp)
theorem d_tup {es : List Expr} {fs : Den (List W)} {k} (h : DA X E es fs) : DE X E (.Tuple es k pos) (eTup fs) := by
  obtain ⟨_, x, y⟩ := h
  refine ⟨_, pe_tup x, fun sl st res α σ H Q e hs hst hP => y.bind hs hst e hP fun ws st1 α1 vs H1 e1 p1 f1 rx s1 => ?_⟩
  split at e1
  · rename_i hl
    exact ⟨len_ok rx (by omega), fun p hp => Post.newT e1 (hP.mono p1 f1) s1 rx hp⟩
  · cases e1
theorem d_lst {es : List Expr} {fs : Den (List W)} (h : DA X E es fs) : DE X E (.List es pos) (eLst fs) := by
  obtain ⟨_, x, y⟩ := h
  refine ⟨_, pe_lst x, fun sl st res α σ H Q e hs hst hP => y.bind hs hst e hP fun ws st1 α1 vs H1 e1 p1 f1 rx s1 => ?_⟩
  split at e1
  · rename_i hl
    exact ⟨len_ok rx (by omega), fun p hp => Post.newL e1 (hP.mono p1 f1) s1 rx hp⟩
  · cases e1
/-! ### the call of a built-in -/
abbrev OC := List W → Store → Option (Res W)
def RcD (K : PySem.W.Frag) (mg : Str → Option Value) (E : XT) (r : List V → Hp → VK → Prop) (o : OC) : Prop := ∀ ws st res α H vs Q, o ws st = some res → Reps K α H vs ws → StR K α H st → Post K mg (Rep K) α H Q E res → r vs H Q
def eCall (o : OC) (f : Den (List W)) : Den W := fun sl st => bnd (f sl st) fun ws st1 => o ws st1
structure CallD (X : Cx) (E : XT) (f : Value) (o : OC) : Prop where
  ex : ∃ r, CallR X f r ∧ RcD X.K X.mg E r o
theorem ev_cb {K : PySem.W.Frag} {mg : Str → Option Value} {r : List V → Hp → VK → Prop} {o : OC} {t : TA} {fs : Den (List W)} (hr : RcD K mg E r o) (h : Ev K mg (Reps K) t fs E) : Ev K mg (Rep K) (tCB r t) (eCall o fs) E :=
  fun sl st res α σ H Q e hs hst hP => h.bind hs hst e hP fun ws st1 α1 vs H1 e1 p1 f1 rx s1 => hr ws st1 res α1 H1 vs Q e1 rx s1 (hP.mono p1 f1)
variable {x : Str} {p' : Pos} {es : List Expr} {fs : Den (List W)} {o : OC} {idn T : String}
theorem d_callB (hc : CallD X E (.builtin idn) o) (hg : Gl X x) (hm : X.mg x = none) (hv : bootBuiltins x = some (.builtin idn)) (ha : DA X E (a :: es) fs) (hn : x ≠ "__name__" := by decide) (hdb : (x == ("__debug__" : Str)) = false := by decide)
    (he : starEach (a :: es) X.env = (false, eval a X.env) :: starEach es X.env := by rfl) (hpl : (backTo pos (starEach es X.env)).any (·.1) = false := by rfl) : DE X E (.Call (.Name x p') (a :: es) [] pos) (eCall o fs) := by
  obtain ⟨r, po, qo⟩ := hc.ex
  obtain ⟨_, y, z⟩ := ha
  exact ⟨_, pe_callB po hg hm hv y hn hdb he hpl, ev_cb qo z⟩
theorem d_callT (hc : CallD X E (.type T) o) (hg : Gl X x) (hm : X.mg x = none) (hv : bootBuiltins x = some (.type T)) (ha : DA X E (a :: es) fs) (hn : x ≠ "__name__" := by decide) (hdb : (x == ("__debug__" : Str)) = false := by decide)
    (he : starEach (a :: es) X.env = (false, eval a X.env) :: starEach es X.env := by rfl) (hpl : (backTo pos (starEach es X.env)).any (·.1) = false := by rfl) : DE X E (.Call (.Name x p') (a :: es) [] pos) (eCall o fs) := by
  obtain ⟨r, po, qo⟩ := hc.ex
  obtain ⟨_, y, z⟩ := ha
  exact ⟨_, pe_callTy po hg hm hv y hn hdb he hpl, ev_cb qo z⟩
def oLen : OC := fun ws st => match ws with
  | [.tup l] => okW (.int l.length) st
  | [.loc n] => match st[n]? with
    | some l => okW (.int l.length) st
    | none => none
  | [.frz l] => okW (.int l.length) st
  | _ => none
theorem b_len : CallD X E (.builtin "len") oLen := by
  refine ⟨_, call_len_seq, fun ws st res α H vs Q e r s hP => ?_⟩
  unfold oLen at e
  split at e
  · cases r with | cons r1 r2 => cases r2; cases r1 with
    | tup h rs => exact ⟨_, _, rfl, .inr h, by rw [rs.length]; exact Post.now e hP (.int _) s⟩
  · cases r with | cons r1 r2 => cases r2; cases r1 with
    | loc h =>
      obtain ⟨ws', vs', h1, h2, h3⟩ := s.loc h
      rw [h1] at e
      exact ⟨_, _, rfl, .inl (.inl (.inl h2)), by rw [h3.length]; exact Post.now e hP (.int _) s⟩
  · cases r with | cons r1 r2 => cases r2; cases r1 with
    | frz h rs => exact ⟨_, _, rfl, .inl h.seq, by rw [rs.length]; exact Post.now e hP (.int _) s⟩
  · cases e
def oList : OC := fun ws st => match ws with
  | [.tup l] => okW (.loc st.length) (st ++ [l])
  | [.loc n] => match st[n]? with
    | some l => okW (.loc st.length) (st ++ [l])
    | none => none
  | _ => none
theorem b_list : CallD X E (.type "list") oList := by
  refine ⟨_, call_list_of, fun ws st res α H vs Q e r s hP => ?_⟩
  unfold oList at e
  split at e
  · cases r with | cons r1 r2 => cases r2; cases r1 with
    | tup h rs => exact ⟨_, _, rfl, .inr h, fun l hl => Post.newL e hP s rs hl⟩
  · cases r with | cons r1 r2 => cases r2; cases r1 with
    | loc h =>
      obtain ⟨ws', vs', h1, h2, h3⟩ := s.loc h
      rw [h1] at e
      exact ⟨_, _, rfl, .inl (.inl (.inl h2)), fun l hl => Post.newL e hP s h3 hl⟩
  · cases e
def oTuple : OC := fun ws st => match ws with
  | [.loc n] => match st[n]? with
    | some l => okW (.tup l) st
    | none => none
  | [.tup l] => okW (.tup l) st
  | _ => none
theorem b_tuple : CallD X E (.type "tuple") oTuple := by
  refine ⟨_, call_tuple_of, fun ws st res α H vs Q e r s hP => ?_⟩
  unfold oTuple at e
  split at e
  · cases r with | cons r1 r2 => cases r2; cases r1 with
    | loc h =>
      obtain ⟨ws', vs', h1, h2, h3⟩ := s.loc h
      rw [h1] at e
      exact ⟨_, _, rfl, .inl ⟨.inl (.inl h2), fun l hl => Post.newT e hP s h3 hl⟩⟩
  · cases r with | cons r1 r2 => cases r2; cases r1 with
    | tup h rs => exact ⟨_, _, rfl, .inr ⟨h, Post.now e hP (.tup h rs) s⟩⟩
  · cases e
/-- int(flag) -/
def oInt : OC := fun ws st => match ws with
  | [.bl b] => okW (.int (if b then 1 else 0)) st
  | [.int i] => okW (.int i) st
  | _ => none
theorem b_int : CallD X E (.type "int") oInt := by
  refine ⟨_, call_int1, fun ws st res α H vs Q e r s hP => ?_⟩
  unfold oInt at e
  split at e
  · cases r with | cons r1 r2 => cases r2; cases r1 with
    | bl => exact .inr ⟨_, rfl, Post.now e hP (.int _) s⟩
  · cases r with | cons r1 r2 => cases r2; cases r1 with
    | int => exact .inl ⟨_, rfl, Post.now e hP (.int _) s⟩
  · cases e
def asBl : W → Option Bool
  | .bl k => some k
  | _ => none
def oAll : OC := fun ws st => match ws with
  | [.loc n] => match st[n]? with
    | some l => match allS (l.map asBl) with
      | some bs => okW (.bl (bs.all id)) st
      | none => none
    | none => none
  | _ => none
theorem reps_bls {K : PySem.W.Frag} {α : List Addr} {H : Hp} : ∀ {vs : List V} {l : List W} {bs : List Bool}, Reps K α H vs l → allS (l.map asBl) = some bs → vs = bs.map V.bl := by
  intro vs l
  induction l generalizing vs with
  | nil => intro bs r e; cases r; cases e; rfl
  | cons w l ih =>
    intro bs r e
    cases r with
    | cons a b =>
      cases q : allS (l.map asBl) with
      | none => cases a <;> simp [allS, asBl, q] at e
      | some bs' =>
        cases a <;> simp [allS, asBl, q] at e
        subst e
        rw [ih b q]; rfl
theorem b_all (hc : X.calm = true) : CallD X E (.builtin "all") oAll := by
  refine ⟨_, cr_all hc, fun ws st res α H vs Q e r s hP => ?_⟩
  unfold oAll at e
  split at e
  · cases r with | cons r1 r2 => cases r2; cases r1 with
    | loc h =>
      obtain ⟨ws', vs', h1, h2, h3⟩ := s.loc h
      simp only [h1] at e
      split at e
      · rename_i bs hb
        have := reps_bls h3 hb
        subst this
        exact ⟨_, bs, rfl, .inl (.inl h2), Post.now e hP (.bl _) s⟩
      · cases e
  · cases e
end
end Dn

set_option Elab.async false
set_option linter.all false
set_option maxRecDepth 100000
set_option maxHeartbeats 1000000
/-! Dn3: sequences, methods, calls of defs, statements. -/
namespace Dn
open PySem PySem.Spec PyProof.Rows L2
section
variable {X : Cx} {E : XT} {pos : Pos} {a b c : Expr} {f g h : Den W}
/-! ### operators of sequences -/
def oCatL : O2 := fun x y st => match x, y with
  | .loc n, .loc m => match st[n]?, st[m]? with
    | some l, some l' => if l.length + l'.length ≤ 20000 then okW (.loc st.length) (st ++ [l ++ l']) else none
    | _, _ => none
  | _, _ => none
theorem rv_catL {K : PySem.W.Frag} {mg : Str → Option Value} : RvD K mg E rCat oCatL := by
  intro x y st res α H v u Q e rx ry s hP
  unfold oCatL at e
  split at e
  · cases rx with | loc h1 => cases ry with | loc h2 =>
    obtain ⟨l, vs, a1, a2, a3⟩ := s.loc h1
    obtain ⟨l', vs', b1, b2, b3⟩ := s.loc h2
    simp only [a1, b1] at e
    split at e
    · rename_i hl
      exact ⟨_, _, vs, vs', rfl, rfl, a2, b2, by rw [a3.length, b3.length, sizeLine_eq]; omega, fun p hp => Post.newL e hP s (a3.app b3) hp⟩
    · cases e
  · cases e
def oCatT : O2 := fun x y st => match x, y with
  | .tup l, .tup l' => if l.length + l'.length ≤ 20000 then okW (.tup (l ++ l')) st else none
  | _, _ => none
theorem rv_catT {K : PySem.W.Frag} {mg : Str → Option Value} : RvD K mg E (rCatA K) oCatT := by
  intro x y st res α H v u Q e rx ry s hP
  unfold oCatT at e
  split at e
  · rename_i l l'
    cases rx with | tup h1 r1 => cases ry with | tup h2 r2 =>
    rename_i a vs b vs'
    split at e
    · rename_i hl
      refine ⟨_, _, _, _, rfl, rfl, h1, h2, by rw [r1.length, r2.length, sizeLine_eq]; omega, fun q => ?_, fun q1 q => ?_, fun _ _ p hp => Post.newT e hP s (r1.app r2) hp⟩
      · subst q; cases r1
        exact Post.now e hP (.tup h2 r2) s
      · subst q; cases r2
        exact Post.now e hP (.tup h1 (by simpa using r1)) s
    · cases e
  · cases e
/-- a + b of texts is not told; whole numbers, lists, tuples -/
def oPlus : O2 := fun x y st => match oAdd x y st with
  | some z => some z
  | none => match oCatL x y st with
    | some z => some z
    | none => oCatT x y st
theorem OpR.or2 {f : Value → Value → Sem Value} {r r' : R2} (h : OpR X f r) (h' : OpR X f r') : OpR X f (fun x y H Q => r x y H Q ∨ r' x y H Q) := h.or h'
theorem d_plus (ha : DE X E a f) (hb : DE X E b g) : DE X E (.BinOp a .Add b pos) (e2 oPlus f g) := by
  obtain ⟨ta, pa, qa⟩ := ha
  obtain ⟨tb, pb, qb⟩ := hb
  exact ⟨_, pe_op (op_add.or (op_cat.or op_catA)) pa pb, ev_op ((rv_I0 fun _ _ _ _ => .int _).or (rv_catL.or rv_catT)) qa qb⟩
def oMul : O2 := oI (fun i j => decide ((-(2 ^ 64) < i ∧ i < 2 ^ 64) ∨ (-(2 ^ 64) < j ∧ j < 2 ^ 64))) fun i j => .int (i * j)
def oRep : O2 := fun x y st => match x, y with
  | .loc n, .int k => match st[n]? with
    | some l => if k ≤ 100 ∧ -100 ≤ k ∧ l.length ≤ 100 then okW (.loc st.length) (st ++ [(List.replicate k.toNat l).flatten]) else none
    | none => none
  | _, _ => none
theorem Reps.flat {K : PySem.W.Frag} {α : List Addr} {H : Hp} {vs : List V} {ws : List W} (r : Reps K α H vs ws) : ∀ k : Nat, Reps K α H (List.replicate k vs).flatten (List.replicate k ws).flatten
  | 0 => .nil
  | k + 1 => by rw [List.replicate_succ, List.replicate_succ, List.flatten_cons, List.flatten_cons]; exact r.app (Reps.flat r k)
theorem rv_rep {K : PySem.W.Frag} {mg : Str → Option Value} : RvD K mg E rRep oRep := by
  intro x y st res α H v u Q e rx ry s hP
  unfold oRep at e
  split at e
  · cases rx with | loc h1 => cases ry with | int =>
    obtain ⟨l, vs, a1, a2, a3⟩ := s.loc h1
    simp only [a1] at e
    split at e
    · rename_i hl
      refine ⟨_, _, vs, rfl, rfl, a2, by omega, by omega, ?_, fun p hp => Post.newL e hP s (a3.flat _) hp⟩
      rw [a3.length, sizeLine_eq]
      exact Nat.le_trans (Nat.mul_le_mul hl.2.2 (Int.toNat_le.mpr hl.1)) (by decide)
    · cases e
  · cases e
def oTimes : O2 := fun x y st => match oMul x y st with
  | some z => some z
  | none => oRep x y st
theorem d_times (ha : DE X E a f) (hb : DE X E b g) : DE X E (.BinOp a .Mult b pos) (e2 oTimes f g) := by
  obtain ⟨ta, pa, qa⟩ := ha
  obtain ⟨tb, pb, qb⟩ := hb
  exact ⟨_, pe_op (op_mul.or op_rep) pa pb, ev_op ((rv_I (C := CMul) (fun i j q => by have := of_decide_eq_true q; exact this) fun _ _ _ _ => .int _).or rv_rep) qa qb⟩
def oMod : O2 := oI (fun _ j => decide (0 < j)) fun i j => .int (i % j)
def oDiv : O2 := oI (fun _ j => decide (0 < j ∧ j.natAbs.log2 < 9000)) fun i j => .int (i / j)
def oPow : O2 := oI (fun i j => decide (0 ≤ j ∧ j ≤ 1000000 ∧ i.natAbs < 2 ^ 64)) fun i j => .int (i ^ j.toNat)
theorem d_mod (ha : DE X E a f) (hb : DE X E b g) : DE X E (.BinOp a .Mod b pos) (e2 oMod f g) := by
  obtain ⟨ta, pa, qa⟩ := ha
  obtain ⟨tb, pb, qb⟩ := hb
  exact ⟨_, pe_op op_mod pa pb, ev_op (rv_I (fun i j q => of_decide_eq_true q) fun _ _ _ _ => .int _) qa qb⟩
theorem d_div (ha : DE X E a f) (hb : DE X E b g) : DE X E (.BinOp a .FloorDiv b pos) (e2 oDiv f g) := by
  obtain ⟨ta, pa, qa⟩ := ha
  obtain ⟨tb, pb, qb⟩ := hb
  exact ⟨_, pe_op op_fdivW pa pb, ev_op (rv_I (C := CDivW) (fun i j q => by have := of_decide_eq_true q; exact this) fun _ _ _ _ => .int _) qa qb⟩
theorem d_pow (ha : DE X E a f) (hb : DE X E b g) : DE X E (.BinOp a .Pow b pos) (e2 oPow f g) := by
  obtain ⟨ta, pa, qa⟩ := ha
  obtain ⟨tb, pb, qb⟩ := hb
  exact ⟨_, pe_op op_pow pa pb, ev_op (rv_I (C := CPow) (fun i j q => by have := of_decide_eq_true q; exact this) fun _ _ _ _ => .int _) qa qb⟩
def eNeg (f : Den W) : Den W := fun sl st => bnd (f sl st) fun w st1 => match w with
  | .int i => okW (.int (-i)) st1
  | _ => none
theorem d_neg (ha : DE X E a f) : DE X E (.UnaryOp .USub a pos) (eNeg f) := by
  obtain ⟨ta, pa, qa⟩ := ha
  refine ⟨_, pe_un un_neg pa, fun sl st res α σ H Q e hs hst hP => qa.bind hs hst e hP fun k st1 α1 v H1 e1 p1 f1 rx s1 => ?_⟩
  cases rx with
  | int i => exact ⟨i, rfl, Post.now e1 (hP.mono p1 f1) (.int _) s1⟩
  | _ => cases e1
/-! ### items -/
def oIx : O2 := fun x y st => match x, y with
  | .tup l, .int i => match atI l i with
    | some w => okW w st
    | none => none
  | .loc n, .int i => match st[n]? with
    | some l => match atI l i with
      | some w => okW w st
      | none => none
    | none => none
  | .frz l, .int i => match atI l i with
    | some w => okW w st
    | none => none
  | _, _ => none
theorem Reps.atI {K : PySem.W.Frag} {α : List Addr} {H : Hp} {vs : List V} {ws : List W} {i : Int} {w : W} (r : Reps K α H vs ws) (h : L2.atI ws i = some w) : ∃ v, L2.atI vs i = some v ∧ Rep K α H v w := by
  unfold L2.atI at h ⊢
  rw [r.length]
  cases q : ixN ws.length i with
  | none => rw [q] at h; cases h
  | some j =>
    rw [q] at h
    exact r.get h
theorem rv_ix {K : PySem.W.Frag} {mg : Str → Option Value} : RvD K mg E (rIx K) oIx := by
  intro x y st res α H v u Q e rx ry s hP
  unfold oIx at e
  split at e
  · cases rx with | tup h1 r1 => cases ry with | int =>
    split at e
    · rename_i w hw
      obtain ⟨v, h2, h3⟩ := r1.atI hw
      exact .inr (.inl ⟨_, _, _, v, rfl, rfl, h1, h2, Post.now e hP h3 s⟩)
    · cases e
  · cases rx with | loc h1 => cases ry with | int =>
    obtain ⟨l, vs, a1, a2, a3⟩ := s.loc h1
    simp only [a1] at e
    split at e
    · rename_i w hw
      obtain ⟨v, h2, h3⟩ := a3.atI hw
      exact .inl ⟨_, _, _, v, rfl, rfl, .inl (.inl a2), h2, Post.now e hP h3 s⟩
    · cases e
  · cases rx with | frz h1 r1 => cases ry with | int =>
    split at e
    · rename_i w hw
      obtain ⟨v, h2, h3⟩ := r1.atI hw
      exact .inl ⟨_, _, _, v, rfl, rfl, h1.seq, h2, Post.now e hP h3 s⟩
    · cases e
  · cases e
theorem d_ix (ha : DE X E a f) (hb : DE X E b g) (hs : PlainIx b := by intro _ _; rfl) : DE X E (.Subscript a b pos) (e2 oIx f g) := by
  obtain ⟨ta, pa, qa⟩ := ha
  obtain ⟨tb, pb, qb⟩ := hb
  exact ⟨_, pe_ix ix_seq pa pb hs, ev_op rv_ix qa qb⟩
/-! ### slices -/
def DO (X : Cx) (E : XT) (e : Option Expr) (f : Den (Option Int)) : Prop := ∃ t, PO X e t ∧ Ev X.K X.mg (fun _ _ a b => a = b) t f E
def pN : Den (Option Int) := fun _ st => okW none st
def pS (f : Den W) : Den (Option Int) := fun sl st => bnd (f sl st) fun w st1 => match w with
  | .int i => okW (some i) st1
  | _ => none
theorem o_none : DO X E none pN := ⟨_, po_none, fun sl st res α σ H Q e hs hst hP => Post.now (w := (none : Option Int)) e hP rfl hst⟩
theorem o_some (ha : DE X E a f) : DO X E (some a) (pS f) := by
  obtain ⟨ta, pa, qa⟩ := ha
  refine ⟨_, po_some pa, fun sl st res α σ H Q e hs hst hP => qa.bind hs hst e hP fun k st1 α1 v H1 e1 p1 f1 rx s1 => ?_⟩
  cases rx with
  | int i => exact ⟨i, rfl, Post.now e1 (hP.mono p1 f1) rfl s1⟩
  | _ => cases e1
def cutW {A : Type} (xs : List A) (lo hi : Option Int) : List A := (xs.drop (HT.sIx xs.length 0 lo)).take (HT.sIx xs.length xs.length hi - HT.sIx xs.length 0 lo)
def oSl (x : W) (lo hi : Option Int) (st : Store) : Option (Res W) := match x with
  | .tup l => okW (.tup (cutW l lo hi)) st
  | .loc n => match st[n]? with
    | some l => okW (.loc st.length) (st ++ [cutW l lo hi])
    | none => none
  | _ => none
def eSl (f : Den W) (p q : Den (Option Int)) : Den W := fun sl st => bnd (f sl st) fun x st1 => bnd (p sl st1) fun lo st2 => bnd (q sl st2) fun hi st3 => oSl x lo hi st3
theorem Reps.cut {K : PySem.W.Frag} {α : List Addr} {H : Hp} {vs : List V} {ws : List W} (r : Reps K α H vs ws) (lo hi : Option Int) : Reps K α H (cutV vs lo hi) (cutW ws lo hi) := by
  unfold cutV cutW
  rw [r.length]
  exact (r.drop _).take _
theorem d_sl {lo hi : Option Expr} {pl ph : Den (Option Int)} {p2 : Pos} (ha : DE X E a f) (hl : DO X E lo pl) (hh : DO X E hi ph) : DE X E (.Subscript a (.Slice lo hi none p2) pos) (eSl f pl ph) := by
  obtain ⟨ta, pa, qa⟩ := ha
  obtain ⟨tl, pl, ql⟩ := hl
  obtain ⟨th, ph, qh⟩ := hh
  refine ⟨_, pe_slice (sl_list.or sl_tupA) pa pl ph, fun sl st res α σ H Q e hs hst hP => qa.bind hs hst e hP fun x st1 α1 v H1 e1 p1 f1 rx s1 =>
    ql.bind (hs.mono p1 f1) s1 e1 (hP.mono p1 f1) fun lo' st2 α2 lo2 H2 e2 p2 f2 r2 s2 => qh.bind ((hs.mono p1 f1).mono p2 f2) s2 e2 ((hP.mono p1 f1).mono p2 f2) fun hi' st3 α3 hi2 H3 e3 p3 f3 r3 s3 => ?_⟩
  have r2 : lo2 = lo' := r2
  have r3 : hi2 = hi' := r3
  subst r2 r3
  have hP3 := ((hP.mono p1 f1).mono p2 f2).mono p3 f3
  have rx3 := (rx.mono p2 f2).mono p3 f3
  unfold oSl at e3
  split at e3
  · cases rx3 with | tup h1 r1 =>
    rename_i vs
    refine .inr ⟨_, _, rfl, h1, fun q => ?_, fun _ p hp => Post.newT e3 hP3 s3 (r1.cut lo2 hi2) hp⟩
    refine Post.now e3 hP3 (.tup h1 ?_) s3
    unfold cutW
    rw [← r1.length, q.1, q.2, List.drop_zero, Nat.sub_zero, r1.length, List.take_length]
    exact r1
  · cases rx3 with | loc h1 =>
    obtain ⟨l, vs, a1, a2, a3⟩ := s3.loc h1
    simp only [a1] at e3
    exact .inl ⟨_, _, rfl, .inl (.inl a2), fun p hp => Post.newL e3 hP3 s3 (a3.cut lo2 hi2) hp⟩
  · cases e3
/-! ### methods of lists -/
def stSet (st : Store) (n : Nat) (l : List W) : Store := st.set n l
def eApp (f g : Den W) : Den W := fun sl st => bnd (f sl st) fun x st1 => match x with
  | .loc n => bnd (g sl st1) fun y st2 => match st2[n]? with
    | some l => if l.length < 10000 then okW .non (st2.set n (l ++ [y])) else none
    | none => none
  | _ => none
theorem Post.setL {K : PySem.W.Frag} {mg : Str → Option Value} {α : List Addr} {H : Hp} {Q : VK} {st : Store} {ws : List W} {xs vs : List V} {res : Res W} {p : Addr} {n : Nat} (e : okW .non (st.set n ws) = some res) (hP : Post K mg (Rep K) α H Q E res) (s : StR K α H st) (hn : α[n]? = some p) (hx : H p = some (.lst xs)) (r : Reps K α H vs ws) : Q .non (upd H p (.lst vs)) := by
  cases e
  exact hP α .non _ (List.prefix_refl _) (Fr.set hx) .non (s.set hn hx r)
variable {apos cpos : Pos}
theorem d_app (ha : DE X E a f) (hb : DE X E b g) (hbase : attributeBase a "append" X.env (eval a X.env) = eval a X.env := by rfl)
    (hfew : ((backTo cpos (starEach [b] X.env)).all (fun x => !x.1) && (backToKw cpos (keywordEach [] X.env)).all (fun x => x.1.isSome)
      && decide ([b].length + ([] : List Keyword).length + (if ([] : List Keyword).isEmpty then 0 else 1) < 30)) = true := by rfl)
    (hline : (apos.endLine == cpos.line) = true := by rfl) (hs : starEach [b] X.env = (false, eval b X.env) :: starEach [] X.env := by rfl) (hplain : (backTo cpos (starEach [] X.env)).any (·.1) = false := by rfl) :
    DE X E (.Call (.Attribute a "append" apos) [b] [] cpos) (eApp f g) := by
  obtain ⟨ta, pa, qa⟩ := ha
  obtain ⟨tb, pb, qb⟩ := hb
  refine ⟨_, pe_bm PySem.F.plainAttrs_list PySem.F.slot_list_append PySem.F.type_list_append mt_append pa (pa_cons pb pa_nil hs) hbase hfew hline hs hplain, fun sl st res α σ H Q e hs' hst hP => qa.bind hs' hst e hP fun x st1 α1 v H1 e1 p1 f1 rx s1 => ?_⟩
  split at e1
  · cases rx with | loc h1 =>
    obtain ⟨l, vs, a1, a2, a3⟩ := s1.loc h1
    refine ⟨.inl ⟨rfl, _, .inl (.inl a2)⟩, qb.bind (hs'.mono p1 f1) s1 e1 (hP.mono p1 f1) fun y st2 α2 u H2 e2 p2 f2 ry s2 => ?_⟩
    obtain ⟨l2, vs2, b1, b2, b3⟩ := s2.loc (pre_get p2 h1)
    simp only [b1] at e2
    split at e2
    · rename_i hl
      exact ⟨_, vs2, u, rfl, rfl, b2, by rw [b3.length, sizeLine_eq]; omega, Post.setL e2 ((hP.mono p1 f1).mono p2 f2) s2 (pre_get p2 h1) b2 (b3.app (.cons ry .nil))⟩
    · cases e2
  · cases e1
end
end Dn

set_option Elab.async false
set_option linter.all false
set_option maxRecDepth 100000
set_option maxHeartbeats 1000000
/-! Dn4: isinstance, calls of defs, statements. -/
namespace Dn
open PySem PySem.Spec PyProof.Rows L2
section
variable {X : Cx} {E : XT} {pos : Pos} {a b c : Expr} {f g h : Den W}
def tyW : W → String
  | .non => "NoneType"
  | .bl _ => "bool"
  | .int _ => "int"
  | .str _ => "str"
  | .tup _ => "tuple"
  | .loc _ => "list"
  | _ => ""
theorem ty_of {K : PySem.W.Frag} {α : List Addr} {H : Hp} {st : Store} {v : V} {w : W} (s : StR K α H st) (r : Rep K α H v w) (h : tyW w ≠ "") : TyX K H v (.type (tyW w)) := by
  cases r with
  | non => exact .base .non
  | bl b => exact .base (.bl b)
  | int i => exact .base (.int i)
  | str x => exact .base (.str x)
  | tup h1 _ =>
    rcases h1 with (h1 | ⟨o, h1⟩) | ⟨o, its, n, h1, h2, _⟩
    · exact .base (.tup h1)
    · exact .fTuple h1
    · exact .kTuple h1 h2
  | loc h1 =>
    obtain ⟨l, vs, a1, a2, a3⟩ := s.loc h1
    exact .base (.lst a2)
  | ty n => exact absurd rfl h
  | obj n => exact absurd rfl h
  | frz _ _ => exact absurd rfl h
def oIsi : OC := fun ws st => match ws with
  | [x, .ty T] => if tyW x = "" then none else match kitB (tyW x) T with
    | some k => okW (.bl k) st
    | none => none
  | _ => none
theorem b_isi : CallD X E (.builtin "isinstance") oIsi := by
  refine ⟨_, call_isi, fun ws st res α H vs Q e r s hP => ?_⟩
  unfold oIsi at e
  split at e
  · rename_i x T
    cases r with | cons r1 r2 => cases r2 with | cons r2 r3 => cases r3; cases r2 with
    | ty =>
      split at e
      · cases e
      · rename_i hn
        split at e
        · rename_i k hk
          exact ⟨_, _, _, _, k, rfl, .ty T, ty_of s r1 hn, kit_ty hk, Post.now e hP (.bl _) s⟩
        · cases e
  · cases e
theorem d_ty {x : Str} {n : String} (hg : Gl X x) (hm : X.mg x = none) (hv : bootBuiltins x = some (.type n)) (hn : x ≠ "__name__" := by decide) (hd : (x == ("__debug__" : Str)) = false := by decide) : DE X E (.Name x pos) (eC (.ty n)) :=
  ⟨_, pe_bltn (v := .ty n) hg hm hv rfl hn hd, ev_c fun _ _ => .ty n⟩
/-- a module's constant -/
theorem d_glob {x : Str} {v : V} {w : W} {u : Value} (hg : Gl X x) (hm : X.mg x = some u) (r : RelV v u) (hw : ∀ K α H, Rep K α H v w) (hd : (x == ("__debug__" : Str)) = false := by decide) : DE X E (.Name x pos) (eC w) := ⟨_, pe_glob hg hm r hd, ev_c fun _ _ => hw _ _ _⟩

/-! ### defs -/
abbrev FD := List W → Store → Option (Res W)
def spD (K : PySem.W.Frag) (mg : Str → Option Value) (T : List Addr) (n : Nat) (f : FD) : Sp := fun vs H Q E => vs.length = n ∧ (∀ P ∈ T, TabAt H P) ∧ ∃ α ws st r, Reps K α H vs ws ∧ StR K α H st ∧ f ws st = some r ∧ Post K mg (Rep K) α H Q ⟨E, T⟩ r
theorem spD_len {K : PySem.W.Frag} {mg : Str → Option Value} {T : List Addr} {n : Nat} {f : FD} : ∀ vs H Q E, spD K mg T n f vs H Q E → vs.length = n := fun _ _ _ _ h => h.1
variable {x : Str} {p' : Pos} {es : List Expr} {fs : Den (List W)} {k : Nat} {fa : Addr} {fd : FuncData} {ps : List Str} {fn : FD}
theorem d_call {n : Nat} (F : FnOk X.prog X.w X.K X.mg X.base (L2.CX X.prog X.w) k fa fd ps (spD X.K X.mg E.T n fn)) (hr : Room k X.A) (hg : Gl X x) (hm : X.mg x = some (.ref fa)) (hk : PySem.W.keepIn X.K (.ref fa) = true) (hb : Binds X.K fd ps []) (hx : Passes (L2.CX X.prog X.w) X E.k)
    (ha : DA X E (a :: es) fs) (hl : ∀ sl st ws st', fs sl st = some (.ok ws st') → ws.length = n) (hdb : (x == ("__debug__" : Str)) = false := by decide) (he : starEach (a :: es) X.env = (false, eval a X.env) :: starEach es X.env := by rfl) (hpl : (backTo pos (starEach es X.env)).any (·.1) = false := by rfl) :
    DE X E (.Call (.Name x p') (a :: es) [] pos) (eCall fn fs) := by
  obtain ⟨_, y, z⟩ := ha
  refine ⟨_, pe_call F hr hg hm hk hb .nil hx y hdb he hpl, fun sl st res α σ H Q e hs hst hP => ?_⟩
  have e' : bnd (fs sl st) (fun ws st1 => fn ws st1) = some res := e
  cases q : fs sl st with
  | none => rw [q] at e'; cases e'
  | some r1 =>
    rw [q] at e'
    cases r1 with
    | er x st1 =>
      have e2 : some (Res.er x st1 : Res W) = some res := e'
      cases e2
      exact z sl st _ α σ H _ q hs hst hP
    | ok ws st1 =>
      refine z sl st _ α σ H _ q hs hst fun α1 vs H1 p1 f1 rx s1 => ?_
      rw [List.append_nil]
      exact ⟨by rw [rx.length]; exact hl sl st ws st1 q, (hs.mono p1 f1).tabs, α1, ws, st1, res, rx, s1, e', hP.mono p1 f1⟩

/-! ### statements -/
theorem SvR.set {K : PySem.W.Frag} {T : List Addr} {α : List Addr} {H : Hp} {sl : Sl} {σ : L2.St} {i : Nat} {v : V} {w : W} (s : SvR K T α H sl σ) (r : Rep K α H v w) : SvR K T α H (sl.set i (some w)) (σ.set i (some v)) := by
  refine ⟨s.tabs, by simp [s.len], fun j w' e => ?_⟩
  by_cases hj : i = j
  · subst hj
    have hl : i < sl.length := by
      have := (List.getElem?_eq_some_iff.mp e).1
      simpa using this
    rw [List.getElem?_set_self hl] at e
    cases e
    exact ⟨v, by rw [List.getElem?_set_self (by rw [← s.len]; exact hl)], r⟩
  · rw [List.getElem?_set_ne hj] at e
    obtain ⟨v', h1, h2⟩ := s.at_ j w' e
    exact ⟨v', by rw [List.getElem?_set_ne hj]; exact h1, h2⟩
theorem PostS.nxNow {K : PySem.W.Frag} {mg : Str → Option Value} {α : List Addr} {H : Hp} {D : Ends} {sl : Sl} {σ : L2.St} {st : Store} {o : Out} (e : some (Out.nx sl st) = some o) (h : PostS K mg α H D E o) (s : SvR K E.T α H sl σ) (t : StR K α H st) : D.nx σ H := by
  cases e; exact h α σ H (List.prefix_refl _) (Fr.refl _) s t
/-- a block -/
def sSeq (f g : SD) : SD := fun sl st => match f sl st with
  | some (.nx sl' st') => g sl' st'
  | o => o
def sNil : SD := fun sl st => some (.nx sl st)
theorem ds_nil : DSs X E [] sNil := ⟨_, pss_nil, fun sl st o α σ H D e hs hst hP => PostS.nxNow e hP hs hst⟩
variable {s1 : Stmt} {ss : List Stmt} {u w : SD}
theorem ds_one (h : DS X E s1 u) : DSs X E [s1] u := let ⟨_, x, y⟩ := h; ⟨_, pss_one x, y⟩
theorem ev_seq {K : PySem.W.Frag} {mg : Str → Option Value} {t t' : TS} (h1 : EvS K mg t u E) (h2 : EvS K mg t' w E) : EvS K mg (tSeq t t') (sSeq u w) E := by
  intro sl st o α σ H D e hs hst hP
  cases q : u sl st with
  | none => simp [sSeq, q] at e
  | some o1 =>
    cases o1 with
    | nx sl' st' =>
      have e' : w sl' st' = some o := by simpa [sSeq, q] using e
      exact h1 sl st _ α σ H _ q hs hst fun α' σ' H' p f s1 t1 => h2 sl' st' o α' σ' H' D e' s1 t1 (hP.mono p f)
    | rt x st' => simp [sSeq, q] at e; subst e; exact h1 sl st _ α σ H _ q hs hst hP
    | bk x st' => simp [sSeq, q] at e; subst e; exact h1 sl st _ α σ H _ q hs hst hP
    | ct x st' => simp [sSeq, q] at e; subst e; exact h1 sl st _ α σ H _ q hs hst hP
    | er x st' => simp [sSeq, q] at e; subst e; exact h1 sl st _ α σ H _ q hs hst hP
theorem ds_cons (h1 : DS X E s1 u) (h2 : DSs X E ss w) : DSs X E (s1 :: ss) (sSeq u w) := by
  obtain ⟨_, x, y⟩ := h1
  obtain ⟨_, x2, y2⟩ := h2
  exact ⟨_, pss_cons x x2, ev_seq y y2⟩
def sRet (f : Den W) : SD := fun sl st => bndS (f sl st) fun w st1 => some (.rt w st1)
theorem ds_ret (h : DE X E a f) : DS X E (.Return (some a) pos) (sRet f) := by
  obtain ⟨_, x, y⟩ := h
  refine ⟨_, ps_ret x, fun sl st o α σ H D e hs hst hP => y.bindS hs hst e hP fun w st1 α1 v H1 e1 p1 f1 rx s1 => ?_⟩
  cases e1
  exact hP α1 v H1 p1 f1 rx s1
def sRetN : SD := fun _ st => some (.rt .non st)
theorem ds_retN : DS X E (.Return none pos) sRetN := ⟨_, ps_retN, fun sl st o α σ H D e hs hst hP => by cases e; exact hP α .non H (List.prefix_refl _) (Fr.refl _) .non hst⟩
def sExpr (f : Den W) : SD := fun sl st => bndS (f sl st) fun _ st1 => some (.nx sl st1)
theorem ds_expr (h : DE X E a f) (hs' : swapsWith a none pos.line X.env = pure false := by rfl) : DS X E (.Expr a pos) (sExpr f) := by
  obtain ⟨_, x, y⟩ := h
  refine ⟨_, ps_expr x hs', fun sl st o α σ H D e hs hst hP => y.bindS hs hst e hP fun w st1 α1 v H1 e1 p1 f1 rx s1 => ?_⟩
  exact PostS.nxNow e1 (hP.mono p1 f1) (hs.mono p1 f1) s1
def sPass : SD := fun sl st => some (.nx sl st)
theorem ds_pass : DS X E (.Pass pos) sPass := ⟨_, ps_pass, fun sl st o α σ H D e hs hst hP => PostS.nxNow e hP hs hst⟩
def sIf (p : Den Bool) (u w : SD) : SD := fun sl st => bndS (p sl st) fun k st1 => if k = true then u sl st1 else w sl st1
theorem ds_if {p : Den Bool} {s2 s3 : List Stmt} (hc : DT X E c p) (h1 : DSs X E s2 u) (h2 : DSs X E s3 w) : DS X E (.If c s2 s3 pos) (sIf p u w) := by
  obtain ⟨_, x, y⟩ := hc
  obtain ⟨_, x1, y1⟩ := h1
  obtain ⟨_, x2, y2⟩ := h2
  refine ⟨_, ps_if x x1 x2, fun sl st o α σ H D e hs hst hP => y.bindS hs hst e hP fun k st1 α1 k' H1 e1 p1 f1 rx s1 => ?_⟩
  have rx : k' = k := rx
  subst rx
  cases k' with
  | true => exact iteT (y1 sl st1 o α1 σ H1 D (by simpa using e1) (hs.mono p1 f1) s1 (hP.mono p1 f1))
  | false => exact iteF (y2 sl st1 o α1 σ H1 D (by simpa using e1) (hs.mono p1 f1) s1 (hP.mono p1 f1))
/-! ### targets -/
abbrev TgD := W → Sl → Option Sl
/-- only these slots change -/
def Agree (js : List Nat) (σ σ' : L2.St) : Prop := σ'.length = σ.length ∧ ∀ i, i ∉ js → σ'[i]? = σ[i]?
theorem Agree.refl (js : List Nat) (σ : L2.St) : Agree js σ σ := ⟨rfl, fun _ _ => rfl⟩
theorem Agree.trans {js ks : List Nat} {σ σ1 σ2 : L2.St} (a : Agree js σ σ1) (b : Agree ks σ1 σ2) : Agree (js ++ ks) σ σ2 :=
  ⟨b.1.trans a.1, fun i hi => by rw [List.mem_append, not_or] at hi; exact (b.2 i hi.2).trans (a.2 i hi.1)⟩
theorem Agree.set {σ : L2.St} (i : Nat) (v : Option V) : Agree [i] σ (σ.set i v) := ⟨by simp, fun j hj => by rw [List.getElem?_set_ne]; intro e; exact hj (by simp [e])⟩
def EvG (K : PySem.W.Frag) (tg : TG) (d : TgD) (js : List Nat) : Prop := ∀ (T : List Addr) w sl sl' α σ H v (Q : L2.St → Hp → Prop), d w sl = some sl' → SvR K T α H sl σ → Rep K α H v w → (∀ σ', SvR K T α H sl' σ' → Agree js σ σ' → Q σ' H) → tg v σ H Q
def DG (X : Cx) (e : Expr) (d : TgD) (js : List Nat) : Prop := ∃ t, PG X e t ∧ EvG X.K t d js
def gN (i : Nat) : TgD := fun w sl => some (sl.set i (some w))
theorem g_name (i : Nat) {y : Str} (hN : X.N.Nodup) (hi : X.N[i]? = some y := by rfl) (hx : Loc X.env.scope y := by first | exact Or.inl rfl | exact Or.inr rfl) (hf : X.fn y = true ∨ X.env.scope.names.lookup y = some .local := by first | exact .inl rfl | exact .inr rfl) : DG X (.Name y pos) (gN i) [i] :=
  ⟨_, pg_name hN hi hx hf, fun T w sl sl' α σ H v Q e hs r hQ => by cases e; exact hQ _ (hs.set r) (Agree.set i _)⟩
abbrev TgsD := List W → Sl → Option Sl
def EvGs (K : PySem.W.Frag) (tg : TGs) (d : TgsD) (js : List Nat) : Prop := ∀ (T : List Addr) ws sl sl' α σ H vs (Q : L2.St → Hp → Prop), d ws sl = some sl' → SvR K T α H sl σ → Reps K α H vs ws → (∀ σ', SvR K T α H sl' σ' → Agree js σ σ' → Q σ' H) → tg vs σ H Q
def DGs (X : Cx) (es : List Expr) (d : TgsD) (js : List Nat) : Prop := ∃ t, PGs X es t ∧ EvGs X.K t d js
def gsN : TgsD := fun ws sl => match ws with | [] => some sl | _ => none
def gsC (d : TgD) (ds : TgsD) : TgsD := fun ws sl => match ws with
  | w :: ws => match d w sl with | some sl' => ds ws sl' | none => none
  | [] => none
theorem gs_nil : DGs X [] gsN [] := ⟨_, pgs_nil, fun T ws sl sl' α σ H vs Q e hs r hQ => by
  cases r with
  | nil => cases e; exact ⟨rfl, hQ _ hs (Agree.refl _ _)⟩
  | cons _ _ => cases e⟩
theorem gs_cons {d : TgD} {ds : TgsD} {js ks : List Nat} (h1 : DG X a d js) (h2 : DGs X es ds ks) (ha : (assignEach (a :: es) X.env).map (·.2) = assign a X.env :: (assignEach es X.env).map (·.2) := by rfl) : DGs X (a :: es) (gsC d ds) (js ++ ks) := by
  obtain ⟨_, x, y⟩ := h1
  obtain ⟨_, x2, y2⟩ := h2
  refine ⟨_, pgs_cons x x2 ha, fun T ws sl sl' α σ H vs Q e hs r hQ => ?_⟩
  cases r with
  | nil => cases e
  | @cons v w vs ws r1 r2 =>
    cases q : d w sl with
    | none => simp [gsC, q] at e
    | some sl1 =>
      have e' : ds ws sl1 = some sl' := by simpa [gsC, q] using e
      exact ⟨v, vs, rfl, y T w sl sl1 α σ H v _ q hs r1 fun σ' s' g1 => y2 T ws sl1 sl' α σ' H vs Q e' s' r2 fun σ2 s2 g2 => hQ σ2 s2 (g1.trans g2)⟩
def gT (n : Nat) (ds : TgsD) : TgD := fun w sl => match w with
  | .tup ws => if ws.length = n then ds ws sl else none
  | _ => none
theorem g_tup {ds : TgsD} {js : List Nat} {k n : Nat} (hc : X.calm = true) (h : DGs X es ds js) (hn : (assignEach es X.env).length = n := by rfl) (hst : (assignEach es X.env).findIdx? (·.1) = none := by rfl) : DG X (.Tuple es k pos) (gT n ds) js := by
  obtain ⟨_, x, y⟩ := h
  refine ⟨_, pg_tup hc x hn hst, fun T w sl sl' α σ H v Q e hs r hQ => ?_⟩
  cases r with
  | tup h1 rs =>
    simp only [gT] at e
    split at e
    · rename_i hl
      exact ⟨_, _, rfl, h1, by rw [rs.length]; exact hl, y T _ sl sl' α σ H _ Q e hs rs hQ⟩
    · cases e
  | _ => cases e
def sAsg (f : Den W) (d : TgD) : SD := fun sl st => bndS (f sl st) fun w st1 => match d w sl with
  | some sl' => some (.nx sl' st1)
  | none => none
theorem ev_asg {K : PySem.W.Frag} {mg : Str → Option Value} {te : TE} {tg : TG} {d : TgD} {js : List Nat} (h : Ev K mg (Rep K) te f E) (hg : EvG K tg d js) : EvS K mg (tAsg te tg) (sAsg f d) E := by
  intro sl st o α σ H D e hs hst hP
  refine h.bindS hs hst e hP fun w st1 α1 v H1 e1 p1 f1 rx s1 => ?_
  cases q : d w sl with
  | none => simp [q] at e1
  | some sl' =>
    simp only [q] at e1
    exact hg _ w sl sl' α1 σ H1 v _ q (hs.mono p1 f1) rx fun σ' s' _ => PostS.nxNow e1 (hP.mono p1 f1) s' s1
theorem ds_set (i : Nat) {y : Str} {q : Pos} (hN : X.N.Nodup) (h : DE X E a f) (hi : X.N[i]? = some y := by rfl) (hx : Loc X.env.scope y := by first | exact Or.inl rfl | exact Or.inr rfl) (hs : swapsWith a (some (.Name y q)) pos.line X.env = pure false := by rfl)
    (hf : X.fn y = true ∨ X.env.scope.names.lookup y = some .local := by first | exact .inl rfl | exact .inr rfl) : DS X E (.Assign [.Name y q] a pos) (sAsg f (gN i)) := by
  obtain ⟨_, x, z⟩ := h
  exact ⟨_, ps_set hN hi hx x hs hf, ev_asg (js := [i]) z fun T w sl sl' α σ H v Q e hs r hQ => by cases e; exact hQ _ (hs.set r) (Agree.set i _)⟩
theorem ds_asg {e : Expr} {d : TgD} {js : List Nat} (h : DE X E e f) (hg : DG X a d js) (hs : swapsWithSole [a] e pos.line X.env = pure false := by rfl) (hw : swappedStores [a] e X.env = pure none := by rfl) (h1 : (assignEach [a] X.env).map (·.2) = [assign a X.env] := by rfl) : DS X E (.Assign [a] e pos) (sAsg f d) := by
  obtain ⟨_, x, z⟩ := h
  obtain ⟨_, x2, z2⟩ := hg
  exact ⟨_, ps_asg x x2 hs hw h1, ev_asg z z2⟩
/-- xs[i] = e -/
def sSetIx (f g h : Den W) : SD := fun sl st => bndS (h sl st) fun z st1 => bndS (f sl st1) fun x st2 => bndS (g sl st2) fun y st3 => match x, y with
  | .loc n, .int i => match st3[n]? with
    | some l => match ixN l.length i with
      | some j => some (.nx sl (st3.set n (l.set j z)))
      | none => none
    | none => none
  | _, _ => none
theorem ds_setIx {o i e : Expr} {q : Pos} (ho : DE X E o f) (hi : DE X E i g) (he : DE X E e h) (hs : swapsWithSole [.Subscript o i q] e pos.line X.env = pure false := by rfl) (hw : swappedStores [.Subscript o i q] e X.env = pure none := by rfl) (h1 : (assignEach [.Subscript o i q] X.env).map (·.2) = [assign (.Subscript o i q) X.env] := by rfl)
    (ha : ∀ v, assign (.Subscript o i q) X.env v = (do
      let ov ← holding [v] (eval o X.env)
      let iv ← holding [v, ov] (eval i X.env)
      standAt q
      holding [v, ov, iv] (setItem ov iv v)
      release [v, ov, iv] []) := by intro _; rfl) : DS X E (.Assign [.Subscript o i q] e pos) (sSetIx f g h) := by
  obtain ⟨_, x1, y1⟩ := ho
  obtain ⟨_, x2, y2⟩ := hi
  obtain ⟨_, x3, y3⟩ := he
  refine ⟨_, ps_asg x3 (pg_sub x1 x2 set_list ha) hs hw h1, fun sl st o α σ H D e hs hst hP => y3.bindS hs hst e hP fun z st1 α1 vz H1 e1 p1 f1 rz s1 =>
    y1.bindS (hs.mono p1 f1) s1 e1 (hP.mono p1 f1) fun x st2 α2 vx H2 e2 p2 f2 rx s2 => y2.bindS ((hs.mono p1 f1).mono p2 f2) s2 e2 ((hP.mono p1 f1).mono p2 f2) fun y st3 α3 vy H3 e3 p3 f3 ry s3 => ?_⟩
  have hP3 := ((hP.mono p1 f1).mono p2 f2).mono p3 f3
  have hs3 := ((hs.mono p1 f1).mono p2 f2).mono p3 f3
  split at e3
  · cases rx with | loc h1 => cases ry with | int =>
    have h1' := pre_get p3 h1
    obtain ⟨l, vs, a1, a2, a3⟩ := s3.loc h1'
    simp only [a1] at e3
    split at e3
    · rename_i j hj
      refine ⟨_, vs, _, j, rfl, rfl, a2, by rw [a3.length]; exact hj, ?_⟩
      cases e3
      exact hP3 α3 σ _ (List.prefix_refl _) (Fr.set a2) (hs3.mono (List.prefix_refl _) (Fr.set a2)) (s3.set h1' a2 (a3.set j ((rz.mono p2 f2).mono p3 f3)))
    · cases e3
  · cases e3
end
end Dn

set_option Elab.async false
set_option linter.all false
set_option maxRecDepth 100000
set_option maxHeartbeats 1000000
/-! Dn5: what is walked, for, list comprehensions. -/
namespace Dn
open PySem PySem.Spec PyProof.Rows L2
open Classical
/-- the items; the list that must stay as it is -/
abbrev Wk := Option Nat × List W
def stays (st : Store) (p : Wk) : Prop := match p.1 with
  | none => True
  | some n => st[n]? = some p.2
def JOk (K : PySem.W.Frag) : RelT It Wk := fun α H J p => ∀ α' H' st', α <+: α' → Fr H H' → StR K α' H' st' → stays st' p → ∀ i, (i = p.2.length → J.stop i H') ∧
  (∀ w, p.2[i]? = some w → J.go i H' ∧ ∀ x H'', J.yld i H' x H'' → Fr H' H'' ∧ StR K α' H'' st' ∧ Rep K α' H'' x w)
def DI (X : Cx) (E : XT) (tg e : Expr) (f : Den Wk) : Prop := ∃ wi, PI X tg e wi ∧ Ev X.K X.mg (JOk X.K) wi f E
section
variable {K : PySem.W.Frag} {mg : Str → Option Value} {E : XT}
theorem jok_tup {α : List Addr} {H : Hp} {a : Addr} {vs : List V} {ws : List W} (h : SqT K H a vs) (r : Reps K α H vs ws) : JOk K α H (Itt K a) (none, ws) := by
  intro α' H' st' p f s _ i
  refine ⟨fun e => ⟨vs, f.sqT h, by rw [r.length]; exact Nat.le_of_eq e.symm⟩, fun w hw => ?_⟩
  obtain ⟨v, h1, h2⟩ := r.get hw
  refine ⟨⟨vs, v, f.sqT h, h1⟩, fun x H'' y => ?_⟩
  obtain ⟨e1, e2⟩ := y
  subst e1
  have := e2 vs (f.sqT h)
  rw [h1] at this; cases this
  exact ⟨Fr.refl _, s, h2.mono p f⟩
theorem jok_list {α : List Addr} {H : Hp} {a : Addr} {n : Nat} {ws : List W} (h : α[n]? = some a) : JOk K α H (Itl K a) (some n, ws) := by
  intro α' H' st' p f s k i
  have k : st'[n]? = some ws := k
  obtain ⟨vs, h1, h2⟩ := s.at_ n a ws (pre_get p h) k
  refine ⟨fun e => ⟨vs, .inl (.inl h1), by rw [h2.length]; exact Nat.le_of_eq e.symm⟩, fun w hw => ?_⟩
  obtain ⟨v, h3, h4⟩ := h2.get hw
  refine ⟨⟨vs, v, .inl (.inl h1), h3⟩, fun x H'' y => ?_⟩
  obtain ⟨e1, e2⟩ := y
  subst e1
  have := e2 vs (.inl (.inl h1))
  rw [h3] at this; cases this
  exact ⟨Fr.refl _, s, h4⟩
def rngW (lo : Int) (n : Nat) : List W := (List.range n).map fun (i : Nat) => W.int (lo + (i : Int))
theorem jok_rng {α : List Addr} {H : Hp} {lo : Int} {n : Nat} : JOk K α H (Itr lo n) (none, rngW lo n) := by
  intro α' H' st' p f s k i
  refine ⟨fun e => by simp [rngW] at e; exact Nat.le_of_eq e.symm, fun w hw => ?_⟩
  have hi : i < n := by have := (List.getElem?_eq_some_iff.mp hw).1; simpa [rngW] using this
  refine ⟨hi, fun x H'' y => ?_⟩
  obtain ⟨e1, e2⟩ := y
  subst e1 e2
  simp [rngW, hi] at hw
  subst hw
  exact ⟨Fr.refl _, s, .int _⟩
/-- a sequence -/
def wkS (f : Den W) : Den Wk := fun sl st => bnd (f sl st) fun w st1 => match w with
  | .tup l => okW (none, l) st1
  | _ => none
def wkL (f : Den W) : Den Wk := fun sl st => bnd (f sl st) fun w st1 => match w with
  | .loc n => match st1[n]? with
    | some l => okW (some n, l) st1
    | none => none
  | _ => none
end
section
variable {X : Cx} {E : XT} {pos : Pos} {a b c tg iter : Expr} {f g h : Den W}
theorem i_tup (h : DE X E a f) : DI X E tg a (wkS f) := by
  obtain ⟨_, x, y⟩ := h
  refine ⟨_, pi_tup x, fun sl st res α σ H Q e hs hst hP => y.bind hs hst e hP fun w st1 α1 v H1 e1 p1 f1 rx s1 => ?_⟩
  cases rx with
  | tup h1 r1 => exact ⟨_, rfl, ⟨_, h1⟩, Post.now e1 (hP.mono p1 f1) (jok_tup h1 r1) s1⟩
  | _ => cases e1
theorem i_list (h : DE X E a f) : DI X E tg a (wkL f) := by
  obtain ⟨_, x, y⟩ := h
  refine ⟨_, pi_list x, fun sl st res α σ H Q e hs hst hP => y.bind hs hst e hP fun w st1 α1 v H1 e1 p1 f1 rx s1 => ?_⟩
  cases rx with
  | loc h1 =>
    obtain ⟨l, vs, a1, a2, a3⟩ := s1.loc h1
    simp only [a1] at e1
    exact ⟨_, rfl, ⟨vs, .inl (.inl a2)⟩, Post.now e1 (hP.mono p1 f1) (jok_list h1) s1⟩
  | _ => cases e1
def wkR (f : Den W) : Den Wk := fun sl st => bnd (f sl st) fun w st1 => match w with
  | .int n => if -1000000 ≤ n ∧ n ≤ 1000000 then okW (none, rngW 0 n.toNat) st1 else none
  | _ => none
theorem i_range {p : Pos} (hg : Gl X "range") (hm : X.mg "range" = none) (ha : DE X E a f) (hs : starEach [a] X.env = [(false, eval a X.env)] := by rfl) : DI X E tg (.Call (.Name "range" p) [a] [] pos) (wkR f) := by
  obtain ⟨_, x, y⟩ := ha
  refine ⟨_, pi_range1 hg hm (pa_cons x pa_nil hs) hs, fun sl st res α σ H Q e hs hst hP => y.bind hs hst e hP fun w st1 α1 v H1 e1 p1 f1 rx s1 => ?_⟩
  cases rx with
  | int n =>
    simp only at e1
    split at e1
    · rename_i hn
      exact ⟨n, rfl, by omega, by omega, Post.now e1 (hP.mono p1 f1) jok_rng s1⟩
    · cases e1
  | _ => cases e1
/-! ### for -/
noncomputable def forD (d : TgD) (u : SD) (on : Option Nat) (all : List W) : List W → SD
  | [], sl, st => if stays st (on, all) then some (.nx sl st) else none
  | w :: ws, sl, st => if stays st (on, all) then match d w sl with
      | none => none
      | some sl1 => match u sl1 st with
        | some (.nx sl2 st2) => forD d u on all ws sl2 st2
        | some (.ct sl2 st2) => forD d u on all ws sl2 st2
        | some (.bk sl2 st2) => some (.nx sl2 st2)
        | o => o
    else none
noncomputable def sFor (fi : Den Wk) (d : TgD) (u : SD) : SD := fun sl st => bndS (fi sl st) fun p st1 => forD d u p.1 p.2 p.2 sl st1
theorem ev_for {K : PySem.W.Frag} {mg : Str → Option Value} {wi : TI} {fi : Den Wk} {tg : TG} {d : TgD} {js : List Nat} {tb : TS} {u : SD} (hi : Ev K mg (JOk K) wi fi E) (hg : EvG K tg d js) (hb : EvS K mg tb u E) : EvS K mg (tFor wi tg tb) (sFor fi d u) E := by
  intro sl st o α σ H D e hs hst hP
  refine hi.bindS hs hst e hP fun p st1 α1 J H1 e1 p1 f1 rJ s1 => ?_
  obtain ⟨on, all⟩ := p
  have hP1 := hP.mono p1 f1
  refine ⟨fun i m σ' H' => m = all.length - i ∧ i ≤ all.length ∧ ∃ α' sl' st', α1 <+: α' ∧ Fr H1 H' ∧ SvR K E.T α' H' sl' σ' ∧ StR K α' H' st' ∧ forD d u on all (all.drop i) sl' st' = some o, ⟨_, rfl, Nat.zero_le _, α1, sl, st1, List.prefix_refl _, Fr.refl _, hs.mono p1 f1, s1, by simpa using e1⟩, ?_⟩
  rintro i m σ' H' ⟨rfl, hil, α', sl', st', pa, fa, ss, ts, ef⟩
  by_cases hlt : i < all.length
  · rw [List.drop_eq_getElem_cons hlt] at ef
    unfold forD at ef
    split at ef
    · rename_i hst'
      obtain ⟨_, hj⟩ := rJ α' H' st' pa fa ts hst' i
      obtain ⟨hgo, hy⟩ := hj all[i] (List.getElem?_eq_getElem hlt)
      refine .inr ⟨hgo, fun σ2 H2 => ∃ α2 sl2 st2, α1 <+: α2 ∧ Fr H1 H2 ∧ SvR K E.T α2 H2 sl2 σ2 ∧ StR K α2 H2 st2 ∧ forD d u on all (all.drop (i + 1)) sl2 st2 = some o, fun σ2 H2 h => ⟨_, (by omega : all.length - (i + 1) < all.length - i), rfl, hlt, h⟩, fun x H2 yl => ?_⟩
      obtain ⟨fy, ty, ry⟩ := hy x H2 yl
      cases qd : d all[i] sl' with
      | none => simp [qd] at ef
      | some sl1 =>
        simp only [qd] at ef
        refine hg _ _ sl' sl1 α' σ' H2 x _ qd (ss.mono (List.prefix_refl _) fy) ry fun σ3 s3 _ => ?_
        cases qu : u sl1 st' with
        | none => simp [qu] at ef
        | some o1 =>
          refine hb sl1 st' o1 α' σ3 H2 _ qu s3 ty ?_
          simp only [qu] at ef
          have pf := pa
          cases o1 with
          | nx sl2 st2 => exact fun α4 σ4 H4 p4 f4 s4 t4 => ⟨α4, sl2, st2, pa.trans p4, (fa.trans fy).trans f4, s4, t4, ef⟩
          | ct sl2 st2 => exact fun α4 σ4 H4 p4 f4 s4 t4 => ⟨α4, sl2, st2, pa.trans p4, (fa.trans fy).trans f4, s4, t4, ef⟩
          | bk sl2 st2 => exact fun α4 σ4 H4 p4 f4 s4 t4 => PostS.nxNow ef (((hP1.mono pa fa).mono (List.prefix_refl _) fy).mono p4 f4) s4 t4
          | rt w st2 => cases ef; exact fun α4 v H4 p4 f4 r4 t4 => hP1 α4 v H4 (pa.trans p4) ((fa.trans fy).trans f4) r4 t4
          | er w st2 => cases ef; exact fun α4 c d H4 p4 f4 r4 t4 => hP1 α4 c d H4 (pa.trans p4) ((fa.trans fy).trans f4) r4 t4
    · cases ef
  · have hi' : i = all.length := by omega
    subst hi'
    rw [List.drop_length] at ef
    unfold forD at ef
    split at ef
    · rename_i hst'
      obtain ⟨hj, _⟩ := rJ α' H' st' pa fa ts hst' all.length
      exact .inl ⟨hj rfl, PostS.nxNow ef (hP1.mono pa fa) ss ts⟩
    · cases ef
theorem ds_for {fi : Den Wk} {d : TgD} {js : List Nat} {u : SD} {body : List Stmt} (hp : PassesOwn (model X.prog X.w) X.A X.env X.xe) (hc : X.calm = true) (hi : DI X E tg iter fi) (hg : DG X tg d js) (hb : DSs X E body u) (hs : ∀ x, foldedSetIterable iter X.env x = pure x := by intro _; rfl) : DS X E (.For tg iter body [] pos) (sFor fi d u) := by
  obtain ⟨_, x, y⟩ := hi
  obtain ⟨_, x2, y2⟩ := hg
  obtain ⟨_, x3, y3⟩ := hb
  exact ⟨_, ps_for hp hc x x2 x3 hs, ev_for y y2 y3⟩
/-! ### list comprehensions of one clause -/
def wipeW (sl : Sl) : List Nat → Sl
  | [] => sl
  | i :: r => (wipeW sl r).set i none
theorem wipeW_length (sl : Sl) : ∀ vs : List Nat, (wipeW sl vs).length = sl.length
  | [] => rfl
  | v :: vs => by unfold wipeW; rw [List.length_set, wipeW_length sl vs]
theorem wipe_at (σ : L2.St) (i : Nat) : ∀ vs : List Nat, i ∉ vs → (wipe σ vs)[i]? = σ[i]?
  | [], _ => rfl
  | v :: vs, h => by
    rw [List.mem_cons, not_or] at h
    unfold wipe
    rw [List.getElem?_set_ne (fun e => h.1 e.symm), wipe_at σ i vs h.2]
theorem wipe_in (σ : L2.St) (i : Nat) : ∀ vs : List Nat, i ∈ vs → i < σ.length → (wipe σ vs)[i]? = some none
  | v :: vs, h, hl => by
    unfold wipe
    by_cases e : v = i
    · subst e; rw [List.getElem?_set_self (by rw [wipe_length]; exact hl)]
    · rw [List.getElem?_set_ne e]
      rcases List.mem_cons.mp h with z | z
      · exact absurd z.symm e
      · exact wipe_in σ i vs z hl
theorem SvR.wipe {K : PySem.W.Frag} {T : List Addr} {α : List Addr} {H : Hp} {sl : Sl} {σ : L2.St} (s : SvR K T α H sl σ) : ∀ vs : List Nat, SvR K T α H (wipeW sl vs) (L2.wipe σ vs)
  | [] => s
  | v :: vs => by
    have ih := SvR.wipe s vs
    refine ⟨ih.tabs, by unfold wipeW L2.wipe; simp [ih.len], fun i w e => ?_⟩
    unfold wipeW at e
    by_cases hv : v = i
    · subst hv
      by_cases hl : v < (wipeW sl vs).length
      · rw [List.getElem?_set_self hl] at e; cases e
      · rw [List.getElem?_eq_none (by simpa using hl)] at e; cases e
    · rw [List.getElem?_set_ne hv] at e
      obtain ⟨v', h1, h2⟩ := ih.at_ i w e
      exact ⟨v', by unfold L2.wipe; rw [List.getElem?_set_ne hv]; exact h1, h2⟩
theorem Agree.wipe {js vs : List Nat} {σ σ' : L2.St} (h : Agree js (L2.wipe σ vs) σ') (hj : ∀ j ∈ js, j ∈ vs) : L2.wipe σ' vs = L2.wipe σ vs := by
  apply List.ext_getElem?
  intro i
  have hl : σ'.length = σ.length := h.1.trans (wipe_length σ vs)
  by_cases hi : i ∈ vs
  · by_cases hb : i < σ.length
    · rw [wipe_in σ' i vs hi (by omega), wipe_in σ i vs hi hb]
    · rw [List.getElem?_eq_none (by rw [wipe_length]; omega), List.getElem?_eq_none (by rw [wipe_length]; omega)]
  · rw [wipe_at σ' i vs hi, h.2 i (fun z => hi (hj i z))]
/-! ### the canonical readings -/
def tD {A B : Type} (K : PySem.W.Frag) (mg : Str → Option Value) (rel : RelT A B) (f : Den B) (E : XT) : L2.St → Hp → (A → Hp → Prop) → Prop := fun σ H Q => ∃ sl st r α, f sl st = some r ∧ SvR K E.T α H sl σ ∧ StR K α H st ∧ Post K mg rel α H Q E r
theorem ev_tD {A B : Type} {K : PySem.W.Frag} {mg : Str → Option Value} {rel : RelT A B} {f : Den B} : Ev K mg rel (tD K mg rel f E) f E := fun sl st r α σ H Q e hs hst hP => ⟨sl, st, r, α, e, hs, hst, hP⟩
theorem tD_ev {A B : Type} {K : PySem.W.Frag} {mg : Str → Option Value} {rel : RelT A B} {f : Den B} {t : L2.St → Hp → (A → Hp → Prop) → Prop} (h : Ev K mg rel t f E) {σ : L2.St} {H : Hp} {Q : A → Hp → Prop} (x : tD K mg rel f E σ H Q) : t σ H Q := by
  obtain ⟨sl, st, r, α, e, hs, hst, hP⟩ := x
  exact h sl st r α σ H Q e hs hst hP
theorem DE.canon {e : Expr} (h : DE X E e f) : PE X e (tD X.K X.mg (Rep X.K) f E) := by
  obtain ⟨t, x, y⟩ := h
  exact ⟨fun pins s σ H Q I q => x.run pins s σ H Q I (tD_ev y q)⟩
theorem DT.canon {e : Expr} {p : Den Bool} (h : DT X E e p) : PT X e (tD X.K X.mg ERel p E) := by
  obtain ⟨t, x, y⟩ := h
  exact ⟨fun pins s σ H Q I q => x.run pins s σ H Q I (tD_ev y q)⟩
def gD (K : PySem.W.Frag) (d : TgD) (js : List Nat) : TG := fun v σ H Q => ∃ (T : List Addr) (w : W) (sl sl' : Sl) (α : List Addr), d w sl = some sl' ∧ SvR K T α H sl σ ∧ Rep K α H v w ∧ ∀ σ', SvR K T α H sl' σ' → Agree js σ σ' → Q σ' H
theorem ev_gD {K : PySem.W.Frag} {d : TgD} {js : List Nat} : EvG K (gD K d js) d js := fun T w sl sl' α σ H v Q e hs r hQ => ⟨T, w, sl, sl', α, e, hs, r, hQ⟩
theorem DG.canon {e : Expr} {d : TgD} {js : List Nat} (h : DG X e d js) : PG X e (gD X.K d js) := by
  obtain ⟨t, x, y⟩ := h
  refine ⟨fun pins s σ H v u Q I r q => x.run pins s σ H v u Q I r ?_⟩
  obtain ⟨T, w, sl, sl', α, e, hs, rr, hQ⟩ := q
  exact y T w sl sl' α σ H v Q e hs rr hQ
/-- a comprehension's tests: none, one -/
def DTs (X : Cx) (E : XT) (ifs : List Expr) (p : Den Bool) : Prop := PTs X ifs (tD X.K X.mg ERel p E)
def bYes : Den Bool := fun _ st => okW true st
theorem ts_nil : DTs X E [] bYes := ⟨fun pins s σ H Q I q => pts_nil.run pins s σ H Q I (tD_ev (t := tYes) (fun sl st r α σ H Q e hs hst hP => Post.now (w := true) e hP rfl hst) q)⟩
theorem ts_one {p : Den Bool} (h : DT X E c p) : DTs X E [c] p := pts_one h.canon
def bnd0 {A B : Type} (m : Option (Res A)) (k : A → Store → Option B) : Option B := match m with
  | some (.ok a st) => k a st
  | _ => none
noncomputable def lcD (d : TgD) (p : Den Bool) (f : Den W) (sl0 : Sl) (n : Nat) (on : Option Nat) (all : List W) : List W → Store → Option (Res W)
  | [], st => if stays st (on, all) then okW (.loc n) st else none
  | w :: ws, st => if stays st (on, all) then match d w sl0 with
      | none => none
      | some sl1 => bnd0 (p sl1 st) fun k st1 => if k = true then bnd0 (f sl1 st1) fun y st2 => match st2[n]? with
          | some acc => if acc.length < 10000 then lcD d p f sl0 n on all ws (st2.set n (acc ++ [y])) else none
          | none => none
        else lcD d p f sl0 n on all ws st1
    else none
noncomputable def eLc (fi : Den Wk) (vs : List Nat) (d : TgD) (p : Den Bool) (f : Den W) : Den W := fun sl st => bnd (fi sl st) fun q st1 => lcD d p f (wipeW sl vs) st1.length q.1 q.2 q.2 (st1 ++ [[]])
theorem ev_lc {K : PySem.W.Frag} {mg : Str → Option Value} {wi : TI} {fi : Den Wk} {d : TgD} {js vs : List Nat} {p : Den Bool} (hi : Ev K mg (JOk K) wi fi E) (hj : ∀ j ∈ js, j ∈ vs) :
    Ev K mg (Rep K) (tLc wi (gD K d js) (tD K mg ERel p E.no) (tD K mg (Rep K) f E.no) vs) (eLc fi vs d p f) E := by
  intro sl st res α σ H Q e hs hst hP
  refine hi.bind hs hst e hP fun q st1 α1 J H1 e1 p1 f1 rJ s1 D hD => ?_
  obtain ⟨on, all⟩ := q
  have hP1 := hP.mono p1 f1
  have fD : Fr H1 (upd H1 D (.lst [])) := Fr.new hD
  have aD : (α1 ++ [D])[st1.length]? = some D := by rw [← s1.len]; simp
  have hs1 := hs.mono p1 f1
  refine ⟨fun i m H' => m = all.length - i ∧ i ≤ all.length ∧ ∃ α' st', α1 ++ [D] <+: α' ∧ Fr H1 H' ∧ StR K α' H' st' ∧ lcD d p f (wipeW sl vs) st1.length on all (all.drop i) st' = some res, ⟨_, rfl, Nat.zero_le _, α1 ++ [D], _, List.prefix_refl _, fD, s1.new hD .nil, by simpa using e1⟩, ?_⟩
  rintro i m H' ⟨rfl, hil, α', st', pa, fa, ts, ef⟩
  have pa1 : α1 <+: α' := (List.prefix_append _ _).trans pa
  by_cases hlt : i < all.length
  · rw [List.drop_eq_getElem_cons hlt] at ef
    unfold lcD at ef
    split at ef
    · rename_i hst'
      obtain ⟨_, hjj⟩ := rJ α' H' st' pa1 fa ts hst' i
      obtain ⟨hgo, hy⟩ := hjj all[i] (List.getElem?_eq_getElem hlt)
      refine .inr ⟨hgo, fun H2 => ∃ α2 st2, α1 ++ [D] <+: α2 ∧ Fr H1 H2 ∧ StR K α2 H2 st2 ∧ lcD d p f (wipeW sl vs) st1.length on all (all.drop (i + 1)) st2 = some res, fun H2 h => ⟨_, (by omega : all.length - (i + 1) < all.length - i), rfl, hlt, h⟩, fun x H2 yl => ?_⟩
      obtain ⟨fy, ty, ry⟩ := hy x H2 yl
      have fa2 := fa.trans fy
      cases qd : d all[i] (wipeW sl vs) with
      | none => simp [qd] at ef
      | some sl1 =>
        simp only [qd] at ef
        have s2 : SvR K E.T α' H2 (wipeW sl vs) (wipe σ vs) := (hs1.mono pa1 fa2).wipe vs
        refine ⟨_, all[i], _, sl1, α', qd, s2, ry, fun σ3 s3 ag => ⟨ag.wipe hj, ?_⟩⟩
        cases qp : p sl1 st' with
        | none => simp [qp, bnd0] at ef
        | some r1 =>
          cases r1 with
          | er x s => simp [qp, bnd0] at ef
          | ok k st2 =>
            refine ⟨sl1, st', _, α', qp, s3, ty, fun α4 k' H4 p4 f4 r4 t4 => ?_⟩
            have r4 : k' = k := r4
            subst r4
            simp only [qp, bnd0] at ef
            cases k' with
            | false =>
              refine iteF ⟨α4, st2, pa.trans p4, fa2.trans f4, t4, by simpa using ef⟩
            | true =>
              simp only [if_true] at ef
              refine iteT ?_
              cases qf : f sl1 st2 with
              | none => simp [qf] at ef
              | some r2 =>
                cases r2 with
                | er x s => simp [qf] at ef
                | ok y st3 =>
                  simp only [qf] at ef
                  refine ⟨sl1, st2, _, α4, qf, s3.mono p4 f4, t4, fun α5 v H5 p5 f5 r5 t5 => ?_⟩
                  have aD5 : α5[st1.length]? = some D := pre_get (pa.trans (p4.trans p5)) aD
                  obtain ⟨acc, vacc, b1, b2, b3⟩ := t5.loc aD5
                  simp only [b1] at ef
                  split at ef
                  · rename_i hacc
                    refine ⟨vacc, b2, by rw [b3.length, sizeLine_eq]; omega, α5, _, pa.trans (p4.trans p5), ((fa2.trans f4).trans f5).trans (Fr.set b2), t5.set aD5 b2 (b3.app (.cons r5 .nil)), ef⟩
                  · cases ef
    · cases ef
  · have hi' : i = all.length := by omega
    subst hi'
    rw [List.drop_length] at ef
    unfold lcD at ef
    split at ef
    · rename_i hst'
      obtain ⟨hjj, _⟩ := rJ α' H' st' pa1 fa ts hst' all.length
      exact .inl ⟨hjj rfl, Post.now ef (hP1.mono pa1 fa) (.loc (pre_get pa aD)) ts⟩
    · cases ef
variable {elt : Expr} {ifs : List Expr} {scope : Scope} {own : List (Str × Nat)} {fi : Den Wk} {d : TgD} {js : List Nat} {p : Den Bool}
theorem d_lc (hc : X.calm = true) (hN : X.N.Nodup) (hi : DI X E tg iter fi) (ok : BlkOk X.N X.env.scope scope own)
    (hg : ∀ (s : Shared) (H : Hp) (C : Addr) (cl : List (Str × Addr)) (fp : List Addr), DG (X.blk s H scope (compEnvC scope cl C X.env) fp) tg d js) (ht : ∀ (s : Shared) (H : Hp) (C : Addr) (cl : List (Str × Addr)) (fp : List Addr), DTs (X.blk s H scope (compEnvC scope cl C X.env) fp) E.no ifs p)
    (he : ∀ (s : Shared) (H : Hp) (C : Addr) (cl : List (Str × Addr)) (fp : List Addr), DE (X.blk s H scope (compEnvC scope cl C X.env) fp) E.no elt f) (hj : ∀ j ∈ js, j ∈ own.map (·.2) := by decide) (hs : ∀ x, foldedSetIterable iter X.env x = pure x := by intro _; rfl) :
    DE X E (.ListComp elt [⟨tg, iter, ifs, 0⟩] scope pos) (eLc fi (own.map (·.2)) d p f) := by
  obtain ⟨_, x, y⟩ := hi
  exact ⟨_, pe_lc (g := gD X.K d js) (tt := tD X.K X.mg ERel p E.no) (te := tD X.K X.mg (Rep X.K) f E.no) hc hN x ok (fun s H C cl fp => (hg s H C cl fp).canon) (fun s H C cl fp => ht s H C cl fp) (fun s H C cl fp => (he s H C cl fp).canon) hs, ev_lc y hj⟩
theorem ds_setLc (i : Nat) {y : Str} {py spos : Pos} (hc : X.calm = true) (hN : X.N.Nodup) (hi : DI X E tg iter fi) (ok : BlkOk X.N X.env.scope scope own)
    (hg : ∀ (s : Shared) (H : Hp) (C : Addr) (cl : List (Str × Addr)) (fp : List Addr), DG (X.blk s H scope (compEnvC scope cl C X.env) fp) tg d js) (ht : ∀ (s : Shared) (H : Hp) (C : Addr) (cl : List (Str × Addr)) (fp : List Addr), DTs (X.blk s H scope (compEnvC scope cl C X.env) fp) E.no ifs p)
    (he : ∀ (s : Shared) (H : Hp) (C : Addr) (cl : List (Str × Addr)) (fp : List Addr), DE (X.blk s H scope (compEnvC scope cl C X.env) fp) E.no elt f) (hj : ∀ j ∈ js, j ∈ own.map (·.2) := by decide) (hy : X.N[i]? = some y := by rfl) (hyl : X.env.scope.names.lookup y = some .local := by rfl)
    (hsw : swapsWith (.ListComp elt [⟨tg, iter, ifs, 0⟩] scope pos) (some (.Name y py)) spos.line X.env = pure true := by exact sw_true rfl rfl rfl (by decide +kernel)) (hs : ∀ x, foldedSetIterable iter X.env x = pure x := by intro _; rfl) :
    DS X E (.Assign [.Name y py] (.ListComp elt [⟨tg, iter, ifs, 0⟩] scope pos) spos) (sAsg (eLc fi (own.map (·.2)) d p f) (gN i)) := by
  obtain ⟨_, x, z⟩ := hi
  exact ⟨_, ps_setLc (g := gD X.K d js) (tt := tD X.K X.mg ERel p E.no) (te := tD X.K X.mg (Rep X.K) f E.no) hc hN hy hyl hsw x ok (fun s H C cl fp => (hg s H C cl fp).canon) (fun s H C cl fp => ht s H C cl fp) (fun s H C cl fp => (he s H C cl fp).canon) hs,
    ev_asg (js := [i]) (ev_lc z hj) fun T w sl sl' α σ H v Q e hs r hQ => by cases e; exact hQ _ (hs.set r) (Agree.set i _)⟩
end
end Dn

set_option Elab.async false
set_option linter.all false
set_option maxRecDepth 100000
set_option maxHeartbeats 2000000
/-! GenAll: all(test for x in ..), the test any expression of the layer in the generator's own frame. -/
namespace GA
open PySem PySem.Spec PyProof.Rows L2 GxR GenW

/-- the generator's frame as a context -/
def gx (X : Cx) (A : Around) (N : List Str) (env : Env) (s : Shared) (H : Hp) (fp : List Addr) (pn : List (Addr × Obj)) : Cx :=
  { X with A := A, N := N, s_0 := s, H_0 := H, env := env, outer := X.stack, stack := env :: X.stack, ex := fp, calm := true, fn := fun x => env.scope.names.lookup x == some .local, pn := pn, xe := fun _ _ => False }
/-- the scope of a generator expression over one name: it at «.0», the name, the captured ones -/
structure GSc (sc scope : Scope) (x : Str) (caps : List Str) : Prop where
  kind : scope.kind = .function
  co : scope.isCoroutine = false
  cell : ∀ y ∈ scope.names, y.2 ≠ .cell
  dot : scope.names.lookup (".0" : Str) = some NameKind.local
  loc : scope.names.lookup x = some .local
  free : ∀ y ∈ scope.names, y.2 = .free → sc.names.lookup y.1 = some .cell ∨ sc.names.lookup y.1 = some .free
  nd : (x :: caps).Nodup
  caps : ∀ y ∈ caps, scope.names.lookup y = some .free
  uniq : ∀ y ∈ scope.names, scope.names.lookup y.1 = some y.2
def gscB (sc scope : Scope) (x : Str) (caps : List Str) : Bool :=
  decide (scope.kind = .function) && !scope.isCoroutine && scope.names.all (fun y => !decide (y.2 = .cell)) && decide (scope.names.lookup (".0" : Str) = some NameKind.local) && decide (scope.names.lookup x = some .local) &&
    scope.names.all (fun y => !decide (y.2 = .free) || decide (sc.names.lookup y.1 = some .cell) || decide (sc.names.lookup y.1 = some .free)) && decide ((x :: caps).Nodup) && caps.all (fun y => decide (scope.names.lookup y = some .free)) && scope.names.all (fun y => decide (scope.names.lookup y.1 = some y.2))
theorem gsc_by {sc scope : Scope} {x : Str} {caps : List Str} (h : gscB sc scope x caps = true) : GSc sc scope x caps := by
  unfold gscB at h
  simp only [Bool.and_eq_true, Bool.not_eq_true', decide_eq_true_eq, List.all_eq_true, Bool.or_eq_true, decide_eq_false_iff_not] at h
  obtain ⟨⟨⟨⟨⟨⟨⟨⟨h1, h2⟩, h3⟩, h4⟩, h5⟩, h6⟩, h7⟩, h8⟩, h9⟩ := h
  exact ⟨h1, h2, h3, h4, h5, fun y hy e => by rcases h6 y hy with (z | z) | z; exact absurd e z; exact .inl z; exact .inr z, h7, h8, h9⟩
/-- the captured values -/
def capsOf (σ : L2.St) (js : List Nat) : L2.St := js.map fun j => (σ[j]?).join
section
variable {X : Cx} {pins : List (Addr × Obj)} {σ : L2.St} {H : Hp} {s : Shared}
theorem gx_start {A : Around} {scope : Scope} {x : Str} {caps : List Str} {js : List Nat} {fp : List Addr} {code : Value} {itv : Value} {s6 : Shared} {ga : Addr} {go : Obj} (I : Inv X pins σ H s) (S : GSc X.env.scope scope x caps) (hjs : ∀ (k : Nat) (y : Str), caps[k]? = some y → ∃ j, js[k]? = some j ∧ X.N[j]? = some y) (hjl : js.length = caps.length)
    (hd : A.handled = none) (hfr : A.frames = some X.stack) (hfp : ∀ b ∈ fp, FpOk X pins H b ∧ b < s.heap.objs.size)
    (kp : ∀ b o, s.heap.get? b = some o → s6.heap.get? b = some o) (hos : s6.os = s.os) (hb : AllBare s6.gens) (hns : s6.heap.Ns s.heap.objs.size (fun y => if y = ".0" then some itv else none))
    (hga : s6.heap.get? ga = some go) (hgs : s.heap.objs.size < ga) (hgd : ∀ v, go.data ≠ .cell v) :
    Inv (gx X (A.deeper (genEnv scope (cloFrom X.env.cells scope.names []) s.heap.objs.size code builtinsNs X.env)) (x :: caps) (genEnv scope (cloFrom X.env.cells scope.names []) s.heap.objs.size code builtinsNs X.env) s H fp [(ga, go)]) [] (none :: capsOf σ js) H s6 := by
  have hfree : ∀ y ∈ scope.names, y.2 = .free → ∃ c, X.env.cells.lookup y.1 = some c := fun y hy e => (S.free y hy e).elim (fun k => I.ok.has _ (.inl k)) (fun k => I.ok.has _ (.inr k))
  have cm : ∀ {y c}, (y, c) ∈ cloFrom X.env.cells scope.names [] → X.env.cells.lookup y = some c ∧ c < s.heap.objs.size := fun {y c} hm => by
    rcases cloFrom_mem hm with hm | ⟨h1, rfl⟩
    · cases hm
    · obtain ⟨c, hc⟩ := hfree _ h1 rfl
      rw [hc]
      obtain ⟨w, z⟩ := I.cell _ _ hc
      exact ⟨rfl, z.lt⟩
  have mem : ∀ {y c}, (cloFrom X.env.cells scope.names []).lookup y = some c → X.env.cells.lookup y = some c ∧ c < s.heap.objs.size := fun {y c} e => cm (PySem.mem_of_lookup e)
  have look : ∀ {y}, scope.names.lookup y = some .free → ∃ c, (cloFrom X.env.cells scope.names []).lookup y = some c ∧ X.env.cells.lookup y = some c := fun {y} hl => by
    obtain ⟨c', e'⟩ := mem_lookup (cloFrom_has (cells := X.env.cells) (acc := []) (PySem.mem_of_lookup hl))
    exact ⟨c', e', (mem e').1⟩
  generalize hg : genEnv scope (cloFrom X.env.cells scope.names []) s.heap.objs.size code builtinsNs X.env = env
  have hL : env.locals = s.heap.objs.size := by rw [← hg]; rfl
  have hC : env.cells = cloFrom X.env.cells scope.names [] := by rw [← hg]; rfl
  have hS : env.scope = scope := by rw [← hg]; rfl
  have hGl : env.globals = X.env.globals := by rw [← hg]; rfl
  have hBl : env.builtins = builtinsNs := by rw [← hg]; rfl
  have hFr : env.frame = some env.locals := by rw [← hg]; rfl
  have kindS : ∀ y, env.kindOf y = scope.names.lookup y := fun y => by show env.scope.names.lookup y = _; rw [hS]
  have okB : (gx X (A.deeper env) (x :: caps) env s H fp [(ga, go)]).Ok := by
    refine ⟨I.ok.mod, by show env.scope.kind = _; rw [hS]; exact S.kind, hGl.trans I.ok.glob, hBl, by show s.heap.objs.size ≤ env.locals; rw [hL]; exact Nat.le_refl _,
      fun y z c e1 e2 => ?_, fun y hy => ?_, fun y c z e => ?_, fun _ => hd, Around.frames_deeper hfr, .inr ⟨rfl, hFr⟩, fun b hb => ⟨?_, fun y c e z => ?_⟩, I.bs, Nat.le_trans I.ok.bsz I.sz, fun b o e hb => ?_, fun b hb z => ?_, I.stack, I.stkFree⟩
    · have e1 : env.cells.lookup y = some c := e1
      have e2 : env.cells.lookup z = some c := e2
      rw [hC] at e1 e2
      exact I.ok.inj y z c (mem e1).1 (mem e2).1
    · show ∃ c, env.cells.lookup y = some c
      rw [hC]
      have hy : env.kindOf y = some .cell ∨ env.kindOf y = some .free := hy
      rw [kindS] at hy
      rcases hy with hy | hy
      · exact absurd rfl (S.cell _ (PySem.mem_of_lookup hy))
      · obtain ⟨c, h1, _⟩ := look hy
        exact ⟨c, h1⟩
    · have z : (env.scope.names.lookup y == some NameKind.local) = true := z
      have z : env.scope.names.lookup y = some .local := by simpa using z
      rw [hS] at z
      have e : env.cells.lookup y = some c := e
      rw [hC] at e
      rcases cloFrom_mem (PySem.mem_of_lookup e) with hm | ⟨h1, _⟩
      · cases hm
      · have q := S.uniq _ h1
        rw [z] at q; cases q
    · show b ≠ env.locals
      rw [hL]; exact Nat.ne_of_lt (hfp b hb).2
    · have e : env.cells.lookup y = some c := e
      rw [hC] at e
      exact (hfp b hb).1.2.2.2.2.1 y c (mem e).1 z
    · rcases (hfp b hb).1.2.2.2.1 with z | z
      · exact I.ok.noex b o e z
      · exact absurd (Nat.lt_of_lt_of_le (Heap.lt_size e) (Nat.le_trans I.ok.bsz z)) (Nat.lt_irrefl _)
    · rcases List.mem_cons.mp (I.stkSub b z) with z | z
      · exact (hfp b hb).1.2.1 z
      · exact (hfp b hb).1.2.2.1 z
  refine ⟨okB, hos, hb, Un.kept kp, ⟨_, by rw [show (gx X (A.deeper env) (x :: caps) env s H fp [(ga, go)]).env.locals = s.heap.objs.size from hL]; exact hns, fun i y v e1 e2 e3 => ?_⟩, fun y c e => ?_, ?_, fun y c e => ?_, fun p hp => ?_, I.hok.kept kp, ?_⟩
  · cases i with
    | zero => simp at e2
    | succ i =>
      have e1 : caps[i]? = some y := by simpa [gx] using e1
      have e2 : (capsOf σ js)[i]? = some (some v) := by simpa using e2
      obtain ⟨j, hj, hN⟩ := hjs i y e1
      have hσ : σ[j]? = some (some v) := by
        unfold capsOf at e2
        rw [List.getElem?_map, hj] at e2
        simp only [Option.map_some, Option.some.injEq] at e2
        cases q : σ[j]? with
        | none => rw [q] at e2; cases e2
        | some o => rw [q] at e2; cases o with
          | none => cases e2
          | some v' => cases e2; rfl
      have hk : scope.names.lookup y = some .free := S.caps y (List.mem_of_getElem? e1)
      obtain ⟨c, h1, h2⟩ := look hk
      have hvis : X.env.scope.names.lookup y = some .cell ∨ X.env.scope.names.lookup y = some .free := S.free _ (PySem.mem_of_lookup hk) rfl
      obtain ⟨m, hn, hl⟩ := I.loc
      obtain ⟨u, r, q⟩ := hl j y v hN hσ (hvis.elim (fun z => .inr (.inl z)) fun z => .inr (.inr z))
      refine ⟨u, r, .inr ⟨.inr (by show env.kindOf y = _; rw [kindS]; exact hk), c, by show env.cells.lookup y = _; rw [hC]; exact h1, ?_⟩⟩
      rcases q with ⟨k, _⟩ | ⟨_, c', e', z⟩
      · have k : X.env.scope.names.lookup y = some .local := k
        rcases hvis with z | z <;> rw [k] at z <;> cases z
      · rw [h2] at e'; cases e'
        exact z.keeps kp
  · have e : env.cells.lookup y = some c := e
    rw [hC] at e
    obtain ⟨w, z⟩ := I.cell y c (mem e).1
    exact ⟨w, z.keeps kp⟩
  · show H env.locals = none
    rw [hL]; exact I.hok.fresh (Nat.le_refl _)
  · have e : env.cells.lookup y = some c := e
    rw [hC] at e
    exact I.freeC y c (mem e).1
  · have hp : p ∈ [(ga, go)] ++ ([] : List (Addr × Obj)) := hp
    rw [List.append_nil, List.mem_singleton] at hp
    subst hp
    exact ⟨hga, I.hok.fresh (Nat.le_of_lt hgs), by show ga ≠ env.locals; rw [hL]; exact Nat.ne_of_gt hgs, fun z => by
      have z : ga ∈ frs X.stack := z
      rcases List.mem_cons.mp (I.stkSub ga z) with q | q
      · have := I.lt; rw [← q] at this; exact absurd (Nat.lt_trans this hgs) (Nat.lt_irrefl _)
      · exact I.nofs (Nat.le_of_lt hgs) q, hgd⟩
  · show (none :: capsOf σ js).length = (x :: caps).length
    simp [capsOf, hjl]

/-- the same state but for the generators -/
def Ke (s s' : Shared) : Prop := ∃ g', AllBare g' ∧ s' = { s with gens := g' }
theorem Ke.inv {X : Cx} {pins : List (Addr × Obj)} {σ : L2.St} {H : Hp} {s s' : Shared} (k : Ke s s') (I : Inv X pins σ H s) : Inv X pins σ H s' := by
  obtain ⟨g', hb, rfl⟩ := k
  exact I.step (h' := s.heap) (g' := g') (t' := s.toks) (d' := s.drawn) (ch := []) (fun _ z => nomatch z) (fun b o _ _ _ e _ => e) (fun b o _ _ _ e _ => ⟨o.slots, e⟩) (fun _ _ _ _ n => n) (fun b o _ e => ⟨o, e⟩) (fun _ _ e => e) (fun _ _ _ e => e)
    (fun b ps e => ⟨#[], by rw [e]; simp⟩) (fun _ z => z) I.hok hb
theorem over_loopG {A : Around} {elt : Expr} {gs : List Comprehension} {scope : Scope} {pos : Pos} {it acc : Value} {env : Env} : A.over (.compLoop (.GeneratorExp elt gs scope pos) 0 it acc env) [] = A.deeper env := by
  first
    | rfl
    | (obtain ⟨hd, d, fr, gs, u⟩ := A; simp [Around.over, Around.deeper, marksOver, frameCount, unitsOf, envsOf, guardsOf, pushEnvs, pushGuards, Code.envs, Code.env?, Code.isFrame, Code.guards, Code.isGuard, Code.weight, Code.frames, Code.isCreation, Code.isCaller, Code.cUnits])
theorem over_startG {A : Around} {elt : Expr} {gs : List Comprehension} {scope : Scope} {pos : Pos} {it acc : Value} {env : Env} : A.over (.compStart (.GeneratorExp elt gs scope pos) 0 it acc env) [] = A.deeper env := by
  first
    | rfl
    | (obtain ⟨hd, d, fr, gs, u⟩ := A; simp [Around.over, Around.deeper, marksOver, frameCount, unitsOf, envsOf, guardsOf, pushEnvs, pushGuards, Code.envs, Code.env?, Code.isFrame, Code.guards, Code.isGuard, Code.weight, Code.frames, Code.isCreation, Code.isCaller, Code.cUnits])

section
variable {Y : Cx} {B : Around} {elt tg iter : Expr} {scope : Scope} {pos : Pos} {it : Addr} {fp : List Addr} {tn : Nat → Heap → Prop} {J : It} {σ0 : L2.St} {te : TE} {g : TG} {W : Nat → Nat → Hp → Prop} {QT QF : Hp → Prop}
/-- what a turn asks -/
def TurnA (J : It) (g : TG) (te : TE) (σ0 : L2.St) (W : Nat → Nat → Hp → Prop) (QT QF : Hp → Prop) : Prop := ∀ i m H, W i m H →
  (J.stop i H ∧ QT H) ∨ (J.go i H ∧ ∃ Nx : Hp → Prop, (∀ H', Nx H' → ∃ m', m' < m ∧ W (i + 1) m' H') ∧ ∀ x H', J.yld i H x H' → g x σ0 H' fun σ2 H2 => (∀ (j : Nat) v, σ0[j]? = some (some v) → σ2[j]? = some (some v)) ∧ te σ2 H2 fun y H3 => ∃ b, y = .bl b ∧ if b = true then Nx H3 else QF H3)
def RR (Y : Cx) (QT : Hp → Prop) : GenEnd := fun n s₀ r s => r = .ok .next ∧ ∃ σ H, Inv Y [] σ H s ∧ QT H
def YY (Y : Cx) (fp : List Addr) (tn : Nat → Heap → Prop) (σ0 : L2.St) (W : Nat → Nat → Hp → Prop) (QF : Hp → Prop) : Protocol := fun n s₀ v s kap => ∃ b, v = .bool b ∧
  ((b = false ∧ ∃ pins σ H, Inv Y pins σ H s ∧ QF H) ∨ (b = true ∧ ∃ i m H, Inv Y [] σ0 H s ∧ tn i s.heap ∧ (∀ b ∈ fp, H b = none) ∧ W i m H ∧ m < n ∧ ∀ s', Ke s s' → kap (.send .none) s'))
theorem seg_ga (hYA : Y.A = B.deeper Y.env) (hex : Y.ex = fp) (hpn : ∀ p ∈ Y.pn, ∀ b ∈ fp, p.1 ≠ b) (hcalm : Y.calm = true) (hco : Y.env.scope.isCoroutine = false) (hxe : Y.xe = fun _ _ => False)
    (T : Turn Y.prog Y.w Y.K tg J fp it tn) (hg : PG Y tg g) (he : PE Y elt te) (turn : TurnA J g te σ0 W QT QF) :
    ∀ (n i m : Nat) (s₀ s : Shared) (H : Hp), m < n → Inv Y [] σ0 H s → tn i s.heap → (∀ b ∈ fp, H b = none) → W i m H →
      Seg (model Y.prog Y.w) B (RR Y QT) (YY Y fp tn σ0 W QF) n s₀ (.compLoop (.GeneratorExp elt [⟨tg, iter, [], 0⟩] scope pos) 0 (.ref it) .none Y.env)
        ((model Y.prog Y.w).den (.compLoop (.GeneratorExp elt [⟨tg, iter, [], 0⟩] scope pos) 0 (.ref it) .none Y.env)) [] s := by
  have stat : ∀ {σ' : L2.St} {H' : Hp} {s' : Shared}, Inv Y [] σ' H' s' → (∀ b ∈ fp, H' b = none) → ∀ b ∈ fp, FpOk Y [] H' b := fun {σ' H' s'} I' hn b hb =>
    ⟨hn b hb, (I'.ok.exf b (by rw [hex]; exact hb)).1, I'.ok.exfs b (by rw [hex]; exact hb), .inl (by rw [hex]; exact hb), fun x c e => (I'.ok.exf b (by rw [hex]; exact hb)).2 x c e, fun p hp => hpn p (by simpa using hp) b hb⟩
  intro n
  induction n with
  | zero => intro i m s₀ s H hm; omega
  | succ n ih =>
    intro i m s₀ s H hm I st hn w
    show Seg _ B _ _ _ s₀ _ ((compTurn (.GeneratorExp elt [⟨tg, iter, [], 0⟩] scope pos) 0 (.ref it) .none Y.env).onRaise (leaving Y.env)) [] s
    rw [compTurn_gen, Sem.onRaise_eq_wrap]
    refine seg_bind_wrap (wpAny_standAt ?_)
    rcases turn i m H w with ⟨stop, q⟩ | ⟨go, Nx, hNx, step⟩
    · refine seg_bind_wrap ?_
      rw [over_loopG, ← hYA]
      refine wpAny_mono (T.done Y rfl rfl rfl hcalm i [] s σ0 H (fun _ _ => False) I (stat I hn) st stop) (fun r s1 ⟨hr, I1⟩ => ?_) fun _ _ z => z.elim
      subst hr
      exact seg_end (.ok .next) ⟨rfl, σ0, H, I1, q⟩
    · refine seg_bind_wrap ?_
      rw [over_loopG, ← hYA]
      refine wpAny_mono (T.item Y rfl rfl rfl hcalm i [] s σ0 H (fun _ _ => False) I (stat I hn) st go) (fun r s1 ⟨u, hr, h1⟩ => ?_) fun _ _ z => z.elim
      subst hr
      refine seg_bind_wrap ?_
      rw [over_loopG, ← hYA]
      refine wpAny_mono h1 (fun _ s2 ⟨x, H2, I2, r2, y2, st2, n2⟩ => ?_) fun _ _ z => z.elim
      have I2' := I2.pinned (stat I2 n2) (T.obj _ _ st2)
      refine seg_bind_wrap ?_
      rw [over_loopG, ← hYA]
      refine wpAny_mono (hg.run _ s2 σ0 H2 x u _ I2' r2 (step x H2 y2)) (fun _ s3 ⟨σ3, H3, I3, hσ, q3⟩ => ?_) fun e s3 z => ?_
      · refine seg_bind_wrap (wpAny_pure ?_)
        simp only [if_true]
        have hy : ∀ v, yieldOut Y.env v = yieldValue v := fun v => by simp only [yieldOut, hco, Bool.false_eq_true, if_false]
        simp only [hy]
        rw [Sem.bind_eq_wrap', Sem.bind_eq_wrap', Sem.wrap_wrap, Sem.wrap_wrap]
        refine seg_wrap ?_
        rw [over_loopG, ← hYA]
        refine wpAny_mono (he.run _ s3 σ3 H3 _ I3 q3) (fun y s4 ⟨v, H4, I4, r4, b, eb, q4⟩ => ?_) fun e s4 z => ?_
        · subst eb
          have r4 : y = .bool b := r4
          subst r4
          refine seg_at (seg_yield rfl rfl rfl ⟨b, rfl, ?_⟩)
          cases b with
          | false => exact .inl ⟨rfl, _, σ3, H4, I4, by simpa using q4⟩
          | true =>
            obtain ⟨m', hm', w'⟩ := hNx H4 (by simpa using q4)
            have pin' : ∀ b ∈ fp, ∀ o, s2.heap.get? b = some o → s4.heap.get? b = some o ∧ H4 b = none := fun b hb o e =>
              let z := I4.pin (b, o) (List.mem_append_right _ (List.mem_append_right _ (mem_pinsAt hb e)))
              ⟨z.1, z.2.1⟩
            have I5 : Inv Y [] σ0 H4 s4 := (I4.unpinned (pins := [])).weak (by rw [I2.len, I3.len]) hσ
            have st4 : tn (i + 1) s4.heap := T.keep _ _ _ st2 fun b hb o e => (pin' b hb o e).1
            have n4 : ∀ b ∈ fp, H4 b = none := fun b hb => by
              obtain ⟨o, e, _⟩ := T.obj _ _ st2 b hb
              exact (pin' b hb o e).2
            refine .inr ⟨rfl, i + 1, m', H4, I5, st4, n4, w', by omega, fun s' k => ?_⟩
            refine seg_again rfl (ih (i + 1) m' s' s' H4 (by omega) (k.inv I5) ?_ n4 w')
            obtain ⟨g', _, rfl⟩ := k
            exact st4
        · rw [hxe] at z; exact z.elim
      · rw [hxe] at z; exact z.elim
/-- its first step -/
theorem seg_ga0 (hYA : Y.A = B.deeper Y.env) (T : Turn Y.prog Y.w Y.K tg J fp it tn) {R : GenEnd} {P : Protocol} {n : Nat} {s₀ s : Shared} (st : tn 0 s.heap)
    (loop : Seg (model Y.prog Y.w) B R P n s₀ (.compLoop (.GeneratorExp elt [⟨tg, iter, [], 0⟩] scope pos) 0 (.ref it) .none Y.env) ((model Y.prog Y.w).den (.compLoop (.GeneratorExp elt [⟨tg, iter, [], 0⟩] scope pos) 0 (.ref it) .none Y.env)) [] s) :
    Seg (model Y.prog Y.w) B R P n s₀ (.compStart (.GeneratorExp elt [⟨tg, iter, [], 0⟩] scope pos) 0 (.ref it) .none Y.env) ((model Y.prog Y.w).den (.compStart (.GeneratorExp elt [⟨tg, iter, [], 0⟩] scope pos) 0 (.ref it) .none Y.env)) [] s := by
  show Seg _ B _ _ _ s₀ _ ((compStart (.GeneratorExp elt [⟨tg, iter, [], 0⟩] scope pos) 0 (.ref it) .none Y.env).onRaise (leaving Y.env)) [] s
  unfold compStart
  rw [Sem.onRaise_eq_wrap]
  show Seg _ B _ _ _ s₀ _ ((ask >>= _).wrap _ _ _ _) [] s
  refine seg_bind_wrap (wpAny_askSetting ?_)
  split
  · exact seg_again rfl loop
  · first
      | exact seg_bind_wrap (wpAny_rule (seg_bind_wrap (wpAny_standAt (seg_bind_wrap (T.self _ 0 s _ _ st (seg_again rfl loop))))))
      | (refine seg_bind_wrap (wpAny_rule ?_); show Seg _ B _ _ _ s₀ _ ((standAt iter.pos >>= _).wrap _ _ _ _) [] s; exact seg_bind_wrap (wpAny_standAt (seg_bind_wrap (T.self _ 0 s _ _ st (seg_again rfl loop)))))
/-- all's loop over it -/
theorem all_ga {A : Around} {R : Result → Shared → Prop} {a : Addr} {gn : Nat} (hB : B = A.in1.in1) (hh : A.handled = none) (hd : A.depth < recursionLimit) (hpin : ∃ go, (a, go) ∈ Y.pn ∧ ∀ h : Heap, h.get? a = some go → h.IsGen a gn)
    (hT : ∀ s' σ H, Inv Y [] σ H s' → QT H → R (.ok (.ret (.bool true))) s') (hF : ∀ s' pins σ H, Inv Y pins σ H s' → QF H → R (.ok (.ret (.bool false))) s') :
    ∀ (n : Nat) (s : Shared), s.heap.IsGen a gn → s.heap.NoLimit → (∃ gs, s.gens[gn]? = some gs ∧ gs.Goes (model Y.prog Y.w) B (RR Y QT) (YY Y fp tn σ0 W QF) n (.send .none) (s.setGen gn .running)) →
      codeAny (model Y.prog Y.w) A (.builtin "all.loop" ⟨[.ref a], []⟩) R s := by
  subst hB
  obtain ⟨go, hgo, hgen⟩ := hpin
  have isg : ∀ {pins : List (Addr × Obj)} {σ : L2.St} {H : Hp} {s : Shared}, Inv Y pins σ H s → s.heap.IsGen a gn := fun {pins σ H s} I => hgen _ (I.pin (a, go) (List.mem_append_left _ hgo)).1
  have goes : ∀ {gs : GenState} {n : Nat} {r : Resume} {s : Shared}, gs.Goes (model Y.prog Y.w) A.in1.in1 (RR Y QT) (YY Y fp tn σ0 W QF) n r s →
      gs.Goes (model Y.prog Y.w) A.in1.in1 (fun n s₀ r s₁ => r = .ok .next ∧ ∃ σ H, Inv Y [] σ H s₁ ∧ QT H) (YY Y fp tn σ0 W QF) n r s := fun h => h
  intro n
  induction n with
  | zero =>
    intro s hg hl ⟨gs, hgs, hgo'⟩
    refine codeAny_builtin F.entry_all_loop ?_
    rw [Around.under_plainId F.plain_all_loop _]
    show wpAny _ A.in1 (pyNext (.ref a) >>= _) _ _ s
    refine wpAny_bind (wpAny_pyNext_genexpQ (A := A.in1) (P := fun _ _ s₁ => ∃ σ H, Inv Y [] σ H s₁ ∧ QT H) hh hl hd hg hgs (goes hgo') (fun v s₁ gs' hb hv => ?_) (fun s₁ hp h' hk => ?_))
    · obtain ⟨b, rfl, hv⟩ := hv
      rcases hv with ⟨rfl, pins, σ, H, I, q⟩ | ⟨rfl, i, m, H, I, _, _, _, hm, k⟩
      · refine wpAny_bind (wpAny_holding (wpAny_truthy_bool ?_))
        refine wpAny_bind (wpAny_letGo ?_)
        simp only [Bool.false_eq_true, if_false]
        refine wpAny_bind (wpAny_rule (wpAny_pure ?_))
        exact hF _ pins σ H (Ke.inv ⟨_, allBare_setGen I.bare hb, rfl⟩ I) q
      · omega
    · obtain ⟨σ, H, I, q⟩ := hp
      refine wpAny_bind (wpAny_rule (wpAny_pure ?_))
      have I2 : Inv Y [] σ H (s₁.setGen gn .finished) := Ke.inv ⟨_, allBare_setGen I.bare rfl, rfl⟩ I
      exact hT _ σ H (I2.kept (t' := s₁.toks) hk) q
  | succ n ih =>
    intro s hg hl ⟨gs, hgs, hgo'⟩
    have hgl : gn < s.gens.size := (Array.getElem?_eq_some_iff.mp hgs).1
    refine codeAny_builtin F.entry_all_loop ?_
    rw [Around.under_plainId F.plain_all_loop _]
    show wpAny _ A.in1 (pyNext (.ref a) >>= _) _ _ s
    refine wpAny_bind (wpAny_gsz (n := gn + 1) hgl (wpAny_pyNext_genexpQ (A := A.in1) (P := fun _ _ s₁ => ∃ σ H, Inv Y [] σ H s₁ ∧ QT H) hh hl hd hg hgs (goes hgo') (fun v s₁ gs' hb hv => ?_) (fun s₁ hp h' hk => ?_)))
    · intro hsz
      obtain ⟨b, rfl, hv⟩ := hv
      rcases hv with ⟨rfl, pins, σ, H, I, q⟩ | ⟨rfl, i, m, H, I, st, hn, w, hm, k⟩
      · refine wpAny_bind (wpAny_holding (wpAny_truthy_bool ?_))
        refine wpAny_bind (wpAny_letGo ?_)
        simp only [Bool.false_eq_true, if_false]
        refine wpAny_bind (wpAny_rule (wpAny_pure ?_))
        exact hF _ pins σ H (Ke.inv ⟨_, allBare_setGen I.bare hb, rfl⟩ I) q
      · refine wpAny_bind (wpAny_holding (wpAny_truthy_bool ?_))
        refine wpAny_bind (wpAny_letGo ?_)
        simp only [if_true]
        refine wpAny_pure ⟨plainId_quiet F.plain_all_loop _, ?_⟩
        have I2 : Inv Y [] σ0 H (s₁.setGen gn gs') := Ke.inv ⟨_, allBare_setGen I.bare hb, rfl⟩ I
        have hsz1 : gn < s₁.gens.size := by
          have q : (s₁.setGen gn gs').gens.size = s₁.gens.size := setGen_size _ _ _
          have hsz' : gn + 1 ≤ (s₁.setGen gn gs').gens.size := hsz
          omega
        refine ih _ (isg I2) I2.nolimit ⟨gs', setGen_at hsz1, ?_⟩
        exact k _ ⟨_, allBare_setGen (s := s₁.setGen gn gs') (allBare_setGen I.bare hb) rfl, rfl⟩
    · intro hsz
      obtain ⟨σ, H, I, q⟩ := hp
      refine wpAny_bind (wpAny_rule (wpAny_pure ?_))
      have I2 : Inv Y [] σ H (s₁.setGen gn .finished) := Ke.inv ⟨_, allBare_setGen I.bare rfl, rfl⟩ I
      exact hT _ σ H (I2.kept (t' := s₁.toks) hk) q
end
end

section
variable {X : Cx}
def tAllG (P : Addr) (js : List Nat) (wi : TI) (te : TE) : TE := fun σ H Q => wi σ H fun J H1 => TabG H1 P ∧ ∀ H2, Tabbed P H1 H2 → ∃ W, (∃ m, W 0 m H2) ∧ TurnA J (gName 0) te (none :: capsOf σ js) W (fun H' => Q (.bl true) H') (fun H' => Q (.bl false) H')
theorem pe_allG {c P : Addr} {elt iter : Expr} {x : Str} {px p pos gpos : Pos} {scope : Scope} {caps : List Str} {js : List Nat} {wi : TI} {te : TE} {k : Nat}
    (hr : Room (k + 3) X.A) (hc : X.calm = true) (hg : Gl X "all") (hm : X.mg "all" = none) (hb : bootBuiltins "all" = some (.builtin "all")) (TB : TabB X.base X.mg c P) (hcode : X.env.code = .ref c) (S : GSc X.env.scope scope x caps)
    (hjs : ∀ (k : Nat) (y : Str), caps[k]? = some y → ∃ j, js[k]? = some j ∧ X.N[j]? = some y) (hjl : js.length = caps.length) (hi : PI X (.Name x px) iter wi)
    (hel : ∀ (A' : Around) (cl : List (Str × Addr)) (C : Addr) (code : Value) (s : Shared) (H : Hp) (fp : List Addr) (pn : List (Addr × Obj)), Room k A' → PE (gx X A' (x :: caps) (genEnv scope cl C code builtinsNs X.env) s H fp pn) elt te)
    (hs : ∀ v, genFold iter X.env v = pure v)
    (he : starEach [.GeneratorExp elt [⟨.Name x px, iter, [], 0⟩] scope gpos] X.env = (false, eval (.GeneratorExp elt [⟨.Name x px, iter, [], 0⟩] scope gpos) X.env) :: starEach [] X.env := by rfl) :
    PE X (.Call (.Name "all" p) [.GeneratorExp elt [⟨.Name x px, iter, [], 0⟩] scope gpos] [] pos) (tAllG P js wi te) := by
  refine ⟨fun pins s σ H Q I h => ?_⟩
  refine wpAny_Call_Name_kw (ld_blt I hg hm hb ?_)
  refine PyProof.Rows.callWith_builtin1 ?_ he (by rfl)
  rw [he]
  show wpAny _ _ (spliced ((false, eval (.GeneratorExp elt [⟨.Name x px, iter, [], 0⟩] scope gpos) X.env) :: backTo pos (starEach [] X.env))) _ _ s
  have hfree : ∀ y ∈ scope.names, y.2 = .free → ∃ c, X.env.cells.lookup y.1 = some c := fun y hy e => (S.free y hy e).elim (fun k => I.ok.has _ (.inl k)) (fun k => I.ok.has _ (.inr k))
  have hh : X.A.handled = none := I.ok.hd hc
  have hdp : X.A.depth < recursionLimit := hr.depth
  refine Calls.spliced_cons (wpAny_GeneratorExp_make S.co (closure_ok hfree) S.cell S.dot S.kind hdp (thn (hi.run pins s σ H _ I h) fun xv s1 hx => thn hx fun itv s2 h2 => ?_) hs)
  obtain ⟨it, fp, tn, J, H1, rfl, I2, T, st2, f2, ⟨ps, hP, ht⟩, q⟩ := h2
  have hPs : s2.heap.get? P = some { cls := .none, data := .fields ps } := I2.hok P _ hP
  have cd : PySem.W.CodeHd s2.heap c P := TB.code.keeps I2.bk
  have cont : ∀ (code : Value) (h3 : Heap) (tk : Nat) (ps' : Array Value), Heap.ExtBut P s2.heap h3 → s2.heap.objs.size ≤ h3.objs.size → h3.get? P = some { cls := .none, data := .fields ps' } → (∃ more, ps' = ps ++ more) → TriplesOk ps'.toList →
      wpAny (model X.prog X.w) X.A (builtinsFor X.env.globals X.env.builtins) (fun bi s₄ => ∀ h', h'.Ns s₄.heap.objs.size (fun y => if y = ".0" then some (.ref it) else none) → Heap.SameBut s₄.heap.objs.size (s₄.heap.push { cls := .type "frame", data := .dict #[] }) h' →
          (wpAny (model X.prog X.w) X.A (spliced (backTo pos (starEach [] X.env))) (fun vs s' => wpAny (model X.prog X.w) X.A (call (.builtin "all") (.ref h'.objs.size :: vs)) (EP X pins σ Q) X.xe s') X.xe { s₄ with
            gens := s₄.gens.push (.fresh (.compStart (.GeneratorExp elt [⟨.Name x px, iter, [], 0⟩] scope gpos) 0 (.ref it) .none (genEnv scope (cloFrom X.env.cells scope.names []) s₄.heap.objs.size code bi X.env))),
            toks := s₄.toks + 1 + 1 + 1,
            heap := h'.push { cls := .type "generator", data := .fields #[.int s₄.gens.size 0, .str "<genexpr>" (s₄.toks + 1), .str (X.env.qual ++ "<genexpr>") (s₄.toks + 1 + 1)] } })) X.xe { s2 with heap := h3, toks := tk } := by
    intro code h3 tk ps' hx hsz hP3 hmore ht3
    obtain ⟨bm, ob, e1, e2, e3, e4, e5, e6, e7, e8⟩ := TB.bm
    obtain ⟨more, rfl⟩ := hmore
    have keep3 : ∀ b u, b ≠ P → s2.heap.get? b = some u → h3.get? b = some u := fun b u hb e => hx b u hb e
    refine wpAny_builtinsFor (m := X.mg) (by rw [I2.ok.glob]; exact (I2.mod.glob.keeps I2.bk).extBut hx TB.gP) e1 e2 (keep3 _ _ e4 (I2.bk _ _ e5)) e6 e7 e8 ?_
    intro h' hns hsb
    have hPlt : P < s2.heap.objs.size := Heap.lt_size hPs
    generalize hs4 : ({ s2 with heap := h3, toks := tk } : Shared) = s4 at hns hsb ⊢
    have h4 : s4.heap = h3 := by rw [← hs4]
    have I4 : Inv X pins σ (upd H1 P (.tbl (ps ++ more))) s4 := by
      rw [← hs4]
      exact inv_tab (more := more) (h' := h3) (g' := s2.gens) (d' := s2.drawn) (t' := tk) I2 hP keep3 hP3 I2.bare
    have nP : ∀ b ∈ fp, b ≠ P := fun b hb z => by have := (f2 b hb).1; rw [z, hP] at this; cases this
    have keepF : ∀ b o, s4.heap.get? b = some o → (h'.push { cls := .type "generator", data := .fields #[.int s4.gens.size 0, .str "<genexpr>" (s4.toks + 1), .str (X.env.qual ++ "<genexpr>") (s4.toks + 1 + 1)] }).get? b = some o := fun b o e =>
      Heap.get?_push_of_some _ (hsb.extBut b o (Nat.ne_of_lt (Heap.lt_size e)) (Heap.get?_push_of_some _ e))
    have hsz' : h'.objs.size = s4.heap.objs.size + 1 := by rw [hsb.1, Heap.size_push]
    have f4 : ∀ b ∈ fp, FpOk X pins (upd H1 P (.tbl (ps ++ more))) b ∧ b < s4.heap.objs.size := fun b hb => by
      obtain ⟨o, e, _⟩ := T.obj _ _ st2 b hb
      exact ⟨⟨by rw [upd_ne (nP b hb)]; exact (f2 b hb).1, (f2 b hb).2⟩, by rw [h4]; exact Heap.lt_size (keep3 b o (nP b hb) e)⟩
    obtain ⟨W, ⟨m0, w0⟩, turn⟩ := q (upd H1 P (.tbl (ps ++ more))) ⟨⟨_, upd_same, ht3⟩, fun b hb => upd_ne hb⟩
    generalize hgo : ({ cls := .type "generator", data := .fields #[.int s4.gens.size 0, .str "<genexpr>" (s4.toks + 1), .str (X.env.qual ++ "<genexpr>") (s4.toks + 1 + 1)] } : Obj) = go at keepF ⊢
    have hB : X.A.in1.in1.handled = none := hh
    have hga : (h'.push go).get? h'.objs.size = some go := by rw [← hgo]; exact Heap.get?_push_size _ rfl
    have hgen : ∀ h : Heap, h.get? h'.objs.size = some go → h.IsGen h'.objs.size s4.gens.size := fun h e => ⟨go, _, _, e, by rw [← hgo], by rw [← hgo], by rw [← hgo]⟩
    have I6 := gx_start (A := X.A.in1.in1) (code := code) (itv := .ref it) (fp := fp) (go := go) (ga := h'.objs.size) (s6 := { s4 with gens := s4.gens.push (.fresh (.compStart (.GeneratorExp elt [⟨.Name x px, iter, [], 0⟩] scope gpos) 0 (.ref it) .none (genEnv scope (cloFrom X.env.cells scope.names []) s4.heap.objs.size code builtinsNs X.env))), toks := s4.toks + 1 + 1 + 1, heap := h'.push go })
      I4 S hjs hjl hB I4.ok.frames f4 keepF rfl (AllBare.push I4.bare rfl) (hns.push _) hga (by omega) (fun v z => by rw [← hgo] at z; cases z)
    have pe := hel (X.A.in1.in1.deeper (genEnv scope (cloFrom X.env.cells scope.names []) s4.heap.objs.size code builtinsNs X.env)) (cloFrom X.env.cells scope.names []) s4.heap.objs.size code s4 (upd H1 P (.tbl (ps ++ more))) fp [(h'.objs.size, go)] (hr.in1.in1.deeper _)
    have back : ∀ {pins' : List (Addr × Obj)} {σ' : L2.St} {H' : Hp} {s' : Shared}, Inv (gx X (X.A.in1.in1.deeper (genEnv scope (cloFrom X.env.cells scope.names []) s4.heap.objs.size code builtinsNs X.env)) (x :: caps) (genEnv scope (cloFrom X.env.cells scope.names []) s4.heap.objs.size code builtinsNs X.env) s4 (upd H1 P (.tbl (ps ++ more))) fp [(h'.objs.size, go)]) pins' σ' H' s' → Inv X pins σ H' s' := fun {pins' σ' H' s'} I' =>
      I4.call' (ch := fp) I'.os I'.base I'.hok I'.bare fun b hb => ⟨(f4 b hb).1.2.2.2.1, (f4 b hb).1.2.1, (f4 b hb).1.2.2.2.2.1, (f4 b hb).1.2.2.2.2.2⟩
    generalize hG : genEnv scope (cloFrom X.env.cells scope.names []) s4.heap.objs.size code builtinsNs X.env = genv at I6 pe back ⊢
    have hGs : genv.scope = scope := by rw [← hG]; rfl
    refine Calls.spliced_nil ?_
    refine call_function_tree F.kind_all F.plain_all F.entry_all (F.args_all1 _) ?_
    unfold Builtin.«all»
    refine wpAny_bind (m := oneArg "all" _) (wpAny_pure ?_)
    refine wpAny_bind (wpAny_pyIter_gen (hgen _ hga) ?_)
    refine wpAny_pure ⟨plainId_quiet F.plain_all_loop _, ?_⟩
    have hgl : s4.gens.size < (s4.gens.push (.fresh (.compStart (.GeneratorExp elt [⟨.Name x px, iter, [], 0⟩] scope gpos) 0 (.ref it) .none genv))).size := by rw [Array.size_push]; omega
    have I7 : Inv (gx X (X.A.in1.in1.deeper genv) (x :: caps) genv s4 (upd H1 P (.tbl (ps ++ more))) fp [(h'.objs.size, go)]) [] (none :: capsOf σ js) (upd H1 P (.tbl (ps ++ more))) (({ s4 with gens := s4.gens.push (.fresh (.compStart (.GeneratorExp elt [⟨.Name x px, iter, [], 0⟩] scope gpos) 0 (.ref it) .none genv)), toks := s4.toks + 1 + 1 + 1, heap := h'.push go } : Shared).setGen s4.gens.size .running) :=
      Ke.inv ⟨_, allBare_setGen I6.bare rfl, rfl⟩ I6
    have st6 : tn 0 (h'.push go) := T.keep _ _ _ st2 fun b hb o e => keepF b o (by rw [h4]; exact keep3 b o (nP b hb) e)
    have nfp : ∀ b ∈ fp, (upd H1 P (.tbl (ps ++ more))) b = none := fun b hb => (f4 b hb).1.1
    refine all_ga (Y := gx X (X.A.in1.in1.deeper genv) (x :: caps) genv s4 (upd H1 P (.tbl (ps ++ more))) fp [(h'.objs.size, go)]) (fp := fp) (tn := tn) (σ0 := none :: capsOf σ js) (W := W) (QT := fun H' => Q (.bl true) H') (QF := fun H' => Q (.bl false) H') rfl hh hdp ⟨go, List.mem_singleton.mpr rfl, hgen⟩
      (fun s' σ' H' I' q' => ⟨.bl true, H', back I', rfl, q'⟩) (fun s' pins' σ' H' I' q' => ⟨.bl false, H', back I', rfl, q'⟩) (m0 + 1) _ (hgen _ hga) I6.nolimit ⟨_, Array.getElem?_push_size .., rfl, ?_⟩
    refine seg_ga0 (Y := gx X (X.A.in1.in1.deeper genv) (x :: caps) genv s4 (upd H1 P (.tbl (ps ++ more))) fp [(h'.objs.size, go)]) (J := J) (fp := fp) (tn := tn) rfl T st6 ?_
    refine seg_ga (Y := gx X (X.A.in1.in1.deeper genv) (x :: caps) genv s4 (upd H1 P (.tbl (ps ++ more))) fp [(h'.objs.size, go)]) (g := gName 0) (te := te) rfl rfl (fun p hp b hb => ?_) rfl (by rw [show (gx X (X.A.in1.in1.deeper genv) (x :: caps) genv s4 (upd H1 P (.tbl (ps ++ more))) fp [(h'.objs.size, go)]).env.scope = scope from hGs]; exact S.co) rfl T ?_ pe turn (m0 + 1) 0 m0 _ _ _ (Nat.lt_succ_self _) I7 st6 nfp w0
    · rw [List.mem_singleton.mp hp]
      show h'.objs.size ≠ b
      have h9 : h'.objs.size = s4.heap.objs.size + 1 := hsz'
      rw [h9]
      exact Nat.ne_of_gt (Nat.lt_succ_of_lt (f4 b hb).2)
    · have hlk : genv.scope.names.lookup x = some .local := by rw [hGs]; exact S.loc
      exact pg_name (by exact S.nd) rfl (.inl hlk) (.inr hlk)
  refine ⟨I2.nolimit, ?_⟩
  cases hf : codeAmong gpos ps.toList with
  | none =>
    refine wpAny_genexprCodeX hcode (cd.code hPs ht) (cd.tab hPs) hf fun c' h' tk hx hge hlt hco' _ htab' _ => ?_
    obtain ⟨o1, vs, f1, tf, fl, tg, inF, tx, tt, op, _, _, _, _, _, _, _, _, _, htr, _⟩ := hco'
    exact cont _ h' tk _ hx (Nat.le_trans hge (Nat.le_of_lt hlt)) htab'.2 ⟨_, rfl⟩ htr
  | some cv =>
    refine wpAny_genexprCode_hit hcode (cd.code hPs ht) hf ?_
    exact cont cv s2.heap s2.toks ps (Heap.ExtBut.refl _ _) (Nat.le_refl _) hPs ⟨#[], by simp⟩ ht
end
end GA

set_option Elab.async false
set_option linter.all false
set_option maxRecDepth 100000
set_option maxHeartbeats 1000000
/-! Dn6: all of a generator expression; defs. -/
namespace Dn
open PySem PySem.Spec PyProof.Rows L2
open Classical
section
variable {X : Cx} {E : XT} {pos : Pos} {a b c tg iter : Expr} {f g h : Den W}
noncomputable def allD (f : Den W) (caps : Sl) (on : Option Nat) (all : List W) : List W → Store → Option (Res W)
  | [], st => if stays st (on, all) then okW (.bl true) st else none
  | w :: ws, st => if stays st (on, all) then match f (some w :: caps) st with
      | some (.ok (.bl k) st1) => if k = true then allD f caps on all ws st1 else okW (.bl false) st1
      | _ => none
    else none
def capsW (sl : Sl) (js : List Nat) : Sl := js.map fun j => (sl[j]?).join
noncomputable def eAllG (fi : Den Wk) (js : List Nat) (f : Den W) : Den W := fun sl st => bnd (fi sl st) fun p st1 => allD f (capsW sl js) p.1 p.2 p.2 st1
theorem SvR.caps {K : PySem.W.Frag} {T : List Addr} {α : List Addr} {H : Hp} {sl : Sl} {σ : L2.St} (s : SvR K T α H sl σ) (js : List Nat) {x : V} {w : W} (r : Rep K α H x w) : SvR K T α H (some w :: capsW sl js) (some x :: GA.capsOf σ js) := by
  refine ⟨s.tabs, by simp [capsW, GA.capsOf], fun i w' e => ?_⟩
  cases i with
  | zero => simp at e; subst e; exact ⟨x, by simp, r⟩
  | succ i =>
    have e : (capsW sl js)[i]? = some (some w') := by simpa using e
    unfold capsW at e
    rw [List.getElem?_map] at e
    cases q : js[i]? with
    | none => rw [q] at e; cases e
    | some j =>
      rw [q] at e
      simp only [Option.map_some, Option.some.injEq] at e
      have e2 : sl[j]? = some (some w') := by
        cases q2 : sl[j]? with
        | none => rw [q2] at e; cases e
        | some o => rw [q2] at e; cases o with
          | none => cases e
          | some o => cases e; rfl
      obtain ⟨v, h1, h2⟩ := s.at_ j w' e2
      refine ⟨v, ?_, h2⟩
      show (GA.capsOf σ js)[i]? = _
      unfold GA.capsOf
      rw [List.getElem?_map, q]
      simp [h1]
theorem tabbed_fr {P : Addr} {H H' : Hp} (t : TabAt H P) (h : GxR.Tabbed P H H') : Fr H H' := fun a o e => by
  by_cases hb : a = P
  · subst hb
    obtain ⟨ps, h1, h2⟩ := t
    obtain ⟨⟨ps', h3, h4⟩, _⟩ := h
    rw [h1] at e; cases e
    exact ⟨ps', h3, fun _ => h4⟩
  · rw [h.2 a hb, e]; exact Stays.refl o
theorem ev_allG {K : PySem.W.Frag} {mg : Str → Option Value} {wi : TI} {fi : Den Wk} {P : Addr} {js : List Nat} (hP : P ∈ E.T) (hi : Ev K mg (JOk K) wi fi E) :
    Ev K mg (Rep K) (GA.tAllG P js wi (tD K mg (Rep K) f E.no)) (eAllG fi js f) E := by
  intro sl st res α σ H Q e hs hst hPo
  refine hi.bind hs hst e hPo fun p st1 α1 J H1 e1 p1 f1 rJ s1 => ?_
  obtain ⟨on, all⟩ := p
  have hP1 := hPo.mono p1 f1
  have hs1 := hs.mono p1 f1
  have tP := hs1.tabs P hP
  refine ⟨tP, fun H2 ht => ?_⟩
  have f2 : Fr H1 H2 := tabbed_fr tP ht
  have s2 : StR K α1 H2 st1 := s1.keep f2 fun a xs _ e => by
    obtain ⟨ps, h1, _⟩ := tP
    rw [ht.2 a (fun z => by rw [z, h1] at e; cases e)]; exact e
  refine ⟨fun i m H' => m = all.length - i ∧ i ≤ all.length ∧ ∃ α' st', α1 <+: α' ∧ Fr H1 H' ∧ StR K α' H' st' ∧ allD f (capsW sl js) on all (all.drop i) st' = some res, ⟨_, rfl, Nat.zero_le _, α1, st1, List.prefix_refl _, f2, s2, by simpa using e1⟩, ?_⟩
  rintro i m H' ⟨rfl, hil, α', st', pa, fa, ts, ef⟩
  by_cases hlt : i < all.length
  · rw [List.drop_eq_getElem_cons hlt] at ef
    unfold allD at ef
    split at ef
    · rename_i hst'
      obtain ⟨_, hjj⟩ := rJ α' H' st' pa fa ts hst' i
      obtain ⟨hgo, hy⟩ := hjj all[i] (List.getElem?_eq_getElem hlt)
      refine .inr ⟨hgo, fun H3 => ∃ α2 st2, α1 <+: α2 ∧ Fr H1 H3 ∧ StR K α2 H3 st2 ∧ allD f (capsW sl js) on all (all.drop (i + 1)) st2 = some res, fun H3 h => ⟨_, (by omega : all.length - (i + 1) < all.length - i), rfl, hlt, h⟩, fun x H3 yl => ?_⟩
      obtain ⟨fy, ty, ry⟩ := hy x H3 yl
      refine ⟨fun j v hj => ?_, ?_⟩
      · cases j with
        | zero => simp at hj
        | succ j => simpa using hj
      split at ef
      · rename_i k st2 hf
        refine ⟨some all[i] :: capsW sl js, st', _, α', hf, ((hs1.mono pa fa).mono (List.prefix_refl _) fy).caps js ry, ty, fun α4 y H4 p4 f4 r4 t4 => ?_⟩
        cases r4 with
        | bl =>
          refine ⟨k, rfl, ?_⟩
          cases k with
          | true => exact iteT ⟨α4, st2, pa.trans p4, (fa.trans fy).trans f4, t4, by simpa using ef⟩
          | false => exact iteF (Post.now (w := W.bl false) (by simpa using ef) (((hP1.mono pa fa).mono (List.prefix_refl _) fy).mono p4 f4) (.bl _) t4)
      · cases ef
    · cases ef
  · have hi' : i = all.length := by omega
    subst hi'
    rw [List.drop_length] at ef
    unfold allD at ef
    split at ef
    · rename_i hst'
      obtain ⟨hjj, _⟩ := rJ α' H' st' pa fa ts hst' all.length
      exact .inl ⟨hjj rfl, Post.now ef (hP1.mono pa fa) (.bl _) ts⟩
    · cases ef
theorem d_allG {cc P : Addr} {elt : Expr} {x : Str} {px p gpos : Pos} {scope : Scope} (caps : List Str) (js : List Nat) {fi : Den Wk} {k : Nat}
    (hr : Room (k + 3) X.A) (hc : X.calm = true) (hg : Gl X "all") (hm : X.mg "all" = none) (TB : GxR.TabB X.base X.mg cc P) (hcode : X.env.code = .ref cc) (hPT : P ∈ E.T) (S : GA.GSc X.env.scope scope x caps)
    (hjs : ∀ (k : Nat) (y : Str), caps[k]? = some y → ∃ j, js[k]? = some j ∧ X.N[j]? = some y) (hjl : js.length = caps.length) (hi : DI X E (.Name x px) iter fi)
    (hel : ∀ (A' : Around) (cl : List (Str × Addr)) (C : Addr) (code : Value) (s : Shared) (H : Hp) (fp : List Addr) (pn : List (Addr × Obj)), Room k A' → DE (GA.gx X A' (x :: caps) (genEnv scope cl C code builtinsNs X.env) s H fp pn) E.no elt f)
    (hs : ∀ v, genFold iter X.env v = pure v := by intro _; rfl)
    (he : starEach [.GeneratorExp elt [⟨.Name x px, iter, [], 0⟩] scope gpos] X.env = (false, eval (.GeneratorExp elt [⟨.Name x px, iter, [], 0⟩] scope gpos) X.env) :: starEach [] X.env := by rfl) :
    DE X E (.Call (.Name "all" p) [.GeneratorExp elt [⟨.Name x px, iter, [], 0⟩] scope gpos] [] pos) (eAllG fi js f) := by
  obtain ⟨_, y, z⟩ := hi
  exact ⟨_, GA.pe_allG (te := tD X.K X.mg (Rep X.K) f E.no) hr hc hg hm (by decide +kernel) TB hcode S hjs hjl y (fun A' cl C code s H fp pn r => (hel A' cl C code s H fp pn r).canon) hs he, ev_allG hPT z⟩
/-! ### defs -/
mutual
/-- its places stand below n -/
def below (n : Nat) : W → Bool
  | .tup l => belows n l
  | .frz l => belows n l
  | .loc k => decide (k < n)
  | _ => true
def belows (n : Nat) : List W → Bool
  | [] => true
  | w :: ws => below n w && belows n ws
end
mutual
theorem Rep.back {K : PySem.W.Frag} {α α' : List Addr} {H : Hp} (p : α <+: α') {v : V} {w : W} (r : Rep K α' H v w) (h : below α.length w = true) : Rep K α H v w := by
  cases r with
  | non => exact .non
  | bl b => exact .bl b
  | int i => exact .int i
  | str s => exact .str s
  | tup h1 rs => exact .tup h1 (Reps.back p rs (by simpa [below] using h))
  | loc h1 =>
    refine .loc ?_
    have hn : _ < α.length := of_decide_eq_true h
    obtain ⟨t, rfl⟩ := p
    rw [List.getElem?_append_left hn] at h1
    exact h1
  | ty n => exact .ty n
  | obj a => exact .obj a
  | frz h1 rs => exact .frz h1 (Reps.back p rs (by simpa [below] using h))
theorem Reps.back {K : PySem.W.Frag} {α α' : List Addr} {H : Hp} (p : α <+: α') {vs : List V} {ws : List W} (r : Reps K α' H vs ws) (h : belows α.length ws = true) : Reps K α H vs ws := by
  cases r with
  | nil => exact .nil
  | cons a b =>
    simp only [belows, Bool.and_eq_true] at h
    exact .cons (Rep.back p a h.1) (Reps.back p b h.2)
end
mutual
theorem Rep.bel {K : PySem.W.Frag} {α : List Addr} {H : Hp} {v : V} {w : W} (r : Rep K α H v w) : below α.length w = true := by
  cases r with
  | tup h1 rs => simp only [below]; exact Reps.bel rs
  | frz h1 rs => simp only [below]; exact Reps.bel rs
  | loc h1 => exact decide_eq_true (List.getElem?_eq_some_iff.mp h1).1
  | _ => rfl
theorem Reps.bel {K : PySem.W.Frag} {α : List Addr} {H : Hp} {vs : List V} {ws : List W} (r : Reps K α H vs ws) : belows α.length ws = true := by
  cases r with
  | nil => rfl
  | cons a b => simp only [belows, Bool.and_eq_true]; exact ⟨Rep.bel a, Reps.bel b⟩
end
/-- what a call leaves in the store: what its caller knows; a new list that it answers -/
def okCut (n : Nat) (st st' : Store) : Prop := st'.take n = st ∨ ∀ l ∈ st'.take n, belows n l = true
noncomputable def trim (st : Store) (w : W) (st' : Store) : Res W :=
  if okCut st.length st st' ∧ st.length ≤ st'.length then
    if below st.length w = true then .ok w (st'.take st.length)
    else match w with
      | .loc m => match st'[m]? with
        | some l => if belows st.length l = true then .ok (.loc st.length) (st'.take st.length ++ [l]) else .ok w st'
        | none => .ok w st'
      | _ => .ok w st'
  else .ok w st'
theorem cut_st {K : PySem.W.Frag} {α α' : List Addr} {H H' : Hp} {st st' : Store} (s : StR K α H st) (p : α <+: α') (s' : StR K α' H' st') (h : okCut st.length st st') : StR K α H' (st'.take st.length) := by
  obtain ⟨t, rfl⟩ := p
  have hl : α.length = st.length := s.len
  have hl' := s'.len
  rw [List.length_append] at hl'
  refine ⟨(List.nodup_append.mp s'.nd).1, by rw [List.length_take]; omega, fun n a ws e1 e2 => ?_⟩
  have hn : n < α.length := (List.getElem?_eq_some_iff.mp e1).1
  have e3 : st'[n]? = some ws := by rw [List.getElem?_take_of_lt (by omega)] at e2; exact e2
  obtain ⟨vs, h1, h2⟩ := s'.at_ n a ws (by rw [List.getElem?_append_left hn]; exact e1) e3
  refine ⟨vs, h1, h2.back (List.prefix_append _ _) ?_⟩
  rcases h with h | h
  · rw [h] at e2
    obtain ⟨vs0, _, r0⟩ := s.at_ n a ws e1 e2
    exact r0.bel
  · rw [hl]
    exact h ws (List.mem_of_getElem? e2)
theorem trim_post {K : PySem.W.Frag} {mg : Str → Option Value} {α : List Addr} {H : Hp} {Q : VK} {st st' : Store} {w : W} (s : StR K α H st) (h : Post K mg (Rep K) α H Q E (trim st w st')) : Post K mg (Rep K) α H Q E (.ok w st') := by
  unfold trim at h
  split at h
  · rename_i hc
    split at h
    · rename_i hb
      intro α' v H' p f r s'
      exact h α v H' (List.prefix_refl _) f (r.back p (by rw [s.len]; exact hb)) (cut_st s p s' hc.1)
    · rename_i hbel
      cases w with
      | loc m =>
        simp only at h
        cases hm : st'[m]? with
        | none => rw [hm] at h; exact h
        | some l =>
          rw [hm] at h
          simp only at h
          split at h
          · rename_i hb
            intro α' v H' p f r s'
            cases r with
            | loc h1 =>
              rename_i a
              obtain ⟨vs, q1, q2⟩ := s'.at_ m a l h1 hm
              have s2 := cut_st s p s' hc.1
              have hna : a ∉ α := fun hmem => by
                obtain ⟨n, hn⟩ := List.mem_iff_getElem?.mp hmem
                have := nd_ix s'.nd h1 (pre_get p hn)
                subst this
                exact hbel (decide_eq_true (by rw [← s.len]; exact (List.getElem?_eq_some_iff.mp hn).1))
              have hl : (st'.take st.length).length = st.length := by rw [List.length_take]; omega
              refine h (α ++ [a]) (.ref a) H' (List.prefix_append _ _) f (.loc (by rw [← s.len]; simp)) ⟨?_, by simp [s.len, hl, hc.2], fun n b ws e1 e2 => ?_⟩
              · rw [List.nodup_append]
                exact ⟨s.nd, by simp, fun x hx y hy => by rw [List.mem_singleton.mp hy]; exact fun z => hna (z ▸ hx)⟩
              · by_cases hn : n < α.length
                · rw [List.getElem?_append_left hn] at e1
                  rw [List.getElem?_append_left (by rw [hl, ← s.len]; exact hn)] at e2
                  obtain ⟨vs', z1, z2⟩ := s2.at_ n b ws e1 e2
                  exact ⟨vs', z1, z2.mono (List.prefix_append _ _) (Fr.refl _)⟩
                · have hlt := (List.getElem?_eq_some_iff.mp e1).1
                  have hn' : n = α.length := by simp at hlt; omega
                  subst hn'
                  simp at e1
                  subst e1
                  rw [s.len, List.getElem?_append_right (by rw [hl]; exact Nat.le_refl _), hl, Nat.sub_self] at e2
                  simp at e2
                  subst e2
                  exact ⟨vs, q1, (q2.back p (by rw [s.len]; exact hb)).mono (List.prefix_append _ _) (Fr.refl _)⟩
          · exact h
      | _ => exact h
  · exact h
noncomputable def trimE (st : Store) (x : Er) (st' : Store) : Res W := if okCut st.length st st' ∧ belows st.length (x.fs.map (·.2)) = true then .er x (st'.take st.length) else .er x st'
theorem trimE_post {K : PySem.W.Frag} {mg : Str → Option Value} {α : List Addr} {H : Hp} {Q : VK} {st st' : Store} {x : Er} (s : StR K α H st) (h : Post K mg (Rep K) α H Q E (trimE st x st')) : Post K mg (Rep K) α H Q E (.er x st' : Res W) := by
  unfold trimE at h
  split at h
  · rename_i hc
    intro α' c d H' p f r s'
    refine h α c d H' (List.prefix_refl _) f ⟨r.1, ?_⟩ (cut_st s p s' hc.1)
    have r2 := r.2
    cases d with
    | none => exact r2
    | some a =>
      obtain ⟨fs, h1, h2, h3⟩ := r2
      exact ⟨fs, h1, h2, h3.back p (by rw [s.len]; exact hc.2)⟩
  · exact h
/-- a def, by its body: n parameters, m names -/
noncomputable def fnD (n m : Nat) (u : SD) : FD := fun ws st => if ws.length = n then match u (ws.map some ++ List.replicate (m - n) none) st with
    | some (.nx _ st') => some (trim st .non st')
    | some (.rt w st') => some (trim st w st')
    | some (.er x st') => some (trimE st x st')
    | _ => none
  else none
theorem sv_start {K : PySem.W.Frag} {T : List Addr} {α : List Addr} {H : Hp} {N : List Str} {vs : List V} {ws : List W} (ht : ∀ P ∈ T, TabAt H P) (r : Reps K α H vs ws) : SvR K T α H (ws.map some ++ List.replicate (N.length - vs.length) none) (L2.start N vs) := by
  refine ⟨ht, by unfold L2.start; simp [r.length], fun i w e => ?_⟩
  unfold L2.start
  by_cases hi : i < ws.length
  · rw [List.getElem?_append_left (by simpa using hi), List.getElem?_map] at e
    obtain ⟨w', h1, h2⟩ : ∃ w', ws[i]? = some w' ∧ some w' = some w := by
      cases q : ws[i]? with
      | none => rw [q] at e; cases e
      | some w' => rw [q] at e; exact ⟨w', rfl, by simpa using e⟩
    cases h2
    obtain ⟨v, h3, h4⟩ := r.get h1
    exact ⟨v, by rw [List.getElem?_append_left (by rw [List.length_map, r.length]; exact hi), List.getElem?_map, h3]; rfl, h4⟩
  · rw [List.getElem?_append_right (by simpa using Nat.le_of_not_lt hi), List.getElem?_replicate] at e
    split at e <;> cases e
theorem fn_ok {P : Program} {w : World} {K : PySem.W.Frag} {mg : Str → Option Value} {base : Heap} {k : Nat} {fa : Addr} {name qual : Str} {params : Arguments} {body : List Stmt} {scope : Scope} {dV kV doc pm cdv ct oc : Value} {an od : Option Addr}
    {osl : Array (Option Value)} {N ps : List Str} {T : List Addr} {u : SD} (lk : K.lookup fa = some ⟨oc, od, .func (PySem.W.fnOf name qual params body scope dV kV doc pm an cdv ct), osl⟩) (hcd : PySem.W.codeIn K cdv qual = true) (S : FnScope N ps scope)
    (hbody : ∀ (A : Around) (outer : List Env) (s : Shared) (H : Hp) (E : XK), Room k (A.deeper (envOfC qual scope s.heap.objs.size fa cdv)) → DSs (cxOf (L2.CX P w) P w K mg base N qual scope fa cdv A outer s H E) ⟨E, T⟩ body u) :
    FnOk P w K mg base (L2.CX P w) (k + 1) fa (PySem.W.fnOf name qual params body scope dV kV doc pm an cdv ct) ps (spD K mg T ps.length (fnD ps.length N.length u)) := by
  refine fn_of lk hcd S spD_len fun A outer s H vs Q E hr hsp => ?_
  obtain ⟨hl, ht, α, ws, st, r, rv, rs, e, hP⟩ := hsp
  obtain ⟨t, h1, h2⟩ := hbody A outer s H E hr
  refine ⟨t, h1, ?_⟩
  have hwl : ws.length = ps.length := by rw [← rv.length]; exact hl
  unfold fnD at e
  rw [if_pos hwl] at e
  have hsv := sv_start (N := N) ht rv
  rw [hl] at hsv
  cases q : u (ws.map some ++ List.replicate (N.length - ps.length) none) st with
  | none => rw [q] at e; cases e
  | some o =>
    rw [q] at e
    refine h2 _ st o α _ H _ q hsv rs ?_
    cases o with
    | nx sl st' => cases e; exact fun α' σ' H' p f s' t' => trim_post rs hP α' .non H' p f .non t'
    | rt w st' => cases e; exact fun α' v H' p f r' t' => trim_post rs hP α' v H' p f r' t'
    | er x st' => cases e; exact fun α' c d H' p f r' t' => trimE_post rs hP α' c d H' p f r' t'
    | bk sl st' => cases e
    | ct sl st' => cases e
end
end Dn

set_option Elab.async false
set_option linter.all false
set_option maxRecDepth 100000
set_option maxHeartbeats 1000000
/-! Dn7: a list or a tuple walked; methods; sets sorted. -/
namespace Dn
open PySem PySem.Spec PyProof.Rows L2
open Classical
section
variable {X : Cx} {E : XT} {pos : Pos} {a b c tg iter : Expr} {f g h : Den W}
def iSeqA (K : PySem.W.Frag) (tl : TE) : TI := fun σ H R => tl σ H fun x H1 => ∃ a, x = .ref a ∧ (((∃ xs, SqL K H1 a xs) ∧ R (Itl K a) H1) ∨ ((∃ xs, SqT K H1 a xs) ∧ R (Itt K a) H1))
theorem pi_seqA {l : Expr} {tl : TE} (hl : PE X l tl) : PI X tg l (iSeqA X.K tl) := by
  refine ⟨fun pins s σ H R I h => ?_⟩
  refine thn (hl.run pins s σ H _ I h) fun v s1 ⟨x, H1, I1, r1, q1⟩ => ?_
  obtain ⟨a, e, q1⟩ := q1
  subst e
  cases r1
  have fin : ∀ b ∈ [s1.heap.objs.size], FpOk X pins H1 b := fun b hb => by
    have e : b = s1.heap.objs.size := by simpa using hb
    subst e
    exact I1.fpOk (Nat.le_refl _) (I1.hok.fresh (Nat.le_refl _))
  rcases q1 with ⟨⟨xs, hq⟩, q⟩ | ⟨⟨xs, hq⟩, q⟩
  · obtain ⟨its, rv, p, hz⟩ := I1.list hq
    refine wpAny_pyIter_list p.isList ?_
    exact ⟨s1.heap.objs.size, [s1.heap.objs.size], _, _, H1, rfl, I1.kept (t' := s1.toks) fun b o e => Heap.get?_push_of_some _ e, turn_list a _, ⟨_, Heap.get?_push_size _ rfl, rfl, rfl⟩, fin, q⟩
  · obtain ⟨its, rv, p, hz⟩ := I1.tuple hq
    refine wpAny_pyIter_tuple (show s1.heap.IsTuple a its.toArray from p) ?_
    exact ⟨s1.heap.objs.size, [s1.heap.objs.size], _, _, H1, rfl, I1.kept (t' := s1.toks) fun b o e => Heap.get?_push_of_some _ e, turn_tuple a _, ⟨_, Heap.get?_push_size _ rfl, rfl, rfl⟩, fin, q⟩
/-- a tuple, a list -/
def wkQ (f : Den W) : Den Wk := fun sl st => bnd (f sl st) fun w st1 => match w with
  | .tup l => okW (none, l) st1
  | .loc n => match st1[n]? with
    | some l => okW (some n, l) st1
    | none => none
  | _ => none
theorem i_seq (h : DE X E a f) : DI X E tg a (wkQ f) := by
  obtain ⟨_, x, y⟩ := h
  refine ⟨_, pi_seqA x, fun sl st res α σ H Q e hs hst hP => y.bind hs hst e hP fun w st1 α1 v H1 e1 p1 f1 rx s1 => ?_⟩
  cases rx with
  | tup h1 r1 => exact ⟨_, rfl, .inr ⟨⟨_, h1⟩, Post.now e1 (hP.mono p1 f1) (jok_tup h1 r1) s1⟩⟩
  | loc h1 =>
    obtain ⟨l, vs, a1, a2, a3⟩ := s1.loc h1
    simp only [a1] at e1
    exact ⟨_, rfl, .inl ⟨⟨vs, .inl (.inl a2)⟩, Post.now e1 (hP.mono p1 f1) (jok_list h1) s1⟩⟩
  | _ => cases e1
/-! ### methods -/
variable {apos cpos : Pos}
def eRev (f : Den W) : Den W := fun sl st => bnd (f sl st) fun x st1 => match x with
  | .loc n => match st1[n]? with
    | some l => okW .non (st1.set n l.reverse)
    | none => none
  | _ => none
theorem d_reverse (ha : DE X E a f) (hbase : attributeBase a "reverse" X.env (eval a X.env) = eval a X.env := by rfl) (hline : (apos.endLine == cpos.line) = true := by rfl) : DE X E (.Call (.Attribute a "reverse" apos) [] [] cpos) (eRev f) := by
  obtain ⟨ta, pa, qa⟩ := ha
  refine ⟨_, pe_bm0 PySem.F.plainAttrs_list PySem.F.slot_list_reverse PySem.F.type_list_reverse mt_reverse pa hbase hline, fun sl st res α σ H Q e hs hst hP => qa.bind hs hst e hP fun x st1 α1 v H1 e1 p1 f1 rx s1 => ?_⟩
  cases rx with
  | loc h1 =>
    obtain ⟨l, vs, a1, a2, a3⟩ := s1.loc h1
    simp only [a1] at e1
    exact ⟨.inl ⟨rfl, _, .inl (.inl a2)⟩, _, vs, rfl, rfl, a2, Post.setL e1 (hP.mono p1 f1) s1 h1 a2 a3.rev⟩
  | _ => cases e1
def asInt : W → Option Int
  | .int i => some i
  | _ => none
theorem reps_ints {K : PySem.W.Frag} {α : List Addr} {H : Hp} : ∀ {vs : List V} {l : List W} {ns : List Int}, Reps K α H vs l → allS (l.map asInt) = some ns → vs = ns.map V.int := by
  intro vs l
  induction l generalizing vs with
  | nil => intro ns r e; cases r; cases e; rfl
  | cons w l ih =>
    intro ns r e
    cases r with
    | cons a b =>
      cases q : allS (l.map asInt) with
      | none => cases a <;> simp [allS, asInt, q] at e
      | some ns' =>
        cases a <;> simp [allS, asInt, q] at e
        subst e
        rw [ih b q]; rfl
def eCount (f g : Den W) : Den W := fun sl st => bnd (f sl st) fun x st1 => match x with
  | .loc n => bnd (g sl st1) fun y st2 => match y, st2[n]? with
    | .int k, some l => match allS (l.map asInt) with
      | some ns => okW (.int (ns.count k : Nat)) st2
      | none => none
    | _, _ => none
  | _ => none
theorem d_count (ha : DE X E a f) (hb : DE X E b g) (hbase : attributeBase a "count" X.env (eval a X.env) = eval a X.env := by rfl)
    (hfew : ((backTo cpos (starEach [b] X.env)).all (fun x => !x.1) && (backToKw cpos (keywordEach [] X.env)).all (fun x => x.1.isSome)
      && decide ([b].length + ([] : List Keyword).length + (if ([] : List Keyword).isEmpty then 0 else 1) < 30)) = true := by rfl)
    (hline : (apos.endLine == cpos.line) = true := by rfl) (hs : starEach [b] X.env = (false, eval b X.env) :: starEach [] X.env := by rfl) (hplain : (backTo cpos (starEach [] X.env)).any (·.1) = false := by rfl) :
    DE X E (.Call (.Attribute a "count" apos) [b] [] cpos) (eCount f g) := by
  obtain ⟨ta, pa, qa⟩ := ha
  obtain ⟨tb, pb, qb⟩ := hb
  refine ⟨_, pe_bm PySem.F.plainAttrs_list PySem.F.slot_list_count PySem.F.type_list_count mt_lcount pa (pa_cons pb pa_nil hs) hbase hfew hline hs hplain, fun sl st res α σ H Q e hs' hst hP => qa.bind hs' hst e hP fun x st1 α1 v H1 e1 p1 f1 rx s1 => ?_⟩
  split at e1
  · cases rx with | loc h1 =>
    obtain ⟨l, vs, a1, a2, a3⟩ := s1.loc h1
    refine ⟨.inl ⟨rfl, _, .inl (.inl a2)⟩, qb.bind (hs'.mono p1 f1) s1 e1 (hP.mono p1 f1) fun y st2 α2 u H2 e2 p2 f2 ry s2 => ?_⟩
    split at e2
    · rename_i k l2 hl2
      cases ry with | int =>
      split at e2
      · rename_i ns hns
        obtain ⟨vs2, b2, b3⟩ := s2.at_ _ _ l2 (pre_get p2 h1) hl2
        have := reps_ints b3 hns
        subst this
        exact ⟨_, ns, k, rfl, rfl, .inl (.inl b2), Post.now e2 ((hP.mono p1 f1).mono p2 f2) (.int _) s2⟩
      · cases e2
    · cases e2
  · cases e1
/-- sorted(list of ints) -/
def insI (x : Int) : List Int → List Int
  | [] => [x]
  | y :: ys => if x ≤ y then x :: y :: ys else y :: insI x ys
def sortI (l : List Int) : List Int := l.foldr insI []
theorem insI_perm (x : Int) : ∀ l, (insI x l).Perm (x :: l)
  | [] => .refl _
  | y :: ys => by
    unfold insI
    split
    · exact .refl _
    · exact ((insI_perm x ys).cons y).trans (.swap x y ys)
theorem sortI_perm : ∀ l, (sortI l).Perm l
  | [] => .refl _
  | x :: l => (insI_perm x (sortI l)).trans ((sortI_perm l).cons x)
theorem insI_sorted (x : Int) : ∀ l, l.Pairwise (· ≤ ·) → (insI x l).Pairwise (· ≤ ·)
  | [], _ => by simp [insI]
  | y :: ys, h => by
    unfold insI
    split
    · rename_i hxy
      refine List.Pairwise.cons (fun z hz => ?_) h
      rcases List.mem_cons.mp hz with e | hz
      · rw [e]; exact hxy
      · exact Int.le_trans hxy (List.rel_of_pairwise_cons h hz)
    · rename_i hxy
      refine List.Pairwise.cons (fun z hz => ?_) (insI_sorted x ys h.of_cons)
      rcases List.mem_cons.mp ((insI_perm x ys).mem_iff.mp hz) with e | hz
      · rw [e]; omega
      · exact List.rel_of_pairwise_cons h hz
theorem sortI_sorted : ∀ l, (sortI l).Pairwise (· ≤ ·)
  | [] => .nil
  | x :: l => insI_sorted x _ (sortI_sorted l)
theorem sorted_eq : ∀ {l l' : List Int}, l.Perm l' → l.Pairwise (· ≤ ·) → l'.Pairwise (· ≤ ·) → l = l' := fun p a b =>
  p.eq_of_pairwise (le := (· ≤ ·)) (fun x y _ _ h1 h2 => Int.le_antisymm h1 h2) a b
def oSorted : OC := fun ws st => match ws with
  | [.loc n] => match st[n]? with
    | some l => match allS (l.map asInt) with
      | some ns => if ns.length < 64 then okW (.loc st.length) (st ++ [(sortI ns).map .int]) else none
      | none => none
    | none => none
  | _ => none
theorem reps_of_ints {K : PySem.W.Frag} {α : List Addr} {H : Hp} : ∀ ns : List Int, Reps K α H (ns.map V.int) (ns.map W.int)
  | [] => .nil
  | n :: ns => .cons (.int n) (reps_of_ints ns)
theorem b_sorted : CallD X E (.builtin "sorted") oSorted := by
  refine ⟨_, cr_sorted, fun ws st res α H vs Q e r s hP => ?_⟩
  unfold oSorted at e
  split at e
  · cases r with | cons r1 r2 => cases r2; cases r1 with
    | loc h =>
      obtain ⟨ws', vs', h1, h2, h3⟩ := s.loc h
      simp only [h1] at e
      split at e
      · rename_i ns hns
        have := reps_ints h3 hns
        subst this
        split at e
        · rename_i hl
          refine ⟨_, ns, rfl, .inl (.inl h2), hl, fun ns' p pm so hp => ?_⟩
          have : ns' = sortI ns := sorted_eq (pm.trans (sortI_perm ns).symm) so (sortI_sorted ns)
          subst this
          exact Post.newL e hP s (reps_of_ints _) hp
        · cases e
      · cases e
  · cases e
/-! ### calls by name -/
def ALen (fs : Den (List W)) (n : Nat) : Prop := ∀ sl st ws st', fs sl st = some (.ok ws st') → ws.length = n
theorem al_nil : ALen aNil 0 := fun sl st ws st' e => by cases e; rfl
theorem al_cons {fs : Den (List W)} {n : Nat} (h : ALen fs n) : ALen (aCons f fs) (n + 1) := fun sl st ws st' e => by
  cases q : f sl st with
  | none => simp [aCons, bnd, q] at e
  | some r =>
    cases r with
    | er x s => simp [aCons, bnd, q] at e
    | ok w st1 =>
      cases q2 : fs sl st1 with
      | none => simp [aCons, bnd, q, q2] at e
      | some r2 =>
        cases r2 with
        | er x s => simp [aCons, bnd, q, q2] at e
        | ok ws' st2 =>
          simp [aCons, bnd, q, q2, okW] at e
          obtain ⟨rfl, _⟩ := e
          simp [h sl st1 ws' st2 q2]
/-- a def of the text that may be called: where it stands, what it keeps -/
structure Cal (P : Program) (w : World) (K : PySem.W.Frag) (mg : Str → Option Value) (base : Heap) (T : List Addr) (x : Str) (k n : Nat) (f : FD) : Prop where
  ex : ∃ (fa : Addr) (fd : FuncData) (ps : List Str), FnOk P w K mg base (L2.CX P w) k fa fd ps (spD K mg T n f) ∧ mg x = some (.ref fa) ∧ PySem.W.keepIn K (.ref fa) = true ∧ Binds K fd ps []
theorem d_callN {x : Str} {p' : Pos} {es : List Expr} {fs : Den (List W)} {k n : Nat} {fn : FD} (C : Cal X.prog X.w X.K X.mg X.base E.T x k n fn) (hr : Room k X.A) (hg : Gl X x) (hx : Passes (L2.CX X.prog X.w) X E.k)
    (ha : DA X E (a :: es) fs) (hl : ALen fs n) (hdb : (x == ("__debug__" : Str)) = false := by decide) (he : starEach (a :: es) X.env = (false, eval a X.env) :: starEach es X.env := by rfl) (hpl : (backTo pos (starEach es X.env)).any (·.1) = false := by rfl) :
    DE X E (.Call (.Name x p') (a :: es) [] pos) (eCall fn fs) := by
  obtain ⟨fa, fd, ps, F, hm, hk, hb⟩ := C.ex
  exact d_call F hr hg hm hk hb hx ha hl hdb he hpl
/-- what the text says of a def -/
structure Tx (K : PySem.W.Frag) (mg : Str → Option Value) (x : Str) (st : Stmt) (fa : Addr) (cdv : Value) : Prop where
  ex : ∃ (oc : Value) (od : Option Addr) (kV doc pm : Value) (an : Option Addr) (ct : Value) (osl : Array (Option Value)), K.lookup fa = some ⟨oc, od, .func (PySem.W.fnOf x x (defArgs st) (defBody st) (defScope st) .none kV doc pm an cdv ct), osl⟩
  cd : PySem.W.codeIn K cdv x = true
  kp : PySem.W.keepIn K (.ref fa) = true
  mg : mg x = some (.ref fa)
theorem cal_of {P : Program} {w : World} {K : PySem.W.Frag} {mg : Str → Option Value} {base : Heap} {T : List Addr} {x : Str} {st : Stmt} {fa : Addr} {cdv : Value} {N ps : List Str} {k : Nat} {u : SD} (t : Tx K mg x st fa cdv) (S : FnScope N ps (defScope st))
    (hb : ∀ (kV doc pm : Value) (an : Option Addr) (cdv ct : Value) (us : List Value), us.length = ps.length → bindArgs (PySem.W.fnOf x x (defArgs st) (defBody st) (defScope st) .none kV doc pm an cdv ct) ⟨us, []⟩ = pure (ps.zip us))
    (hbody : ∀ (A : Around) (outer : List Env) (s : Shared) (H : Hp) (E : XK), Room k (A.deeper (envOfC x (defScope st) s.heap.objs.size fa cdv)) → DSs (cxOf (L2.CX P w) P w K mg base N x (defScope st) fa cdv A outer s H E) ⟨E, T⟩ (defBody st) u) :
    Cal P w K mg base T x (k + 1) ps.length (fnD ps.length N.length u) := by
  obtain ⟨oc, od, kV, doc, pm, an, ct, osl, lk⟩ := t.ex
  exact ⟨fa, _, ps, fn_ok lk t.cd S hbody, t.mg, t.kp, .all (hb kV doc pm an cdv ct)⟩
/-- what the module has not renamed -/
structure Zs (mg : Str → Option Value) : Prop where
  isinstance : mg "isinstance" = none
  int : mg "int" = none
  bool : mg "bool" = none
  tuple : mg "tuple" = none
  list : mg "list" = none
  len : mg "len" = none
  set : mg "set" = none
  sorted : mg "sorted" = none
  all : mg "all" = none
  range : mg "range" = none
  enumerate : mg "enumerate" = none
  zip : mg "zip" = none
theorem units65 {k : Nat} {A : Around} (r : Room k A) : A.units + 65 < cLine := by have := r.un; omega
theorem d_const {x : Str} {i : Int} (hg : Gl X x) (hm : ∃ t, X.mg x = some (.int i t)) (hd : (x == ("__debug__" : Str)) = false := by decide) : DE X E (.Name x pos) (eC (.int i)) := by
  obtain ⟨t, h⟩ := hm
  exact ⟨_, pe_glob (v := .int i) hg h ⟨t, rfl⟩ hd, ev_c fun _ _ => .int i⟩
end
end Dn

set_option Elab.async false
set_option linter.all false
set_option maxRecDepth 100000
set_option maxHeartbeats 2000000
/-! EnumT: enumerate over a tuple. -/
namespace PySem
open Sem (wp)
open AutoSeq1 (wpAny_loadPart')
theorem meets_enumerate_newT (l : Addr) (items : Array Value) (n : Nat) (dct : Option Addr) (sl : Array (Option Value)) :
    Meets (Builtin.«enumerate.__new__» ⟨[.type "enumerate", .ref l], []⟩) (fun _ R s => s.heap.get? l = some { cls := .type "tuple", dict := dct, data := .seq items n, slots := sl } ∧
      R (.ok (.ret (.ref (s.heap.push { cls := .type "tuple_iterator", data := .fields #[.ref l, .int 0 0] }).objs.size)))
        { s with heap := (s.heap.push { cls := .type "tuple_iterator", data := .fields #[.ref l, .int 0 0] }).push { cls := .type "enumerate", data := .fields #[.none, .bool false, .ref s.heap.objs.size, rawInt 0, .none, .none] } }) :=
  .of_wp fun prog w A R s h => by
    obtain ⟨hp, g, d, tk, os⟩ := s; obtain ⟨hl, h⟩ := h
    have hsub := sub_enumerate
    have hL : Heap.IsTuple (Shared.heap ⟨hp, g, d, tk, os⟩) l items := ⟨_, hl, rfl, n, rfl⟩
    wp_walk using wpAny_loadPart' hl
    refine wpAny_stack_any fun st => wpAny_pure ?_
    split
    · rename_i c _ _ _ _ _
      cases (c == Value.type "enumerate")
      · wp_walk using wpAny_loadPart' hl, wpAny_pyIter_tuple hL
        exact ⟨_, rfl, h⟩
      · wp_walk using wpAny_loadPart' hl, wpAny_pyIter_tuple hL
        exact ⟨_, rfl, h⟩
    · wp_walk using wpAny_loadPart' hl, wpAny_pyIter_tuple hL
      exact ⟨_, rfl, h⟩
section
variable {prog : Program} {w : World} {A : Around} {E : Value → Shared → Prop} {s : Shared}
theorem call_enumerate_tuple {l : Addr} {items : Array Value} {Q : Value → Shared → Prop} (hL : s.heap.IsTuple l items)
    (h : ∀ h', IsEnum h' (s.heap.objs.size + 1) s.heap.objs.size 0 .none → h'.IsTupleIter s.heap.objs.size l 0 → h'.objs.size = s.heap.objs.size + 2 →
      (∀ b o, s.heap.get? b = some o → h'.get? b = some o) → Q (.ref (s.heap.objs.size + 1)) { s with heap := h' }) :
    wpAny (model prog w) A (call (.type "enumerate") [.ref l]) Q E s := by
  obtain ⟨⟨c, dct, dt, sl⟩, hl, hc, n, hd⟩ := hL
  replace hc : c = .type "tuple" := hc
  replace hd : dt = .seq items n := hd
  subst hc hd
  refine callType_new F.called_enumerate (by decide) (F.typeCall_enumerate_1 _) (F.newCall_enumerate_1 _) (fun obj => F.args_object_init_2 obj _) F.entry_enumerate_new
    (meets_enumerate_newT l items n dct sl) ⟨hl, ?_⟩
  have hz : (s.heap.push { cls := .type "tuple_iterator", data := .fields #[.ref l, .int 0 0] }).objs.size = s.heap.objs.size + 1 := Heap.size_push ..
  show _ ∧ _
  rw [hz]
  have he : IsEnum ((s.heap.push { cls := .type "tuple_iterator", data := .fields #[.ref l, .int 0 0] }).push
      { cls := .type "enumerate", data := .fields #[.none, .bool false, .ref s.heap.objs.size, rawInt 0, .none, .none] }) (s.heap.objs.size + 1) s.heap.objs.size 0 .none := by
    have := Heap.get?_push_size (s.heap.push { cls := .type "tuple_iterator", data := .fields #[.ref l, .int 0 0] })
      (o := { cls := .type "enumerate", data := .fields #[.none, .bool false, .ref s.heap.objs.size, rawInt 0, .none, .none] }) rfl
    rw [hz] at this; exact this
  refine ⟨⟨_, he, rfl⟩, h _ he ⟨_, Heap.get?_push_of_some _ (Heap.get?_push_size _ rfl), rfl, rfl⟩ (by rw [Heap.size_push, hz]) fun b o x => Heap.get?_push_of_some _ (Heap.get?_push_of_some _ x)⟩
end
end PySem
namespace L2
open PySem PySem.Spec PyProof.Rows
def IteT (K : PySem.W.Frag) (a : Addr) : It :=
  ⟨fun i H => ∃ (xs : List V) (x : V), SqT K H a xs ∧ xs[i]? = some x, fun i H v H' => ∃ T x, v = .ref T ∧ H T = none ∧ H' = upd H T (.tup [.int (i : Nat), x]) ∧ ∀ xs, SqT K H a xs → xs[i]? = some x, fun i H => ∃ xs : List V, SqT K H a xs ∧ xs.length = i⟩
theorem turn_enumT {P : Program} {w : World} {K : PySem.W.Frag} {elts : List Expr} {kk : Nat} {tpos : Pos} (a e it : Addr) :
    Turn P w K (.Tuple elts kk tpos) (IteT K a) [e, it] e (fun i h => (∃ old, IsEnum h e it ((i : Nat) : Int) old) ∧ h.IsTupleIter it a i ∧ e ≠ it) where
  mem := by simp
  obj := fun i h st b hb => by
    obtain ⟨⟨old, he⟩, ⟨o, ho, hc, hd⟩, _⟩ := st
    have e' : b = e ∨ b = it := by simpa using hb
    rcases e' with z | z
    · rw [z]; exact ⟨_, he, fun v q => nomatch q⟩
    · rw [z]; exact ⟨o, ho, fun v q => by rw [hd] at q; cases q⟩
  keep := fun i h h' st k => let ⟨⟨old, he⟩, hi, hne⟩ := st; ⟨⟨old, k e (by simp) _ he⟩, hi.at fun o q => k it (by simp) o q, hne⟩
  item := by
    intro X hP hw hK hc i pins s σ H E I hf st hg
    subst hP hw hK
    obtain ⟨⟨old, he⟩, hit, hne⟩ := st
    obtain ⟨xs, x, hq, hx⟩ := hg
    obtain ⟨its, rv, p, hz⟩ := I.tuple hq
    obtain ⟨u, hu, ru⟩ := rv.get hx
    have hel : e < s.heap.objs.size := Heap.lt_size he
    have hil : it < s.heap.objs.size := by obtain ⟨_, q, _⟩ := hit; exact Heap.lt_size q
    have pT : s.heap.IsTuple a its.toArray := p
    have hta : a ≠ it := fun z => by
      obtain ⟨o1, q1, q2, _⟩ := pT
      obtain ⟨o2, w1, w2, _⟩ := hit
      rw [z, w1] at q1; cases q1
      rw [w2] at q2; exact absurd q2 (by decide)
    have hea : e ≠ a := fun z => by
      obtain ⟨o1, q1, q2, _⟩ := pT
      rw [← z, he] at q1; cases q1; exact absurd (show Value.type "enumerate" = Value.type "tuple" from q2) (by decide)
    have hlt : i < its.toArray.size := by
      have := (List.getElem?_eq_some_iff.mp hu).1
      simpa using this
    refine wpAny_pyNext_enum_itemD (Draws.tuple (A := X.A.in1) (I.ok.hd hc) it a hta its.toArray) he ⟨hit, pT⟩ hlt hne (by simp [hne, hea]) fun y h' tk hy ho hst' hT hsz hk => ?_
    have hyu : y = u := by
      have e9 : its.toArray[i]? = some y := hy
      have e8 : its[i]? = some y := by simpa using e9
      rw [hu] at e8; cases e8; rfl
    subst hyu
    obtain ⟨hit', _⟩ := hst'
    refine ⟨_, rfl, wpAny_letOwnedTupleGo_enum (s := { s with heap := h', toks := tk + 1 }) ho fun h'' he' sb => ?_⟩
    have hT2 : h''.get? s.heap.objs.size = some { cls := .type "tuple", data := .seq #[.int i tk, y] } := (sb.2 _ (Nat.ne_of_gt hel)).trans hT
    have new : ObjOk X.prog X.w (upd H s.heap.objs.size (.tup [.int (i : Nat), x])) h'' s.heap.objs.size (.tup [.int (i : Nat), x]) :=
      ⟨by show 2 ≤ sizeLine; decide, [.int i tk, y], .cons ⟨_, rfl⟩ (.cons ru .nil), ⟨_, hT2, rfl, _, rfl⟩⟩
    have I1 : Inv X pins σ (upd H s.heap.objs.size (.tup [.int (i : Nat), x])) { s with heap := h'', toks := tk + 1 } :=
      I.turnedNew (ch := [e, it]) (fun b ob hb q => (sb.2 b (fun z => hb (by simp [z]))).trans (hk b ob (fun z => hb (by simp [z])) (fun z => hb (by simp [z])) q)) hf (Nat.le_refl _) new
    refine ⟨.ref s.heap.objs.size, _, I1, rfl, ⟨_, x, rfl, I.hok.fresh (Nat.le_refl _), rfl, fun ys hy => by rw [I.tuple_inj hy hq]; exact hx⟩, ⟨⟨y, ?_⟩, hit'.at fun o q => (sb.2 it (Ne.symm hne)).trans q, hne⟩, fun b hb => ?_⟩
    · have e1 : ((i + 1 : Nat) : Int) = (i : Int) + 1 := by omega
      rw [e1]; exact he'
    · have hb' : b < s.heap.objs.size := by
        have e' : b = e ∨ b = it := by simpa using hb
        rcases e' with z | z
        · rw [z]; exact hel
        · rw [z]; exact hil
      rw [upd_ne (Nat.ne_of_lt hb')]
      exact (hf b hb).1
  done := by
    intro X hP hw hK hc i pins s σ H E I hf st hg
    subst hP hw hK
    obtain ⟨⟨old, he⟩, hit, hne⟩ := st
    obtain ⟨xs, hq, hx⟩ := hg
    obtain ⟨its, rv, p, hz⟩ := I.tuple hq
    have pT : s.heap.IsTuple a its.toArray := p
    have hta : a ≠ it := fun z => by
      obtain ⟨o1, q1, q2, _⟩ := pT
      obtain ⟨o2, w1, w2, _⟩ := hit
      rw [z, w1] at q1; cases q1
      rw [w2] at q2; exact absurd q2 (by decide)
    obtain ⟨f0, f1, f2, f3, f4, f5⟩ := hf it (by simp)
    have hl := rv.length
    have hi : i = its.toArray.size := by simp; omega
    subst hi
    exact wpAny_pyNext_enum_endD (Draws.tuple (A := X.A.in1) (I.ok.hd hc) it a hta its.toArray) he ⟨hit, pT⟩ fun h' eb => ⟨rfl, I.turned (t' := s.toks) (fun b o hb q => eb b o hb q) f0 f1 f3 f4 f5⟩
  self := fun A i s Q E st h => let ⟨⟨_, he⟩, _⟩ := st; wpAny_pyIter_enum he h
def iEnumT (K : PySem.W.Frag) (ta : TA) : TI := fun σ H R => ta σ H fun vs H1 => ∃ a xs, vs = [.ref a] ∧ SqT K H1 a xs ∧ R (IteT K a) H1
theorem pi_enumT {X : Cx} {e : Expr} {ta : TA} {p pos tpos : Pos} {elts : List Expr} {kk : Nat} (hg : Gl X "enumerate") (hm : X.mg "enumerate" = none) (ha : PA X [e] ta) (hs : starEach [e] X.env = [(false, eval e X.env)] := by rfl) :
    PI X (.Tuple elts kk tpos) (.Call (.Name "enumerate" p) [e] [] pos) (iEnumT X.K ta) := by
  refine ⟨fun pins s σ H R I h => ?_⟩
  refine Call_ (ld_blt I hg hm boot_enumerate (PyProof.Rows.callWith_type1 (thn (ha.run pos pins s σ H _ I h) fun us s1 ⟨vs, H1, I1, r1, q1⟩ => ?_) hs rfl))
  obtain ⟨a, xs, ex, hq, q⟩ := q1
  subst ex
  cases r1 with
  | cons r rr =>
    cases rr
    cases r
    obtain ⟨its, rv, p', hz⟩ := I1.tuple hq
    refine call_enumerate_tuple (show s1.heap.IsTuple a its.toArray from p') fun h' he hit hsz hk => wpAny_pyIter_enum he ?_
    have I2 : Inv X pins σ H1 { s1 with heap := h' } := I1.kept (t' := s1.toks) hk
    refine ⟨s1.heap.objs.size + 1, [s1.heap.objs.size + 1, s1.heap.objs.size], _, _, H1, rfl, I2, turn_enumT a (s1.heap.objs.size + 1) s1.heap.objs.size, ⟨⟨.none, he⟩, hit, Nat.succ_ne_self _⟩, fun b hb => ?_, q⟩
    have e' : b = s1.heap.objs.size + 1 ∨ b = s1.heap.objs.size := by simpa using hb
    have hle : s1.heap.objs.size ≤ b := by
      rcases e' with z | z
      · rw [z]; exact Nat.le_add_right _ _
      · rw [z]; exact Nat.le_refl _
    exact I1.fpOk hle (I1.hok.fresh hle)
end L2
namespace Dn
open PySem PySem.Spec PyProof.Rows L2
def enumW (l : List W) : List W := l.mapIdx fun i w => .tup [.int (i : Nat), w]
def wkE (f : Den W) : Den Wk := fun sl st => bnd (f sl st) fun w st1 => match w with
  | .tup l => okW (none, enumW l) st1
  | _ => none
theorem jok_enum {K : PySem.W.Frag} {α : List Addr} {H : Hp} {a : Addr} {vs : List V} {ws : List W} (h : SqT K H a vs) (r : Reps K α H vs ws) : JOk K α H (IteT K a) (none, enumW ws) := by
  intro α' H' st' p f s _ i
  refine ⟨fun e => ⟨vs, f.sqT h, by rw [r.length, e]; simp [enumW]⟩, fun w hw => ?_⟩
  have hw : (enumW ws)[i]? = some w := hw
  unfold enumW at hw
  rw [List.getElem?_mapIdx] at hw
  cases q : ws[i]? with
  | none => rw [q] at hw; cases hw
  | some w0 =>
    rw [q] at hw
    simp only [Option.map_some, Option.some.injEq] at hw
    subst hw
    obtain ⟨v, h1, h2⟩ := r.get q
    refine ⟨⟨vs, v, f.sqT h, h1⟩, fun x H'' y => ?_⟩
    obtain ⟨T, x0, rfl, hT, rfl, hx⟩ := y
    have := hx vs (f.sqT h)
    rw [h1] at this; cases this
    refine ⟨Fr.new hT, s.tup hT, .tup (.inl (.inl upd_same)) (.cons (.int _) (.cons ((h2.mono p f).mono (List.prefix_refl _) (Fr.new hT)) .nil))⟩
theorem i_enumT {X : Cx} {E : XT} {pos p tpos : Pos} {a : Expr} {f : Den W} {elts : List Expr} {kk : Nat} (hg : Gl X "enumerate") (hm : X.mg "enumerate" = none) (ha : DE X E a f) (hs : starEach [a] X.env = [(false, eval a X.env)] := by rfl) : DI X E (.Tuple elts kk tpos) (.Call (.Name "enumerate" p) [a] [] pos) (wkE f) := by
  obtain ⟨_, x, y⟩ := ha
  refine ⟨_, pi_enumT hg hm (pa_cons x pa_nil hs) hs, fun sl st res α σ H Q e hs hst hP => y.bind hs hst e hP fun w st1 α1 v H1 e1 p1 f1 rx s1 => ?_⟩
  cases rx with
  | tup h1 r1 => exact ⟨_, _, rfl, h1, Post.now e1 (hP.mono p1 f1) (jok_enum h1 r1) s1⟩
  | _ => cases e1
end Dn

set_option Elab.async false
set_option linter.all false
set_option maxRecDepth 100000
set_option maxHeartbeats 1000000
/-! Exc1: an own error under an own error under ValueError, whose __init__ says super().__init__(..) first. -/
namespace SU
open PySem PySem.Spec PyProof.Rows L2 Dn
open PySem.W (ksFn ks_superObj kxs_mw ks_superIn clsIn mroIn nsIn subIn)
/-- what the text says of the def and of its class -/
structure Sup (P : Program) (K : PySem.W.Frag) (mg : Str → Option Value) (f D cc cda : Addr) (fd : FuncData) (slf : Str) : Prop where
  fn : ∃ oc od osl, K.lookup f = some ⟨oc, od, .func fd, osl⟩
  par : ∃ ar : Arg, (fd.params.posonlyargs ++ fd.params.args).head? = some ar ∧ ar.arg = slf
  code : ∃ (vs : Array Value) (file : Str) (tf : Tok) (ccl : Value) (cdd : Option Addr) (ccs : Array (Option Value)), K.lookup cda = some ⟨ccl, cdd, .fields vs, ccs⟩ ∧ vs[2]? = some (.str file tf) ∧ ((P.main.file : Str) == file) = true
  cell : ∃ cl cld csl, K.lookup cc = some ⟨cl, cld, .cell (some (.ref D)), csl⟩
  cls : ∃ cd, clsIn K D = some cd
  sub : mroIn K D (.ref D) = some true
  top : (P.main.scope.names.lookup ("super" : Str)).isSome = false
  mg : mg "super" = none
  opq : nsIn K cStatics "thirdparty.any" = some none
  met : ks_superIn K D D "__init__" = some (some (.builtin "ValueError.__init__"))
  ve : subIn K (.ref D) (.type "ValueError") = some true
theorem boot_super : bootBuiltins "super" = some (.type "super") := by
  first | boot_by_name | rfl | kernel_rfl
section
variable {X : Cx} {pins : List (Addr × Obj)} {σ : L2.St} {H : Hp} {s : Shared} {f D cc cda a : Addr} {fd : FuncData} {slf : Str}
/-- the object super(..) -/
theorem sup_base {p0 p1 : Pos} {whole : Sem Value} {body : List Stmt} {Q : Value → Shared → Prop} {i : Nat} (S : Sup X.prog X.K X.mg f D cc cda fd slf) (I : Inv X pins σ H s) (T : OexC X.K D) (e : H a = some (exo a D none))
    (hs : σ[i]? = some (some (.ref a))) (hN : X.N[i]? = some slf) (hself : X.env.scope.names.lookup slf = some .local)
    (hks : X.env.scope.names.lookup ("super" : Str) = some .globalImplicit) (hkc : X.env.scope.names.lookup ("__class__" : Str) = some .free) (hfu : X.env.func = some f) (hco : X.env.code = .ref cda) (hcl : X.env.cells.lookup ("__class__" : Str) = some cc)
    (h : ∀ so s', Inv X pins σ H s' → s'.heap.get? so = some (ks_superObj D a D) → Q (.ref so) s') :
    PySem.wpAt (model X.prog X.w) X.A (.func body X.env) (attributeBase (.Call (.Name "super" p0) [] [] p1) "__init__" X.env whole) Q X.xe s := by
  obtain ⟨oc, od, osl, hf⟩ := S.fn
  obtain ⟨ar, hp, har⟩ := S.par
  obtain ⟨vs, file, tf, ccl, cdd, ccs, hcode, hvs, hfile⟩ := S.code
  obtain ⟨cl, cld, csl, hcell⟩ := S.cell
  obtain ⟨cdD, hD⟩ := S.cls
  obtain ⟨oD, hD1, hD2⟩ : ∃ oD, s.heap.get? D = some oD ∧ oD.data = .cls cdD := by
    unfold PySem.W.clsIn at hD
    split at hD
    · rename_i c d cd' sl ho
      cases hD
      exact ⟨_, I.kIn _ _ ho, rfl⟩
    · cases hD
  obtain ⟨t1, ho⟩ := exo_at I.hok e
  refine PySem.ks_wpAt_super_base (env := X.env) hks hkc (by decide) hfu (I.kIn _ _ hf) rfl hp hco (I.kIn _ _ hcode) rfl hvs hfile S.top ?_
  obtain ⟨mb, hb1, hb2⟩ := I.mod.blt
  refine PySem.W.ks_loadName_global I.ok.kind hks (Calls.loadGlobal_builtin (by rw [I.ok.glob]; exact I.mod.glob.keeps I.bk) S.mg (by rw [I.ok.blt]; exact hb1.keeps I.bk) ((hb2 "super" (by decide)).trans boot_super) ⟨rfl, ?_⟩)
  refine wpAny_loadName_free I.ok.kind hkc hcl ⟨_, I.kIn _ _ hcell, rfl⟩ ?_
  obtain ⟨m, hn, hl⟩ := I.loc
  obtain ⟨u, ru, lk⟩ := hl i slf _ hN hs (.inl hself)
  have hm : m slf = some (.ref a) := by
    obtain rfl : u = Value.ref a := ru
    rcases lk with ⟨_, hm⟩ | ⟨hk, _⟩
    · exact hm
    · have hk' : X.env.scope.names.lookup slf = some .cell ∨ X.env.scope.names.lookup slf = some .free := hk
      rw [hself] at hk'
      rcases hk' with z | z <;> cases z
  rw [har]
  refine wpAny_loadName_local I.ok.kind hself hn hm ?_
  obtain ⟨hh, g, d, t, os⟩ := s
  refine PySem.ks_wpAny_isType_cls hD1 hD2 ⟨rfl, ?_⟩
  refine PySem.ks_wpAny_call_super hD1 hD2 ho rfl (fun c z => by cases z) (PySem.W.looks_mroIn I.kIn S.sub) (fun h' e1 k => ?_)
  exact h _ _ (I.kept (t' := t) k) e1
/-- super().__init__(e, ..) -/
theorem sup_stmt {p0 p1 p2 pos pos' : Pos} {body : List Stmt} {e1 : Expr} {es : List Expr} {ta : TA} {D1 : Ends} {i : Nat} (S : Sup X.prog X.K X.mg f D cc cda fd slf) (I : Inv X pins σ H s) (T : OexC X.K D) (e : H a = some (exo a D none))
    (hs : σ[i]? = some (some (.ref a))) (hN : X.N[i]? = some slf) (hself : X.env.scope.names.lookup slf = some .local)
    (hks : X.env.scope.names.lookup ("super" : Str) = some .globalImplicit) (hkc : X.env.scope.names.lookup ("__class__" : Str) = some .free) (hfu : X.env.func = some f) (hco : X.env.code = .ref cda) (hcl : X.env.cells.lookup ("__class__" : Str) = some cc)
    (ha : PA X (e1 :: es) ta) (hq : ta σ H fun vs H1 => vs.length ≤ 1000 ∧ H1 a = some (exo a D none) ∧ D1.nx σ H1)
    (he : eval (.Call (.Attribute (.Call (.Name "super" p0) [] [] p1) "__init__" p2) (e1 :: es) [] pos) X.env = (do
      let ov ← attributeBase (.Call (.Name "super" p0) [] [] p1) "__init__" X.env (eval (.Call (.Name "super" p0) [] [] p1) X.env)
      standAt p2.atName
      let (f, first) ← holding [ov] (getMethod ov "__init__" pl)
      callWith pos f first (backTo pos (starEach (e1 :: es) X.env)) []) := by rfl)
    (hse : starEach (e1 :: es) X.env = (false, eval e1 X.env) :: starEach es X.env := by rfl) (hpl : (backTo pos (starEach es X.env)).any (·.1) = false := by rfl) :
    PySem.wpAt (model X.prog X.w) X.A (.func body X.env) (exec (.Expr (.Call (.Attribute (.Call (.Name "super" p0) [] [] p1) "__init__" p2) (e1 :: es) [] pos) pos') X.env) (SP X pins D1) X.xe s := by
  obtain ⟨cdD, hD⟩ := S.cls
  refine PySem.ks_wpAt_Expr_any (hi := I.quiet) (PySem.ks_wpAt_MethodCall (sup_base S I T e hs hN hself hks hkc hfu hco hcl fun so s1 I1 hso => ?_) he)
  have na : a ≠ D := fun z => by
    obtain ⟨t1, ho⟩ := exo_at I.hok e
    obtain ⟨nm, q, N, bs, bm, sn, sub, ab, col, dd, k0, k1, k2, k3, k5, hC, hbm⟩ := T.cls
    have := I.kIn _ _ hC
    rw [z] at ho
    rw [ho] at this
    cases this
  obtain ⟨t1, ho1⟩ := exo_at I1.hok e
  obtain ⟨hh, g, d, t, os⟩ := s1
  have It : PySem.W.InstAt hh a { cls := .ref D, dict := none, data := .fields #[.ref t1, .none, .none, .none, .bool false, .none] } D none := ⟨ho1, rfl, rfl, trivial⟩
  have hmet := S.met
  unfold ks_superIn at hmet
  rw [hD] at hmet
  refine PySem.W.kxs_getMethod PySem.W.kxs_ValueError hso (PySem.W.looks_opaque I1.kIn S.opq) (l₀ := cdD.mro) (fun A Q E s k q => wpAny_bind ((PySem.W.looks_clsIn I1.kIn hD) A _ E s k (wpAny_pure q))) rfl I1.kIn hmet (It.type.andThen (PySem.W.looks_subIn I1.kIn S.ve)) na (by decide) ?_
  have I2 : Inv X pins σ H ⟨hh.push (kxs_mw "ValueError.__init__" a), g, d, t + 1, os⟩ := I1.kept (t' := t + 1) fun b o q => Heap.get?_push_of_some _ q
  have hu : (hh.push (kxs_mw "ValueError.__init__" a)).get? hh.objs.size = some (kxs_mw "ValueError.__init__" a) := Heap.get?_push_at rfl rfl
  have I3 : Inv X (pins ++ pinsAt [hh.objs.size] (hh.push (kxs_mw "ValueError.__init__" a))) σ H ⟨hh.push (kxs_mw "ValueError.__init__" a), g, d, t + 1, os⟩ := by
    refine I2.pinned (fun b hb => ?_) fun b hb => ?_
    · obtain rfl : b = hh.objs.size := by simpa using hb
      exact I1.fpOk (Nat.le_refl _) (I1.hok.fresh (Nat.le_refl _))
    · obtain rfl : b = hh.objs.size := by simpa using hb
      exact ⟨_, hu, fun v z => by cases z⟩
  have fin : ∀ us s4, AP X (pins ++ pinsAt [hh.objs.size] (hh.push (kxs_mw "ValueError.__init__" a))) σ (fun vs H1 => vs.length ≤ 1000 ∧ H1 a = some (exo a D none) ∧ D1.nx σ H1) us s4 →
      PySem.W.KxsAt "ValueError.__init__" hh.objs.size a s4.heap ∧ wpAny (model X.prog X.w) X.A (call (.ref hh.objs.size) us) (fun _ => SP X pins D1 .next) X.xe s4 := fun us s4 ⟨vs, H1, I4, r4, hl, e4, q4⟩ => by
    have hu4 : s4.heap.get? hh.objs.size = some (kxs_mw "ValueError.__init__" a) := (I4.pin (hh.objs.size, kxs_mw "ValueError.__init__" a) (List.mem_append_right _ (List.mem_append_right _ (mem_pinsAt (by simp) hu)))).1
    have I5 : Inv X pins σ H1 s4 := I4.unpinned
    refine ⟨hu4, ?_⟩
    have hlen : us.length ≤ sizeLine := by rw [← Paired.length r4, sizeLine_eq]; omega
    obtain ⟨t5, ho5⟩ := exo_at I5.hok e4
    obtain ⟨nm, q, N, bs, bm, sn, sub, ab, col, dd, k0, k1, k2, k3, k5, hC, hbm⟩ := T.cls
    obtain ⟨h5, g5, d5, tk5, os5⟩ := s4
    refine wpAny_call (codeAny_of_tree ?_)
    show wpAny _ X.A.in1 (callAny (.ref hh.objs.size) ⟨us, []⟩) _ _ _
    simp only [callAny]
    refine wpAny_bind (wpAny_load hu4 ?_)
    simp only [kxs_mw, show (Value.type "method-wrapper" == Value.type "method" || Value.type "method-wrapper" == Value.type "builtin_function_or_method" || Value.type "method-wrapper" == Value.type "method-wrapper") = true by decide, if_true]
    refine PySem.W.KFB.if_so (by decide) ?_
    refine wpAny_bind (PySem.W.check_bound_init F.excBase_ValueError.toExcCallFacts (I5.kIn _ _ hC) ho5 rfl ?_)
    refine wpAny_bind (wpAny_pure (wpAny_pure ?_))
    refine ⟨PySem.plainId_quiet F.excBase_ValueError.init.plain _, codeAny_builtin F.excBase_ValueError.initEntry ?_⟩
    refine PySem.W.exc_init_tree (cls := .ref D) (t0 := t5) (dv := none) (c2 := .none) (c3 := .none) (b4 := .bool false) ho5 hlen fun h' k e' t' => ?_
    have J := I5.write (t' := tk5) (x := a) (e := a) (o := exo a D none) (by rw [e4]; exact True.intro) (.inl rfl) k ⟨_, e'⟩ (exo_ok e')
    have eu : upd H1 a (exo a D none) = H1 := by
      funext b
      by_cases hb : b = a
      · rw [hb, upd_same, e4]
      · rw [upd_ne hb]
    rw [eu] at J
    exact ⟨σ, H1, J, q4⟩
  have key := thn (ha.run pos _ _ σ H _ I3 hq) fin
  rw [hse] at key ⊢
  refine PySem.W.kxs_callWith (i := "ValueError.__init__") (x := a) (by show (false || (backTo pos (starEach es X.env)).any (·.1)) = false; rw [hpl]; rfl) ?_
  exact PySem.Calls.evalArgs_plain key
end
/-- the def, by its body: super().__init__(..), then the rest -/
theorem sup_fn {P : Program} {w : World} {K : PySem.W.Frag} {mg : Str → Option Value} {base : Heap} {CX : CXT} {k : Nat} {f D cc cda : Addr} {name qual : Str} {params : Arguments} {rest : List Stmt} {scope : Scope} {dV kV doc pm ct : Value} {an : Option Addr}
    {N ps : List Str} {sp : Sp} {slf : Str} {p0 p1 p2 pos pos' : Pos} {e1 : Expr} {es : List Expr} (body : List Stmt) (hbd : body = .Expr (.Call (.Attribute (.Call (.Name "super" p0) [] [] p1) "__init__" p2) (e1 :: es) [] pos) pos' :: rest)
    (Su : Sup P K mg f D cc cda (PySem.W.fnX name qual params body scope [("__class__", cc)] dV kV doc pm an (.ref cda) ct) slf) (hcd : PySem.W.codeIn K (.ref cda) qual = true) (S : NdefX.NScope N ps ["__class__"] scope) (T : OexC K D)
    (hps : ps[0]? = some slf) (hks : scope.names.lookup ("super" : Str) = some .globalImplicit)
    (len : ∀ vs H Q E, sp vs H Q E → vs.length = ps.length)
    (hbody : ∀ (A : Around) (outer : List Env) (s : Shared) (H : Hp) (vs : List V) (Q : VK) (E : XK), Room k (A.deeper (NdefX.envF ⟨name, qual, params, body, scope, [("__class__", cc)], cda⟩ f s.heap.objs.size)) → sp vs H Q E →
      ∃ (ta : TA) (t : TS) (a : Addr), vs[0]? = some (.ref a) ∧ H a = some (exo a D none) ∧ PA (NdefX.ncx CX P w K mg base N ⟨name, qual, params, body, scope, [("__class__", cc)], cda⟩ f A outer s H E) (e1 :: es) ta ∧
        PSs (NdefX.ncx CX P w K mg base N ⟨name, qual, params, body, scope, [("__class__", cc)], cda⟩ f A outer s H E) rest t ∧
        ta (NdefX.startF N vs [none]) H fun us H1 => us.length ≤ 1000 ∧ H1 a = some (exo a D none) ∧ t { nx := fun _ H' => Q .non H', rt := Q } (NdefX.startF N vs [none]) H1)
    {pl : Env → Sem Bool} (he : ∀ env : Env, eval (.Call (.Attribute (.Call (.Name "super" p0) [] [] p1) "__init__" p2) (e1 :: es) [] pos) env = (do
      let ov ← attributeBase (.Call (.Name "super" p0) [] [] p1) "__init__" env (eval (.Call (.Name "super" p0) [] [] p1) env)
      standAt p2.atName
      let (f, first) ← holding [ov] (getMethod ov "__init__" (pl env))
      callWith pos f first (backTo pos (starEach (e1 :: es) env)) []) := by intro _; rfl)
    (hpl : ∀ env : Env, (backTo pos (starEach es env)).any (·.1) = false := by intro _; rfl) (hse : ∀ env : Env, starEach (e1 :: es) env = (false, eval e1 env) :: starEach es env := by intro _; rfl) :
    FnOk P w K mg base CX (k + 1) f (PySem.W.fnX name qual params body scope [("__class__", cc)] dV kV doc pm an (.ref cda) ct) ps sp := by
  refine ⟨len, fun A outer s H args us vs Q E hr e0 hb r hsp => ?_⟩
  have hl := len _ _ _ _ hsp
  have KX : K.In s.heap := e0.mod.kin.keeps fun b o e => (e0.bs b o e).1
  have lim : s.heap.NoLimit := e0.mod.nolimit.keeps fun b o e => (e0.bs b o e).1
  obtain ⟨oc, od, osl, hf⟩ := Su.fn
  obtain ⟨cl, cld, csl, hcell⟩ := Su.cell
  have hcB : base.get? cc = some ⟨cl, cld, .cell (some (.ref D)), csl⟩ := e0.mod.kin _ _ hcell
  refine PySem.ks_codeAny_call_defAt (fd := PySem.W.fnX name qual params body scope [("__class__", cc)] dV kV doc pm an (.ref cda) ct) (body := body) (binds := ps.zip us) hr.depth (KX _ _ hf) rfl lim (PySem.W.codeRec_of KX hcd) rfl hb S.nocell (fun ⟨n, _⟩ hy => S.par n (List.of_mem_zip hy).1) (fun h₁ hns kp => ?_) S.co S.gen S.kind
  let F : NdefX.NF := ⟨name, qual, params, body, scope, [("__class__", cc)], cda⟩
  have C : NdefX.CellsAt F.cl ["__class__"] [none] s.heap H := by
    have key : ∀ (y : Str) (c : Addr), ([("__class__", cc)] : List (Str × Addr)).lookup y = some c → y = "__class__" ∧ c = cc := fun y c h => by
      by_cases q : y = "__class__"
      · subst q
        simp [List.lookup] at h
        exact ⟨rfl, h.symm⟩
      · have : (y == ("__class__" : Str)) = false := beq_eq_false_iff_ne.mpr q
        simp [List.lookup, this] at h
    refine ⟨rfl, fun y c h => ?_, fun x y c h1 h2 => ?_, fun i y h => ?_⟩
    · obtain ⟨rfl, rfl⟩ := key y c h
      exact ⟨(e0.bs _ _ hcB).2, _, ⟨_, (e0.bs _ _ hcB).1, rfl⟩⟩
    · rw [(key x c h1).1, (key y c h2).1]
    · cases i with
      | succ i => simp at h
      | zero =>
        simp at h
        subst h
        exact ⟨cc, by simp [F, List.lookup], fun v z => by simp at z⟩
  obtain ⟨ta, t, a, h0, ea, pa, prest, q⟩ := hbody A outer s H vs Q E (hr.deeper _) hsp
  have I : Inv (NdefX.ncx CX P w K mg base N F f A outer s H E) [] (NdefX.startF N vs [none]) H { s with heap := h₁, toks := s.toks + (ps.zip us).length } := NdefX.inv_startN S hr.hd e0 hl r C hns kp
  have hps0 : 0 < ps.length := by
    cases ps with
    | nil => simp at hps
    | cons => simp
  have hN : N[0]? = some slf := by
    have z : (N.take (ps.length + 1))[0]? = (ps ++ [("__class__" : Str)])[0]? := by rw [← S.pre]; rfl
    rw [List.getElem?_take_of_lt (by omega), List.getElem?_append_left hps0, hps] at z
    exact z
  have hs0 : (NdefX.startF N vs [none])[0]? = some (some (.ref a)) := by
    unfold NdefX.startF
    rw [List.getElem?_append_left (by rw [List.length_map, hl]; exact hps0), List.getElem?_map, h0]
    rfl
  have hself : scope.names.lookup slf = some .local := S.par slf (List.mem_of_getElem? hps)
  have hkc : scope.names.lookup ("__class__" : Str) = some .free := S.frk _ (by simp)
  subst hbd
  refine PySem.ks_wpAt_execs_cons (PySem.wpAt_mono (sup_stmt (X := NdefX.ncx CX P w K mg base N F f A outer s H E) (D1 := { nx := t { nx := fun _ H' => Q .non H', rt := Q }, rt := fun _ _ => False }) (i := 0) Su I T ea hs0 hN hself hks hkc rfl rfl (by simp [NdefX.ncx, NdefX.envF, F, List.lookup]) pa q (he _) (hse _) (hpl _)) (fun fl s' hs => ?_) fun e s' hs => hs)
  cases fl with
  | next =>
    obtain ⟨σ', H', J, q⟩ := hs
    refine PySem.wpAt_of_wpAny (wpAny_mono (prest.run [] s' σ' H' _ J q) (fun fl s' hs => ?_) fun e s' hs => hs)
    have fin : ∀ {σ' : L2.St} {H' : Hp} {v : V} {u : Value}, Inv (NdefX.ncx CX P w K mg base N F f A outer s H E) [] σ' H' s' → L2.RelV v u → Q v H' → CE outer P w H s Q u s' :=
      fun {σ' H' v u} J rv q => ⟨v, H', J.os, J.bare, J.base, J.hok, rv, q⟩
    cases fl with
    | ret u =>
      obtain ⟨v, σ', H', J, rv, q⟩ := hs
      exact fin J rv q
    | next =>
      obtain ⟨σ', H', J, q⟩ := hs
      exact fin (v := V.non) (u := Value.none) J rfl q
    | brk =>
      obtain ⟨_, _, _, q⟩ := hs
      exact False.elim q
    | cont =>
      obtain ⟨_, _, _, q⟩ := hs
      exact False.elim q
  | ret u =>
    obtain ⟨v, σ', H', J, rv, q⟩ := hs
    exact False.elim q
  | brk =>
    obtain ⟨_, _, _, q⟩ := hs
    exact False.elim q
  | cont =>
    obtain ⟨_, _, _, q⟩ := hs
    exact False.elim q
end SU

set_option Elab.async false
set_option linter.all false
set_option maxRecDepth 100000
set_option maxHeartbeats 1000000
/-! Exc2: BadRound(number, why): made, raised. -/
namespace Dn
open PySem PySem.Spec PyProof.Rows L2
open Classical
/-- what its __init__ promises -/
def spB (D : Addr) : Sp := fun vs H Q E => ∃ (a : Addr) (n : Int) (y : Str), vs = [.ref a, .int n, .str y] ∧ 0 ≤ n ∧ n < 100 ∧ y.length ≤ 1000 ∧ H a = some (exo a D none) ∧
  ∀ dx, H dx = none → dx ≠ a → Q .non (upd (upd (upd H dx (exd dx [("number", .int n)])) a (exo a D (some dx))) dx (exd dx [("why", .str y), ("number", .int n)]))
theorem spB_len {D : Addr} : ∀ vs H Q E, spB D vs H Q E → vs.length = (["self", "number", "why"] : List Str).length := fun vs H Q E ⟨_, _, _, h, _⟩ => by rw [h]; rfl
section
variable {P : Program} {w : World} {K : PySem.W.Frag} {mg : Str → Option Value} {base : Heap} {k : Nat} {fI D cc cda : Addr} {qual : Str} {params : Arguments} {scope : Scope} {dV kV doc pm ct : Value} {an : Option Addr}
theorem init_ok {p0 p1 p2 p3 p4 p5 p6 p7 p8 p9 q1 q2 q3 q4 q5 q6 q7 q8 q9 : Pos} {j1 j2 : Nat} (body : List Stmt)
    (hbd : body = [.Expr (.Call (.Attribute (.Call (.Name "super" p0) [] [] p1) "__init__" p2) [.JoinedStr [.Constant (.str "round ") j1 p3, .FormattedValue (.Name "number" p4) (-1) none p5, .Constant (.str ": ") j2 p6, .FormattedValue (.Name "why" p7) (-1) none p8] p9] [] q1) q2,
      .Assign [.Attribute (.Name "self" q3) "number" q4] (.Name "number" q5) q6, .Assign [.Attribute (.Name "self" q7) "why" q8] (.Name "why" q9) p])
    (Su : SU.Sup P K mg fI D cc cda (PySem.W.fnX "__init__" qual params body scope [("__class__", cc)] dV kV doc pm an (.ref cda) ct) "self") (hcd : PySem.W.codeIn K (.ref cda) qual = true)
    (S : NdefX.NScope ["self", "number", "why", "__class__"] ["self", "number", "why"] ["__class__"] scope) (T : OexC K D) (hks : scope.names.lookup ("super" : Str) = some .globalImplicit)
    {pl : Env → Sem Bool} (he : ∀ env : Env, eval (.Call (.Attribute (.Call (.Name "super" p0) [] [] p1) "__init__" p2) [.JoinedStr [.Constant (.str "round ") j1 p3, .FormattedValue (.Name "number" p4) (-1) none p5, .Constant (.str ": ") j2 p6, .FormattedValue (.Name "why" p7) (-1) none p8] p9] [] q1) env = (do
      let ov ← attributeBase (.Call (.Name "super" p0) [] [] p1) "__init__" env (eval (.Call (.Name "super" p0) [] [] p1) env)
      standAt p2.atName
      let (f, first) ← holding [ov] (getMethod ov "__init__" (pl env))
      callWith q1 f first (backTo q1 (starEach [.JoinedStr [.Constant (.str "round ") j1 p3, .FormattedValue (.Name "number" p4) (-1) none p5, .Constant (.str ": ") j2 p6, .FormattedValue (.Name "why" p7) (-1) none p8] p9] env)) []) := by intro _; rfl)
    (h1 : PySem.W.findIn K (.ref D) "number" = some none) (h2 : PySem.W.findIn K (.ref D) "why" = some none) :
    FnOk P w K mg base (L2.CX P w) (k + 1) fI (PySem.W.fnX "__init__" qual params body scope [("__class__", cc)] dV kV doc pm an (.ref cda) ct) ["self", "number", "why"] (spB D) := by
  refine SU.sup_fn (N := ["self", "number", "why", "__class__"]) body hbd Su hcd S T rfl hks spB_len (he := he) fun A outer s H vs Q E hr hsp => ?_
  obtain ⟨a, n, y, rfl, hn0, hn1, hy, ea, q⟩ := hsp
  have l0 : scope.names.lookup ("self" : Str) = some .local := S.par _ (by simp)
  have l1 : scope.names.lookup ("number" : Str) = some .local := S.par _ (by simp)
  have l2 : scope.names.lookup ("why" : Str) = some .local := S.par _ (by simp)
  have hz : (Str.ofString (toString n)).length ≤ 2 := by
    obtain ⟨m, rfl⟩ := Int.eq_ofNat_of_zero_le hn0
    have : ∀ m : Fin 100, (Str.ofString (toString ((m : Nat) : Int))).length ≤ 2 := by decide +kernel
    exact this ⟨m, by omega⟩
  have hlg : n.natAbs.log2 < 1920 := by
    have : n.natAbs < 100 := by omega
    have h2 : n.natAbs < 2 ^ 7 := by omega
    have := (Nat.log2_lt (n := n.natAbs) (k := 7))
    by_cases h0 : n.natAbs = 0
    · rw [h0]; decide
    · have := (Nat.log2_lt h0).mpr h2
      omega
  refine ⟨_, _, a, rfl, ea, pa_cons (pe_joined (.cons pe_str (.cons (pe_fmt (pe_var (i := 1) rfl (.inl l1))) (.cons pe_str (.cons (pe_fmt (pe_var (i := 2) rfl (.inl l2))) .nil))))) pa_nil,
    pss_cons (ps_ost (pe_var (i := 0) rfl (.inl l0)) (pe_var (i := 1) rfl (.inl l1))) (pss_cons (ps_ost (pe_var (i := 0) rfl (.inl l0)) (pe_var (i := 2) rfl (.inl l2))) pss_nil), ?_⟩
  have sz : 4000 ≤ sizeLine := by rw [sizeLine_eq]; omega
  have z0 : Str.empty.length = 0 := by decide +kernel
  have z1 : (Str.ofString "round ").length = 6 := by decide +kernel
  have z2 : (Str.ofString ": ").length = 2 := by decide +kernel
  refine ⟨_, rfl, ?_, .int n, rfl, .inr ⟨n, rfl, hlg, _, rfl, ?_, _, rfl, ?_, .str y, rfl, .inl ⟨y, rfl, ?_, _, rfl, ?_, ?_⟩⟩⟩
  · (try simp only [Str.length_append, z0, z1, z2]); omega
  · (try simp only [Str.length_append, z0, z1, z2]); omega
  · (try simp only [Str.length_append, z0, z1, z2]); omega
  · (try simp only [Str.length_append, z0, z1, z2]); omega
  · (try simp only [Str.length_append, z0, z1, z2]); omega
  · refine ⟨by simp, ea, .int n, rfl, .ref a, rfl, a, D, rfl, T, h1, .inl ⟨ea, fun dx hd hne => ?_⟩⟩
    refine ⟨.str y, rfl, .ref a, rfl, a, D, rfl, T, h2, .inr ⟨dx, [("number", .int n)], upd_same, ?_, Nat.le_of_ble_eq_true rfl, ?_⟩⟩
    · rw [upd_ne hne, upd_same]
    · exact q dx hd hne
end
/-- BadRound, as the text has it -/
structure XB (P : Program) (w : World) (K : PySem.W.Frag) (mg : Str → Option Value) (base : Heap) : Prop where
  ex : ∃ (D fI : Addr) (fd : FuncData), FnOk P w K mg base (L2.CX P w) 1 fI fd ["self", "number", "why"] (spB D) ∧ OexC K D ∧ PySem.W.findIn K (.ref D) "__init__" = some (some (.ref fI)) ∧ PySem.W.typeIn K (.ref fI) = some (.type "function") ∧
    mg "BadRound" = some (.ref D) ∧ Binds K fd ["self", "number", "why"] []
def badRound (n : Int) (y : Str) : Er := ⟨"BadRound", [("why", .str y), ("number", .int n)]⟩
def sRaise (f : Den (List W)) : SD := fun sl st => bndS (f sl st) fun ws st1 => match ws with
  | [.int n, .str y] => if 0 ≤ n ∧ n < 100 ∧ y.length ≤ 1000 then some (.er (badRound n y) st1) else none
  | _ => none
section
variable {X : Cx} {E : XT} {e : Expr} {es : List Expr} {f : Den (List W)} {p pos rpos : Pos}
theorem ds_raise_BadRound (xb : XB X.prog X.w X.K X.mg X.base) (hr : Room 2 X.A) (hg : Gl X "BadRound") (hc : X.calm = true) (tk : Takes X (fun cls d _ H => E.k cls d H)) (ha : DA X E (e :: es) f)
    (he : starEach (e :: es) X.env = (false, eval e X.env) :: starEach es X.env := by rfl) (hpl : (backTo pos (starEach es X.env)).any (·.1) = false := by rfl) :
    DS X E (.Raise (some (.Call (.Name "BadRound" p) (e :: es) [] pos)) none rpos) (sRaise f) := by
  obtain ⟨D, fI, fd, F1, T, iC, tI, hm, hb⟩ := xb.ex
  obtain ⟨ta, pa, qa⟩ := ha
  refine ⟨_, ps_raise hc tk (pmk_oex T iC tI F1 hr hb .nil passL hg hm pa (by decide) he hpl), fun sl st o α σ H Dn eq hs hst hP => ?_⟩
  refine qa.bindS hs hst eq hP fun ws st1 α1 vs H1 e1 p1 f1 rw1 s1 => ?_
  split at e1
  · rename_i n y
    split at e1
    · rename_i hc
      cases e1
      cases rw1 with | cons r1 r2 =>
      cases r2 with | cons r2 r3 =>
      cases r3
      cases r1
      cases r2
      refine ⟨Nat.le_of_ble_eq_true rfl, fun a ha => ⟨a, n, y, rfl, hc.1, hc.2.1, hc.2.2, upd_same, fun dx hd hne => ?_⟩⟩
      have hda : H1 dx = none := by rw [upd_ne hne] at hd; exact hd
      have hH : (upd (del (upd (upd (upd (upd H1 a (exo a D none)) dx (exd dx [("number", .int n)])) a (exo a D (some dx))) dx (exd dx [("why", .str y), ("number", .int n)])) a) dx (.xd [("why", .str y), ("number", .int n)])) = upd H1 dx (.xd [("why", .str y), ("number", .int n)]) := by
        funext b
        by_cases hb : b = dx
        · subst hb; rw [upd_same, upd_same]
        · rw [upd_ne hb, upd_ne hb]
          by_cases hba : b = a
          · subst hba; rw [del_same, ha]
          · rw [del_ne hba, upd_ne hb, upd_ne hba, upd_ne hb, upd_ne hba]
      refine ⟨rfl, dx, [("why", .str y), ("number", .int n)], ?_, upd_same, hda, ?_⟩
      · rw [upd_ne (Ne.symm hne), upd_same]
      · rw [hH]
        have fr : Fr H1 (upd H1 dx (.xd [("why", .str y), ("number", .int n)])) := Fr.new hda
        exact hP α1 _ _ _ p1 (f1.trans fr) ⟨hm, _, upd_same, rfl, .cons (.str y) (.cons (.int n) .nil)⟩ (s1.tup hda)
    · cases e1
  · cases e1
end
end Dn

set_option Elab.async false
set_option linter.all false
set_option maxRecDepth 100000
set_option maxHeartbeats 1000000
/-! Exc3: except DealError as e: what kind it is, its fields. -/
namespace Dn
open PySem PySem.Spec PyProof.Rows L2
open Classical
/-- what the class at D says, for isinstance and for its fields -/
structure XK3 (K : PySem.W.Frag) (D : Addr) : Prop where
  cl : (PySem.W.clsIn K D).isSome = true
  ga : PySem.W.findIn K (.ref D) "__getattribute__" = some (some (.builtin "BaseException.__getattribute__"))
  gt : PySem.W.findIn K (.ref D) "__getattr__" = some none
  ex : PySem.W.subIn K (.ref D) (.type "BaseException") = some true
  hd : PySem.W.hasDictIn K D = true
  ha : PySem.W.findIn K (.ref D) "__class__" = some (some (.builtin "object.__class__"))
  hn : PySem.W.specialIn K (.builtin "object.__class__") "__get__" = some (some (.builtin "getset_descriptor.__get__"))
  ht : PySem.W.takesIn K (.builtin "object.__class__") = some true
  hm : PySem.W.mroIn K D (.type "object") = some true
theorem XK3.xf {K : PySem.W.Frag} {D : Addr} (x : XK3 K D) : XfC K D := ⟨x.ga, x.gt, x.ex, x.hd⟩
theorem refs_vals : ∀ {as : List Addr} {us : List Value}, Vals (as.map V.ref) us → us = as.map Value.ref
  | [], us, r => by cases r; rfl
  | a :: as, us, r => by
    cases r with | cons r1 r2 =>
    cases r1
    rw [refs_vals r2] <;> rfl
/-- isinstance(e, one class | a tuple of own classes), e the error that the suite holds -/
def rIsX (K : PySem.W.Frag) (D a : Addr) (d : Option Addr) : List V → Hp → VK → Prop := fun xs H Q => ∃ (dd : Addr) (fs : List (Str × V)) (b : Bool), d = some dd ∧ H dd = some (.xd fs) ∧ Q (.bl b) H ∧
  ((∃ (c : V) (cv : Value), xs = [.ref a, c] ∧ (∀ u, RelV c u → u = cv) ∧ PySem.W.kitOne K (.ref D) cv = some b) ∨
    ∃ (tp : Addr) (as : List Addr), xs = [.ref a, .ref tp] ∧ H tp = some (.tup (as.map V.ref)) ∧ PySem.W.kitAny K (.ref D) (as.map Value.ref) = some b)
theorem call_isX {X : Cx} {a D : Addr} {d : Option Addr} {oe : Obj} {pn : List (Addr × Obj)} (C : XK3 X.K D) (hz : Zc (.ref D) d oe) (hf : ∃ vs, oe.data = .fields vs) : CallR (X.suite a ((a, oe) :: pn)) (.builtin "isinstance") (rIsX X.K D a d) := by
  intro pins s σ H xs us Q I r h
  obtain ⟨dd, fs, b, ed, ha, q, h⟩ := h
  subst ed
  obtain ⟨hget, _⟩ := I.pin (a, oe) (List.mem_append.mpr (.inl List.mem_cons_self))
  obtain ⟨vs, hv⟩ := hf
  have hx : ObjOk X.prog X.w H s.heap dd (.xd fs) := I.hok dd _ ha
  obtain ⟨mA, hns, hr⟩ := hx
  obtain ⟨od, ho, hl⟩ := lookIn_ns hns
  have J : PySem.W.InstAt s.heap a oe D (some od) := ⟨hget, hz.1, by unfold PySem.W.notCls; rw [hv] <;> rfl, by rw [hz.2]; exact ho⟩
  have Z := PySem.W.kitx_exc (x := a) (ox := oe) (od := some od) C.cl C.ga C.gt C.ex C.ha C.hn C.ht C.hm
  rcases h with ⟨c, cv, rfl, hcv, e⟩ | ⟨tp, as, rfl, htp, e⟩
  · cases r with | cons rx rr =>
    cases rr with | cons rt rr =>
    cases rr
    cases rx
    have ec := hcv _ rt
    subst ec
    exact PySem.W.kia_one Z I.kIn J e (fun z => nomatch z) fun tk => ⟨.bl b, H, I.kept (t' := tk) fun _ _ z => z, rfl, q⟩
  · cases r with | cons rx rr =>
    cases rr with | cons rt rr =>
    cases rr
    cases rx
    cases rt
    have ht : ObjOk X.prog X.w H s.heap tp (.tup (as.map V.ref)) := I.hok tp _ htp
    obtain ⟨_, its, rv, o, ho', hc', n, hd'⟩ := ht
    have e2 := refs_vals rv
    subst e2
    obtain ⟨oc, od', oda, osl⟩ := o
    dsimp only at hc' hd'
    subst hc'
    subst hd'
    exact PySem.W.kia_tup Z I.kIn J ho' e (fun z => nomatch z) fun tk => ⟨.bl b, H, I.kept (t' := tk) fun _ _ z => z, rfl, q⟩
/-- the classes of the text that a handler names -/
structure XH (K : PySem.W.Frag) (mg : Str → Option Value) : Prop where
  ex : ∃ (D DE A1 A2 A3 A4 : Addr), mg "BadRound" = some (.ref D) ∧ mg "DealError" = some (.ref DE) ∧ mg "BadDeal" = some (.ref A1) ∧ mg "BadHolding" = some (.ref A2) ∧ mg "BadText" = some (.ref A3) ∧ mg "NoDeal" = some (.ref A4) ∧
    XK3 K D ∧ PySem.W.exmOne K (.ref D) (.ref DE) = some true ∧ PySem.W.kitAny K (.ref D) [.ref A1, .ref A2, .ref A3, .ref A4] = some false ∧ PySem.W.kitOne K (.ref D) (.type "ValueError") = some true ∧
    PySem.W.findIn K (.ref D) "number" = some none ∧ PySem.W.findIn K (.ref D) "why" = some none
  ve : mg "ValueError" = none
  is : mg "isinstance" = none
/-- the two fields as a pair -/
def sTryBR (u : SD) : SD := fun sl st => match u sl st with
  | some (.er x st1) => match x.fs with
    | [(f1, w2), (f2, w1)] => if x.cls = "BadRound" ∧ f1 = "why" ∧ f2 = "number" then some (.rt (.tup [w1, w2]) st1) else none
    | _ => none
  | o => o
def tS (K : PySem.W.Frag) (mg : Str → Option Value) (u : SD) (E : XT) : TS := fun D σ H => ∃ sl st o α, u sl st = some o ∧ SvR K E.T α H sl σ ∧ StR K α H st ∧ PostS K mg α H D E o
theorem DSs.canon {X : Cx} {E : XT} {b : List Stmt} {u : SD} (h : DSs X E b u) : PSs X b (tS X.K X.mg u E) := by
  obtain ⟨t, x, y⟩ := h
  refine ⟨fun pins s σ H D I q => x.run pins s σ H D I ?_⟩
  obtain ⟨sl, st, o, α, e, hs, hst, hP⟩ := q
  exact y sl st o α σ H D e hs hst hP
theorem takes_len {X : Cx} {W : WX} (t : Takes X W) : Takes X (fun c d σ H => σ.length = X.N.length → W c d σ H) := fun u s' ⟨a, B, sI, pins, σ, H, cls, d, e, I, nb, up, sky, na, os, ag, w⟩ =>
  t u s' ⟨a, B, sI, pins, σ, H, cls, d, e, I, nb, up, sky, na, os, ag, w I.len⟩
section
variable {X : Cx} {E : XT} {i : Nat} {body : List Stmt} {u : SD}
/-- try .. except DealError as e: if isinstance(e, (..)) or not isinstance(e, ValueError): return 'other'; return (e.number, e.why) if isinstance(e, BadRound) else 'other' -/
theorem ds_try_BR {np pos pos' q0 q1 q2 q3 q4 q5 q6 q7 q8 q9 r0 r1 r2 r3 r4 r5 r6 r7 r8 r9 s1 s2 s3 s4 s5 s6 s7 s8 s9 : Pos} {j1 j2 j3 j4 : Nat} {oth1 oth2 : Str}
    (xh : XH X.K X.mg) (hs : X.stack = X.env :: X.outer) (hf : X.env.frame = some X.env.locals) (hN : X.N.Nodup) (hi : X.N[i]? = some "e") (hln : X.env.kindOf "e" = some .local) (hlx : X.env.scope.names.lookup ("e" : Str) = some .local) (tk : Takes X (fun _ _ _ _ => False))
    (g1 : Gl X "DealError") (g2 : Gl X "isinstance") (g3 : Gl X "BadDeal") (g4 : Gl X "BadHolding") (g5 : Gl X "BadText") (g6 : Gl X "NoDeal") (g7 : Gl X "ValueError") (g8 : Gl X "BadRound")
    (hb : ∀ (W : WX) (pn : List (Addr × Obj)) (xe : Value → Shared → Prop) (k' : XK), Takes (X.tr pn xe) W → PassesOwn (model X.prog X.w) X.A X.env xe → (∀ c d σ H, k' c d H → W c d σ H) → DSs (X.tr pn xe) ⟨k', E.T⟩ body u) :
    DS X E (.Try body [.ExceptHandler (some (.Name "DealError" np)) (some "e")
      [.If (.BoolOp .Or [.Call (.Name "isinstance" q0) [.Name "e" q1, .Tuple [.Name "BadDeal" q2, .Name "BadHolding" q3, .Name "BadText" q4, .Name "NoDeal" q5] j1 q6] [] q7,
          .UnaryOp .Not (.Call (.Name "isinstance" q8) [.Name "e" q9, .Name "ValueError" r0] [] r1) r2] r3) [.Return (some (.Constant (.str oth1) j2 r4)) r5] [] r6,
        .Return (some (.IfExp (.Call (.Name "isinstance" r7) [.Name "e" r8, .Name "BadRound" r9] [] s1) (.Tuple [.Attribute (.Name "e" s2) "number" s3, .Attribute (.Name "e" s4) "why" s5] j3 s6) (.Constant (.str oth2) j4 s7) s8)) s9] pos'] [] [] pos) (sTryBR u) := by
  obtain ⟨D, DE, A1, A2, A3, A4, m1, m2, m3, m4, m5, m6, xk, ee, ka, kv, n1, n2⟩ := xh.ex
  have xv : Vis X.env.scope "e" := .inl hlx
  -- the suite's reading
  have hsu : ∀ (a : Addr) (d : Option Addr), ∃ ts : TS, (∀ (oe : Obj) (pn : List (Addr × Obj)), Zc (.ref D) d oe → (∃ vs, oe.data = .fields vs) → PSs (X.suite a ((a, oe) :: pn))
      [.If (.BoolOp .Or [.Call (.Name "isinstance" q0) [.Name "e" q1, .Tuple [.Name "BadDeal" q2, .Name "BadHolding" q3, .Name "BadText" q4, .Name "NoDeal" q5] j1 q6] [] q7,
          .UnaryOp .Not (.Call (.Name "isinstance" q8) [.Name "e" q9, .Name "ValueError" r0] [] r1) r2] r3) [.Return (some (.Constant (.str oth1) j2 r4)) r5] [] r6,
        .Return (some (.IfExp (.Call (.Name "isinstance" r7) [.Name "e" r8, .Name "BadRound" r9] [] s1) (.Tuple [.Attribute (.Name "e" s2) "number" s3, .Attribute (.Name "e" s4) "why" s5] j3 s6) (.Constant (.str oth2) j4 s7) s8)) s9] ts) ∧
      ∀ (σ : L2.St) (H : Hp) (Dn : Ends) (dd : Addr) (v1 v2 : V), d = some dd → σ[i]? = some (some (.ref a)) → H dd = some (.xd [("why", v2), ("number", v1)]) → (∀ p p2, H p2 = none → p ≠ p2 → H p = none → Dn.rt (.ref p) (upd (upd H p2 (.tup [.ref A1, .ref A2, .ref A3, .ref A4])) p (.tup [v1, v2]))) → ts Dn σ H := by
    intro a d
    refine ⟨_, fun oe pn hz hf => pss_cons (ps_if (PW.pt (pw_or (pt_val (pe_callB (call_isX xk hz hf) g2 xh.is (by decide +kernel) (pa_cons (pe_var hi xv) (pa_cons (pe_tup (pa_cons (pe_glob (v := .ref A1) g3 m3 rfl) (pa_cons (pe_glob (v := .ref A2) g4 m4 rfl) (pa_cons (pe_glob (v := .ref A3) g5 m5 rfl) (pa_cons (pe_glob (v := .ref A4) g6 m6 rfl) pa_nil))))) pa_nil))))
        (pw_or1 (pt_not (pt_val (pe_callB (call_isX xk hz hf) g2 xh.is (by decide +kernel) (pa_cons (pe_var hi xv) (pa_cons (pe_bltn (v := .ty "ValueError") g7 xh.ve (by decide +kernel) rfl) pa_nil)))))))) (pss_cons (ps_ret pe_str) pss_nil) pss_nil)
      (pss_cons (ps_ret (pe_ifExp (pt_val (pe_callB (call_isX xk hz hf) g2 xh.is (by decide +kernel) (pa_cons (pe_var hi xv) (pa_cons (pe_glob (v := .ref D) g8 m1 rfl) pa_nil)))) (pe_tup (pa_cons (pe_xf xk.xf n1 hz hf (pe_var hi xv)) (pa_cons (pe_xf xk.xf n2 hz hf (pe_var hi xv)) pa_nil))) pe_str)) pss_nil), ?_⟩
    intro σ H Dn dd v1 v2 ed hσ hH hq
    have ht : PySem.W.kitOne X.K (.ref D) (.ref D) = some true := by unfold PySem.W.kitOne; rw [if_pos (by simp)]
    refine ⟨.ref a, hσ, Nat.le_trans (show 4 ≤ 10 by omega) (by rw [sizeLine_eq]; omega), fun p2 hp2 => ?_⟩
    have h2 : upd H p2 (.tup [.ref A1, .ref A2, .ref A3, .ref A4]) dd = some (.xd [("why", v2), ("number", v1)]) := by rw [upd_ne (ne_of_none hH hp2)]; exact hH
    refine ⟨dd, _, false, ed, h2, ⟨false, rfl, ?_⟩, .inr ⟨p2, [A1, A2, A3, A4], rfl, upd_same, ka⟩⟩
    refine iteF ⟨.ref a, hσ, dd, _, true, ed, h2, ⟨true, rfl, iteF ?_⟩, .inl ⟨_, _, rfl, fun u h => h, kv⟩⟩
    refine ⟨.ref a, hσ, dd, _, true, ed, h2, ⟨true, rfl, iteT ?_⟩, .inl ⟨_, _, rfl, fun u h => h, ht⟩⟩
    refine ⟨.ref a, hσ, rfl, rfl, dd, _, v1, ed, h2, rfl, .ref a, hσ, rfl, rfl, dd, _, v2, ed, h2, rfl, Nat.le_trans (show 2 ≤ 10 by omega) (by rw [sizeLine_eq]; omega), fun p hp => ?_⟩
    by_cases hpp : p = p2
    · subst hpp; rw [upd_same] at hp; cases hp
    · exact hq p p2 hp2 hpp (by rw [upd_ne hpp] at hp; exact hp)
  refine ⟨_, ps_try_as (ts := fun a cls d => if cls = .ref D then Classical.choose (hsu a d) else fun _ _ _ => False) (tb := fun W => tS X.K X.mg u ⟨fun cls d H => ∀ σ, σ.length = X.N.length → W cls d σ H, E.T⟩) hs hf hN hi hln ⟨g1, by decide, .inl m2⟩ tk
    (fun W pn xe tk' po => (hb (fun c d σ H => σ.length = X.N.length → W c d σ H) pn xe (fun cls d H => ∀ σ, σ.length = X.N.length → W cls d σ H) (takes_len tk') po (fun c d σ H h hl => h σ hl)).canon)
    (fun a oe cls d pn hz hf' => ?_), fun sl st o α σ H Dn e hsv hst hP => ?_⟩
  · by_cases hc : cls = .ref D
    · subst hc
      show PSs _ _ (if Value.ref D = Value.ref D then _ else _)
      rw [if_pos rfl]
      exact (Classical.choose_spec (hsu a d)).1 oe pn hz hf'
    · show PSs _ _ (if cls = Value.ref D then _ else _)
      rw [if_neg hc]
      exact ⟨fun pins s σ H D1 I h => h.elim⟩
  · unfold sTryBR at e
    cases eu : u sl st with
    | none => rw [eu] at e; cases e
    | some o' =>
      rw [eu] at e
      cases o' with
      | nx sl' st' => cases e; exact ⟨sl, st, _, α, eu, hsv, hst, hP⟩
      | rt w st' => cases e; exact ⟨sl, st, _, α, eu, hsv, hst, hP⟩
      | bk sl' st' => cases e; exact ⟨sl, st, _, α, eu, hsv, hst, hP⟩
      | ct sl' st' => cases e; exact ⟨sl, st, _, α, eu, hsv, hst, hP⟩
      | er x st1 =>
        refine ⟨sl, st, _, α, eu, hsv, hst, fun α' c d H' p f er sr σ' hlen => ?_⟩
        obtain ⟨xc, xf⟩ := x
        simp only at e
        split at e
        · rename_i f1 w2 f2 w1
          split at e
          · rename_i hc
            cases e
            obtain ⟨rfl, rfl, rfl⟩ := hc
            obtain ⟨er1, er2⟩ := er
            have hcD : c = .ref D := by
              have z : X.mg "BadRound" = some c := er1
              rw [m1] at z
              exact (Option.some.inj z).symm
            subst hcD
            cases d with
            | none => cases er2
            | some dd =>
              obtain ⟨fs, hH, hn, hr⟩ := er2
              obtain ⟨v2, v1, rfl, rv2, rv1⟩ : ∃ v2 v1, fs = [(("why" : Str), v2), (("number" : Str), v1)] ∧ Rep X.K α' H' v2 w2 ∧ Rep X.K α' H' v1 w1 := by
                match fs, hn, hr with
                | [(a1, b1), (a2, b2)], hn, hr =>
                  simp at hn
                  obtain ⟨rfl, rfl⟩ := hn
                  cases hr with | cons r1 r2 =>
                  cases r2 with | cons r2 r3 => exact ⟨b1, b2, rfl, r1, r2⟩
              refine ⟨true, ee, fun _ a ha => ?_, fun z => nomatch z⟩
              show (if Value.ref D = Value.ref D then Classical.choose (hsu a (some dd)) else _) _ _ _
              rw [if_pos rfl]
              have hlt : i < σ'.length := by rw [hlen]; exact (List.getElem?_eq_some_iff.mp hi).1
              refine (Classical.choose_spec (hsu a (some dd))).2 _ H' _ dd v1 v2 rfl (by rw [List.getElem?_set_self hlt]) hH fun p1 p2 hp2 hne hp1 => ?_
              have fa : Fr H' (upd H' p2 (.tup [.ref A1, .ref A2, .ref A3, .ref A4])) := Fr.new hp2
              have hp1' : upd H' p2 (.tup [.ref A1, .ref A2, .ref A3, .ref A4]) p1 = none := by rw [upd_ne hne]; exact hp1
              have fb := Fr.new (o := .tup [v1, v2]) hp1'
              exact hP α' (.ref p1) _ p ((f.trans fa).trans fb) (.tup (.inl (.inl upd_same)) (.cons (rv1.mono (List.prefix_refl _) (fa.trans fb)) (.cons (rv2.mono (List.prefix_refl _) (fa.trans fb)) .nil))) ((sr.tup hp2).tup hp1')
          · cases e
        · cases e
end
end Dn

set_option Elab.async false
set_option linter.all false
set_option maxRecDepth 100000
set_option maxHeartbeats 3200000
/-! Sets: set(x) of a list or a tuple, whatever its loop does. -/
namespace SE
open PySem PySem.Spec PyProof.Rows L2 Dn
/-- the set that is filled -/
abbrev noSet (w : World) : Obj := { cls := .type "set", dict := none, data := .set #[] 0 (.fresh 0 0 (!w.params.followText "set-order")) }
/-- a kind of source that is walked as it is -/
structure Src (tn : String) : Prop where
  one : isSubtype (.type tn) (.type "set") = pure false
  two : isSubtype (.type tn) (.type "frozenset") = pure false
  nod : (Value.type tn == Value.type "dict") = false
section
variable {P : Program} {w : World} {A : Around} {E : Value → Shared → Prop} {s : Shared}
theorem set_call {l : Addr} {tn : String} {o io : Obj} {Φ : Heap → Prop} {Q : Value → Shared → Prop} (F0 : Src tn) (hl : s.heap.get? l = some o) (hc : o.cls = .type tn) (hh : A.handled = none)
    (hit : ∀ (A' : Around) (Q' : Value → Shared → Prop) (E' : Value → Shared → Prop), Q' (.ref (s.heap.push (noSet w)).objs.size) { s with heap := (s.heap.push (noSet w)).push io } → wpAny (model P w) A' (pyIter (.ref l)) Q' E' { s with heap := s.heap.push (noSet w) })
    (hloop : ∀ (A' : Around) (R : Result → Shared → Prop), A'.handled = none → A'.units ≤ A.units + 6 → (∀ h' tk, Φ h' → R (.ok (.ret .none)) { s with heap := h', toks := tk }) →
      codeAny (model P w) A' (.builtin "set.update.loop" ⟨[.ref s.heap.objs.size, .ref (s.heap.push (noSet w)).objs.size], []⟩) R { s with heap := (s.heap.push (noSet w)).push io })
    (h : ∀ h' tk, Φ h' → Q (.ref s.heap.objs.size) { s with heap := h', toks := tk }) : wpAny (model P w) A (call (.type "set") [.ref l]) Q E s := by
  have hS : (s.heap.push (noSet w)).get? s.heap.objs.size = some (noSet w) := Heap.get?_push_size _ rfl
  have ty : Shared.TypeIs { s with heap := s.heap.push (noSet w) } (.ref s.heap.objs.size) "set" := ⟨_, hS, rfl⟩
  obtain ⟨oc, od, odata, osl⟩ := o
  dsimp only at hc
  subst hc
  have hl' : (s.heap.push (noSet w)).get? l = some ⟨.type tn, od, odata, osl⟩ := Heap.get?_push_of_some _ hl
  -- what __init__ does
  have init : ∀ (A1 : Around) (R : Result → Shared → Prop), A1.handled = none → A1.units ≤ A.units + 3 → (∀ h' tk, Φ h' → R (.ok (.ret .none)) { s with heap := h', toks := tk }) →
      codeAny (model P w) A1 (.call (.builtin "set.__init__") ⟨[.ref s.heap.objs.size, .ref l], []⟩) R { s with heap := s.heap.push (noSet w) } := by
    intro A1 R hA hU hR
    refine codeAny_call_builtin F.called_set.init.plain F.entry_set_init (check_set_init_1 ty ?_)
    have o1 := F0.one
    have o2 := F0.two
    have o3 := F0.nod
    unfold Builtin.«set.__init__» noKeywords Builtin.Frozenset.updateFrom
    generalize hp : pyIter = PI
    wp_walk
    subst hp
    refine hit _ _ _ (wpAny_bind (wpAny_runValue (hloop _ _ (by simpa using hA) (by simp [Around.in1]; omega) fun h' tk hΦ => ?_)))
    exact wpAny_pure (wpAny_pure (hR h' tk hΦ))
  refine wpAny_call (codeAny_of_tree ?_)
  show wpAny _ _ (callAny (.type "set") _) _ _ _
  refine wpAny_pure ⟨Code.quiet_builtin _ (by decide +kernel), codeAny_builtin F.entry_type_call ?_⟩
  rw [Around.under_plain (weight_type_call_type "set" [.ref l] []) rfl]
  have n1 := F.called_set.notType
  have n2 := F.called_set.canCreate
  have n3 := F.called_set.made
  have n4 := F.called_set.sub
  have n5 := F.typeCall_set_1 (.ref l)
  obtain ⟨mc, mt, n6⟩ := F.called_set.mro
  repeat (any_goals (first | assumption | wp_step))
  refine codeAny_mono (code_set_led1 (.ref l) (E := E) (Q₁ := fun obj s1 => obj = .ref s.heap.objs.size ∧ s1 = { s with heap := s.heap.push (noSet w) }) ⟨rfl, rfl⟩) fun r s1 hr => ?_
  match r, hr with
  | .error e, hr => exact hr
  | .ok (.ret obj), hr =>
    obtain ⟨rfl, rfl⟩ := hr
    have i1 := F.called_set.init.lookup
    have i2 := F.called_set.init.bind (.ref s.heap.objs.size)
    repeat (any_goals (first | assumption | wp_step))
    refine init _ _ (by simpa using hh) (by simp [Around.in1]) fun h' tk hΦ => ?_
    repeat (any_goals (first | assumption | wp_step))
    exact h h' tk hΦ
theorem src_list : Src "list" := ⟨F.sub_list_set, F.sub_list_frozenset, by decide⟩
theorem src_tuple : Src "tuple" := ⟨F.sub_tuple_set, F.sub_tuple_frozenset, by decide⟩
end
end SE

set_option Elab.async false
set_option linter.all false
set_option maxRecDepth 100000
set_option maxHeartbeats 1000000
/-! Sets2: set(x), x a list or a tuple of ints, of tuples of ints. -/
namespace SE
open PySem PySem.Spec PyProof.Rows L2 Dn
section
variable {P : Program} {w : World} {A : Around} {E : Value → Shared → Prop} {s : Shared}
/-- l: a list, or a tuple, of these items -/
def SeqAt (h : Heap) (l : Addr) (items : Array Value) : Prop := h.IsList l items ∨ h.IsTuple l items
abbrev itO (tn : String) (l : Addr) : Obj := { cls := .type tn, data := .fields #[.ref l, .int 0 0] }
theorem out_none (h : Heap) {b : Addr} (hb : h.objs.size ≤ b) : h.get? b = none := by
  cases q : h.get? b with
  | none => rfl
  | some o => exact absurd (Nat.lt_of_lt_of_le (Heap.lt_size q) hb) (Nat.lt_irrefl _)
/-- the walk of the source, the set standing ahead of the iterator -/
theorem set_walk {l : Addr} {items : Array Value} {Φ : Heap → Prop} {Q : Value → Shared → Prop} (hl : SeqAt s.heap l items) (hh : A.handled = none)
    (hloop : ∀ (io : Obj) (A' : Around) (R : Result → Shared → Prop) (fp : List Addr) (St : Nat → Shared → Prop), A'.handled = none → A'.units ≤ A.units + 6 → s.heap.objs.size ∉ fp →
      WalksS P w A'.in1 (s.heap.push (noSet w)).objs.size fp [(s.heap.push (noSet w)).objs.size] (fun a b => b = a) items.size (fun i v => items[i]? = some v) St → St 0 { s with heap := (s.heap.push (noSet w)).push io } →
      (∀ h' tk, Φ h' → R (.ok (.ret .none)) { s with heap := h', toks := tk }) →
      codeAny (model P w) A' (.builtin "set.update.loop" ⟨[.ref s.heap.objs.size, .ref (s.heap.push (noSet w)).objs.size], []⟩) R { s with heap := (s.heap.push (noSet w)).push io })
    (h : ∀ h' tk, Φ h' → Q (.ref s.heap.objs.size) { s with heap := h', toks := tk }) : wpAny (model P w) A (call (.type "set") [.ref l]) Q E s := by
  have sz : (s.heap.push (noSet w)).objs.size = s.heap.objs.size + 1 := Heap.size_push ..
  have fpS : ∀ {l : Addr}, l < s.heap.objs.size → s.heap.objs.size ∉ [(s.heap.push (noSet w)).objs.size, l] := fun {l} hlt hm => by
    rw [sz] at hm
    rcases List.mem_cons.mp hm with e | hm
    · exact absurd e (Nat.ne_of_lt (Nat.lt_succ_self _))
    · exact absurd (List.mem_singleton.mp hm) (Nat.ne_of_gt hlt)
  rcases hl with hl | hl
  · obtain ⟨o, ho, hc, n, hd⟩ := id hl
    have hlt := Heap.lt_size ho
    have hl1 : (s.heap.push (noSet w)).IsList l items := hl.push _
    have hne : l ≠ (s.heap.push (noSet w)).objs.size := by rw [sz]; exact Nat.ne_of_lt (Nat.lt_succ_of_lt hlt)
    refine set_call (Φ := Φ) (io := itO "list_iterator" l) src_list ho hc hh (fun A' Q' E' hq => wpAny_pyIter_list hl1 hq) (fun A' R h1 h2 h3 => ?_) h
    exact hloop _ A' R _ _ h1 h2 (fpS hlt) (Walks.list (by simpa using h1) _ l hne items).toS ⟨⟨_, Heap.get?_push_size _ rfl, rfl, rfl⟩, hl1.push _⟩ h3
  · obtain ⟨o, ho, hc, n, hd⟩ := id hl
    have hlt := Heap.lt_size ho
    have hl1 : (s.heap.push (noSet w)).IsTuple l items := hl.push _
    have hne : l ≠ (s.heap.push (noSet w)).objs.size := by rw [sz]; exact Nat.ne_of_lt (Nat.lt_succ_of_lt hlt)
    refine set_call (Φ := Φ) (io := itO "tuple_iterator" l) src_tuple ho hc hh (fun A' Q' E' hq => wpAny_pyIter_tuple hl1 hq) (fun A' R h1 h2 h3 => ?_) h
    exact hloop _ A' R _ _ h1 h2 (fpS hlt) (Walks.tuple (by simpa using h1) _ l hne items).toS ⟨⟨_, Heap.get?_push_size _ rfl, rfl, rfl⟩, hl1.push _⟩ h3
theorem set_ints {l : Addr} {items : Array Value} (ns : List Int) {Q : Value → Shared → Prop} (hl : SeqAt s.heap l items) (hh : A.handled = none) (hi : IntsAre items.toList ns) (hb : ns.length + 1 < scanBound)
    (h : ∀ h' tk c, SetR w h' s.heap.objs.size (fun j => decide (j ∈ ns)) c → c ≤ ns.length → (∀ b o, s.heap.get? b = some o → h'.get? b = some o) → Q (.ref s.heap.objs.size) { s with heap := h', toks := tk }) :
    wpAny (model P w) A (call (.type "set") [.ref l]) Q E s := by
  have len : items.size = ns.length := by rw [← hi.length, Array.length_toList]
  have val : ∀ (i : Nat) (v : Value), items[i]? = some v → ∃ k t, ns[i]? = some k ∧ v = .int k t := fun i v hv => by
    have hi' : i < ns.length := by rw [← len]; exact (Array.getElem?_eq_some_iff.mp hv).1
    obtain ⟨t, e⟩ := PyProof.Rows.IntsAre.int_at hi i v (by rw [Array.getElem?_toList]; exact hv)
    refine ⟨ns[i], t, List.getElem?_eq_getElem hi', ?_⟩
    rw [e, List.getD_eq_getElem?_getD, List.getElem?_eq_getElem hi'] <;> rfl
  refine set_walk (Φ := fun h' => ∃ c, SetR w h' s.heap.objs.size (fun j => decide (j ∈ ns)) c ∧ c ≤ ns.length ∧ ∀ b o, s.heap.get? b = some o → h'.get? b = some o) hl hh (fun io A' R fp St h1 h2 hfp W st hR => ?_) fun h' tk ⟨c, a1, a2, a3⟩ => h h' tk c a1 a2 a3
  refine set_update_ints W s.heap.objs.size hfp ns len hb val items.size 0 _ rfl (Nat.zero_le _) st ⟨0, Nat.le_refl _, setR_new_at (Heap.get?_push_of_some _ (Heap.get?_push_size _ rfl))⟩ fun s' c hm hc hS => ?_
  obtain ⟨h', g, d, tk, os⟩ := s'
  obtain rfl : g = s.gens := hm.gens
  obtain rfl : d = s.drawn := hm.drawn
  obtain rfl : os = s.os := hm.os
  refine hR h' tk ⟨c, hS, by omega, fun b o e => ?_⟩
  have hb0 := Heap.lt_size e
  refine hm.heap b o (fun hm2 => ?_) (Heap.get?_push_of_some _ (Heap.get?_push_of_some _ e))
  have sz : (s.heap.push (noSet w)).objs.size = s.heap.objs.size + 1 := Heap.size_push ..
  rcases List.mem_cons.mp hm2 with z | z
  · exact absurd z (Nat.ne_of_lt hb0)
  · exact absurd ((List.mem_singleton.mp z).trans sz) (Nat.ne_of_lt (Nat.lt_succ_of_lt hb0))
theorem set_tups {l : Addr} {items : Array Value} (ks : List (Addr × List Int)) {Q : Value → Shared → Prop} (hl : SeqAt s.heap l items) (hh : A.handled = none) (hi : items.toList = ks.map fun p => Value.ref p.1)
    (hk : ∀ p ∈ ks, IsT P w s.heap p.2 p.1) (hfew : ks.length < 64) (hu : A.units + 10 < cLine)
    (h : ∀ h' tk L es ep t, SetTR P w h' s.heap.objs.size L es ep t → Got ks ks.length L → (∀ b o, s.heap.get? b = some o → h'.get? b = some o) → Q (.ref s.heap.objs.size) { s with heap := h', toks := tk }) :
    wpAny (model P w) A (call (.type "set") [.ref l]) Q E s := by
  have len : items.size = ks.length := by rw [← Array.length_toList, hi, List.length_map]
  have val : ∀ (i : Nat) (v : Value), items[i]? = some v → ∃ p, ks[i]? = some p ∧ v = .ref p.1 := fun i v hv => by
    have q : items.toList[i]? = some v := by rw [Array.getElem?_toList]; exact hv
    rw [hi, List.getElem?_map, Option.map_eq_some_iff] at q
    obtain ⟨p, e1, e2⟩ := q
    exact ⟨p, e1, e2.symm⟩
  refine set_walk (Φ := fun h' => ∃ L es ep t, SetTR P w h' s.heap.objs.size L es ep t ∧ Got ks ks.length L ∧ ∀ b o, s.heap.get? b = some o → h'.get? b = some o) hl hh (fun io A' R fp St h1 h2 hfp W st hR => ?_) fun h' tk ⟨L, es, ep, t, a1, a2, a3⟩ => h h' tk L es ep t a1 a2 a3
  have sz : (s.heap.push (noSet w)).objs.size = s.heap.objs.size + 1 := Heap.size_push ..
  refine set_update_tups W s.heap.objs.size hfp ks len hfew val s.heap hk (out_none _ (Nat.le_refl _)) (fun b hb => out_none _ (by rw [List.mem_singleton.mp hb, sz]; exact Nat.le_succ _)) (by simp [Around.in1]; omega) items.size 0 _ rfl (Nat.zero_le _) st
    (fun b o e => Heap.get?_push_of_some _ (Heap.get?_push_of_some _ e)) ⟨[], #[], 0, _, setTR_fresh (Heap.get?_push_of_some _ (Heap.get?_push_size _ rfl)), Got.zero ks⟩ fun s' L es ep t hm hS g hkp => ?_
  obtain ⟨h', gg, d, tk, os⟩ := s'
  obtain rfl : gg = s.gens := hm.gens
  obtain rfl : d = s.drawn := hm.drawn
  obtain rfl : os = s.os := hm.os
  rw [len] at g
  exact hR h' tk ⟨L, es, ep, t, hS, g, hkp⟩
end
end SE

set_option Elab.async false
set_option linter.all false
set_option maxRecDepth 100000
set_option maxHeartbeats 1000000
/-! Sets3: sorted(set(x)) as one expression; at the data level. -/
namespace SE
open PySem PySem.Spec PyProof.Rows L2 Dn
def tSortSet (K : PySem.W.Frag) (ta : TE) : TE := fun σ H Q => ta σ H fun x H1 => ∃ (l : Addr) (xs : List V), x = .ref l ∧ (SqL K H1 l xs ∨ SqT K H1 l xs) ∧
  ((∃ ns : List Int, xs = ns.map V.int ∧ ns.length < 64 ∧ ∀ (ns' : List Int) (p : Addr), ns'.Pairwise (· < ·) → (∀ k, k ∈ ns' ↔ k ∈ ns) → H1 p = none → Q (.ref p) (upd H1 p (.lst (ns'.map V.int)))) ∨
   ∃ (ks : List (Addr × List Int)) (d : Nat) (B : Int), xs = ks.map (fun p => V.ref p.1) ∧ (∀ p ∈ ks, SqT K H1 p.1 (p.2.map V.int)) ∧ ks.length < 64 ∧ 1 ≤ d ∧ (∀ p ∈ ks, p.2.length = d ∧ TS.Bd B p.2) ∧
     ∀ (L : List (Addr × List Int)) (p : Addr), (∀ q ∈ L, q ∈ ks) → (∀ q ∈ ks, q.2 ∈ L.map (·.2)) → (L.map (·.2)).Nodup → L.Pairwise (fun q r => TS.code B q.2 ≤ TS.code B r.2) → H1 p = none → Q (.ref p) (upd H1 p (.lst (L.map fun q => V.ref q.1))))
theorem seq_at {X : Cx} {pins : List (Addr × Obj)} {σ : L2.St} {H : Hp} {s : Shared} {l : Addr} {xs : List V} (I : Inv X pins σ H s) (h : SqL X.K H l xs ∨ SqT X.K H l xs) : ∃ its : List Value, Vals xs its ∧ SeqAt s.heap l its.toArray := by
  rcases h with h | h
  · obtain ⟨its, r, p, _⟩ := I.list h
    exact ⟨its, r, .inl p.isList⟩
  · obtain ⟨its, r, p, _⟩ := I.tuple h
    exact ⟨its, r, .inr p⟩
/-- a new list that a call leaves -/
theorem laid_list {X : Cx} {pins : List (Addr × Obj)} {σ : L2.St} {H : Hp} {s s' : Shared} {p : Addr} {out : Array Value} {c : Nat} {xs : List V} {Q : VK} (I : Inv X pins σ H s) (k : ∀ b o, s.heap.get? b = some o → s'.heap.get? b = some o) (g : s'.gens = s.gens) (o : s'.os = s.os)
    (hp : s.heap.objs.size ≤ p) (hg : s'.heap.get? p = some (seqObj "list" out c)) (hv : Vals xs out.toList) (hl : xs.length ≤ sizeLine) (q : H p = none → Q (.ref p) (upd H p (.lst xs))) : EP X pins σ Q (.ref p) s' := by
  have hn : H p = none := I.hok.fresh hp
  have J : Inv X pins σ (upd H p (.lst xs)) { s with heap := s'.heap, gens := s'.gens, drawn := s'.drawn, toks := s'.toks } :=
    I.call (ch := []) (Un.laid k hp hn) (I.hok.laid k hp ⟨hl, out.toList, c, hv, hg⟩) (by rw [g]; exact I.bare) (fun _ z => nomatch z)
  obtain ⟨h', g', d', t', o'⟩ := s'
  obtain ⟨h0, g0, d0, t0, o0⟩ := s
  cases o
  exact ⟨.ref p, _, J, rfl, q hn⟩
theorem pe_sortSet {X : Cx} {a : Expr} {ta : TE} {p p2 q pos : Pos} (hc : X.calm = true) (hu : X.A.units + 64 < cLine) (hg : Gl X "sorted") (hm : X.mg "sorted" = none) (hg2 : Gl X "set") (hm2 : X.mg "set" = none) (ha : PE X a ta)
    (na : starEach [a] X.env = (false, eval a X.env) :: starEach [] X.env := by rfl) : PE X (.Call (.Name "sorted" p) [.Call (.Name "set" p2) [a] [] q] [] pos) (tSortSet X.K ta) := by
  refine ⟨fun pins s σ H Q I h => ?_⟩
  have bs : bootBuiltins "sorted" = some (.builtin "sorted") := by first | boot_by_name | rfl | kernel_rfl
  refine Call_ (ld_blt I hg hm bs ?_)
  refine PyProof.Rows.callWith_builtin1 (PyProof.Rows.args_cons ?_ rfl) rfl rfl
  refine Call_ (ld_blt I hg2 hm2 PyProof.Rows.boot_set ?_)
  refine PyProof.Rows.callWith_type1 (PyProof.Rows.args_cons (thn (ha.run pins s σ H _ I h) fun v s1 ⟨x, H1, I1, r1, l, xs, ex, hs, q1⟩ => PyProof.Rows.args_nil ?_) na) na rfl
  subst ex
  obtain rfl : v = Value.ref l := r1
  obtain ⟨its, rv, sq⟩ := seq_at I1 hs
  have hcalm := I1.ok.hd hc
  rcases q1 with ⟨ns, rfl, hl, q1⟩ | ⟨ks, d, B, rfl, hk, hl, hd, hB, q1⟩
  · refine set_ints ns sq hcalm (by simpa using rv.ints) (by unfold scanBound; omega) fun h' tk c R hcn k => PyProof.Rows.args_nil ?_
    have I2 : Inv X pins σ H1 { s1 with heap := h', toks := tk } := I1.kept k
    refine sorted_set (s := { s1 with heap := h', toks := tk }) R hcalm (by omega) fun s' p out c' ns' k' g o hp hgt hi pw hmem hlen => ?_
    refine laid_list I2 k' g o hp hgt (xs := ns'.map V.int) ?_ (by rw [List.length_map, sizeLine_eq]; omega) fun hn => q1 ns' p pw (fun j => by rw [hmem j]; simp) hn
    exact vals_of_ints hi
  · refine set_tups ks sq hcalm (by simpa using refs_of_vals rv) (fun p hp => I1.isT (hk p hp)) hl (by omega) fun h' tk L es ep t R g0 k => PyProof.Rows.args_nil ?_
    have I2 : Inv X pins σ H1 { s1 with heap := h', toks := tk } := I1.kept k
    have sub : ∀ q ∈ L, q ∈ ks := fun q hq => List.mem_of_mem_take (g0.sub q hq)
    refine sorted_setT (s := { s1 with heap := h', toks := tk }) R hcalm hd (fun p hp => hB p (sub p hp)) fun s' p out c' L' k' g o hp hgt hout pm pw => ?_
    refine laid_list I2 k' g o hp hgt (xs := L'.map fun q => V.ref q.1) (by rw [hout]; exact vals_of_refs L') (by rw [List.length_map, pm.length_eq, sizeLine_eq]; have := R.few; omega) fun hn => q1 L' p (fun q hq => sub q (pm.mem_iff.mp hq)) (fun q hq => ?_) ((pm.map (·.2)).nodup_iff.mpr R.nd) pw hn
    rw [(pm.map (·.2)).mem_iff]
    exact g0.all q (by rw [List.take_length]; exact hq)
end SE
namespace Dn
open PySem PySem.Spec PyProof.Rows L2
open Classical
def asPair : W → Option (Int × Int)
  | .tup [.int i, .int j] => some (i, j)
  | _ => none
def insU (x : Int) : List Int → List Int
  | [] => [x]
  | y :: ys => if x < y then x :: y :: ys else if x = y then y :: ys else y :: insU x ys
def sortU (l : List Int) : List Int := l.foldr insU []
def ltP (x y : Int × Int) : Bool := decide (x.1 < y.1 ∨ (x.1 = y.1 ∧ x.2 < y.2))
def insP (x : Int × Int) : List (Int × Int) → List (Int × Int)
  | [] => [x]
  | y :: ys => if ltP x y = true then x :: y :: ys else if x = y then y :: ys else y :: insP x ys
def sortP (l : List (Int × Int)) : List (Int × Int) := l.foldr insP []
def pairW (x : Int × Int) : W := .tup [.int x.1, .int x.2]
def smallP (x : Int × Int) : Bool := decide (0 ≤ x.1 ∧ x.1 < 64 ∧ 0 ≤ x.2 ∧ x.2 < 64)
theorem mem_insU {x k : Int} : ∀ {l : List Int}, k ∈ insU x l ↔ k = x ∨ k ∈ l
  | [] => by simp [insU]
  | y :: ys => by
    unfold insU
    split
    · simp
    · split
      · rename_i h; subst h; simp
      · simp only [List.mem_cons, mem_insU (l := ys)]
        constructor <;> (rintro (h | h | h) <;> simp [h])
theorem mem_sortU {k : Int} : ∀ {l : List Int}, k ∈ sortU l ↔ k ∈ l
  | [] => by simp [sortU]
  | y :: ys => by
    have := mem_sortU (k := k) (l := ys)
    unfold sortU at this ⊢
    rw [List.foldr_cons, mem_insU, this, List.mem_cons]
theorem insU_lt {x : Int} : ∀ {l : List Int}, l.Pairwise (· < ·) → (insU x l).Pairwise (· < ·)
  | [], _ => by simp [insU]
  | y :: ys, h => by
    unfold insU
    have h1 := List.pairwise_cons.mp h
    split
    · rename_i hxy
      refine List.pairwise_cons.mpr ⟨fun z hz => ?_, h⟩
      rcases List.mem_cons.mp hz with e | hz
      · omega
      · have := h1.1 z hz; omega
    · split
      · exact h
      · refine List.pairwise_cons.mpr ⟨fun z hz => ?_, insU_lt h1.2⟩
        rcases mem_insU.mp hz with e | hz
        · omega
        · exact h1.1 z hz
theorem sortU_lt : ∀ l : List Int, (sortU l).Pairwise (· < ·)
  | [] => .nil
  | x :: l => insU_lt (sortU_lt l)
theorem mem_insP {x k : Int × Int} : ∀ {l : List (Int × Int)}, k ∈ insP x l ↔ k = x ∨ k ∈ l
  | [] => by simp [insP]
  | y :: ys => by
    unfold insP
    split
    · simp
    · split
      · rename_i h; subst h; simp
      · simp only [List.mem_cons, mem_insP (l := ys)]
        constructor <;> (rintro (h | h | h) <;> simp [h])
theorem mem_sortP {k : Int × Int} : ∀ {l : List (Int × Int)}, k ∈ sortP l ↔ k ∈ l
  | [] => by simp [sortP]
  | y :: ys => by
    have := mem_sortP (k := k) (l := ys)
    unfold sortP at this ⊢
    rw [List.foldr_cons, mem_insP, this, List.mem_cons]
theorem ltP_trans {x y z : Int × Int} (a : ltP x y = true) (b : ltP y z = true) : ltP x z = true := by
  unfold ltP at *
  simp only [decide_eq_true_eq] at *
  omega
theorem ltP_irr {x : Int × Int} : ltP x x ≠ true := by
  unfold ltP
  simp
theorem ltP_tot {x y : Int × Int} (h1 : ltP x y ≠ true) (h2 : x ≠ y) : ltP y x = true := by
  have h1 : ¬ (x.1 < y.1 ∨ (x.1 = y.1 ∧ x.2 < y.2)) := fun h => h1 (decide_eq_true h)
  refine decide_eq_true ?_
  by_cases e : x.1 = y.1
  · have : x.2 ≠ y.2 := fun z => h2 (Prod.ext e z)
    omega
  · omega
theorem insP_lt {x : Int × Int} : ∀ {l : List (Int × Int)}, l.Pairwise (fun a b => ltP a b = true) → (insP x l).Pairwise (fun a b => ltP a b = true)
  | [], _ => by simp [insP]
  | y :: ys, h => by
    unfold insP
    have h1 := List.pairwise_cons.mp h
    split
    · rename_i hxy
      refine List.pairwise_cons.mpr ⟨fun z hz => ?_, h⟩
      rcases List.mem_cons.mp hz with e | hz
      · rw [e]; exact hxy
      · exact ltP_trans hxy (h1.1 z hz)
    · split
      · exact h
      · rename_i a b
        refine List.pairwise_cons.mpr ⟨fun z hz => ?_, insP_lt h1.2⟩
        rcases mem_insP.mp hz with e | hz
        · rw [e]; exact ltP_tot a b
        · exact h1.1 z hz
theorem sortP_lt : ∀ l : List (Int × Int), (sortP l).Pairwise (fun a b => ltP a b = true)
  | [] => .nil
  | x :: l => insP_lt (sortP_lt l)
/-- two lists that rise strictly and have the same members -/
theorem rise_eq {α : Type} {lt : α → α → Prop} (irr : ∀ x, ¬ lt x x) (tr : ∀ x y z, lt x y → lt y z → lt x z) : ∀ {l l' : List α}, l.Pairwise lt → l'.Pairwise lt → (∀ k, k ∈ l ↔ k ∈ l') → l = l'
  | [], [], _, _, _ => rfl
  | [], y :: ys, _, _, h => absurd ((h y).mpr (List.mem_cons_self ..)) (by simp)
  | x :: xs, [], _, _, h => absurd ((h x).mp (List.mem_cons_self ..)) (by simp)
  | x :: xs, y :: ys, a, b, h => by
    have a1 := List.pairwise_cons.mp a
    have b1 := List.pairwise_cons.mp b
    have e : x = y := by
      rcases List.mem_cons.mp ((h x).mp (List.mem_cons_self ..)) with e | h1
      · exact e
      · rcases List.mem_cons.mp ((h y).mpr (List.mem_cons_self ..)) with e | h2
        · exact e.symm
        · exact absurd (tr _ _ _ (b1.1 x h1) (a1.1 y h2)) (irr y)
    subst e
    rw [rise_eq irr tr a1.2 b1.2 fun k => ?_]
    constructor
    · intro hk
      rcases List.mem_cons.mp ((h k).mp (List.mem_cons_of_mem _ hk)) with e | h2
      · rw [e] at hk; exact absurd (a1.1 x hk) (irr x)
      · exact h2
    · intro hk
      rcases List.mem_cons.mp ((h k).mpr (List.mem_cons_of_mem _ hk)) with e | h2
      · rw [e] at hk; exact absurd (b1.1 x hk) (irr x)
      · exact h2
def itemsW (x : W) (st : Store) : Option (List W) := match x with
  | .tup l => some l
  | .loc n => st[n]?
  | _ => none
def sortSet (l : List W) : Option (List W) := match allS (l.map asInt) with
  | some ns => if ns.length < 64 then some ((sortU ns).map .int) else none
  | none => match allS (l.map asPair) with
    | some ps => if ps.all smallP = true ∧ ps.length < 64 then some ((sortP ps).map pairW) else none
    | none => none
def eSortSet (f : Den W) : Den W := fun sl st => bnd (f sl st) fun x st1 => match itemsW x st1 with
  | some l => match sortSet l with
    | some l' => okW (.loc st1.length) (st1 ++ [l'])
    | none => none
  | none => none
def pk2 (x : Int × Int) : List Int := [x.1, x.2]
/-- the pairs' addresses -/
theorem reps_pairs {K : PySem.W.Frag} {α : List Addr} {H : Hp} : ∀ {vs : List V} {l : List W} {ps : List (Int × Int)}, Reps K α H vs l → allS (l.map asPair) = some ps →
    ∃ ks : List (Addr × List Int), vs = ks.map (fun p => V.ref p.1) ∧ ks.map (·.2) = ps.map pk2 ∧ ∀ p ∈ ks, SqT K H p.1 (p.2.map V.int) := by
  intro vs l
  induction l generalizing vs with
  | nil => intro ps r e; cases r; cases e; exact ⟨[], rfl, rfl, fun p h => nomatch h⟩
  | cons w l ih =>
    intro ps r e
    cases r with | cons a b =>
    simp only [List.map_cons] at e
    cases q : asPair w with
    | none => rw [q] at e; simp [allS] at e
    | some p0 =>
      rw [q] at e
      cases q2 : allS (l.map asPair) with
      | none => simp [allS, q2] at e
      | some ps' =>
        simp [allS, q2] at e
        subst e
        obtain ⟨ks, e1, e2, e3⟩ := ih b q2
        unfold asPair at q
        split at q
        · rename_i i j
          cases q
          cases a with | tup h1 rs =>
          cases rs with | cons r1 r2 =>
          cases r2 with | cons r2 r3 =>
          cases r3
          cases r1
          cases r2
          rename_i ad
          refine ⟨(ad, [i, j]) :: ks, by rw [e1]; rfl, by simp [e2, pk2], fun p hp => ?_⟩
          rcases List.mem_cons.mp hp with e | hp
          · rw [e]; exact h1
          · exact e3 p hp
        · cases q
theorem reps_of_pairs {K : PySem.W.Frag} {α : List Addr} {H : Hp} : ∀ {L : List (Addr × List Int)} {ps : List (Int × Int)}, L.map (·.2) = ps.map pk2 → (∀ p ∈ L, SqT K H p.1 (p.2.map V.int)) → Reps K α H (L.map fun p => V.ref p.1) (ps.map pairW)
  | [], [], _, _ => .nil
  | [], _ :: _, e, _ => by cases e
  | _ :: _, [], e, _ => by cases e
  | (a, k) :: L, p :: ps, e, h => by
    simp only [List.map_cons, List.cons.injEq] at e
    obtain ⟨rfl, e2⟩ := e
    exact .cons (.tup (h _ (List.mem_cons_self ..)) (.cons (.int _) (.cons (.int _) .nil))) (reps_of_pairs e2 fun q hq => h q (List.mem_cons_of_mem _ hq))
section
variable {X : Cx} {E : XT} {pos p1 p2 p3 : Pos} {a : Expr} {f : Den W}
theorem ev_sortSet {K : PySem.W.Frag} {mg : Str → Option Value} {ta : TE} (y : Ev K mg (Rep K) ta f E) : Ev K mg (Rep K) (SE.tSortSet K ta) (eSortSet f) E := by
  intro sl st res α σ H Q e hs hst hP
  refine y.bind hs hst e hP fun x st1 α1 v H1 e1 p1 f1 rx s1 => ?_
  have hP1 := hP.mono p1 f1
  cases hi : itemsW x st1 with
  | none => rw [hi] at e1; cases e1
  | some l =>
    rw [hi] at e1
    simp only at e1
    cases hss : sortSet l with
    | none => rw [hss] at e1; cases e1
    | some l' =>
      rw [hss] at e1
      simp only at e1
      obtain ⟨ad, xs, ev, hsq, hr⟩ : ∃ (ad : Addr) (xs : List V), v = .ref ad ∧ (SqL K H1 ad xs ∨ SqT K H1 ad xs) ∧ Reps K α1 H1 xs l := by
        unfold itemsW at hi
        split at hi
        · cases hi
          cases rx with | tup h1 rs => exact ⟨_, _, rfl, .inr h1, rs⟩
        · cases rx with | loc h1 =>
          obtain ⟨ws, vs, a1, a2, a3⟩ := s1.loc h1
          rw [a1] at hi
          cases hi
          exact ⟨_, _, rfl, .inl (.inl (.inl a2)), a3⟩
        · cases hi
      refine ⟨ad, xs, ev, hsq, ?_⟩
      unfold sortSet at hss
      split at hss
      · rename_i ns hns
        split at hss
        · rename_i hl
          cases hss
          refine .inl ⟨ns, reps_ints hr hns, hl, fun ns' p pw hm hp => ?_⟩
          have : ns' = sortU ns := rise_eq (lt := (· < ·)) (fun x => by omega) (fun x y z => by omega) pw (sortU_lt ns) fun k => by rw [hm k, mem_sortU]
          subst this
          exact Post.newL e1 hP1 s1 (reps_of_ints _) hp
        · cases hss
      · split at hss
        · rename_i ps hps
          split at hss
          · rename_i hl
            cases hss
            obtain ⟨ks, k1, k2, k3⟩ := reps_pairs hr hps
            have hlen : ks.length = ps.length := by
              have := congrArg List.length k2
              simpa using this
            have inK : ∀ q ∈ ks, ∃ x ∈ ps, q.2 = pk2 x := fun q hq => by
              have : q.2 ∈ ks.map (·.2) := List.mem_map_of_mem hq
              rw [k2] at this
              obtain ⟨x, hx, e⟩ := List.mem_map.mp this
              exact ⟨x, hx, e.symm⟩
            have sm : ∀ x ∈ ps, 0 ≤ x.1 ∧ x.1 < 64 ∧ 0 ≤ x.2 ∧ x.2 < 64 := fun x hx => by
              have := List.all_eq_true.mp hl.1 x hx
              unfold smallP at this
              exact of_decide_eq_true this
            refine .inr ⟨ks, 2, 64, k1, k3, by omega, by omega, fun q hq => ?_, fun L p sub all nd pw hp => ?_⟩
            · obtain ⟨x, hx, e⟩ := inK q hq
              have := sm x hx
              rw [e]
              refine ⟨rfl, fun z hz => ?_⟩
              simp [pk2] at hz
              rcases hz with rfl | rfl <;> omega
            · -- L's pairs
              have hL : ∃ qs : List (Int × Int), L.map (·.2) = qs.map pk2 ∧ ∀ x ∈ qs, x ∈ ps := by
                clear pw nd all
                induction L with
                | nil => exact ⟨[], rfl, fun x h => nomatch h⟩
                | cons q L ih =>
                  obtain ⟨qs, e1, e2⟩ := ih (fun z hz => sub z (List.mem_cons_of_mem _ hz))
                  obtain ⟨x, hx, e⟩ := inK q (sub q (List.mem_cons_self ..))
                  refine ⟨x :: qs, by simp [e1, e], fun z hz => ?_⟩
                  rcases List.mem_cons.mp hz with rfl | hz
                  · exact hx
                  · exact e2 z hz
              obtain ⟨qs, e2, e3⟩ := hL
              have inj : ∀ x y : Int × Int, pk2 x = pk2 y → x = y := fun x y h => by
                simp [pk2] at h
                exact Prod.ext h.1 h.2
              have nq : (qs.map pk2).Nodup := by rw [← e2]; exact nd
              have pwq : qs.Pairwise (fun x y => ltP x y = true) := by
                have pw2 : (L.map (·.2)).Pairwise (fun k r => TS.code 64 k ≤ TS.code 64 r) := List.pairwise_map.mpr pw
                rw [e2] at pw2
                have both := List.pairwise_map.mp (nq.and pw2)
                refine List.Pairwise.imp_of_mem (fun {x y} hx hy h => ?_) both
                have a1 := sm x (e3 x hx)
                have a2 := sm y (e3 y hy)
                unfold ltP
                exact decide_eq_true (pair_lt h.2 h.1 ⟨a1.1, a1.2.1⟩ ⟨a1.2.2.1, a1.2.2.2⟩ ⟨a2.1, a2.2.1⟩ ⟨a2.2.2.1, a2.2.2.2⟩)
              have mem : ∀ k, k ∈ qs ↔ k ∈ ps := fun k => by
                refine ⟨e3 k, fun hk => ?_⟩
                have : pk2 k ∈ ks.map (·.2) := by rw [k2]; exact List.mem_map_of_mem hk
                obtain ⟨q, hq, e⟩ := List.mem_map.mp this
                have h2 := all q hq
                rw [e2, e] at h2
                obtain ⟨x, hx, ex⟩ := List.mem_map.mp h2
                rw [← inj x k ex]; exact hx
              have : qs = sortP ps := rise_eq (lt := fun x y => ltP x y = true) (fun x => ltP_irr) (fun x y z => ltP_trans) pwq (sortP_lt ps) fun k => by rw [mem k, mem_sortP]
              subst this
              exact Post.newL e1 hP1 s1 (reps_of_pairs e2 fun q hq => k3 q (sub q hq)) hp
          · cases hss
        · cases hss
theorem d_sortSet (hc : X.calm = true) (hu : X.A.units + 64 < cLine) (hs1 : X.mg "sorted" = none) (hs2 : X.mg "set" = none) (hg1 : Gl X "sorted") (hg2 : Gl X "set") (ha : DE X E a f)
    (na : starEach [a] X.env = (false, eval a X.env) :: starEach [] X.env := by rfl) : DE X E (.Call (.Name "sorted" p1) [.Call (.Name "set" p2) [a] [] p3] [] pos) (eSortSet f) :=
  let ⟨_, x, y⟩ := ha
  ⟨_, SE.pe_sortSet hc hu hg1 hs1 hg2 hs2 x na, ev_sortSet y⟩
end
end Dn

set_option Elab.async false
set_option linter.all false
set_option maxRecDepth 100000
set_option maxHeartbeats 1000000
/-! SetC: {a tuple of ints for t in it}, counted. -/
namespace SE
open PySem PySem.Spec PyProof.Rows L2 Dn PpSet
section
variable {X : Cx} {pins : List (Addr × Obj)} {σ : L2.St} {H : Hp} {s : Shared} {D x : Addr} {k : List Int} {L : List (Addr × List Int)} {E : Value → Shared → Prop} {Q : Value → Shared → Prop}
theorem set_state (I : Inv X pins σ H s) (hD : H D = some (SetTO X.prog X.w D L)) (hL : ∀ p ∈ L, SqT X.K H p.1 (p.2.map V.int)) : ∃ es ep t, SetTR X.prog X.w s.heap D L es ep t := by
  have z : SetT0 X.prog X.w s.heap D L := (I.hok D _ hD).1
  exact z.full fun p hp => I.isT (hL p hp)
theorem add_ok (I : Inv X pins σ H s) (hD : H D = some (SetTO X.prog X.w D L)) (hL : ∀ p ∈ L, SqT X.K H p.1 (p.2.map V.int)) (hx : SqT X.K H x (k.map V.int)) (few : L.length + 1 < 64) (hu : X.A.units + 64 < cLine)
    (h : ∀ L' s', (k ∈ L.map (·.2) → L' = L) → (k ∉ L.map (·.2) → L'.Perm ((x, k) :: L)) → Inv X pins σ (upd H D (SetTO X.prog X.w D L')) s' → Q .none s') : wpAny (model X.prog X.w) X.A (call (.builtin "set.add") [.ref D, .ref x]) Q E s := by
  obtain ⟨es, ep, t, R⟩ := set_state I hD hL
  have ix := I.isT hx
  obtain ⟨o, ho, hex, hd⟩ := R.ob
  refine wpAny_call_entry F.slot_set_add ⟨o, ho, hex.1⟩ F.entry_set_add ?_ (F.args_set_add_2 _ _)
  unfold Builtin.«set.add» Builtin.Frozenset.oneOther Builtin.Frozenset.addrOf setAdd
  simp only [List.isEmpty_nil, bind_assoc]
  refine wpAny_bind (wpAny_pure ?_)
  try dsimp only
  refine wpAny_bind (wpAny_pure ?_)
  try dsimp only
  refine wpAny_bind (wpAny_holding (wpAny_bind (wpAny_pyHash_tuple (by simp [Around.in1]; omega) ix ?_)))
  refine add_at (s := { s with toks := s.toks + (k.length + 1) }) R ix (by simp [Around.in1]; omega) few fun b h' L' es' ep' t' sb R' c1 c2 => ?_
  show wpAny _ _ (ret Value.none) _ _ _
  refine wpAny_pure ⟨_, rfl, h L' _ c1 c2 (I.write (e := D) (by rw [hD]; trivial) (.inl rfl) (fun b u hb hu => (sb.2 b hb).trans hu) ?_ (setTO_new R'.t0))⟩
  obtain ⟨o', ho', _⟩ := R'.ob
  exact ⟨o', ho'⟩
end
/-! ### the comprehension, and its length -/
section
variable {X : Cx}
/-- one turn's element is put into the set at D -/
def putT (P : Program) (w : World) (K : PySem.W.Frag) (D : Addr) (Nx : Hp → Prop) : VK := fun y H4 => ∃ (x : Addr) (k : List Int) (L : List (Addr × List Int)), y = .ref x ∧ SqT K H4 x (k.map V.int) ∧ H4 D = some (SetTO P w D L) ∧ (∀ p ∈ L, SqT K H4 p.1 (p.2.map V.int)) ∧ L.length + 1 < 64 ∧
  ∀ L', (k ∈ L.map (·.2) → L' = L) → (k ∉ L.map (·.2) → L'.Perm ((x, k) :: L)) → Nx (upd H4 D (SetTO P w D L'))
def tSct (P : Program) (w : World) (K : PySem.W.Frag) (wi : TI) (g : TG) (te : TE) (vs : List Nat) : TE := fun σ H Q => wi σ H fun J H1 => ∀ D, H1 D = none → ∃ W : Nat → Nat → Hp → Prop, (∃ m, W 0 m (upd H1 D (SetTO P w D []))) ∧ ∀ i m H, W i m H →
  (J.stop i H ∧ Q (.ref D) H) ∨ (J.go i H ∧ ∃ Nx : Hp → Prop, (∀ H', Nx H' → ∃ m', m' < m ∧ W (i + 1) m' H') ∧ ∀ x H', J.yld i H x H' → g x (wipe σ vs) H' fun σ2 H2 => wipe σ2 vs = wipe σ vs ∧ te σ2 H2 (putT P w K D Nx))
theorem pe_sct {elt tg iter : Expr} {scope : Scope} {own : List (PySem.Str × Nat)} {pos : Pos} {wi : TI} {g : TG} {te : TE} (hc : X.calm = true) (hN : X.N.Nodup) (hu : X.A.units + 64 < cLine) (hi : PI X tg iter wi) (ok : BlkOk X.N X.env.scope scope own)
    (hg : ∀ (s : Shared) (H : Hp) (C : Addr) (cl : List (PySem.Str × Addr)) (fp : List Addr), PG (X.blk s H scope (compEnvC scope cl C X.env) fp) tg g)
    (he : ∀ (s : Shared) (H : Hp) (C : Addr) (cl : List (PySem.Str × Addr)) (fp : List Addr), PE (X.blk s H scope (compEnvC scope cl C X.env) fp) elt te) (hs : ∀ x, foldedSetIterable iter X.env x = pure x := by intro _; rfl) :
    PE X (.SetComp elt [⟨tg, iter, [], 0⟩] scope pos) (tSct X.prog X.w X.K wi g te (own.map (·.2))) := by
  refine ⟨fun pins s σ H Q I h => ?_⟩
  rw [eval_SetComp]
  have caught : ∀ y ∈ scope.names, y.2 = .free → ∃ c, X.env.cells.lookup y.1 = some c := fun y hy e => (ok.free y hy e).elim (fun z => I.ok.has _ (.inl z)) fun z => I.ok.has _ (.inr z)
  refine wpAny_comprehension_free rfl hs (closure_ok caught) ok.kind (fun y hy e => by rw [ok.uniq y hy, e]) (thn (hi.run pins s σ H _ I h) fun xv s1 hx => thn hx fun itv s2 ⟨it, fp, tn, J, H2, e, I2, T, st2, f2, q⟩ => ?_)
  subst e
  refine newSet_ok (newEnv_comp ?_)
  obtain ⟨D, hD⟩ : ∃ D, D = s2.heap.objs.size := ⟨_, rfl⟩
  have hDn : H2 D = none := I2.hok.fresh (by rw [hD]; exact Nat.le_refl _)
  obtain ⟨W, ⟨m0, w0⟩, turn⟩ := q D hDn
  obtain ⟨s3, hs3⟩ : ∃ s3 : Shared, s3 = { s2 with heap := s2.heap.push (noSet X.w) } := ⟨_, rfl⟩
  obtain ⟨H3, hH3⟩ : ∃ H3, H3 = upd H2 D (SetTO X.prog X.w D []) := ⟨_, rfl⟩
  have h3 : s3.heap = s2.heap.push (noSet X.w) := by rw [hs3]
  have I3 : Inv X pins σ H3 s3 := by
    rw [hs3, hH3]
    refine I2.laid (t' := s2.toks) (fun b o e => Heap.get?_push_of_some _ e) (by rw [hD]; exact Nat.le_refl _) (setTO_new (SetTR.t0 (setTR_fresh ?_)))
    rw [hD]
    exact Heap.get?_push_size _ rfl
  have low : ∀ b ∈ fp, b < s2.heap.objs.size := fun b hb => let ⟨o, e, _⟩ := T.obj _ _ st2 b hb; Heap.lt_size e
  have f3 : ∀ b ∈ fp, FpOk X pins H3 b ∧ b < s3.heap.objs.size := fun b hb => by
    have hlt := low b hb
    refine ⟨⟨?_, (f2 b hb).2⟩, by rw [h3, Heap.size_push]; exact Nat.lt_succ_of_lt hlt⟩
    rw [hH3, upd_ne (by rw [hD]; exact Nat.ne_of_lt hlt)]
    exact (f2 b hb).1
  have st3 : tn 0 s3.heap := T.keep _ _ _ st2 fun b _ o e => by rw [h3]; exact Heap.get?_push_of_some _ e
  have I4 := block_start I3 ok hN f3
  rw [← hH3] at w0
  rw [← hD]
  rw [← hs3]
  show codeAny _ _ (.compStart (.SetComp elt [⟨tg, iter, [], 0⟩] scope pos) 0 (.ref it) (.ref D) (compEnvC scope (cellsFrom (s3.heap.objs.size + 1) scope.names (cloFrom X.env.cells scope.names [])) s3.heap.objs.size X.env)) (compPost (model X.prog X.w) X.A X.xe none (EP X pins σ Q) (.ref D) s3.heap.objs.size) { s3 with heap := pushCells (s3.heap.push { cls := .type "dict", data := .dict #[] }) scope.names }
  obtain ⟨ce, hce⟩ : ∃ ce, ce = compEnvC scope (cellsFrom (s3.heap.objs.size + 1) scope.names (cloFrom X.env.cells scope.names [])) s3.heap.objs.size X.env := ⟨_, rfl⟩
  have cL : ce.locals = s3.heap.objs.size := by rw [hce]; rfl
  have pg := hg s3 H3 s3.heap.objs.size (cellsFrom (s3.heap.objs.size + 1) scope.names (cloFrom X.env.cells scope.names [])) fp
  have pe := he s3 H3 s3.heap.objs.size (cellsFrom (s3.heap.objs.size + 1) scope.names (cloFrom X.env.cells scope.names [])) fp
  obtain ⟨s4, hs4⟩ : ∃ s4 : Shared, s4 = { s3 with heap := pushCells (s3.heap.push { cls := .type "dict", data := .dict #[] }) scope.names } := ⟨_, rfl⟩
  rw [← hce] at I4 pg pe ⊢
  rw [← hs4] at I4 ⊢
  have st4 : tn 0 s4.heap := T.keep _ _ _ st3 fun b _ o e => by rw [hs4]; exact pushCells_keeps _ _ _ _ (Heap.get?_push_of_some _ e)
  have own' : ∀ {σ' : L2.St} {H' : Hp} {s' : Shared}, Inv (X.blk s3 H3 scope ce fp) [] σ' H' s' → (∀ b ∈ fp, H' b = none) → ∀ b ∈ fp, FpOk (X.blk s3 H3 scope ce fp) [] H' b := fun {σ' H' s'} I' hn b hb =>
    ⟨hn b hb, (I'.ok.exf b hb).1, I'.ok.exfs b hb, .inl hb, fun x c e => (I'.ok.exf b hb).2 x c e, fun p hp => absurd (show p ∈ ([] : List (Addr × Obj)) ++ [] from hp) (by simp)⟩
  refine codeAny_compStart_set ?loop (T.self X.A 0 _ _ _ st4 ?loop)
  refine compLoopS_any (fun n s' => ∃ i H', Inv (X.blk s3 H3 scope ce fp) [] (wipe σ (own.map (·.2))) H' s' ∧ tn i s'.heap ∧ (∀ b ∈ fp, H' b = none) ∧ W i n H') ?_ m0 ⟨0, H3, I4, st4, fun b hb => (f3 b hb).1.1, w0⟩
  rintro n s5 ⟨i, H5, I5, st5, n5, w5⟩
  rcases turn i n H5 w5 with ⟨stop, qq⟩ | ⟨go, Nx, hNx, step⟩
  · refine thnF (T.done (X.blk s3 H3 scope ce fp) rfl rfl rfl hc i [] s5 _ H5 (fun _ _ => False) I5 (own' I5 n5) st5 stop) fun r s6 ⟨hr, I6⟩ => ?_
    subst hr
    have I7 : Inv X pins σ H5 s6 := I3.call' (ch := fp) I6.os I6.base I6.hok I6.bare fun b hb => ⟨(f3 b hb).1.2.2.2.1, (f3 b hb).1.2.1, (f3 b hb).1.2.2.2.2.1, (f3 b hb).1.2.2.2.2.2⟩
    have nC : H5 s3.heap.objs.size = none := by rw [← cL]; exact I6.free
    obtain ⟨m, hn, _⟩ := I6.loc
    obtain ⟨f0, f1, f2', f3', f4, f5⟩ := I3.fpOk (H' := H5) (Nat.le_refl _) nC
    refine ⟨m, ?_, fun h'' sb => ⟨.ref D, H5, I7.turned (t' := s6.toks) (fun b o hb e => (sb.2 b hb).trans e) f0 f1 f3' f4 f5, rfl, qq⟩⟩
    rw [← cL]
    exact hn
  · refine thnF (T.item (X.blk s3 H3 scope ce fp) rfl rfl rfl hc i [] s5 _ H5 (fun _ _ => False) I5 (own' I5 n5) st5 go) fun r s6 ⟨u, hr, h6⟩ => ?_
    subst hr
    refine thnF h6 fun _ s7 ⟨x, H7, I7, r7, y7, st7, n7⟩ => ?_
    refine thnF (pg.run _ s7 _ H7 x u _ (I7.pinned (own' I7 n7) (T.obj _ _ st7)) r7 (step x H7 y7)) fun _ s8 ⟨σ8, H8, I8, hw8, q8⟩ => ?_
    refine wpAny_pure ?_
    simp only [if_true]
    refine thnF (pe.run _ s8 σ8 H8 _ I8 q8) fun z s9 ⟨yv, H9, I9, r9, xa, k, L, ey, hx, hD9, hL, few, nx⟩ => ?_
    subst ey
    cases (show z = Value.ref xa from r9)
    refine add_ok (X := X.blk s3 H3 scope ce fp) I9 hD9 hL hx few hu fun L' s' c1 c2 I' => ?_
    obtain ⟨m', hm, w'⟩ := hNx _ (nx L' c1 c2)
    have pin' : ∀ b ∈ fp, ∀ o, s7.heap.get? b = some o → s'.heap.get? b = some o ∧ upd H9 D (SetTO X.prog X.w D L') b = none := fun b hb o e =>
      let z := I'.pin (b, o) (List.mem_append_right _ (List.mem_append_right _ (mem_pinsAt hb e)))
      ⟨z.1, z.2.1⟩
    refine ⟨m', hm, i + 1, _, (I'.unpinned (pins := [])).weak (by rw [← hw8, wipe_length]) (fun j v e => ?_), T.keep _ _ _ st7 fun b hb o e => (pin' b hb o e).1, fun b hb => ?_, w'⟩
    · rw [← hw8] at e
      exact (wipe_some e).1
    · obtain ⟨o, e, _⟩ := T.obj _ _ st7 b hb
      exact (pin' b hb o e).2
/-- len of a set of tuples of ints -/
def tLenT (P : Program) (w : World) (K : PySem.W.Frag) (ta : TE) : TE := fun σ H Q => ta σ H fun x H1 => ∃ (D : Addr) (L : List (Addr × List Int)), x = .ref D ∧ H1 D = some (SetTO P w D L) ∧ (∀ p ∈ L, SqT K H1 p.1 (p.2.map V.int)) ∧ Q (.int L.length) H1
theorem pe_lenT {a : Expr} {ta : TE} {p pos : Pos} (hg : Gl X "len") (hm : X.mg "len" = none) (ha : PE X a ta) (na : starEach [a] X.env = (false, eval a X.env) :: starEach [] X.env := by rfl) : PE X (.Call (.Name "len" p) [a] [] pos) (tLenT X.prog X.w X.K ta) := by
  refine ⟨fun pins s σ H Q I h => ?_⟩
  refine Call_ (ld_blt I hg hm PySem.boot_len ?_)
  refine PyProof.Rows.callWith_builtin1 (PyProof.Rows.args_cons (thn (ha.run pins s σ H _ I h) fun v s1 ⟨x, H1, I1, r1, D, L, ex, hD, hL, q⟩ => PyProof.Rows.args_nil ?_) na) na rfl
  subst ex
  obtain rfl : v = Value.ref D := r1
  obtain ⟨es, ep, t, R⟩ := set_state I1 hD hL
  obtain ⟨o, ho, hex, hd⟩ := R.ob
  have hsz := R.size
  have few := R.few
  exact call_len_set ho hex hd R.fits (by rw [hsz]; omega) ⟨.int L.length, H1, I1.tok _, ⟨_, by rw [hsz]⟩, q⟩
end
end SE

set_option Elab.async false
set_option linter.all false
set_option maxRecDepth 100000
set_option maxHeartbeats 1000000
/-! Dn8: how many different pairs; what is never come to. -/
namespace Dn
open PySem PySem.Spec PyProof.Rows L2
open Classical
/-- at D something that is no list, no tuple: it may change -/
theorem sqT_upd {K : PySem.W.Frag} {H : Hp} {a D : Addr} {xs : List V} {P : Heap → Prop} {o : HO} (hD : H D = some (.ext P)) (h : SqT K H a xs) : SqT K (upd H D o) a xs := by
  have ne : ∀ {u : HO}, H a = some u → (∀ P', u ≠ .ext P') → a ≠ D := fun {u} e hu z => by
    rw [z, hD] at e
    exact hu P (Option.some.inj e).symm
  rcases h with (h | ⟨o', h⟩) | h
  · exact .inl (.inl (by rw [upd_ne (ne h (fun P' z => nomatch z))]; exact h))
  · exact .inl (.inr ⟨o', by rw [upd_ne (ne h (fun P' z => nomatch z))]; exact h⟩)
  · exact .inr h
mutual
theorem Rep.updX {K : PySem.W.Frag} {α : List Addr} {H : Hp} {D : Addr} {P : Heap → Prop} {o : HO} (hD : H D = some (.ext P)) {v : V} {w : W} (r : Rep K α H v w) : Rep K α (upd H D o) v w := by
  cases r with
  | non => exact .non
  | bl b => exact .bl b
  | int i => exact .int i
  | str s => exact .str s
  | tup h rs => exact .tup (sqT_upd hD h) (Reps.updX hD rs)
  | loc h => exact .loc h
  | ty n => exact .ty n
  | obj a => exact .obj a
  | frz h rs =>
    refine .frz ?_ (Reps.updX hD rs)
    rcases h with ⟨o', h⟩ | h
    · refine .inl ⟨o', ?_⟩
      rw [upd_ne (fun z => by rw [z, hD] at h; cases h)]
      exact h
    · exact .inr h
theorem Reps.updX {K : PySem.W.Frag} {α : List Addr} {H : Hp} {D : Addr} {P : Heap → Prop} {o : HO} (hD : H D = some (.ext P)) {vs : List V} {ws : List W} (r : Reps K α H vs ws) : Reps K α (upd H D o) vs ws := by
  cases r with
  | nil => exact .nil
  | cons a b => exact .cons (Rep.updX hD a) (Reps.updX hD b)
end
theorem StR.updX {K : PySem.W.Frag} {α : List Addr} {H : Hp} {st : Store} {D : Addr} {P : Heap → Prop} {o : HO} (hD : H D = some (.ext P)) (s : StR K α H st) : StR K α (upd H D o) st :=
  ⟨s.nd, s.len, fun n a ws e1 e2 => let ⟨vs, q1, q2⟩ := s.at_ n a ws e1 e2; ⟨vs, by rw [upd_ne (fun z => by rw [z, hD] at q1; cases q1)]; exact q1, q2.updX hD⟩⟩
theorem Fr.updN {H H' : Hp} {D : Addr} {o : HO} (f : Fr H H') (hn : H D = Option.none) : Fr H (upd H' D o) := fun a u e => by
  rw [upd_ne (fun z => by rw [z, hn] at e; cases e)]
  exact f a u e
theorem insP_len (x : Int × Int) : ∀ l, (insP x l).length ≤ l.length + 1
  | [] => by simp [insP]
  | y :: ys => by
    unfold insP
    have := insP_len x ys
    split
    · simp
    · split <;> simp <;> omega
theorem sortP_len : ∀ l, (sortP l).length ≤ l.length
  | [] => by simp [sortP]
  | x :: l => by
    have := sortP_len l
    have h2 := insP_len x (sortP l)
    unfold sortP at *
    rw [List.foldr_cons, List.length_cons]
    omega
theorem pk2_inj {x y : Int × Int} (h : pk2 x = pk2 y) : x = y := by
  simp [pk2] at h
  exact Prod.ext h.1 h.2
theorem many_diff {ls : List (List Int)} {acc : List (Int × Int)} (nd : ls.Nodup) (m : ∀ k, k ∈ ls ↔ k ∈ acc.map pk2) : ls.length = (sortP acc).length := by
  have n2 : ((sortP acc).map pk2).Nodup := by
    refine List.pairwise_map.mpr (List.Pairwise.imp (fun {x y} h z => ?_) (sortP_lt acc))
    rw [pk2_inj z] at h
    exact ltP_irr h
  have p : ls.Perm ((sortP acc).map pk2) := (List.perm_ext_iff_of_nodup nd n2).mpr fun k => by
    rw [m k, List.mem_map, List.mem_map]
    constructor <;> (rintro ⟨x, hx, e⟩; exact ⟨x, by first | exact mem_sortP.mpr hx | exact mem_sortP.mp hx, e⟩)
  rw [p.length_eq, List.length_map]
section
variable {X : Cx} {E : XT} {pos p1 p2 p3 : Pos} {a b c tg iter elt : Expr} {f g h : Den W}
noncomputable def scD (d : TgD) (f : Den W) (sl0 : Sl) (on : Option Nat) (all : List W) : List W → List (Int × Int) → Store → Option (Res W)
  | [], acc, st => if stays st (on, all) then okW (.int (sortP acc).length) st else none
  | w :: ws, acc, st => if stays st (on, all) ∧ acc.length ≤ 40 then match d w sl0 with
      | none => none
      | some sl1 => bnd0 (f sl1 st) fun y st2 => match asPair y with
          | some q => scD d f sl0 on all ws (acc ++ [q]) st2
          | none => none
    else none
noncomputable def eLenSC (fi : Den Wk) (vs : List Nat) (d : TgD) (f : Den W) : Den W := fun sl st => bnd (fi sl st) fun q st1 => scD d f (wipeW sl vs) q.1 q.2 q.2 [] st1
theorem ev_lenSC {P : Program} {w : World} {K : PySem.W.Frag} {mg : Str → Option Value} {wi : TI} {fi : Den Wk} {d : TgD} {js vs : List Nat} (hi : Ev K mg (JOk K) wi fi E) (hj : ∀ j ∈ js, j ∈ vs) :
    Ev K mg (Rep K) (SE.tLenT P w K (SE.tSct P w K wi (gD K d js) (tD K mg (Rep K) f E.no) vs)) (eLenSC fi vs d f) E := by
  intro sl st res α σ H Q e hs hst hP
  refine hi.bind hs hst e hP fun q st1 α1 J H1 e1 p1 f1 rJ s1 D hD => ?_
  obtain ⟨on, all⟩ := q
  have hP1 := hP.mono p1 f1
  have hs1 := hs.mono p1 f1
  refine ⟨fun i m H' => m = all.length - i ∧ i ≤ all.length ∧ ∃ (α' : List Addr) (st' : Store) (acc : List (Int × Int)) (L : List (Addr × List Int)), α1 <+: α' ∧ Fr H1 H' ∧ StR K α' H' st' ∧ H' D = some (SetTO P w D L) ∧ (∀ p ∈ L, SqT K H' p.1 (p.2.map V.int)) ∧ (L.map (fun q : Addr × List Int => q.2)).Nodup ∧ (∀ k : List Int, k ∈ L.map (fun q : Addr × List Int => q.2) ↔ k ∈ acc.map pk2) ∧ scD d f (wipeW sl vs) on all (all.drop i) acc st' = some res,
    ⟨_, rfl, Nat.zero_le _, α1, st1, [], [], List.prefix_refl _, Fr.new hD, s1.tup hD, upd_same, fun p h => absurd h List.not_mem_nil, .nil, fun k => by simp, by simpa using e1⟩, ?_⟩
  rintro i m H' ⟨rfl, hil, α', st', acc, L, pa, fa, ts, hDL, hL, nd, mem, ef⟩
  have lenL : L.length = (sortP acc).length := by rw [← many_diff nd mem, List.length_map]
  by_cases hlt : i < all.length
  · rw [List.drop_eq_getElem_cons hlt] at ef
    unfold scD at ef
    split at ef
    · rename_i hst'
      obtain ⟨_, hjj⟩ := rJ α' H' st' pa fa ts hst'.1 i
      obtain ⟨hgo, hy⟩ := hjj all[i] (List.getElem?_eq_getElem hlt)
      refine .inr ⟨hgo, fun H2 => ∃ (α2 : List Addr) (st2 : Store) (acc2 : List (Int × Int)) (L2 : List (Addr × List Int)), α1 <+: α2 ∧ Fr H1 H2 ∧ StR K α2 H2 st2 ∧ H2 D = some (SetTO P w D L2) ∧ (∀ p ∈ L2, SqT K H2 p.1 (p.2.map V.int)) ∧ (L2.map (fun q : Addr × List Int => q.2)).Nodup ∧ (∀ k : List Int, k ∈ L2.map (fun q : Addr × List Int => q.2) ↔ k ∈ acc2.map pk2) ∧ scD d f (wipeW sl vs) on all (all.drop (i + 1)) acc2 st2 = some res,
        fun H2 h => ⟨_, (by omega : all.length - (i + 1) < all.length - i), rfl, hlt, h⟩, fun x H2 yl => ?_⟩
      obtain ⟨fy, ty, ry⟩ := hy x H2 yl
      have fa2 := fa.trans fy
      cases qd : d all[i] (wipeW sl vs) with
      | none => simp [qd] at ef
      | some sl1 =>
        simp only [qd] at ef
        have s2 : SvR K E.T α' H2 (wipeW sl vs) (wipe σ vs) := (hs1.mono pa fa2).wipe vs
        refine ⟨_, all[i], _, sl1, α', qd, s2, ry, fun σ3 s3 ag => ⟨ag.wipe hj, ?_⟩⟩
        cases qf : f sl1 st' with
        | none => simp [qf, bnd0] at ef
        | some r2 =>
          cases r2 with
          | er x s => simp [qf, bnd0] at ef
          | ok y st3 =>
            simp only [qf, bnd0] at ef
            refine ⟨sl1, st', _, α', qf, s3, ty, fun α5 v H5 p5 f5 r5 t5 => ?_⟩
            cases qp : asPair y with
            | none => simp [qp] at ef
            | some q =>
              simp only [qp] at ef
              have f25 : Fr H2 H5 := f5
              have fH5 : Fr H1 H5 := fa2.trans f25
              have hD2 : H2 D = some (SetTO P w D L) := fy D _ hDL
              have hD5 : H5 D = some (SetTO P w D L) := f25 D _ hD2
              have keep : ∀ p ∈ L, SqT K H5 p.1 (p.2.map V.int) := fun p hp => f25.sqT (fy.sqT (hL p hp))
              unfold asPair at qp
              split at qp
              · rename_i i1 j1
                cases qp
                cases r5 with | tup h5 rs =>
                cases rs with | cons ra rb =>
                cases rb with | cons rb rc =>
                cases rc
                cases ra
                cases rb
                refine ⟨_, [i1, j1], L, rfl, h5, hD5, keep, by rw [lenL]; have := sortP_len acc; omega, fun L' c1 c2 => ?_⟩
                refine ⟨α5, st3, acc ++ [(i1, j1)], L', pa.trans p5, fH5.updN hD, t5.updX hD5, upd_same, fun p hp => sqT_upd hD5 ?_, ?_, fun k => ?_, ef⟩
                · by_cases hk : ([i1, j1] : List Int) ∈ L.map (·.2)
                  · rw [c1 hk] at hp; exact keep p hp
                  · rcases List.mem_cons.mp ((c2 hk).mem_iff.mp hp) with e | hp
                    · rw [e]; exact h5
                    · exact keep p hp
                · by_cases hk : ([i1, j1] : List Int) ∈ L.map (·.2)
                  · rw [c1 hk]; exact nd
                  · exact ((c2 hk).map (·.2)).nodup_iff.mpr (List.nodup_cons.mpr ⟨hk, nd⟩)
                · rw [List.map_append, List.mem_append]
                  have e1 : (k ∈ ([(i1, j1)] : List (Int × Int)).map pk2) ↔ k = [i1, j1] := by simp [pk2]
                  by_cases hk : ([i1, j1] : List Int) ∈ L.map (·.2)
                  · rw [c1 hk, mem k, e1]
                    exact ⟨.inl, fun h => h.elim id fun h => by rw [h]; exact (mem _).mp hk⟩
                  · rw [((c2 hk).map (·.2)).mem_iff, List.map_cons, List.mem_cons, mem k, e1]
                    exact Or.comm
              · cases qp
    · cases ef
  · have hi' : i = all.length := by omega
    subst hi'
    rw [List.drop_length] at ef
    unfold scD at ef
    split at ef
    · rename_i hst'
      obtain ⟨hjj, _⟩ := rJ α' H' st' pa fa ts hst' all.length
      refine .inl ⟨hjj rfl, D, L, rfl, hDL, hL, Post.now ef (hP1.mono pa fa) ?_ ts⟩
      rw [lenL]
      exact .int _
    · cases ef
theorem d_lenSC {scope : Scope} {own : List (Str × Nat)} {fi : Den Wk} {d : TgD} {js : List Nat} (hc : X.calm = true) (hu : X.A.units + 64 < cLine) (hN : X.N.Nodup) (hs1 : X.mg "len" = none) (hg1 : Gl X "len") (hi : DI X E tg iter fi) (ok : BlkOk X.N X.env.scope scope own)
    (hg : ∀ (s : Shared) (H : Hp) (C : Addr) (cl : List (Str × Addr)) (fp : List Addr), DG (X.blk s H scope (compEnvC scope cl C X.env) fp) tg d js)
    (he : ∀ (s : Shared) (H : Hp) (C : Addr) (cl : List (Str × Addr)) (fp : List Addr), DE (X.blk s H scope (compEnvC scope cl C X.env) fp) E.no elt f) (hj : ∀ j ∈ js, j ∈ own.map (·.2) := by decide) (hs : ∀ x, foldedSetIterable iter X.env x = pure x := by intro _; rfl)
    (na : starEach [.SetComp elt [⟨tg, iter, [], 0⟩] scope p2] X.env = (false, eval (.SetComp elt [⟨tg, iter, [], 0⟩] scope p2) X.env) :: starEach [] X.env := by rfl) :
    DE X E (.Call (.Name "len" p1) [.SetComp elt [⟨tg, iter, [], 0⟩] scope p2] [] pos) (eLenSC fi (own.map (·.2)) d f) := by
  obtain ⟨_, x, y⟩ := hi
  exact ⟨_, SE.pe_lenT hg1 hs1 (SE.pe_sct (g := gD X.K d js) (te := tD X.K X.mg (Rep X.K) f E.no) hc hN hu x ok (fun s H C cl fp => (hg s H C cl fp).canon) (fun s H C cl fp => (he s H C cl fp).canon) hs) na, ev_lenSC y hj⟩
/-- what is never come to -/
def sStuck : SD := fun _ _ => none
theorem ds_stuck {s : Stmt} : DS X E s sStuck := ⟨_, ps_never, fun sl st o α σ H D e => nomatch e⟩
end
end Dn

set_option Elab.async false
set_option linter.all false
set_option maxRecDepth 100000
set_option maxHeartbeats 1000000
/-! Dn9: zip of two tuples, a tuple read backwards. -/
namespace Dn
open PySem PySem.Spec PyProof.Rows L2
def zipW : List W → List W → List W
  | a :: l, b :: l' => .tup [a, b] :: zipW l l'
  | _, _ => []
def wkZ (f : Den (List W)) : Den Wk := fun sl st => bnd (f sl st) fun ws st1 => match ws with
  | [.tup l, .tup l'] => okW (none, zipW l l') st1
  | _ => none
def eRevS (f : Den W) : Den W := fun sl st => bnd (f sl st) fun x st1 => match x with
  | .tup l => okW (.tup l.reverse) st1
  | _ => none
end Dn

set_option Elab.async false
set_option linter.all false
set_option maxRecDepth 100000
set_option maxHeartbeats 1000000
/-! HeadY: the head's facts: He.hookX, and the words of one method that closes over its class. -/
namespace Dn
open PySem PySem.Spec PyProof.Rows L2
open Classical
/-- the words of the method m of the class x, its closure's names -/
abbrev MW : Type := Option (Str × Str × Arguments × FuncBody × Scope × Addr × List Str × Addr)
def mW (K : PySem.W.Frag) (p : Str × Option Str) : MW := match K.lookup (He.fAd K p) with
  | some ⟨_, _, .func fd, _⟩ => some (fd.name, fd.qualname, fd.params, fd.body, fd.scope, fd.globals, fd.closure.map (·.1), fd.builtins)
  | _ => none
structure Says (fa : List He.Fa) (fn : List He.DefD) (tf : List He.Defn) (ex : PySem.W.Frag → Bool) (p : Str × Option Str) (m : MW) (w : World) (h : Heap) (K : PySem.W.Frag) : Prop where
  x : He.SaysX fa fn [] tf ex w h K
  m : mW K p = m
/-- the part of the heap that is told: what the names reach, and the statics -/
def partY (n : Nat) (g : Addr → Option Obj) : PySem.W.Frag := He.frT g (cStatics :: He.asD g n)
abbrev AlY : Type := He.AlT × Bool × MW
def obsY (n : Nat) (fa : List He.Fa) (fn : List He.DefD) (tf : List He.Defn) (ex : PySem.W.Frag → Bool) (p : Str × Option Str) (g : Addr → Option Obj) : AlY :=
  (He.obsT fa fn [] (partY n g), ex (partY n g) && He.tabsB g tf (partY n g), mW (partY n g) p)
def valY (fn : List He.DefD) (m : MW) (w : World) : AlY := (He.valT fn [] w, true, m)
theorem says_of {n : Nat} {fa : List He.Fa} {fn : List He.DefD} {tf : List He.Defn} {ex : PySem.W.Frag → Bool} {p : Str × Option Str} {m : MW} {w : World} {h : Heap} (e : obsY n fa fn tf ex p h.get? = valY fn m w) : Says fa fn tf ex p m w h (partY n h.get?) := by
  have e1 : He.obsT fa fn [] (partY n h.get?) = He.valT fn [] w := congrArg (fun z : AlY => z.1) e
  have e2 : (ex (partY n h.get?) && He.tabsB h.get? tf (partY n h.get?)) = true := congrArg (fun z : AlY => z.2.1) e
  have e3 : mW (partY n h.get?) p = m := congrArg (fun z : AlY => z.2.2) e
  rw [Bool.and_eq_true] at e2
  have each : ∀ q ∈ tf, PySem.W.codeHdIn (partY n h.get?) (He.cT (partY n h.get?) q).1 (He.cT (partY n h.get?) q).2 = true ∧ ∃ o, h.get? (He.cT (partY n h.get?) q).2 = some o ∧ He.emptyTab o = true := fun q hq => by
    have z := List.all_eq_true.mp e2.2 q hq
    rw [Bool.and_eq_true] at z
    refine ⟨z.1, ?_⟩
    have z2 := z.2
    cases r : h.get? (He.cT (partY n h.get?) q).2 with
    | none => rw [r] at z2; cases z2
    | some o => rw [r] at z2; exact ⟨o, rfl, z2⟩
  refine ⟨⟨e1, e2.1, fun q hq => (each q hq).1, fun q hq => ?_, fun q hq => ?_⟩, e3⟩
  · obtain ⟨_, o, r, z⟩ := each q hq
    exact He.frT_none r z
  · obtain ⟨_, o, r, z⟩ := each q hq
    rw [r, He.emptyTab_eq z]
def hookY (n : Nat) (fa : List He.Fa) (fn : List He.DefD) (tf : List He.Defn) (ex : PySem.W.Frag → Bool) (p : Str × Option Str) (m : MW) : PySem.W.Hook where
  α := AlY
  obs := fun s => obsY n fa fn tf ex p s.heap.get?
  val := fun w => valY fn m w
  says := fun w h => ∃ K : PySem.W.Frag, K.In h ∧ Says fa fn tf ex p m w h K
  of := fun _ _ e => ⟨_, He.frT_in, says_of e⟩
  keeps := fun _ _ _ ⟨K, hK, c⟩ k => ⟨K, PySem.W.Frag.In.keeps hK k, ⟨c.x.t, c.x.more, c.x.hd, c.x.out, fun p hp => k _ _ (c.x.empty p hp)⟩, c.m⟩
theorem obsY_eq {n : Nat} {fa : List He.Fa} {fn : List He.DefD} {tf : List He.Defn} {ex : PySem.W.Frag → Bool} {p : Str × Option Str} {m : MW} {g : Addr → Option Obj} {s : Shared} (h : ∀ a, g a = s.heap.get? a) : obsY n fa fn tf ex p g = (hookY n fa fn tf ex p m).obs s := by
  have e : g = s.heap.get? := funext h
  rw [e] <;> rfl
/-- a def of the text, by what the head says of it -/
theorem tx_of {K : PySem.W.Frag} {mg : Str → Option Value} {x : Str} {st : Stmt} {f : Addr} {fd : FuncData} (F : FunD K x x (defArgs st) (defBody st) (defScope st) [] [] f fd) (hm : mg x = some (.ref f)) : Tx K mg x st f fd.code := by
  obtain ⟨oc, od, dV, kV, doc, pm, an, cdv, ct, osl, rfl, lk, hcd, hD, hK⟩ := F.ex
  rcases hD with ⟨_, rfl⟩ | ⟨e, _⟩
  · exact ⟨⟨oc, od, kV, doc, pm, an, ct, osl, lk⟩, hcd, F.kp, hm⟩
  · exact absurd rfl e
theorem code_of {K : PySem.W.Frag} {x : Str} {st : Stmt} {fd : FuncData} (F : FunD K x x (defArgs st) (defBody st) (defScope st) [] [] (He.ga K x) fd) : fd.code = .ref (He.cT K (x, none)).1 := by
  obtain ⟨oc, od, dV, kV, doc, pm, an, cdv, ct, osl, rfl, lk, hcd, hD, hK⟩ := F.ex
  obtain ⟨c, rfl⟩ := He.codeIn_ref hcd
  have e := He.codeOf_eq (p := (x, none)) lk (c := c) rfl
  show Value.ref c = .ref (He.codeOf K (x, none))
  rw [e]
/-! ### the errors -/
def oexB (K : PySem.W.Frag) (C : Addr) : Bool := match K.lookup C with
  | some ⟨.type "type", _, .cls cd, sl⟩ => (match cd.mro, sl.toList with
    | .ref C' :: bm, [_, _, _, _, some (.builtin n), _] => C' == C && n == "ValueError.__new__" && !cd.hasDel && cd.hasDict && PySem.HandSPX.refsVE bm
    | _, _ => false)
  | _ => false
theorem oexB_ok {K : PySem.W.Frag} {C : Addr} (q : oexB K C = true) : ∃ nm q N bs bm sn sub ab col dd k0 k1 k2 k3 k5, K.lookup C = some (excClassObj nm q C N bs bm true sn sub ab col dd k0 k1 k2 k3 k5 "ValueError.__new__") ∧ PySem.HandSPX.refsVE bm = true := by
  unfold oexB at q
  split at q
  · rename_i dd cd sl ho
    split at q
    · rename_i C' bm k0 k1 k2 k3 n k5 hm hs
      simp only [Bool.and_eq_true, beq_iff_eq, Bool.not_eq_true'] at q
      obtain ⟨⟨⟨⟨rfl, rfl⟩, hdel⟩, hdi⟩, hv⟩ := q
      obtain ⟨nm, bs, mro, ns, qn, hd, sn, sub, ab, col, del⟩ := cd
      dsimp only at hm hdel hdi
      subst hm hdel hdi
      have hsl : sl = #[k0, k1, k2, k3, some (.builtin "ValueError.__new__"), k5] := by
        obtain ⟨l⟩ := sl
        simp only at hs
        rw [hs]
      subst hsl
      exact ⟨nm, qn, ns, bs, bm, sn, sub, ab, col, dd, k0, k1, k2, k3, k5, ho, hv⟩
    · cases q
  · cases q
def ini : Str × Option Str := ("BadRound", some "__init__")
/-- the cell that __init__ closes over; its code object -/
def iniC (K : PySem.W.Frag) : Addr := match K.lookup (He.fAd K ini) with
  | some ⟨_, _, .func fd, _⟩ => (match fd.closure with
    | [(_, c)] => c
    | _ => 0)
  | _ => 0
def iniK (K : PySem.W.Frag) : Addr := match K.lookup (He.fAd K ini) with
  | some ⟨_, _, .func fd, _⟩ => (match fd.code with
    | .ref c => c
    | _ => 0)
  | _ => 0
def codB (K : PySem.W.Frag) (c : Addr) (file : Str) : Bool := match K.lookup c with
  | some ⟨_, _, .fields vs, _⟩ => (match (vs[2]? : Option Value) with
    | some (.str f _) => file == f
    | _ => false)
  | _ => false
def celB (K : PySem.W.Frag) (c D : Addr) : Bool := match K.lookup c with
  | some ⟨_, _, .cell (some (.ref D')), _⟩ => D' == D
  | _ => false
def iniB (K : PySem.W.Frag) : Bool := match K.lookup (He.fAd K ini) with
  | some ⟨_, _, .func fd, _⟩ => (match fd.closure, fd.code with
    | [(_, _)], .ref _ => PySem.W.codeIn K fd.code "BadRound.__init__" && (match fd.defaults with
      | .none => true
      | _ => false)
    | _, _ => false)
  | _ => false
def excB (file : Str) (K : PySem.W.Frag) : Bool :=
  let D := He.ga K "BadRound"
  oexB K D && (He.eqO (PySem.W.findIn K (.ref D) "__setattr__") (some (some (.builtin "object.__setattr__"))) && (decide (PySem.W.subIn K (.ref D) (.type "BaseException") = some true) && (decide (PySem.W.typeIn K (.ref D) = some (.type "type")) &&
  (PySem.W.keepIn K (.ref D) && (He.eqO (PySem.W.findIn K (.ref D) "__init__") (some (some (.ref (He.fAd K ini)))) && (decide (PySem.W.typeIn K (.ref (He.fAd K ini)) = some (.type "function")) && (iniB K && (codB K (iniK K) file && (celB K (iniC K) D &&
  ((PySem.W.clsIn K D).isSome && (decide (PySem.W.mroIn K D (.ref D) = some true) && (He.eqO (PySem.W.nsIn K cStatics "thirdparty.any") (some none) && (He.eqO (PySem.W.ks_superIn K D D "__init__") (some (some (.builtin "ValueError.__init__"))) &&
  (decide (PySem.W.subIn K (.ref D) (.type "ValueError") = some true) && (He.eqO (PySem.W.findIn K (.ref D) "__getattribute__") (some (some (.builtin "BaseException.__getattribute__"))) && (He.eqO (PySem.W.findIn K (.ref D) "__getattr__") (some none) &&
  (PySem.W.hasDictIn K D && (He.eqO (PySem.W.findIn K (.ref D) "__class__") (some (some (.builtin "object.__class__"))) && (He.eqO (PySem.W.specialIn K (.builtin "object.__class__") "__get__") (some (some (.builtin "getset_descriptor.__get__"))) &&
  (decide (PySem.W.takesIn K (.builtin "object.__class__") = some true) && (decide (PySem.W.mroIn K D (.type "object") = some true) && (decide (PySem.W.exmOne K (.ref D) (.ref (He.ga K "DealError")) = some true) &&
  (decide (PySem.W.kitAny K (.ref D) [.ref (He.ga K "BadDeal"), .ref (He.ga K "BadHolding"), .ref (He.ga K "BadText"), .ref (He.ga K "NoDeal")] = some false) && (decide (PySem.W.kitOne K (.ref D) (.type "ValueError") = some true) &&
  (He.eqO (PySem.W.findIn K (.ref D) "number") (some none) && He.eqO (PySem.W.findIn K (.ref D) "why") (some none))))))))))))))))))))))))))
structure ExcF (file : Str) (K : PySem.W.Frag) (D : Addr) : Prop where
  oex : OexC K D
  k3 : XK3 K D
  inm : PySem.W.findIn K (.ref D) "__init__" = some (some (.ref (He.fAd K ini)))
  tini : PySem.W.typeIn K (.ref (He.fAd K ini)) = some (.type "function")
  iniB : iniB K = true
  cod : codB K (iniK K) file = true
  cel : celB K (iniC K) D = true
  self : PySem.W.mroIn K D (.ref D) = some true
  opq : PySem.W.nsIn K cStatics "thirdparty.any" = some none
  met : PySem.W.ks_superIn K D D "__init__" = some (some (.builtin "ValueError.__init__"))
  ve : PySem.W.subIn K (.ref D) (.type "ValueError") = some true
  exm : PySem.W.exmOne K (.ref D) (.ref (He.ga K "DealError")) = some true
  ka : PySem.W.kitAny K (.ref D) [.ref (He.ga K "BadDeal"), .ref (He.ga K "BadHolding"), .ref (He.ga K "BadText"), .ref (He.ga K "NoDeal")] = some false
  kv : PySem.W.kitOne K (.ref D) (.type "ValueError") = some true
  n1 : PySem.W.findIn K (.ref D) "number" = some none
  n2 : PySem.W.findIn K (.ref D) "why" = some none
theorem excB_ok {file : Str} {K : PySem.W.Frag} (h : excB file K = true) : ExcF file K (He.ga K "BadRound") := by
  unfold excB at h
  simp only [Bool.and_eq_true, decide_eq_true_eq] at h
  obtain ⟨a0, a1, a2, a3, a4, a5, a6, a7, a8, a9, a10, a11, a12, a13, a14, a15, a16, a17, a18, a19, a20, a21, a22, a23, a24, a25, a26⟩ := h
  exact ⟨⟨oexB_ok a0, He.eqO_ok a1, a2, a3, a4⟩, ⟨a10, He.eqO_ok a15, He.eqO_ok a16, a2, a17, He.eqO_ok a18, He.eqO_ok a19, a20, a21⟩, He.eqO_ok a5, a6, a7, a8, a9, a11, He.eqO_ok a12, He.eqO_ok a13, a14, a22, a23, a24, He.eqO_ok a25, He.eqO_ok a26⟩
theorem xh_of {file : Str} {K : PySem.W.Frag} {mg : Str → Option Value} (c : ExcF file K (He.ga K "BadRound")) (m1 : mg "BadRound" = some (.ref (He.ga K "BadRound"))) (m2 : mg "DealError" = some (.ref (He.ga K "DealError"))) (m3 : mg "BadDeal" = some (.ref (He.ga K "BadDeal")))
    (m4 : mg "BadHolding" = some (.ref (He.ga K "BadHolding"))) (m5 : mg "BadText" = some (.ref (He.ga K "BadText"))) (m6 : mg "NoDeal" = some (.ref (He.ga K "NoDeal"))) (ve : mg "ValueError" = none) (is : mg "isinstance" = none) : XH K mg :=
  ⟨⟨_, _, _, _, _, _, m1, m2, m3, m4, m5, m6, c.k3, c.exm, c.ka, c.kv, c.n1, c.n2⟩, ve, is⟩
theorem cod_ok {K : PySem.W.Frag} {c : Addr} {file : Str} (h : codB K c file = true) : ∃ (vs : Array Value) (f : Str) (tf : Tok) (ccl : Value) (cdd : Option Addr) (ccs : Array (Option Value)), K.lookup c = some ⟨ccl, cdd, .fields vs, ccs⟩ ∧ vs[2]? = some (.str f tf) ∧ (file == f) = true := by
  unfold codB at h
  split at h
  · rename_i a b vs d e
    split at h
    · rename_i f t e2
      exact ⟨vs, f, t, _, _, _, e, e2, h⟩
    · cases h
  · cases h
theorem cel_ok {K : PySem.W.Frag} {c D : Addr} (h : celB K c D = true) : ∃ cl cld csl, K.lookup c = some ⟨cl, cld, .cell (some (.ref D)), csl⟩ := by
  unfold celB at h
  split at h
  · rename_i a b D' d e
    obtain rfl : D' = D := by simpa using h
    exact ⟨_, _, _, e⟩
  · cases h
theorem xb_of {P : Program} {w : World} {K : PySem.W.Frag} {mg : Str → Option Value} {base : Heap} {sI : Stmt} {file : Str} (c : ExcF file K (He.ga K "BadRound")) (m : mW K ini = (some ("__init__", "BadRound.__init__", defArgs sI, .stmts (defBody sI), defScope sI, mainGlobals, ["__class__"], builtinsNs) : MW))
    (hfile : P.main.file = file) (htop : (P.main.scope.names.lookup ("super" : Str)).isSome = false) (m1 : mg "BadRound" = some (.ref (He.ga K "BadRound"))) (hsup : mg "super" = none)
    {p p0 p1 p2 p3 p4 p5 p6 p7 p8 p9 q1 q2 q3 q4 q5 q6 q7 q8 q9 : Pos} {j1 j2 : Nat}
    (hbd : defBody sI = [.Expr (.Call (.Attribute (.Call (.Name "super" p0) [] [] p1) "__init__" p2) [.JoinedStr [.Constant (.str "round ") j1 p3, .FormattedValue (.Name "number" p4) (-1) none p5, .Constant (.str ": ") j2 p6, .FormattedValue (.Name "why" p7) (-1) none p8] p9] [] q1) q2,
      .Assign [.Attribute (.Name "self" q3) "number" q4] (.Name "number" q5) q6, .Assign [.Attribute (.Name "self" q7) "why" q8] (.Name "why" q9) p])
    (S : NdefX.NScope ["self", "number", "why", "__class__"] ["self", "number", "why"] ["__class__"] (defScope sI)) (hks : (defScope sI).names.lookup ("super" : Str) = some .globalImplicit)
    (hpar : ∃ ar : Arg, ((defArgs sI).posonlyargs ++ (defArgs sI).args).head? = some ar ∧ ar.arg = "self")
    (hbind : ∀ (cc : Addr) (kV doc pm : Value) (an : Option Addr) (cdv ct : Value) (us : List Value), us.length = 3 → bindArgs (PySem.W.fnX "__init__" "BadRound.__init__" (defArgs sI) (defBody sI) (defScope sI) [("__class__", cc)] .none kV doc pm an cdv ct) ⟨us, []⟩ = pure ((["self", "number", "why"] : List Str).zip us))
    {pl : Env → Sem Bool} (he : ∀ env : Env, eval (.Call (.Attribute (.Call (.Name "super" p0) [] [] p1) "__init__" p2) [.JoinedStr [.Constant (.str "round ") j1 p3, .FormattedValue (.Name "number" p4) (-1) none p5, .Constant (.str ": ") j2 p6, .FormattedValue (.Name "why" p7) (-1) none p8] p9] [] q1) env = (do
      let ov ← attributeBase (.Call (.Name "super" p0) [] [] p1) "__init__" env (eval (.Call (.Name "super" p0) [] [] p1) env)
      standAt p2.atName
      let (f, first) ← holding [ov] (getMethod ov "__init__" (pl env))
      callWith q1 f first (backTo q1 (starEach [.JoinedStr [.Constant (.str "round ") j1 p3, .FormattedValue (.Name "number" p4) (-1) none p5, .Constant (.str ": ") j2 p6, .FormattedValue (.Name "why" p7) (-1) none p8] p9] env)) []) := by intro _; rfl) : XB P w K mg base := by
  unfold mW at m
  cases q : K.lookup (He.fAd K ini) with
  | none => rw [q] at m; cases m
  | some o =>
    obtain ⟨oc, od, dt, osl⟩ := o
    rw [q] at m
    cases dt with
    | func fd =>
      obtain ⟨n1, n2, n3, n4, n5, n6, n7, n8, n9, n10, n11, n12, n13, n14, n15⟩ := fd
      simp only [Option.some.injEq, Prod.mk.injEq] at m
      obtain ⟨rfl, rfl, rfl, rfl, rfl, rfl, h7, rfl⟩ := m
      have ib := c.iniB
      unfold iniB at ib
      rw [q] at ib
      simp only at ib
      rcases n7 with _ | ⟨⟨x, cc⟩, _ | ⟨y, r⟩⟩
      · simp at h7
      rotate_left
      · simp at h7
      cases n13 with
      | ref cda =>
        simp only at ib
        rw [Bool.and_eq_true] at ib
        obtain ⟨ib1, ib2⟩ := ib
        have e3 : n8 = .none := by
          revert ib2
          cases n8 <;> simp
        subst e3
        simp only [List.map_cons, List.map_nil, List.cons.injEq, and_true] at h7
        subst h7
        have eC : iniC K = cc := by unfold iniC; rw [q]
        have eK : iniK K = cda := by unfold iniK; rw [q]
        obtain ⟨vs, f, tf, ccl, cdd, ccs, k1, k2, k3⟩ := cod_ok c.cod
        rw [eK] at k1
        have kc := cel_ok c.cel
        rw [eC] at kc
        have cls := Option.isSome_iff_exists.mp c.k3.cl
        have Su : SU.Sup P K mg (He.fAd K ini) (He.ga K "BadRound") cc cda (PySem.W.fnX "__init__" "BadRound.__init__" (defArgs sI) (defBody sI) (defScope sI) [("__class__", cc)] .none n9 n10 n11 n12 (.ref cda) n14) "self" :=
          ⟨⟨_, _, _, q⟩, hpar, ⟨vs, f, tf, ccl, cdd, ccs, k1, k2, by rw [hfile]; exact k3⟩, kc, cls, c.self, htop, hsup, c.opq, c.met, c.ve⟩
        exact ⟨⟨_, He.fAd K ini, _, init_ok (k := 0) (defBody sI) hbd Su ib1 S c.oex hks (he := he) c.n1 c.n2, c.oex, c.inm, c.tini, m1, .all fun us hl => hbind cc n9 n10 n11 n12 (.ref cda) n14 us hl⟩⟩
      | _ => cases ib
    | _ => cases m
end Dn

set_option Elab.async false
set_option linter.all false
set_option maxRecDepth 100000
set_option maxHeartbeats 1000000
/-! Ho: what is wanted behind a step: the ways on, one rule a construct. -/
namespace Dn
open PySem PySem.Spec PyProof.Rows L2
open Classical
/-- it answers, and so; or it raises, and so -/
def Wp {A : Type} (m : Option (Res A)) (X : Er → Store → Prop) (Q : A → Store → Prop) : Prop := match m with
  | some (.ok a st) => Q a st
  | some (.er x st) => X x st
  | none => False
def WpS (m : Option Out) (X : Er → Store → Prop) (N : Sl → Store → Prop) (R : W → Store → Prop) : Prop := match m with
  | some (.nx sl st) => N sl st
  | some (.rt w st) => R w st
  | some (.er x st) => X x st
  | _ => False
abbrev nX : Er → Store → Prop := fun _ _ => False
def Ov {A : Type} (o : Option A) (Q : A → Prop) : Prop := match o with
  | some a => Q a
  | none => False
def Tb (w : W) (Q : Bool → Prop) : Prop := match w with
  | .bl b => Q b
  | _ => False
def Tl (w : W) (Q : Nat → Prop) : Prop := match w with
  | .loc b => Q b
  | _ => False
def Ti (w : W) (Q : Int → Prop) : Prop := match w with
  | .int b => Q b
  | _ => False
def Vw (o : Option (Option W)) (Q : W → Prop) : Prop := match o with
  | some (some w) => Q w
  | _ => False
section
variable {A B : Type} {X : Er → Store → Prop} {st : Store} {sl : Sl}
theorem wp_congr {m m' : Option (Res A)} {Q : A → Store → Prop} (h : m = m') : Wp m X Q = Wp m' X Q := by rw [h]
theorem wps_congr {m m' : Option Out} {N : Sl → Store → Prop} {R : W → Store → Prop} (h : m = m') : WpS m X N R = WpS m' X N R := by rw [h]
theorem ov_congr {m m' : Option A} {Q : A → Prop} (h : m = m') : Ov m Q = Ov m' Q := by rw [h]
theorem ov_some {a : A} {Q : A → Prop} : Ov (some a) Q = Q a := rfl
theorem tb_bl {b : Bool} {Q : Bool → Prop} : Tb (.bl b) Q = Q b := rfl
theorem tl_loc {b : Nat} {Q : Nat → Prop} : Tl (.loc b) Q = Q b := rfl
theorem ti_int {b : Int} {Q : Int → Prop} : Ti (.int b) Q = Q b := rfl
theorem vw_some {w : W} {Q : W → Prop} : Vw (some (some w)) Q = Q w := rfl
theorem wp_ok {a : A} {Q : A → Store → Prop} : Wp (some (.ok a st)) X Q = Q a st := rfl
theorem wp_er {x : Er} {Q : A → Store → Prop} : Wp (some (.er x st)) X Q = X x st := rfl
theorem wp_okW {a : A} {Q : A → Store → Prop} : Wp (okW a st) X Q = Q a st := rfl
theorem wp_bnd {m : Option (Res A)} {k : A → Store → Option (Res B)} {Q : B → Store → Prop} : Wp (bnd m k) X Q = Wp m X fun a s => Wp (k a s) X Q := by
  cases m with
  | none => rfl
  | some r => cases r <;> rfl
theorem wps_bnd {m : Option (Res A)} {k : A → Store → Option Out} {N : Sl → Store → Prop} {R : W → Store → Prop} : WpS (bndS m k) X N R = Wp m X fun a s => WpS (k a s) X N R := by
  cases m with
  | none => rfl
  | some r => cases r <;> rfl
theorem wp_bnd0 {m : Option (Res A)} {k : A → Store → Option (Res B)} {Q : B → Store → Prop} (h : Wp m nX fun a s => Wp (k a s) X Q) : Wp (bnd0 m k) X Q := by
  cases m with
  | none => exact h
  | some r => cases r with
    | ok a s => exact h
    | er x s => exact h.elim
theorem Wp.mono {m : Option (Res A)} {Q Q' : A → Store → Prop} (h : Wp m X Q) (hq : ∀ a s, Q a s → Q' a s) : Wp m X Q' := by
  cases m with
  | none => exact h
  | some r => cases r with
    | ok a s => exact hq a s h
    | er x s => exact h
theorem WpS.mono {m : Option Out} {N N' : Sl → Store → Prop} {R R' : W → Store → Prop} (h : WpS m X N R) (hn : ∀ a s, N a s → N' a s) (hr : ∀ a s, R a s → R' a s) : WpS m X N' R' := by
  cases m with
  | none => exact h
  | some r => cases r with
    | nx a s => exact hn a s h
    | rt a s => exact hr a s h
    | er x s => exact h
    | bk _ _ => exact h
    | ct _ _ => exact h
theorem Wp.cut {m : Option (Res A)} {P Q : A → Store → Prop} (h : Wp m X P) (hq : ∀ a s, P a s → Q a s) : Wp m X Q := h.mono hq
theorem WpS.cut {m : Option Out} {N N' : Sl → Store → Prop} {R : W → Store → Prop} (h : WpS m X N R) (hn : ∀ a s, N a s → N' a s) : WpS m X N' R := h.mono hn fun _ _ h => h
/-- it answers: what, where -/
theorem Wp.get {m : Option (Res A)} {Q : A → Store → Prop} (h : Wp m nX Q) : ∃ a s, m = some (.ok a s) ∧ Q a s := by
  cases m with
  | none => exact h.elim
  | some r => cases r with
    | ok a s => exact ⟨a, s, rfl, h⟩
    | er x s => exact h.elim
theorem Wp.eq {m : Option (Res A)} {a : A} {s : Store} (h : Wp m nX fun a' s' => a' = a ∧ s' = s) : m = some (.ok a s) := by
  obtain ⟨a', s', e, rfl, rfl⟩ := h.get
  exact e
theorem wp_to {m : Option (Res A)} {a : A} {s : Store} {Q : A → Store → Prop} (e : m = some (.ok a s)) (h : Q a s) : Wp m X Q := by rw [e]; exact h
/-! the expressions -/
variable {f g h : Den W} {Q : W → Store → Prop}
theorem wp_eC {w : W} : Wp (eC w sl st) X Q = Q w st := rfl
theorem wp_eV {i : Nat} : Wp (eV i sl st) X Q = Vw sl[i]? fun w => Q w st := by
  unfold eV
  cases sl[i]? with
  | none => rfl
  | some o => cases o <;> rfl
theorem wp_e2 {o : O2} : Wp (e2 o f g sl st) X Q = Wp (f sl st) X fun x s1 => Wp (g sl s1) X fun y s2 => Wp (o x y s2) X Q := by unfold e2; simp only [wp_bnd]
theorem wp_eB {p : Bool → Store → Prop} : Wp (eB f sl st) X p = Wp (f sl st) X fun w s1 => Tb w fun b => p b s1 := by
  unfold eB
  rw [wp_bnd]
  congr
  funext w s1
  cases w <;> rfl
theorem wp_ite {c : Prop} [Decidable c] {m m' : Option (Res A)} {Q : A → Store → Prop} : Wp (if c then m else m') X Q = ((c → Wp m X Q) ∧ (¬ c → Wp m' X Q)) := by
  by_cases hc : c <;> simp [hc]
theorem wps_ite {c : Prop} [Decidable c] {m m' : Option Out} {N : Sl → Store → Prop} {R : W → Store → Prop} : WpS (if c then m else m') X N R = ((c → WpS m X N R) ∧ (¬ c → WpS m' X N R)) := by
  by_cases hc : c <;> simp [hc]
theorem wp_bAnd {p q : Den Bool} {P : Bool → Store → Prop} : Wp (bAnd p q sl st) X P = Wp (p sl st) X fun b s1 => (b = true → Wp (q sl s1) X P) ∧ (b = false → P false s1) := by
  unfold bAnd
  rw [wp_bnd]
  congr
  funext b s1
  cases b <;> simp [wp_okW]
theorem wp_bOr {p q : Den Bool} {P : Bool → Store → Prop} : Wp (bOr p q sl st) X P = Wp (p sl st) X fun b s1 => (b = true → P true s1) ∧ (b = false → Wp (q sl s1) X P) := by
  unfold bOr
  rw [wp_bnd]
  congr
  funext b s1
  cases b <;> simp [wp_okW]
theorem wp_bNot {p : Den Bool} {P : Bool → Store → Prop} : Wp (bNot p sl st) X P = Wp (p sl st) X fun b s1 => P (!b) s1 := by unfold bNot; simp only [wp_bnd, wp_okW]
theorem wp_vAnd : Wp (vAnd f g sl st) X Q = Wp (f sl st) X fun w s1 => Tb w fun b => (b = true → Wp (g sl s1) X Q) ∧ (b = false → Q (.bl false) s1) := by
  unfold vAnd
  rw [wp_bnd]
  congr
  funext w s1
  cases w with
  | bl b => cases b <;> simp [Tb, wp_okW]
  | _ => rfl
theorem wp_vOr : Wp (vOr f g sl st) X Q = Wp (f sl st) X fun w s1 => Tb w fun b => (b = true → Q (.bl true) s1) ∧ (b = false → Wp (g sl s1) X Q) := by
  unfold vOr
  rw [wp_bnd]
  congr
  funext w s1
  cases w with
  | bl b => cases b <;> simp [Tb, wp_okW]
  | _ => rfl
theorem wp_vNot : Wp (vNot f sl st) X Q = Wp (f sl st) X fun w s1 => Tb w fun b => Q (.bl (!b)) s1 := by
  unfold vNot
  rw [wp_bnd]
  congr
  funext w s1
  cases w <;> rfl
theorem wp_eIf {p : Den Bool} : Wp (eIf p f g sl st) X Q = Wp (p sl st) X fun b s1 => (b = true → Wp (f sl s1) X Q) ∧ (b = false → Wp (g sl s1) X Q) := by
  unfold eIf
  rw [wp_bnd]
  congr
  funext b s1
  cases b <;> simp
theorem wp_eChain {o o' : O2} : Wp (eChain o o' f g h sl st) X Q = Wp (f sl st) X fun x s1 => Wp (g sl s1) X fun y s2 => Wp (o x y s2) X fun z s3 => Tb z fun b => (b = true → Wp (h sl s3) X fun w s4 => Wp (o' y w s4) X Q) ∧ (b = false → Q (.bl false) s3) := by
  unfold eChain
  simp only [wp_bnd]
  congr
  funext x s1
  congr
  funext y s2
  congr
  funext z s3
  cases z with
  | bl b => cases b <;> simp [Tb, wp_okW, wp_bnd]
  | _ => rfl
theorem wp_eNeg : Wp (eNeg f sl st) X Q = Wp (f sl st) X fun w s1 => Ti w fun i => Q (.int (-i)) s1 := by
  unfold eNeg
  rw [wp_bnd]
  congr
  funext w s1
  cases w <;> rfl
theorem wp_aNil {P : List W → Store → Prop} : Wp (aNil sl st) X P = P [] st := rfl
theorem wp_aCons {a : Den (List W)} {P : List W → Store → Prop} : Wp (aCons f a sl st) X P = Wp (f sl st) X fun w s1 => Wp (a sl s1) X fun ws s2 => P (w :: ws) s2 := by unfold aCons; simp only [wp_bnd, wp_okW]
theorem wp_eTup {a : Den (List W)} : Wp (eTup a sl st) X Q = Wp (a sl st) X fun ws s1 => ws.length ≤ 10000 ∧ Q (.tup ws) s1 := by
  unfold eTup
  rw [wp_bnd]
  congr
  funext ws s1
  rw [wp_ite, wp_okW]
  by_cases h : ws.length ≤ 10000 <;> simp [h, Wp]
theorem wp_eLst {a : Den (List W)} : Wp (eLst a sl st) X Q = Wp (a sl st) X fun ws s1 => ws.length ≤ 10000 ∧ Q (.loc s1.length) (s1 ++ [ws]) := by
  unfold eLst
  rw [wp_bnd]
  congr
  funext ws s1
  rw [wp_ite, wp_okW]
  by_cases h : ws.length ≤ 10000 <;> simp [h, Wp]
theorem wp_eCall {o : OC} {a : Den (List W)} : Wp (eCall o a sl st) X Q = Wp (a sl st) X fun ws s1 => Wp (o ws s1) X Q := by unfold eCall; rw [wp_bnd]
theorem wp_pN {P : Option Int → Store → Prop} : Wp (pN sl st) X P = P none st := rfl
theorem wp_pS {P : Option Int → Store → Prop} : Wp (pS f sl st) X P = Wp (f sl st) X fun w s1 => Ti w fun i => P (some i) s1 := by
  unfold pS
  rw [wp_bnd]
  congr
  funext w s1
  cases w <;> rfl
theorem wp_eSl {p q : Den (Option Int)} : Wp (eSl f p q sl st) X Q = Wp (f sl st) X fun x s1 => Wp (p sl s1) X fun lo s2 => Wp (q sl s2) X fun hi s3 => Wp (oSl x lo hi s3) X Q := by unfold eSl; simp only [wp_bnd]
theorem wp_sl_tup {l : List W} {lo hi : Option Int} : Wp (oSl (.tup l) lo hi st) X Q = Q (.tup (cutW l lo hi)) st := rfl
theorem wp_sl_loc {n : Nat} {lo hi : Option Int} : Wp (oSl (.loc n) lo hi st) X Q = Ov st[n]? fun l => Q (.loc st.length) (st ++ [cutW l lo hi]) := by
  unfold oSl
  cases h : st[n]? <;> simp [Ov, Wp, okW, h]
theorem wp_eApp : Wp (eApp f g sl st) X Q = Wp (f sl st) X fun x s1 => Tl x fun n => Wp (g sl s1) X fun y s2 => Ov s2[n]? fun l => l.length < 10000 ∧ Q .non (s2.set n (l ++ [y])) := by
  unfold eApp
  rw [wp_bnd]
  congr
  funext x s1
  cases x with
  | loc n =>
    simp only [Tl]
    rw [wp_bnd]
    congr
    funext y s2
    cases h : s2[n]? with
    | none => rfl
    | some l => by_cases hl : l.length < 10000 <;> simp [Ov, Wp, okW, hl]
  | _ => rfl
theorem wp_eRev : Wp (eRev f sl st) X Q = Wp (f sl st) X fun x s1 => Tl x fun n => Ov s1[n]? fun l => Q .non (s1.set n l.reverse) := by
  unfold eRev
  rw [wp_bnd]
  congr
  funext x s1
  cases x with
  | loc n => cases h : s1[n]? <;> simp [Tl, Ov, Wp, okW, h]
  | _ => rfl
theorem wp_eSortSet : Wp (eSortSet f sl st) X Q = Wp (f sl st) X fun x s1 => Ov (itemsW x s1) fun l => Ov (sortSet l) fun l' => Q (.loc s1.length) (s1 ++ [l']) := by
  unfold eSortSet
  rw [wp_bnd]
  congr
  funext x s1
  cases h : itemsW x s1 with
  | none => rfl
  | some l => cases h2 : sortSet l <;> simp [Ov, Wp, okW, h2]
/-! the operators on whole numbers, tuples, lists -/
theorem wp_add {i j : Int} : Wp (oPlus (.int i) (.int j) st) X Q = Q (.int (i + j)) st := rfl
theorem wp_sub {i j : Int} : Wp (oSub (.int i) (.int j) st) X Q = Q (.int (i - j)) st := rfl
theorem wp_lt {i j : Int} : Wp (oLt (.int i) (.int j) st) X Q = Q (.bl (decide (i < j))) st := rfl
theorem wp_le {i j : Int} : Wp (oLe (.int i) (.int j) st) X Q = Q (.bl (decide (i ≤ j))) st := rfl
theorem wp_gt {i j : Int} : Wp (oGt (.int i) (.int j) st) X Q = Q (.bl (decide (j < i))) st := rfl
theorem wp_ge {i j : Int} : Wp (oGe (.int i) (.int j) st) X Q = Q (.bl (decide (j ≤ i))) st := rfl
theorem wp_mod {i j : Int} : Wp (oMod (.int i) (.int j) st) X Q = (0 < j ∧ Q (.int (i % j)) st) := by
  unfold oMod oI
  simp only
  rw [wp_ite, wp_okW]
  by_cases h : 0 < j <;> simp [h, Wp]
theorem wp_mul {i j : Int} (h : -100000 < j ∧ j < 100000) : Wp (oTimes (.int i) (.int j) st) X Q = Q (.int (i * j)) st := by
  have e : oMul (.int i) (.int j) st = some (.ok (.int (i * j)) st) := by
    unfold oMul oI
    have : (-(2 ^ 64) < j ∧ j < 2 ^ 64) := by
      have e : (2 : Int) ^ 64 = 18446744073709551616 := by decide
      rw [e]; omega
    show (if decide ((-(2 ^ 64) < i ∧ i < 2 ^ 64) ∨ (-(2 ^ 64) < j ∧ j < 2 ^ 64)) = true then (okW (W.int (i * j)) st : Option (Res W)) else none) = _
    rw [if_pos (decide_eq_true (Or.inr this))]
    rfl
  unfold oTimes
  rw [e]
  rfl
theorem wp_catT {l l' : List W} : Wp (oPlus (.tup l) (.tup l') st) X Q = (l.length + l'.length ≤ 20000 ∧ Q (.tup (l ++ l')) st) := by
  have e : oPlus (.tup l) (.tup l') st = if l.length + l'.length ≤ 20000 then okW (.tup (l ++ l')) st else none := rfl
  rw [e, wp_ite, wp_okW]
  by_cases h : l.length + l'.length ≤ 20000 <;> simp [h, Wp]
theorem wp_catL {n m : Nat} : Wp (oPlus (.loc n) (.loc m) st) X Q = Ov st[n]? fun l => Ov st[m]? fun l' => l.length + l'.length ≤ 20000 ∧ Q (.loc st.length) (st ++ [l ++ l']) := by
  have e : oPlus (.loc n) (.loc m) st = match oCatL (.loc n) (.loc m) st with | some z => some z | none => none := rfl
  rw [e]
  unfold oCatL
  simp only
  cases h : st[n]? with
  | none => rfl
  | some l => cases h2 : st[m]? with
    | none => rfl
    | some l' => by_cases h3 : l.length + l'.length ≤ 20000 <;> simp [Ov, Wp, okW, h3]
theorem wp_rep {n : Nat} {k : Int} : Wp (oTimes (.loc n) (.int k) st) X Q = Ov st[n]? fun l => (k ≤ 100 ∧ -100 ≤ k ∧ l.length ≤ 100) ∧ Q (.loc st.length) (st ++ [(List.replicate k.toNat l).flatten]) := by
  have e : oTimes (.loc n) (.int k) st = oRep (.loc n) (.int k) st := rfl
  rw [e]
  unfold oRep
  simp only
  cases h : st[n]? with
  | none => rfl
  | some l => by_cases h3 : k ≤ 100 ∧ -100 ≤ k ∧ l.length ≤ 100 <;> simp [Ov, Wp, okW, h3]
theorem wp_ixT {l : List W} {i : Int} : Wp (oIx (.tup l) (.int i) st) X Q = Ov (atI l i) fun w => Q w st := by
  unfold oIx
  simp only
  cases h : atI l i <;> simp [Ov, Wp, okW, h]
theorem wp_ixF {l : List W} {i : Int} : Wp (oIx (.frz l) (.int i) st) X Q = Ov (atI l i) fun w => Q w st := by
  unfold oIx
  simp only
  cases h : atI l i <;> simp [Ov, Wp, okW, h]
theorem wp_ixL {n : Nat} {i : Int} : Wp (oIx (.loc n) (.int i) st) X Q = Ov st[n]? fun l => Ov (atI l i) fun w => Q w st := by
  unfold oIx
  simp only
  cases h : st[n]? with
  | none => rfl
  | some l => cases h2 : atI l i <;> simp [Ov, Wp, okW, h2]
theorem wp_lenT {l : List W} : Wp (oLen [.tup l] st) X Q = Q (.int l.length) st := rfl
theorem wp_lenF {l : List W} : Wp (oLen [.frz l] st) X Q = Q (.int l.length) st := rfl
theorem wp_lenL {n : Nat} : Wp (oLen [.loc n] st) X Q = Ov st[n]? fun l => Q (.int l.length) st := by
  unfold oLen
  simp only
  cases h : st[n]? <;> simp [Ov, Wp, okW]
theorem wp_listT {l : List W} : Wp (oList [.tup l] st) X Q = Q (.loc st.length) (st ++ [l]) := rfl
theorem wp_listL {n : Nat} : Wp (oList [.loc n] st) X Q = Ov st[n]? fun l => Q (.loc st.length) (st ++ [l]) := by
  unfold oList
  simp only
  cases h : st[n]? <;> simp [Ov, Wp, okW]
theorem wp_tupleT {l : List W} : Wp (oTuple [.tup l] st) X Q = Q (.tup l) st := rfl
theorem wp_tupleL {n : Nat} : Wp (oTuple [.loc n] st) X Q = Ov st[n]? fun l => Q (.tup l) st := by
  unfold oTuple
  simp only
  cases h : st[n]? <;> simp [Ov, Wp, okW]
theorem wp_intB {b : Bool} : Wp (oInt [.bl b] st) X Q = Q (.int (if b then 1 else 0)) st := rfl
theorem wp_intI {i : Int} : Wp (oInt [.int i] st) X Q = Q (.int i) st := rfl
theorem wp_allL {n : Nat} : Wp (oAll [.loc n] st) X Q = Ov st[n]? fun l => Ov (allS (l.map asBl)) fun bs => Q (.bl (bs.all id)) st := by
  unfold oAll
  simp only
  cases h : st[n]? with
  | none => rfl
  | some l => cases h2 : allS (l.map asBl) <;> simp [Ov, Wp, okW, h2]
theorem wp_sortedL {n : Nat} : Wp (oSorted [.loc n] st) X Q = Ov st[n]? fun l => Ov (allS (l.map asInt)) fun ns => ns.length < 64 ∧ Q (.loc st.length) (st ++ [(sortI ns).map .int]) := by
  unfold oSorted
  simp only
  cases h : st[n]? with
  | none => rfl
  | some l => cases h2 : allS (l.map asInt) with
    | none => simp [Ov, Wp, okW, h2]
    | some ns => by_cases h3 : ns.length < 64 <;> simp [Ov, Wp, okW, h2, h3]
theorem wp_isi {w : W} {T : String} : Wp (oIsi [w, .ty T] st) X Q = (tyW w ≠ "" ∧ Ov (kitB (tyW w) T) fun k => Q (.bl k) st) := by
  unfold oIsi
  simp only
  rw [wp_ite]
  by_cases h : tyW w = ""
  · simp [h, Wp]
  · cases h2 : kitB (tyW w) T <;> simp [h, Ov, Wp, okW, h2]
/-! what is gone over -/
theorem wp_wkQT {P : Wk → Store → Prop} : Wp (wkQ f sl st) X P = Wp (f sl st) X fun w s1 => (match w with
    | .tup l => P (none, l) s1
    | .loc n => Ov s1[n]? fun l => P (some n, l) s1
    | _ => False) := by
  unfold wkQ
  rw [wp_bnd]
  congr
  funext w s1
  cases w with
  | loc n => cases h : s1[n]? <;> simp [Ov, Wp, okW, h]
  | _ => rfl
theorem wp_wkR {P : Wk → Store → Prop} : Wp (wkR f sl st) X P = Wp (f sl st) X fun w s1 => Ti w fun n => (-1000000 ≤ n ∧ n ≤ 1000000) ∧ P (none, rngW 0 n.toNat) s1 := by
  unfold wkR
  rw [wp_bnd]
  congr
  funext w s1
  cases w with
  | int n => by_cases h : -1000000 ≤ n ∧ n ≤ 1000000 <;> simp [Ti, Wp, okW, h]
  | _ => rfl
/-! the statements -/
variable {N : Sl → Store → Prop} {R : W → Store → Prop} {u v : SD}
theorem wps_seq : WpS (sSeq u v sl st) X N R = WpS (u sl st) X (fun sl' s' => WpS (v sl' s') X N R) R := by
  unfold sSeq
  cases h : u sl st with
  | none => rfl
  | some o => cases o <;> rfl
theorem wps_nil : WpS (sNil sl st) X N R = N sl st := rfl
theorem wps_pass : WpS (sPass sl st) X N R = N sl st := rfl
theorem wps_ret : WpS (sRet f sl st) X N R = Wp (f sl st) X R := by unfold sRet; rw [wps_bnd]; rfl
theorem wps_retN : WpS (sRetN sl st) X N R = R .non st := rfl
theorem wps_expr : WpS (sExpr f sl st) X N R = Wp (f sl st) X fun _ s1 => N sl s1 := by unfold sExpr; rw [wps_bnd]; rfl
theorem wps_if {p : Den Bool} : WpS (sIf p u v sl st) X N R = Wp (p sl st) X fun k s1 => (k = true → WpS (u sl s1) X N R) ∧ (k = false → WpS (v sl s1) X N R) := by
  unfold sIf
  rw [wps_bnd]
  congr
  funext k s1
  cases k <;> simp
/-- a test by its word -/
theorem wps_ifc {p : Den Bool} (P : Bool → Store → Prop) (h : Wp (p sl st) X P) (ht : ∀ s, P true s → WpS (u sl s) X N R) (hf : ∀ s, P false s → WpS (v sl s) X N R) : WpS (sIf p u v sl st) X N R := by
  rw [wps_if]
  exact h.mono fun k s hk => ⟨fun e => ht s (e ▸ hk), fun e => hf s (e ▸ hk)⟩
theorem wps_asg {d : TgD} : WpS (sAsg f d sl st) X N R = Wp (f sl st) X fun w s1 => Ov (d w sl) fun sl' => N sl' s1 := by
  unfold sAsg
  rw [wps_bnd]
  congr
  funext w s1
  cases h : d w sl <;> rfl
theorem wps_setIx : WpS (sSetIx f g h sl st) X N R = Wp (h sl st) X fun z s1 => Wp (f sl s1) X fun x s2 => Wp (g sl s2) X fun y s3 => Tl x fun n => Ti y fun i => Ov s3[n]? fun l => Ov (ixN l.length i) fun j => N sl (s3.set n (l.set j z)) := by
  unfold sSetIx
  simp only [wps_bnd]
  congr
  funext z s1
  congr
  funext x s2
  congr
  funext y s3
  cases x with
  | loc n => cases y with
    | int i => cases h : s3[n]? with
      | none => simp [WpS, Tl, Ti, Ov, h]
      | some l => cases h2 : ixN l.length i <;> simp [WpS, Tl, Ti, Ov, h, h2]
    | _ => rfl
  | _ => cases y <;> rfl
theorem wps_for {fi : Den Wk} {d : TgD} : WpS (sFor fi d u sl st) X N R = Wp (fi sl st) X fun p s1 => WpS (forD d u p.1 p.2 p.2 sl s1) X N R := by unfold sFor; rw [wps_bnd]
theorem wp_gN {i : Nat} {w : W} {P : Sl → Prop} : Ov (gN i w sl) P = P (sl.set i (some w)) := rfl
/-- a loop by its word -/
theorem wps_forD {on : Option Nat} {all : List W} {d : TgD} (I : Nat → Sl → Store → Prop) (hI : I 0 sl st) (hs : ∀ k sl st, k ≤ all.length → I k sl st → stays st (on, all))
    (step : ∀ k w sl st, all[k]? = some w → I k sl st → Ov (d w sl) fun sl1 => WpS (u sl1 st) X (I (k + 1)) R) (fin : ∀ sl st, I all.length sl st → N sl st) : WpS (forD d u on all all sl st) X N R := by
  have : ∀ (ws : List W) (k : Nat) (sl : Sl) (st : Store), k ≤ all.length → all.drop k = ws → I k sl st → WpS (forD d u on all ws sl st) X N R := by
    intro ws
    induction ws with
    | nil =>
      intro k sl st hk e hi
      have : k = all.length := by
        have := congrArg List.length e
        simp at this
        omega
      subst this
      unfold forD
      rw [if_pos (hs _ _ _ (Nat.le_refl _) hi)]
      exact fin _ _ hi
    | cons w ws ih =>
      intro k sl st hk e hi
      have hlt : k < all.length := by
        have := congrArg List.length e
        simp at this
        omega
      have hw : all[k]? = some w := by
        rw [List.getElem?_eq_getElem hlt]
        rw [List.drop_eq_getElem_cons hlt] at e
        rw [(List.cons.inj e).1]
      have hd : all.drop (k + 1) = ws := by
        rw [List.drop_eq_getElem_cons hlt] at e
        exact (List.cons.inj e).2
      have := step k w sl st hw hi
      unfold forD
      rw [if_pos (hs _ _ _ hk hi)]
      cases hq : d w sl with
      | none => rw [hq] at this; exact this
      | some sl1 =>
        rw [hq] at this
        simp only [Ov] at this ⊢
        cases hu : u sl1 st with
        | none => rw [hu] at this; exact this
        | some o =>
          rw [hu] at this
          cases o with
          | nx sl2 s2 => exact ih (k + 1) sl2 s2 hlt hd this
          | rt w s2 => exact this
          | er x s2 => exact this
          | bk _ _ => exact this.elim
          | ct _ _ => exact this.elim
  exact this all 0 sl st (Nat.zero_le _) rfl hI
/-- .. over typed things, the done ones told -/
theorem wps_forT {C : Type} {src : C → W} {l : List C} {on : Option Nat} {d : TgD} (I : List C → Sl → Store → Prop) (hI : I [] sl st) (hs : ∀ don rest sl st, don ++ rest = l → I don sl st → stays st (on, l.map src))
    (step : ∀ don x rest sl st, don ++ x :: rest = l → I don sl st → Ov (d (src x) sl) fun sl1 => WpS (u sl1 st) X (I (don ++ [x])) R) (fin : ∀ sl st, I l sl st → N sl st) : WpS (forD d u on (l.map src) (l.map src) sl st) X N R := by
  refine wps_forD (I := fun k sl st => I (l.take k) sl st) (by simpa using hI) (fun k sl st hk hi => hs (l.take k) (l.drop k) sl st (List.take_append_drop ..) hi) (fun k w sl st hw hi => ?_) (fun sl st hi => fin sl st (by simpa using hi))
  rw [List.getElem?_map] at hw
  cases hx : l[k]? with
  | none => rw [hx] at hw; cases hw
  | some x =>
    rw [hx] at hw
    cases hw
    have hlt : k < l.length := (List.getElem?_eq_some_iff.mp hx).1
    have he : l[k] = x := (List.getElem?_eq_some_iff.mp hx).2
    have := step (l.take k) x (l.drop (k + 1)) sl st (by rw [← he, ← List.drop_eq_getElem_cons hlt, List.take_append_drop]) hi
    have e : l.take (k + 1) = l.take k ++ [x] := by rw [List.take_succ, hx]; rfl
    rw [e]
    exact this
/-- .. over range(n) -/
theorem wps_forR {n : Nat} {d : TgD} (I : Nat → Sl → Store → Prop) (hI : I 0 sl st) (step : ∀ k sl st, k < n → I k sl st → Ov (d (.int (k : Nat)) sl) fun sl1 => WpS (u sl1 st) X (I (k + 1)) R) (fin : ∀ sl st, I n sl st → N sl st) : WpS (forD d u none (rngW 0 n) (rngW 0 n) sl st) X N R := by
  have hl : (rngW 0 n).length = n := by simp [rngW]
  refine wps_forD (I := I) hI (fun _ _ _ _ _ => True.intro) (fun k w sl st hw hi => ?_) (fun sl st hi => fin sl st (by rw [hl] at hi; exact hi))
  have hk : k < n := by have := (List.getElem?_eq_some_iff.mp hw).1; omega
  have e : w = .int (k : Nat) := by
    unfold rngW at hw
    simp [hk] at hw
    exact hw.symm
  rw [e]
  exact step k sl st hk hi
/-- a list comprehension by its word -/
theorem wp_lcD {on : Option Nat} {all : List W} {d : TgD} {p : Den Bool} {n : Nat} (I : Nat → List W → Store → Prop) (hI : I 0 [] st) (hs : ∀ k acc st, k ≤ all.length → I k acc st → stays st (on, all) ∧ acc.length < 10000)
    (step : ∀ k w acc st, all[k]? = some w → I k acc st → Ov (d w sl) fun sl1 => Wp (p sl1 st) nX fun b s1 => (b = true → Wp (f sl1 s1) nX fun y s2 => s2[n]? = some acc ∧ I (k + 1) (acc ++ [y]) (s2.set n (acc ++ [y]))) ∧ (b = false → I (k + 1) acc s1)) (fin : ∀ acc st, I all.length acc st → Q (.loc n) st) :
    Wp (lcD d p f sl n on all all st) X Q := by
  have : ∀ (ws : List W) (k : Nat) (acc : List W) (st : Store), k ≤ all.length → all.drop k = ws → I k acc st → Wp (lcD d p f sl n on all ws st) X Q := by
    intro ws
    induction ws with
    | nil =>
      intro k acc st hk e hi
      have : k = all.length := by
        have := congrArg List.length e
        simp at this
        omega
      subst this
      unfold lcD
      rw [if_pos (hs _ _ _ (Nat.le_refl _) hi).1]
      exact fin _ _ hi
    | cons w ws ih =>
      intro k acc st hk e hi
      have hlt : k < all.length := by
        have := congrArg List.length e
        simp at this
        omega
      have hw : all[k]? = some w := by
        rw [List.getElem?_eq_getElem hlt]
        rw [List.drop_eq_getElem_cons hlt] at e
        rw [(List.cons.inj e).1]
      have hd : all.drop (k + 1) = ws := by
        rw [List.drop_eq_getElem_cons hlt] at e
        exact (List.cons.inj e).2
      have ht := step k w acc st hw hi
      have hst := hs k acc st hk hi
      unfold lcD
      rw [if_pos hst.1]
      cases hq : d w sl with
      | none => rw [hq] at ht; exact ht
      | some sl1 =>
        rw [hq] at ht
        simp only [Ov] at ht ⊢
        refine wp_bnd0 (ht.mono fun b s1 hb => ?_)
        cases b with
        | true =>
          rw [if_pos rfl]
          refine wp_bnd0 ((hb.1 rfl).mono fun y s2 h2 => ?_)
          rw [h2.1]
          simp only
          rw [if_pos hst.2]
          exact ih (k + 1) _ _ hlt hd h2.2
        | false =>
          rw [if_neg (by simp)]
          exact ih (k + 1) _ _ hlt hd (hb.2 rfl)
  exact this all 0 [] st (Nat.zero_le _) rfl hI
theorem wp_eLc {fi : Den Wk} {vs : List Nat} {d : TgD} {p : Den Bool} : Wp (eLc fi vs d p f sl st) X Q = Wp (fi sl st) X fun q s1 => Wp (lcD d p f (wipeW sl vs) s1.length q.1 q.2 q.2 (s1 ++ [[]])) X Q := by unfold eLc; rw [wp_bnd]
/-- .. that leaves the store but for the new list -/
theorem wp_lcP {C : Type} {on : Option Nat} {l : List C} {d : TgD} {p : Den Bool} {g src : C → W} (b : C → Bool) (hs : ∀ acc : List W, stays (st ++ [acc]) (on, l.map src)) (few : l.length < 10000)
    (step : ∀ x ∈ l, ∀ acc : List W, Ov (d (src x) sl) fun sl1 => Wp (p sl1 (st ++ [acc])) nX fun k s1 => k = b x ∧ s1 = st ++ [acc] ∧ (b x = true → Wp (f sl1 (st ++ [acc])) nX fun y s2 => y = g x ∧ s2 = st ++ [acc])) (fin : Q (.loc st.length) (st ++ [(l.filter b).map g])) :
    Wp (lcD d p f sl st.length on (l.map src) (l.map src) (st ++ [[]])) X Q := by
  refine wp_lcD (I := fun k acc s => acc = ((l.take k).filter b).map g ∧ s = st ++ [acc]) (by simp) (fun k acc s hk hi => ?_) (fun k w acc s hw hi => ?_) (fun acc s hi => ?_)
  · obtain ⟨rfl, rfl⟩ := hi
    refine ⟨hs _, ?_⟩
    have := List.length_filter_le b (l.take k)
    rw [List.length_map]
    have h2 : (l.take k).length ≤ l.length := List.length_take_le' ..
    omega
  · obtain ⟨rfl, rfl⟩ := hi
    rw [List.getElem?_map] at hw
    cases hx : l[k]? with
    | none => rw [hx] at hw; cases hw
    | some x =>
      rw [hx] at hw
      cases hw
      have e : l.take (k + 1) = l.take k ++ [x] := by rw [List.take_succ, hx]; rfl
      have := step x (List.mem_of_getElem? hx) (((l.take k).filter b).map g)
      cases hd : d (src x) sl with
      | none => rw [hd] at this; exact this
      | some sl1 =>
        rw [hd] at this
        simp only [Ov] at this ⊢
        refine this.mono fun kb s1 h1 => ?_
        obtain ⟨rfl, rfl, h2⟩ := h1
        refine ⟨fun hb => (h2 hb).mono fun y s2 h3 => ?_, fun hb => ?_⟩
        · obtain ⟨rfl, rfl⟩ := h3
          rw [e]
          refine ⟨by simp, by simp [hb], by simp⟩
        · rw [e]
          simp [hb]
  · obtain ⟨rfl, rfl⟩ := hi
    simpa using fin
/-- a def: by its body -/
theorem wp_fn {n m : Nat} {ws : List W} (hl : ws.length = n) (h : WpS (u (ws.map some ++ List.replicate (m - n) none) st) (fun x s => Wp (some (trimE st x s)) X Q) (fun _ s => Wp (some (trim st .non s)) X Q) fun w s => Wp (some (trim st w s)) X Q) : Wp (fnD n m u ws st) X Q := by
  unfold fnD
  rw [if_pos hl]
  cases hu : u (ws.map some ++ List.replicate (m - n) none) st with
  | none => rw [hu] at h; exact h.elim
  | some o =>
    rw [hu] at h
    cases o <;> first | exact h | exact h.elim
theorem wp_pure {w : W} {s : Store} (hb : below st.length w = true) (hs : ∃ T, s = st ++ T) (h : Q w st) : Wp (some (trim st w s)) X Q := by
  obtain ⟨T, rfl⟩ := hs
  unfold trim
  rw [if_pos ⟨.inl (by simp), by simp⟩, if_pos hb, wp_ok]
  simpa using h
end
end Dn

set_option Elab.async false
set_option linter.all false
set_option maxRecDepth 100000
set_option maxHeartbeats 1000000
/-! Ho2: plain data compared; the store as a base and what was made behind it. -/
namespace Dn
open PySem PySem.Spec PyProof.Rows L2
open Classical
/-! ### plain data without truth values -/
def nb : Nat → W → Prop
  | _, .int _ => True
  | _, .non => True
  | _, .str s => PyData.strOk s = true
  | n + 1, .tup l => ∀ x ∈ l, nb n x
  | _, _ => False
def datW : Nat → W → PyData
  | _, .int i => .int i
  | _, .str s => .str s
  | n + 1, .tup l => .tuple (l.map (datW n))
  | _, _ => .none
theorem nb_int {n : Nat} {i : Int} : nb n (.int i) = True := by cases n <;> rfl
theorem nb_non {n : Nat} : nb n .non = True := by cases n <;> rfl
theorem nb_str {n : Nat} {s : Str} : nb n (.str s) = (PyData.strOk s = true) := by cases n <;> rfl
theorem nb_tup {n : Nat} {l : List W} : nb (n + 1) (.tup l) = ∀ x ∈ l, nb n x := rfl
theorem allS_some {A C : Type} {g : C → Option A} {f : C → A} : ∀ {l : List C}, (∀ x ∈ l, g x = some (f x)) → allS (l.map g) = some (l.map f)
  | [], _ => rfl
  | x :: l, h => by
    rw [List.map_cons, h x (List.mem_cons_self ..), List.map_cons]
    simp only [allS]
    rw [allS_some fun y hy => h y (List.mem_cons_of_mem _ hy)]
    rfl
theorem nb_toD {st : Store} : ∀ {n : Nat} {w : W}, nb n w → toD st n w = some (datW n w)
  | 0, .int i, _ => rfl
  | _ + 1, .int i, _ => rfl
  | 0, .non, _ => rfl
  | _ + 1, .non, _ => rfl
  | 0, .str s, h => by simp only [toD, datW]; exact if_pos h
  | _ + 1, .str s, h => by simp only [toD, datW]; exact if_pos h
  | n + 1, .tup l, h => by
    simp only [toD, datW]
    rw [allS_some (f := datW n) fun x hx => nb_toD (h x hx)]
    rfl
  | 0, .tup _, h => h.elim
  | 0, .bl _, h => h.elim
  | _ + 1, .bl _, h => h.elim
  | 0, .loc _, h => h.elim
  | _ + 1, .loc _, h => h.elim
  | 0, .ty _, h => h.elim
  | _ + 1, .ty _, h => h.elim
  | 0, .obj _, h => h.elim
  | _ + 1, .obj _, h => h.elim
  | 0, .frz _, h => h.elim
  | _ + 1, .frz _, h => h.elim
theorem beq_dec {A : Type} [BEq A] [LawfulBEq A] [DecidableEq A] {a b : A} : (a == b) = decide (a = b) := by
  by_cases h : a = b <;> simp [h]
theorem nb_all {n : Nat} (ih : ∀ x y : W, nb n x → nb n y → PyData.eqv (datW n x) (datW n y) = decide (x = y)) : ∀ {l l' : List W}, (∀ x ∈ l, nb n x) → (∀ x ∈ l', nb n x) → PyData.eqvAll (l.map (datW n)) (l'.map (datW n)) = decide (l = l')
  | [], [], _, _ => by simp [PyData.eqvAll]
  | [], _ :: _, _, _ => by simp [PyData.eqvAll]
  | _ :: _, [], _, _ => by simp [PyData.eqvAll]
  | x :: l, y :: l', h, h' => by
    rw [List.map_cons, List.map_cons, PyData.eqvAll, ih x y (h x (List.mem_cons_self ..)) (h' y (List.mem_cons_self ..)), nb_all ih (fun z hz => h z (List.mem_cons_of_mem _ hz)) (fun z hz => h' z (List.mem_cons_of_mem _ hz))]
    by_cases e : x = y <;> by_cases e2 : l = l' <;> simp [e, e2]
theorem nb_eqv : ∀ {n : Nat} {x y : W}, nb n x → nb n y → PyData.eqv (datW n x) (datW n y) = decide (x = y) := by
  intro n
  induction n with
  | zero =>
    intro x y hx hy
    cases x <;> cases y <;> first | exact hx.elim | exact hy.elim | (unfold datW PyData.eqv; simp; done) | (unfold datW PyData.eqv; exact beq_dec.trans (decide_eq_decide.mpr (by simp)))
  | succ n ih =>
    intro x y hx hy
    cases x <;> cases y <;> first | exact hx.elim | exact hy.elim | (unfold datW PyData.eqv; simp; done) | (unfold datW PyData.eqv; exact beq_dec.trans (decide_eq_decide.mpr (by simp))) | (unfold datW; rw [PyData.eqv, nb_all (fun x y => ih) hx hy]; exact decide_eq_decide.mpr (by simp))
section
variable {X : Er → Store → Prop} {st : Store} {Q : W → Store → Prop}
theorem wp_eqN {x y : W} (hx : nb 8 x) (hy : nb 8 y) : Wp (oEqD x y st) X Q = Q (.bl (decide (x = y))) st := by
  unfold oEqD
  rw [nb_toD hx, nb_toD hy]
  simp only
  rw [nb_eqv hx hy]
  rfl
theorem wp_neN {x y : W} (hx : nb 8 x) (hy : nb 8 y) : Wp (oNeD x y st) X Q = Q (.bl (!decide (x = y))) st := by
  unfold oNeD
  rw [nb_toD hx, nb_toD hy]
  simp only
  rw [nb_eqv hx hy]
  rfl
theorem nb_loc {n k : Nat} {l : List W} (h : st[k]? = some l) (hl : ∀ x ∈ l, nb n x) : toD st (n + 1) (.loc k) = some (.list (l.map (datW n))) := by
  simp only [toD, h]
  rw [allS_some (f := datW n) fun x hx => nb_toD (hl x hx)]
  rfl
theorem wp_eqL {i j : Nat} {l l' : List W} (hi : st[i]? = some l) (hj : st[j]? = some l') (hl : ∀ x ∈ l, nb 7 x) (hl' : ∀ x ∈ l', nb 7 x) : Wp (oEqD (.loc i) (.loc j) st) X Q = Q (.bl (decide (l = l'))) st := by
  unfold oEqD
  rw [nb_loc hi hl, nb_loc hj hl']
  simp only
  rw [PyData.eqv, nb_all (fun x y => nb_eqv) hl hl']
  rfl
theorem wp_neL {i j : Nat} {l l' : List W} (hi : st[i]? = some l) (hj : st[j]? = some l') (hl : ∀ x ∈ l, nb 7 x) (hl' : ∀ x ∈ l', nb 7 x) : Wp (oNeD (.loc i) (.loc j) st) X Q = Q (.bl (!decide (l = l'))) st := by
  unfold oNeD
  rw [nb_loc hi hl, nb_loc hj hl']
  simp only
  rw [PyData.eqv, nb_all (fun x y => nb_eqv) hl hl']
  rfl
theorem nb_any {n : Nat} {x : W} (hx : nb n x) : ∀ {l : List W}, (∀ y ∈ l, nb n y) → ((l.map (datW n)).any fun z => PyData.eqv z (datW n x)) = decide (x ∈ l)
  | [], _ => by simp
  | y :: l, h => by
    rw [List.map_cons, List.any_cons, nb_eqv (h y (List.mem_cons_self ..)) hx, nb_any hx fun z hz => h z (List.mem_cons_of_mem _ hz)]
    by_cases e : y = x
    · simp [e]
    · have : ¬ x = y := fun q => e q.symm
      simp [e, this]
theorem wp_inT {x : W} {l : List W} (hx : nb 7 x) (hl : ∀ y ∈ l, nb 7 y) : Wp (oIn x (.tup l) st) X Q = Q (.bl (decide (x ∈ l))) st := by
  unfold oIn inW
  rw [nb_toD hx, nb_toD (n := 8) (w := .tup l) hl]
  simp only [datW]
  rw [nb_any hx hl]
  rfl
theorem wp_niT {x : W} {l : List W} (hx : nb 7 x) (hl : ∀ y ∈ l, nb 7 y) : Wp (oNi x (.tup l) st) X Q = Q (.bl (!decide (x ∈ l))) st := by
  unfold oNi inW
  rw [nb_toD hx, nb_toD (n := 8) (w := .tup l) hl]
  simp only [datW]
  rw [nb_any hx hl]
  rfl
theorem wp_inL {x : W} {k : Nat} {l : List W} (hk : st[k]? = some l) (hx : nb 7 x) (hl : ∀ y ∈ l, nb 7 y) : Wp (oIn x (.loc k) st) X Q = Q (.bl (decide (x ∈ l))) st := by
  unfold oIn inW
  rw [nb_toD hx, nb_loc hk hl]
  simp only
  rw [nb_any hx hl]
  rfl
theorem wp_niL {x : W} {k : Nat} {l : List W} (hk : st[k]? = some l) (hx : nb 7 x) (hl : ∀ y ∈ l, nb 7 y) : Wp (oNi x (.loc k) st) X Q = Q (.bl (!decide (x ∈ l))) st := by
  unfold oNi inW
  rw [nb_toD hx, nb_loc hk hl]
  simp only
  rw [nb_any hx hl]
  rfl
theorem wp_eqI {i j : Int} : Wp (oEqD (.int i) (.int j) st) X Q = Q (.bl (decide (i = j))) st := by
  rw [wp_eqN (by rw [nb_int]; trivial) (by rw [nb_int]; trivial)]
  congr 2
  exact decide_eq_decide.mpr (by simp)
theorem wp_neI {i j : Int} : Wp (oNeD (.int i) (.int j) st) X Q = Q (.bl (!decide (i = j))) st := by
  rw [wp_neN (by rw [nb_int]; trivial) (by rw [nb_int]; trivial)]
  congr 3
  exact decide_eq_decide.mpr (by simp)
end
/-! ### the store: a base with dice at dz, and what was made behind it -/
def fr (st : Store) (dz : Nat) (a b : Int) (T : Store) : Store := st.set dz [.int a, .int b] ++ T
section
variable {st T U : Store} {dz j k : Nat} {a b a' b' : Int} {l : List W}
theorem fr_len : (fr st dz a b T).length = st.length + T.length := by simp [fr]
theorem fr_app : fr st dz a b T ++ U = fr st dz a b (T ++ U) := by simp [fr]
theorem fr_at : (fr st dz a b T)[st.length + j]? = T[j]? := by unfold fr; rw [List.getElem?_append_right (by simp)]; simp
theorem fr_at0 : (fr st dz a b T)[st.length]? = T[0]? := fr_at (j := 0)
theorem fr_set : (fr st dz a b T).set (st.length + j) l = fr st dz a b (T.set j l) := by unfold fr; rw [List.set_append_right _ _ (by simp)]; simp
theorem fr_set0 : (fr st dz a b T).set st.length l = fr st dz a b (T.set 0 l) := fr_set (j := 0)
theorem fr_old (h : k < st.length) (h' : k ≠ dz) : (fr st dz a b T)[k]? = st[k]? := by unfold fr; rw [List.getElem?_append_left (by simpa using h), List.getElem?_set_ne (Ne.symm h')]
theorem fr_dz (h : dz < st.length) : (fr st dz a b T)[dz]? = some [.int a, .int b] := by unfold fr; rw [List.getElem?_append_left (by simpa using h), List.getElem?_set_self h]
theorem fr_roll (h : dz < st.length) : (fr st dz a b T).set dz [.int a', .int b'] = fr st dz a' b' T := by unfold fr; rw [List.set_append_left _ _ (by simpa using h), List.set_set]
theorem fr_start (h : st[dz]? = some [.int a, .int b]) : st = fr st dz a b [] := by
  obtain ⟨hl, e⟩ := List.getElem?_eq_some_iff.mp h
  unfold fr
  rw [← e]
  simp
theorem tl_at {x : List W} : (T ++ x :: U)[T.length]? = some x := by simp
theorem tl_at' : (T ++ U)[T.length + j]? = U[j]? := by rw [List.getElem?_append_right (by simp)]; simp
theorem tl_atM {C : Type} {l : List C} {g : C → List W} : (l.map g ++ U)[l.length + j]? = U[j]? := by rw [List.getElem?_append_right (by simp)]; simp
theorem tl_set {x y : List W} : (T ++ x :: U).set T.length y = T ++ y :: U := by simp
theorem tl_set' {y : List W} : (T ++ U).set (T.length + j) y = T ++ U.set j y := by rw [List.set_append_right _ _ (by simp)]; simp
theorem len_assoc {k : Nat} : T.length + j + k = T.length + (j + k) := Nat.add_assoc ..
theorem tl_c1 {c : List W} : (c :: (T ++ U))[T.length + (j + 1)]? = U[j]? := by rw [← Nat.add_assoc, List.getElem?_cons_succ, tl_at']
theorem tl_c2 {c d : List W} : (c :: d :: (T ++ U))[T.length + (j + 2)]? = U[j]? := by rw [← Nat.add_assoc, List.getElem?_cons_succ, List.getElem?_cons_succ, tl_at']
theorem tl_c1' {c x : List W} : (c :: (T ++ x :: U))[T.length + 1]? = some x := tl_c1 (j := 0)
theorem tl_c2' {c d x : List W} : (c :: d :: (T ++ x :: U))[T.length + 2]? = some x := tl_c2 (j := 0)
theorem tl_s1 {c y : List W} : (c :: (T ++ U)).set (T.length + (j + 1)) y = c :: (T ++ U.set j y) := by rw [← Nat.add_assoc, List.set_cons_succ, tl_set']
theorem tl_s2 {c d y : List W} : (c :: d :: (T ++ U)).set (T.length + (j + 2)) y = c :: d :: (T ++ U.set j y) := by rw [← Nat.add_assoc, List.set_cons_succ, List.set_cons_succ, tl_set']
/-- no place but below the base -/
def okPl (st : Store) : Prop := ∀ l ∈ st, belows st.length l = true
theorem wp_trim {X : Er → Store → Prop} {Q : W → Store → Prop} {w : W} (hs : okPl st) (hw : below st.length w = true) (h : Q w (fr st dz a b [])) : Wp (some (trim st w (fr st dz a b T))) X Q := by
  have e : (fr st dz a b T).take st.length = st.set dz [.int a, .int b] := by
    unfold fr
    rw [List.take_append_of_le_length (by simp), List.take_of_length_le (by simp)]
  have ok : ∀ l ∈ st.set dz [.int a, .int b], belows st.length l = true := fun x hx => by
    rcases List.mem_or_eq_of_mem_set hx with h | h
    · exact hs x h
    · rw [h]; rfl
  unfold trim
  rw [if_pos ⟨.inr (by rw [e]; exact ok), by rw [fr_len]; omega⟩, if_pos hw, e, wp_ok]
  unfold fr at h
  rw [List.append_nil] at h
  exact h
/-- .. a new list is answered -/
theorem wp_trimL {X : Er → Store → Prop} {Q : W → Store → Prop} {m : Nat} (hs : okPl st) (hm : T[m]? = some l) (hw : belows st.length l = true) (h : Q (.loc st.length) (fr st dz a b [l])) : Wp (some (trim st (.loc (st.length + m)) (fr st dz a b T))) X Q := by
  have e : (fr st dz a b T).take st.length = st.set dz [.int a, .int b] := by
    unfold fr
    rw [List.take_append_of_le_length (by simp), List.take_of_length_le (by simp)]
  have ok : ∀ l ∈ st.set dz [.int a, .int b], belows st.length l = true := fun x hx => by
    rcases List.mem_or_eq_of_mem_set hx with h | h
    · exact hs x h
    · rw [h]; rfl
  have hl : (fr st dz a b T)[st.length + m]? = some l := by rw [fr_at, hm]
  unfold trim
  rw [if_pos ⟨.inr (by rw [e]; exact ok), by rw [fr_len]; omega⟩, if_neg (by simp [below])]
  simp only [hl]
  rw [if_pos hw, e, wp_ok]
  exact h
theorem fr_more (h : dz < st.length) : fr (st ++ T) dz a b [] = fr st dz a b T := by unfold fr; rw [List.set_append_left _ _ h]; simp
theorem fr_more' (h : dz < st.length) : fr (st ++ T) dz a b U = fr st dz a b (T ++ U) := by unfold fr; rw [List.set_append_left _ _ h]; simp
/-- .. the same, of a store that has been rolled in -/
theorem wp_trimF {X : Er → Store → Prop} {Q : W → Store → Prop} {w : W} {a0 b0 : Int} (hs : okPl st) (hw : below st.length w = true) (h : Q w (fr st dz a b [])) : Wp (some (trim (fr st dz a0 b0 []) w (fr st dz a b T))) X Q := by
  have e : (fr st dz a b T).take st.length = st.set dz [.int a, .int b] := by
    unfold fr
    rw [List.take_append_of_le_length (by simp), List.take_of_length_le (by simp)]
  have ok : ∀ l ∈ st.set dz [.int a, .int b], belows st.length l = true := fun x hx => by
    rcases List.mem_or_eq_of_mem_set hx with h | h
    · exact hs x h
    · rw [h]; rfl
  have el : (fr st dz a0 b0 []).length = st.length := by rw [fr_len]; rfl
  unfold trim
  rw [if_pos ⟨.inr (by rw [el, e]; exact ok), by rw [fr_len, fr_len]; simp⟩, if_pos (by rw [el]; exact hw), el, e, wp_ok]
  unfold fr at h
  rw [List.append_nil] at h
  exact h
theorem belows_le' {n m : Nat} (h : n ≤ m) : ∀ {l : List W}, (∀ x ∈ l, ∀ k, below k x = true → n ≤ k → below m x = true) → belows n l = true → belows m l = true
  | [], _, _ => rfl
  | w :: l, q, e => by
    simp only [belows, Bool.and_eq_true] at e ⊢
    exact ⟨q w (List.mem_cons_self ..) n e.1 (Nat.le_refl _), belows_le' h (fun x hx => q x (List.mem_cons_of_mem _ hx)) e.2⟩
theorem rng_map {n : Nat} : rngW 0 n = (List.range n).map fun i => W.int (i : Nat) := by unfold rngW; simp
/-- a list comprehension that leaves the store but for the new list -/
theorem wp_lcF {C : Type} {on : Option Nat} {l : List C} {d : TgD} {p : Den Bool} {f : Den W} {sl : Sl} {X : Er → Store → Prop} {Q : W → Store → Prop} {src : C → W} (g : C → W) (c : C → Bool) (hs : ∀ acc : List W, stays (fr st dz a b (T ++ [acc])) (on, l.map src)) (few : l.length < 10000)
    (step : ∀ x ∈ l, ∀ acc : List W, Ov (d (src x) sl) fun sl1 => Wp (p sl1 (fr st dz a b (T ++ [acc]))) nX fun k s1 => k = c x ∧ s1 = fr st dz a b (T ++ [acc]) ∧ (c x = true → Wp (f sl1 (fr st dz a b (T ++ [acc]))) nX fun y s2 => y = g x ∧ s2 = fr st dz a b (T ++ [acc])))
    (fin : Q (.loc (st.length + T.length)) (fr st dz a b (T ++ [(l.filter c).map g]))) : Wp (lcD d p f sl (st.length + T.length) on (l.map src) (l.map src) (fr st dz a b (T ++ [[]]))) X Q := by
  have e : st.length + T.length = (fr st dz a b T).length := fr_len.symm
  have e2 : ∀ acc : List W, fr st dz a b (T ++ [acc]) = fr st dz a b T ++ [acc] := fun acc => fr_app.symm
  rw [e, e2] at fin ⊢
  simp only [e2] at hs step
  exact wp_lcP c hs few step fin
/-! indices and slices -/
theorem at_nat {A : Type} {l : List A} {k : Nat} : atI l (k : Nat) = l[k]? := by
  unfold atI ixN
  rw [if_pos (by omega)]
  by_cases h : k < l.length
  · rw [if_pos (by omega)]; simp
  · rw [if_neg (by omega)]; simp; omega
theorem at_int {A : Type} {l : List A} {i : Int} (h : 0 ≤ i) : atI l i = l[i.toNat]? := by
  obtain ⟨k, rfl⟩ : ∃ k : Nat, i = k := ⟨i.toNat, by omega⟩
  rw [at_nat]
  simp
theorem at_zero {A : Type} {l : List A} : atI l 0 = l[0]? := at_nat (k := 0)
theorem at_one {A : Type} {l : List A} : atI l 1 = l[1]? := at_nat (k := 1)
theorem at_two {A : Type} {l : List A} : atI l 2 = l[2]? := at_nat (k := 2)
theorem at_last {A : Type} {l : List A} {w : A} : atI (l ++ [w]) (-1) = some w := by
  unfold atI ixN
  have h1 : ¬ (0 : Int) ≤ -1 := by decide
  have h2 : -(((l ++ [w]).length : Nat) : Int) ≤ -1 := by simp; omega
  rw [if_neg h1, if_pos h2]
  have : ((-1 : Int) + ((l ++ [w]).length : Nat)).toNat = l.length := by simp; omega
  simp only [Option.bind_some]
  rw [this]
  simp
theorem cut_to {A : Type} {l : List A} {k : Nat} : cutW l none (some (k : Int)) = l.take k := by
  unfold cutW
  rw [HT.sIx_none, HT.sIx_nat]
  simp
theorem cut_toI {A : Type} {l : List A} {i : Int} (h : 0 ≤ i) : cutW l none (some i) = l.take i.toNat := by
  obtain ⟨k, rfl⟩ : ∃ k : Nat, i = k := ⟨i.toNat, by omega⟩
  rw [cut_to]
  simp
theorem cut_from {A : Type} {l : List A} {k : Nat} : cutW l (some (k : Int)) none = l.drop k := by
  unfold cutW
  rw [HT.sIx_none, HT.sIx_nat, List.take_of_length_le (by simp)]
  by_cases h : k ≤ l.length
  · rw [Nat.min_eq_left h]
  · rw [Nat.min_eq_right (by omega), List.drop_length, List.drop_eq_nil_of_le (by omega)]
theorem cut_fromI {A : Type} {l : List A} {i : Int} (h : 0 ≤ i) : cutW l (some i) none = l.drop i.toNat := by
  obtain ⟨k, rfl⟩ : ∃ k : Nat, i = k := ⟨i.toNat, by omega⟩
  rw [cut_from]
  simp
/-- .. whose steps may roll and leave what they made -/
theorem wp_lcG {C : Type} {on : Option Nat} {l : List C} {d : TgD} {p : Den Bool} {f : Den W} {sl : Sl} {X : Er → Store → Prop} {Q : W → Store → Prop} {src : C → W} (g : C → W) (c : C → Bool) (hs : ∀ a b (acc : List W) G, stays (fr st dz a b (T ++ acc :: G)) (on, l.map src)) (few : l.length < 10000)
    (step : ∀ x ∈ l, ∀ a b (acc : List W) G, Ov (d (src x) sl) fun sl1 => Wp (p sl1 (fr st dz a b (T ++ acc :: G))) nX fun k s1 => k = c x ∧ ∃ a b G, s1 = fr st dz a b (T ++ acc :: G) ∧ (c x = true → Wp (f sl1 (fr st dz a b (T ++ acc :: G))) nX fun y s2 => y = g x ∧ ∃ a b G, s2 = fr st dz a b (T ++ acc :: G)))
    (fin : ∀ a b G, Q (.loc (st.length + T.length)) (fr st dz a b (T ++ ((l.filter c).map g) :: G))) : Wp (lcD d p f sl (st.length + T.length) on (l.map src) (l.map src) (fr st dz a b (T ++ [[]]))) X Q := by
  refine wp_lcD (I := fun k acc s => acc = ((l.take k).filter c).map g ∧ ∃ a b G, s = fr st dz a b (T ++ acc :: G)) ⟨by simp, a, b, [], rfl⟩ (fun k acc s hk hi => ?_) (fun k w acc s hw hi => ?_) (fun acc s hi => ?_)
  · obtain ⟨rfl, a, b, G, rfl⟩ := hi
    refine ⟨hs _ _ _ _, ?_⟩
    have := List.length_filter_le c (l.take k)
    rw [List.length_map]
    have h2 : (l.take k).length ≤ l.length := List.length_take_le' ..
    omega
  · obtain ⟨rfl, a, b, G, rfl⟩ := hi
    rw [List.getElem?_map] at hw
    cases hx : l[k]? with
    | none => rw [hx] at hw; cases hw
    | some x =>
      rw [hx] at hw
      cases hw
      have e : l.take (k + 1) = l.take k ++ [x] := by rw [List.take_succ, hx]; rfl
      have := step x (List.mem_of_getElem? hx) a b (((l.take k).filter c).map g) G
      cases hd : d (src x) sl with
      | none => rw [hd] at this; exact this
      | some sl1 =>
        rw [hd] at this
        simp only [Ov] at this ⊢
        refine this.mono fun kb s1 h1 => ?_
        obtain ⟨rfl, a, b, G, rfl, h2⟩ := h1
        refine ⟨fun hb => (h2 hb).mono fun y s2 h3 => ?_, fun hb => ?_⟩
        · obtain ⟨rfl, a, b, G, rfl⟩ := h3
          rw [e]
          refine ⟨by rw [fr_at]; simp, by simp [hb], a, b, G, by rw [fr_set]; simp⟩
        · rw [e]
          refine ⟨by simp [hb], a, b, G, by simp [hb]⟩
  · obtain ⟨rfl, a, b, G, rfl⟩ := hi
    simpa using fin a b G
/-! .. without dice in the base -/
def fo (st T : Store) : Store := st ++ T
theorem fo_len : (fo st T).length = st.length + T.length := by simp [fo]
theorem fo_app : fo st T ++ U = fo st (T ++ U) := by simp [fo]
theorem fo_at : (fo st T)[st.length + j]? = T[j]? := by unfold fo; rw [List.getElem?_append_right (by simp)]; simp
theorem fo_at0 : (fo st T)[st.length]? = T[0]? := fo_at (j := 0)
theorem fo_set : (fo st T).set (st.length + j) l = fo st (T.set j l) := by unfold fo; rw [List.set_append_right _ _ (by simp)]; simp
theorem fo_set0 : (fo st T).set st.length l = fo st (T.set 0 l) := fo_set (j := 0)
theorem fo_old (h : k < st.length) : (fo st T)[k]? = st[k]? := by unfold fo; rw [List.getElem?_append_left h]
theorem fo_start : st = fo st [] := by simp [fo]
theorem fr_nil : fr st dz a b [] = st.set dz [.int a, .int b] := by simp [fr]
theorem wp_lcO {C : Type} {on : Option Nat} {l : List C} {d : TgD} {p : Den Bool} {f : Den W} {sl : Sl} {X : Er → Store → Prop} {Q : W → Store → Prop} {src : C → W} (g : C → W) (c : C → Bool) (hs : ∀ acc : List W, stays (fo st (T ++ [acc])) (on, l.map src)) (few : l.length < 10000)
    (step : ∀ x ∈ l, ∀ acc : List W, Ov (d (src x) sl) fun sl1 => Wp (p sl1 (fo st (T ++ [acc]))) nX fun k s1 => k = c x ∧ s1 = fo st (T ++ [acc]) ∧ (c x = true → Wp (f sl1 (fo st (T ++ [acc]))) nX fun y s2 => y = g x ∧ s2 = fo st (T ++ [acc])))
    (fin : Q (.loc (st.length + T.length)) (fo st (T ++ [(l.filter c).map g]))) : Wp (lcD d p f sl (st.length + T.length) on (l.map src) (l.map src) (fo st (T ++ [[]]))) X Q := by
  have e : st.length + T.length = (fo st T).length := fo_len.symm
  have e2 : ∀ acc : List W, fo st (T ++ [acc]) = fo st T ++ [acc] := fun acc => fo_app.symm
  rw [e, e2] at fin ⊢
  simp only [e2] at hs step
  exact wp_lcP c hs few step fin
theorem wp_trimO {X : Er → Store → Prop} {Q : W → Store → Prop} {w : W} (hw : below st.length w = true) (h : Q w st) : Wp (some (trim st w (fo st T))) X Q := wp_pure hw ⟨T, rfl⟩ h
theorem belows_app' {n : Nat} : ∀ {a b : List W}, belows n a = true → belows n b = true → belows n (a ++ b) = true
  | [], b, _, h => h
  | x :: a, b, h, hb => by
    simp only [belows, Bool.and_eq_true] at h
    rw [List.cons_append]
    simp only [belows, Bool.and_eq_true]
    exact ⟨h.1, belows_app' h.2 hb⟩
theorem set_len {x y : List W} : (st.set dz x).length = st.length := by simp
end
end Dn

set_option Elab.async false
set_option linter.all false
set_option maxRecDepth 100000
set_option maxHeartbeats 1000000
/-! Ma0: what the defs' functions come to: the rules of reckoning. -/
namespace Dn
open PySem PySem.Spec PyProof.Rows L2
open Classical
section
theorem bnd_ok {A B : Type} {a : A} {st : Store} {k : A → Store → Option (Res B)} : bnd (some (.ok a st)) k = k a st := rfl
theorem bndS_ok {A : Type} {a : A} {st : Store} {k : A → Store → Option Out} : bndS (some (.ok a st)) k = k a st := rfl
theorem bnd0_ok {A B : Type} {a : A} {st : Store} {k : A → Store → Option B} : bnd0 (some (.ok a st)) k = k a st := rfl
theorem allS_map {A B C : Type} {g : C → Option A} {f : C → A} : ∀ {l : List C}, (∀ x ∈ l, g x = some (f x)) → allS (l.map g) = some (l.map f)
  | [], _ => rfl
  | x :: l, h => by
    rw [List.map_cons, h x (List.mem_cons_self ..), List.map_cons]
    simp only [allS]
    rw [allS_map (B := B) fun y hy => h y (List.mem_cons_of_mem _ hy)]
    rfl
theorem toD_tup {C : Type} {st : Store} {n : Nat} {g : C → W} {f : C → PyData} {l : List C} (h : ∀ x ∈ l, toD st n (g x) = some (f x)) : toD st (n + 1) (.tup (l.map g)) = some (.tuple (l.map f)) := by
  have e : (l.map g).map (toD st n) = l.map fun x => toD st n (g x) := by rw [List.map_map]; rfl
  simp only [toD]
  rw [e, allS_map (B := Unit) h]
  rfl
theorem toD_loc {C : Type} {st : Store} {n k : Nat} {g : C → W} {f : C → PyData} {l : List C} (hk : st[k]? = some (l.map g)) (h : ∀ x ∈ l, toD st n (g x) = some (f x)) : toD st (n + 1) (.loc k) = some (.list (l.map f)) := by
  have e : (l.map g).map (toD st n) = l.map fun x => toD st n (g x) := by rw [List.map_map]; rfl
  simp only [toD, hk]
  rw [e, allS_map (B := Unit) h]
  rfl
theorem toD_int {st : Store} {n : Nat} {i : Int} : toD st n (.int i) = some (.int i) := by cases n <;> rfl
theorem eqv_int {i j : Int} : PyData.eqv (.int i) (.int j) = decide (i = j) := by
  unfold PyData.eqv
  by_cases h : i = j <;> simp [h]
theorem eqvAll_map {C : Type} [DecidableEq C] {f : C → PyData} (h : ∀ x y, PyData.eqv (f x) (f y) = decide (x = y)) : ∀ {l l' : List C}, PyData.eqvAll (l.map f) (l'.map f) = decide (l = l')
  | [], [] => by simp [PyData.eqvAll]
  | [], _ :: _ => by simp [PyData.eqvAll]
  | _ :: _, [] => by simp [PyData.eqvAll]
  | x :: l, y :: l' => by
    rw [List.map_cons, List.map_cons, PyData.eqvAll, h x y, eqvAll_map h]
    by_cases e : x = y <;> by_cases e2 : l = l' <;> simp [e, e2]
theorem eqv_tup {l l' : List PyData} : PyData.eqv (.tuple l) (.tuple l') = PyData.eqvAll l l' := by rw [PyData.eqv]
theorem eqv_lst {l l' : List PyData} : PyData.eqv (.list l) (.list l') = PyData.eqvAll l l' := by rw [PyData.eqv]
/-! pairs, ties -/
def pairD (x : Int × Int) : PyData := .tuple [.int x.1, .int x.2]
theorem toD_pair {st : Store} {n : Nat} {x : Int × Int} : toD st (n + 1) (pairW x) = some (pairD x) := by
  unfold pairW pairD
  exact toD_tup (l := [x.1, x.2]) (g := W.int) (f := PyData.int) fun y _ => toD_int
theorem eqv_pair {x y : Int × Int} : PyData.eqv (pairD x) (pairD y) = decide (x = y) := by
  unfold pairD
  rw [eqv_tup]
  simp only [PyData.eqvAll, eqv_int]
  obtain ⟨a, b⟩ := x
  obtain ⟨c, d⟩ := y
  by_cases h : a = c <;> by_cases h2 : b = d <;> simp [h, h2]
/-! what a call leaves -/
theorem trim_same {st : Store} {w : W} (h : below st.length w = true) : trim st w st = .ok w st := by
  unfold trim
  rw [if_pos ⟨.inl (List.take_length), Nat.le_refl _⟩, if_pos h, List.take_length]
/-- no place -/
def okP (st : Store) : Prop := ∀ l ∈ st, belows st.length l = true
theorem trim_cut {st st' t : Store} {w : W} (h : st' = st ++ t) (hb : below st.length w = true) : trim st w st' = .ok w st := by
  subst h
  unfold trim
  rw [if_pos ⟨.inl (by simp), by simp⟩, if_pos hb]
  simp
theorem belows_map {C : Type} {n : Nat} {g : C → W} (h : ∀ x, below n (g x) = true) : ∀ l : List C, belows n (l.map g) = true
  | [] => rfl
  | x :: l => by simp [belows, h x, belows_map h l]
end
end Dn

set_option Elab.async false
set_option linter.all false
set_option maxRecDepth 100000
set_option maxHeartbeats 1000000
/-! Pd: the functions of the defs. -/
namespace Pd
open PySem PySem.Spec PyProof.Rows L2 Dn
open Classical
noncomputable def F_is_whole : SD :=
  (sRet (vAnd (eCall oIsi (aCons (eV 0) (aCons (eC (.ty "int")) aNil))) (vNot (eCall oIsi (aCons (eV 0) (aCons (eC (.ty "bool")) aNil))))))
noncomputable def f_is_whole : FD := fnD 1 1 F_is_whole
noncomputable def F_is_number : SD :=
  (sRet (vAnd (eCall f_is_whole (aCons (eV 0) aNil)) (eChain oLe oLe (eV 1) (eV 0) (eV 2))))
noncomputable def f_is_number : FD := fnD 3 3 F_is_number
noncomputable def F_is_rising : SD :=
  (sRet (e2 oEqD (eCall oList (aCons (eV 0) aNil)) (eSortSet (eV 0))))
noncomputable def f_is_rising : FD := fnD 1 1 F_is_rising
noncomputable def F_is_tie : SD :=
  (sSeq (sIf (bOr (bNot (eB (eCall oIsi (aCons (eV 1) (aCons (eC (.ty "tuple")) aNil))))) (eB (e2 oNeD (eCall oLen (aCons (eV 1) aNil)) (eC (.int 3))))) (sRet (eC (.bl false))) sNil)
  (sSeq (sAsg (eV 1) (gT 3 (gsC (gN 2) (gsC (gN 3) (gsC (gN 4) gsN)))))
  (sSeq (sIf (bOr (bNot (eB (eCall f_is_number (aCons (eV 2) (aCons (eC (.int 0)) (aCons (e2 oSub (eV 0) (eC (.int 1))) aNil)))))) (bNot (eB (eCall f_is_number (aCons (eV 3) (aCons (eC (.int 0)) (aCons (e2 oSub (eV 0) (eC (.int 1))) aNil))))))) (sRet (eC (.bl false))) sNil)
  (sRet (vAnd (e2 oNeD (eV 2) (eV 3)) (eCall f_is_number (aCons (eV 4) (aCons (eC (.int 1)) (aCons (eC (.int 4)) aNil)))))))))
noncomputable def f_is_tie : FD := fnD 2 5 F_is_tie
noncomputable def F_are_ties : SD :=
  (sSeq (sIf (bOr (bNot (eB (eCall oIsi (aCons (eV 1) (aCons (eC (.ty "tuple")) aNil))))) (eB (e2 oGt (eCall oLen (aCons (eV 1) aNil)) (eC (.int 8))))) (sRet (eC (.bl false))) sNil)
  (sSeq (sIf (bNot (eB (eAllG (wkQ (eV 1)) [0] (eCall f_is_tie (aCons (eV 1) (aCons (eV 0) aNil)))))) (sRet (eC (.bl false))) sNil)
  (sRet (e2 oEqD (eLenSC (wkQ (eV 1)) [2] (gN 2) (eSl (eV 2) pN (pS (eC (.int 2))))) (eCall oLen (aCons (eV 1) aNil))))))
noncomputable def f_are_ties : FD := fnD 2 3 F_are_ties
noncomputable def F_is_deal : SD :=
  (sSeq (sIf (bOr (bNot (eB (eCall oIsi (aCons (eV 0) (aCons (eC (.ty "tuple")) aNil))))) (eB (e2 oNeD (eCall oLen (aCons (eV 0) aNil)) (eC (.int 3))))) (sRet (eC (.bl false))) sNil)
  (sSeq (sAsg (eV 0) (gT 3 (gsC (gN 1) (gsC (gN 2) (gsC (gN 3) gsN)))))
  (sSeq (sIf (bOr (bNot (eB (eCall f_is_number (aCons (eV 1) (aCons (eC (.int 1)) (aCons (eC (.int 4)) aNil)))))) (bNot (eB (eCall f_is_number (aCons (eV 2) (aCons (eC (.int 1)) (aCons (eC (.int 4)) aNil))))))) (sRet (eC (.bl false))) sNil)
  (sRet (eCall f_are_ties (aCons (eV 1) (aCons (eV 3) aNil)))))))
noncomputable def f_is_deal : FD := fnD 1 4 F_is_deal
noncomputable def F_is_choice : SD :=
  (sSeq (sIf (bNot (eB (eCall oIsi (aCons (eV 1) (aCons (eC (.ty "tuple")) aNil))))) (sRet (eC (.bl false))) sNil)
  (sRet (vAnd (eAllG (wkQ (eV 1)) [0] (eCall f_is_number (aCons (eV 0) (aCons (eC (.int 0)) (aCons (e2 oSub (eV 1) (eC (.int 1))) aNil))))) (eCall f_is_rising (aCons (eV 1) aNil)))))
noncomputable def f_is_choice : FD := fnD 2 2 F_is_choice
noncomputable def F_is_holding : SD :=
  (sSeq (sAsg (eV 0) (gT 3 (gsC (gN 2) (gsC (gN 3) (gsC (gN 4) gsN)))))
  (sSeq (sIf (bOr (bNot (eB (eCall oIsi (aCons (eV 1) (aCons (eC (.ty "tuple")) aNil))))) (eB (e2 oNeD (eCall oLen (aCons (eV 1) aNil)) (eV 2)))) (sRet (eC (.bl false))) sNil)
  (sRet (eAllG (wkQ (eV 1)) [3] (eCall f_is_choice (aCons (eV 1) (aCons (eV 0) aNil)))))))
noncomputable def f_is_holding : FD := fnD 2 5 F_is_holding
noncomputable def F_check_deal : SD :=
  (sIf (bNot (eB (eCall f_is_deal (aCons (eV 0) aNil)))) sStuck sNil)
noncomputable def f_check_deal : FD := fnD 1 1 F_check_deal
noncomputable def F_check_holding : SD :=
  (sIf (bNot (eB (eCall f_is_holding (aCons (eV 0) (aCons (eV 1) aNil))))) sStuck sNil)
noncomputable def f_check_holding : FD := fnD 2 2 F_check_holding
noncomputable def F_check : SD :=
  (sSeq (sExpr (eCall f_check_deal (aCons (eV 0) aNil)))
  (sExpr (eCall f_check_holding (aCons (eV 0) (aCons (eV 1) aNil)))))
noncomputable def f_check : FD := fnD 2 2 F_check
noncomputable def F_is_letter : SD :=
  (sSeq (sIf (bOr (bNot (eB (eCall oIsi (aCons (eV 1) (aCons (eC (.ty "tuple")) aNil))))) (eB (e2 oNeD (eCall oLen (aCons (eV 1) aNil)) (eC (.int 2))))) (sRet (eC (.bl false))) sNil)
  (sSeq (sAsg (eV 0) (gT 3 (gsC (gN 2) (gsC (gN 3) (gsC (gN 4) gsN)))))
  (sSeq (sAsg (eV 1) (gT 2 (gsC (gN 5) (gsC (gN 6) gsN))))
  (sRet (vAnd (eCall f_is_number (aCons (eV 5) (aCons (eC (.int 0)) (aCons (e2 oSub (eCall oLen (aCons (eV 4) aNil)) (eC (.int 1))) aNil)))) (eCall f_is_number (aCons (eV 6) (aCons (eC (.int 0)) (aCons (e2 oSub (eV 3) (eC (.int 1))) aNil)))))))))
noncomputable def f_is_letter : FD := fnD 2 7 F_is_letter
noncomputable def F_has_form : SD :=
  (sSeq (sIf (bNot (eB (eCall oIsi (aCons (eV 1) (aCons (eC (.ty "tuple")) aNil))))) (sRet (eC (.bl false))) sNil)
  (sRet (vAnd (eAllG (wkQ (eV 1)) [0] (eCall f_is_letter (aCons (eV 1) (aCons (eV 0) aNil)))) (eCall f_is_rising (aCons (eV 1) aNil)))))
noncomputable def f_has_form : FD := fnD 2 2 F_has_form
noncomputable def F_is_borne : SD :=
  (sSeq (sAsg (eV 0) (gT 3 (gsC (gN 2) (gsC (gN 2) (gsC (gN 3) gsN)))))
  (sSeq (sAsg (eLc (wkQ (eV 1)) [5, 2] (gT 2 (gsC (gN 5) (gsC (gN 2) gsN))) bYes (eV 5)) (gN 4))
  (sRet (eAllG (wkQ (eV 4)) [4, 3] (e2 oLe (eCount (eV 1) (eV 0)) (e2 oIx (e2 oIx (eV 2) (eV 0)) (eC (.int 2))))))))
noncomputable def f_is_borne : FD := fnD 2 6 F_is_borne
noncomputable def F_check_plan : SD :=
  (sIf (bNot (eB (eCall oIsi (aCons (eV 0) (aCons (eC (.ty "tuple")) aNil))))) (sRaise (aCons (eC (.int 0)) (aCons (eC (.str ("form" : PySem.Str))) aNil))) sNil)
noncomputable def f_check_plan : FD := fnD 1 1 F_check_plan
noncomputable def F_check_round : SD :=
  (sSeq (sIf (bNot (eB (eCall f_has_form (aCons (eV 0) (aCons (eV 2) aNil))))) (sRaise (aCons (eV 1) (aCons (eC (.str ("form" : PySem.Str))) aNil))) sNil)
  (sIf (bNot (eB (eCall f_is_borne (aCons (eV 0) (aCons (eV 2) aNil))))) (sRaise (aCons (eV 1) (aCons (eC (.str ("many" : PySem.Str))) aNil))) sNil))
noncomputable def f_check_round : FD := fnD 3 3 F_check_round
noncomputable def F_sendable : SD :=
  (sSeq (sAsg (eV 0) (gT 3 (gsC (gN 3) (gsC (gN 3) (gsC (gN 4) gsN)))))
  (sRet (eLc (wkQ (eV 2)) [5, 6] (gT 2 (gsC (gN 5) (gsC (gN 6) gsN))) (eB (e2 oIn (eV 6) (e2 oIx (eV 1) (e2 oIx (e2 oIx (eV 4) (eV 5)) (eC (.int 0)))))) (eTup (aCons (eV 5) (aCons (eV 6) aNil))))))
noncomputable def f_sendable : FD := fnD 3 7 F_sendable
noncomputable def F_brought : SD :=
  (sSeq (sAsg (eV 0) (gT 3 (gsC (gN 3) (gsC (gN 3) (gsC (gN 4) gsN)))))
  (sSeq (sAsg (eLc (wkQ (eV 1)) [8] (gN 8) bYes (eCall oList (aCons (eV 8) aNil))) (gN 5))
  (sSeq (sFor (wkQ (eV 2)) (gT 2 (gsC (gN 6) (gsC (gN 7) gsN)))
  (sExpr (eApp (e2 oIx (eV 5) (e2 oIx (e2 oIx (eV 4) (eV 6)) (eC (.int 1)))) (eV 7))))
  (sRet (eCall oTuple (aCons (eLc (wkQ (eV 5)) [8] (gN 8) bYes (eCall oTuple (aCons (eSortSet (eV 8)) aNil))) aNil))))))
noncomputable def f_brought : FD := fnD 3 9 F_brought
noncomputable def F_played : SD :=
  (sSeq (sExpr (eCall f_check (aCons (eV 0) (aCons (eV 1) aNil))))
  (sSeq (sExpr (eCall f_check_plan (aCons (eV 2) aNil)))
  (sSeq (sAsg (eLst (aCons (eV 1) aNil)) (gN 3))
  (sSeq (sFor (wkE (eV 2)) (gT 2 (gsC (gN 4) (gsC (gN 5) gsN)))
  (sSeq (sExpr (eCall f_check_round (aCons (eV 0) (aCons (eV 4) (aCons (eV 5) aNil)))))
  (sSeq (sIf (eB (e2 oLt (eCall oLen (aCons (eCall f_sendable (aCons (eV 0) (aCons (e2 oIx (eV 3) (eNeg (eC (.int 1)))) (aCons (eV 5) aNil)))) aNil)) (eCall oLen (aCons (eV 5) aNil)))) (sRaise (aCons (eV 4) (aCons (eC (.str ("piece" : PySem.Str))) aNil))) sNil)
  (sExpr (eApp (eV 3) (eCall f_brought (aCons (eV 0) (aCons (e2 oIx (eV 3) (eNeg (eC (.int 1)))) (aCons (eV 5) aNil)))))))))
  (sRet (eV 3))))))
noncomputable def f_played : FD := fnD 3 6 F_played
noncomputable def F_lossy : SD :=
  (sSeq (sExpr (eCall f_check (aCons (eV 0) (aCons (eV 1) aNil))))
  (sSeq (sExpr (eCall f_check_plan (aCons (eV 2) aNil)))
  (sSeq (sAsg (eLst (aCons (eV 1) aNil)) (gN 4))
  (sSeq (sFor (wkE (eV 2)) (gT 2 (gsC (gN 5) (gsC (gN 6) gsN)))
  (sSeq (sExpr (eCall f_check_round (aCons (eV 0) (aCons (eV 5) (aCons (eV 6) aNil)))))
  (sSeq (sAsg (eCall f_sendable (aCons (eV 0) (aCons (e2 oIx (eV 4) (eNeg (eC (.int 1)))) (aCons (eV 6) aNil)))) (gN 7))
  (sSeq (sAsg (eLc (wkQ (eV 7)) [9, 10] (gT 2 (gsC (gN 9) (gsC (gN 10) gsN))) (eB (e2 oNi (eTup (aCons (eV 5) (aCons (eV 9) (aCons (eV 10) aNil)))) (eV 3))) (eTup (aCons (eV 9) (aCons (eV 10) aNil)))) (gN 8))
  (sExpr (eApp (eV 4) (eCall f_brought (aCons (eV 0) (aCons (e2 oIx (eV 4) (eNeg (eC (.int 1)))) (aCons (eV 8) aNil))))))))))
  (sRet (eV 4))))))
noncomputable def f_lossy : FD := fnD 4 11 F_lossy
noncomputable def F__law_cell_at : SD :=
  (sSeq (sIf (eB (e2 oLt (eV 1) (eCall oLen (aCons (eV 0) aNil)))) (sRet (e2 oIx (eV 0) (eV 1))) sNil)
  (sRet (eC (.int 0))))
noncomputable def f__law_cell_at : FD := fnD 2 2 F__law_cell_at
noncomputable def F__law_dice : SD :=
  (sRet (eLst (aCons (e2 oMod (eV 0) (eC (.int 2147483647))) (aCons (e2 oTimes (e2 oDiv (eV 0) (eC (.int 2147483647))) (eCall oInt (aCons (e2 oGe (eV 0) (e2 oPow (eC (.int 10)) (eC (.int 18)))) aNil))) aNil))))
noncomputable def f__law_dice : FD := fnD 1 1 F__law_dice
noncomputable def F__law_roll : SD :=
  (sSeq (sIf (eB (e2 oGt (e2 oIx (eV 0) (eC (.int 1))) (eC (.int 0)))) (sSeq (sAsg (e2 oMod (e2 oIx (eV 0) (eC (.int 1))) (eV 1)) (gN 2))
  (sSeq (sSetIx (eV 0) (eC (.int 1)) (e2 oDiv (e2 oIx (eV 0) (eC (.int 1))) (eV 1)))
  (sRet (eV 2)))) sNil)
  (sSeq (sSetIx (eV 0) (eC (.int 0)) (e2 oMod (e2 oPlus (e2 oTimes (e2 oIx (eV 0) (eC (.int 0))) (eC (.int 48271))) (eC (.int 11))) (eC (.int 2147483647))))
  (sRet (e2 oMod (e2 oDiv (e2 oIx (eV 0) (eC (.int 0))) (eC (.int 7))) (eV 1)))))
noncomputable def f__law_roll : FD := fnD 2 3 F__law_roll
noncomputable def F__law_whole : SD :=
  (sRet (vAnd (eCall oIsi (aCons (eV 0) (aCons (eC (.ty "int")) aNil))) (vNot (eCall oIsi (aCons (eV 0) (aCons (eC (.ty "bool")) aNil))))))
noncomputable def f__law_whole : FD := fnD 1 1 F__law_whole
noncomputable def F__law_deal : SD :=
  (sSeq (sAsg (e2 oPlus (eC (.int 1)) (eCall f__law_roll (aCons (eV 0) (aCons (eV 1) aNil)))) (gN 3))
  (sSeq (sAsg (e2 oPlus (eC (.int 1)) (eCall f__law_roll (aCons (eV 0) (aCons (eV 2) aNil)))) (gN 4))
  (sSeq (sAsg (eLst aNil) (gN 5))
  (sSeq (sAsg (eCall f__law_roll (aCons (eV 0) (aCons (eC (.int 3)) aNil))) (gN 6))
  (sSeq (sAsg (e2 oTimes (eLc (wkR (eV 3)) [8] (gN 8) bYes (eTup (aCons (eV 8) (aCons (e2 oMod (e2 oPlus (eV 8) (eC (.int 1))) (eV 3)) aNil)))) (eCall oInt (aCons (vAnd (e2 oEqD (eV 6) (eC (.int 0))) (e2 oGt (eV 3) (eC (.int 1)))) aNil))) (gN 7))
  (sSeq (sFor (wkR (eCall f__law_roll (aCons (eV 0) (aCons (eC (.int 9)) aNil)))) (gN 8)
  (sSeq (sAsg (eCall f__law_roll (aCons (eV 0) (aCons (eV 3) aNil))) (gN 9))
  (sSeq (sAsg (eCall f__law_roll (aCons (eV 0) (aCons (eV 3) aNil))) (gN 10))
  (sIf (eB (e2 oNeD (eV 9) (eV 10))) (sExpr (eApp (eV 7) (eTup (aCons (eV 9) (aCons (eV 10) aNil))))) sNil))))
  (sSeq (sFor (wkR (eCall oLen (aCons (eV 7) aNil))) (gN 8)
  (sSeq (sAsg (e2 oPlus (eC (.int 1)) (e2 oIx (eLst (aCons (eC (.int 0)) (aCons (eCall f__law_roll (aCons (eV 0) (aCons (eC (.int 2)) aNil))) (aCons (eCall f__law_roll (aCons (eV 0) (aCons (eC (.int 4)) aNil))) aNil)))) (eCall f__law_roll (aCons (eV 0) (aCons (eC (.int 3)) aNil))))) (gN 11))
  (sIf (bAnd (eB (e2 oNi (e2 oIx (eV 7) (eV 8)) (eSl (eV 7) pN (pS (eV 8))))) (eB (e2 oLt (eCall oLen (aCons (eV 5) aNil)) (eC (.int 8))))) (sExpr (eApp (eV 5) (e2 oPlus (e2 oIx (eV 7) (eV 8)) (eTup (aCons (eV 11) aNil))))) sNil)))
  (sRet (eTup (aCons (eV 3) (aCons (eV 4) (aCons (eCall oTuple (aCons (eV 5) aNil)) aNil))))))))))))
noncomputable def f__law_deal : FD := fnD 3 12 F__law_deal
noncomputable def F__law_holding : SD :=
  (sSeq (sAsg (eLc (wkR (e2 oIx (eV 1) (eC (.int 0)))) [7] (gN 7) bYes (eLst aNil)) (gN 2))
  (sSeq (sAsg (eCall f__law_roll (aCons (eV 0) (aCons (eC (.int 3)) aNil))) (gN 3))
  (sSeq (sAsg (eCall f__law_roll (aCons (eV 0) (aCons (e2 oIx (eV 1) (eC (.int 0))) aNil))) (gN 4))
  (sSeq (sFor (wkR (e2 oIx (eV 1) (eC (.int 1)))) (gN 5)
  (sSeq (sIf (bOr (eB (e2 oEqD (eV 3) (eC (.int 0)))) (eB (e2 oGt (eCall f__law_roll (aCons (eV 0) (aCons (eC (.int 9)) aNil))) (eC (.int 0))))) (sExpr (eApp (e2 oIx (eV 2) (e2 oIx (eLst (aCons (eV 4) (aCons (eCall f__law_roll (aCons (eV 0) (aCons (e2 oIx (eV 1) (eC (.int 0))) aNil))) aNil))) (eCall oInt (aCons (e2 oGt (eV 3) (eC (.int 0))) aNil)))) (eV 5))) sNil)
  (sFor (wkQ (eV 2)) (gN 6)
  (sIf (bAnd (eB (e2 oEqD (eV 3) (eC (.int 2)))) (bAnd (eB (e2 oNi (eV 5) (eV 6))) (eB (e2 oEqD (eCall f__law_roll (aCons (eV 0) (aCons (eC (.int 3)) aNil))) (eC (.int 0)))))) (sExpr (eApp (eV 6) (eV 5))) sNil))))
  (sRet (eCall oTuple (aCons (eLc (wkQ (eV 2)) [6] (gN 6) bYes (eCall oTuple (aCons (eCall oSorted (aCons (eV 6) aNil)) aNil))) aNil)))))))
noncomputable def f__law_holding : FD := fnD 2 8 F__law_holding
noncomputable def F__law_some : SD :=
  (sSeq (sAsg (eCall f__law_dice (aCons (eCall f__law_cell_at (aCons (eV 0) (aCons (eC (.int 0)) aNil))) aNil)) (gN 2))
  (sSeq (sAsg (e2 oIx (eV 1) (e2 oMod (eCall f__law_cell_at (aCons (eV 0) (aCons (eC (.int 1)) aNil))) (eCall oLen (aCons (eV 1) aNil)))) (gT 2 (gsC (gN 3) (gsC (gN 4) gsN))))
  (sSeq (sAsg (eCall f__law_deal (aCons (eV 2) (aCons (eV 3) (aCons (eV 4) aNil)))) (gN 5))
  (sRet (eTup (aCons (eV 5) (aCons (eCall f__law_holding (aCons (eV 2) (aCons (eV 5) aNil))) aNil)))))))
noncomputable def f__law_some : FD := fnD 2 6 F__law_some
noncomputable def F__law_fault : SD :=
  (sSeq (sIf (bNot (eB (eCall oIsi (aCons (eV 2) (aCons (eC (.ty "tuple")) aNil))))) (sRet (eC (.str ("form" : PySem.Str)))) sNil)
  (sSeq (sFor (wkQ (eV 2)) (gN 3)
  (sSeq (sIf (bOr (bNot (eB (eCall oIsi (aCons (eV 3) (aCons (eC (.ty "tuple")) aNil))))) (eB (e2 oNeD (eCall oLen (aCons (eV 3) aNil)) (eC (.int 2))))) (sRet (eC (.str ("form" : PySem.Str)))) sNil)
  (sSeq (sIf (eB (e2 oNeD (eLc (wkQ (eV 3)) [5] (gN 5) (bNot (eB (eCall f__law_whole (aCons (eV 5) aNil)))) (eV 5)) (eLst aNil))) (sRet (eC (.str ("form" : PySem.Str)))) sNil)
  (sIf (bOr (bNot (eB (eChain oLe oLt (eC (.int 0)) (e2 oIx (eV 3) (eC (.int 0))) (eCall oLen (aCons (e2 oIx (eV 0) (eC (.int 2))) aNil))))) (bNot (eB (eChain oLe oLt (eC (.int 0)) (e2 oIx (eV 3) (eC (.int 1))) (e2 oIx (eV 0) (eC (.int 1))))))) (sRet (eC (.str ("form" : PySem.Str)))) sNil))))
  (sSeq (sIf (eB (e2 oNeD (eCall oList (aCons (eV 2) aNil)) (eSortSet (eV 2)))) (sRet (eC (.str ("form" : PySem.Str)))) sNil)
  (sSeq (sFor (wkR (eCall oLen (aCons (e2 oIx (eV 0) (eC (.int 2))) aNil))) (gN 4)
  (sIf (eB (e2 oGt (eCall oLen (aCons (eLc (wkQ (eV 2)) [3] (gN 3) (eB (e2 oEqD (e2 oIx (eV 3) (eC (.int 0))) (eV 4))) (eV 3)) aNil)) (e2 oIx (e2 oIx (e2 oIx (eV 0) (eC (.int 2))) (eV 4)) (eC (.int 2))))) (sRet (eC (.str ("many" : PySem.Str)))) sNil))
  (sSeq (sIf (eB (e2 oNeD (eLc (wkQ (eV 2)) [3] (gN 3) (eB (e2 oNi (e2 oIx (eV 3) (eC (.int 1))) (e2 oIx (eV 1) (e2 oIx (e2 oIx (e2 oIx (eV 0) (eC (.int 2))) (e2 oIx (eV 3) (eC (.int 0)))) (eC (.int 0)))))) (eV 3)) (eLst aNil))) (sRet (eC (.str ("piece" : PySem.Str)))) sNil)
  (sRet (eC (.str ("" : PySem.Str)))))))))
noncomputable def f__law_fault : FD := fnD 3 6 F__law_fault
noncomputable def F__law_come : SD :=
  (sSeq (sAsg (eLc (wkQ (eV 1)) [6] (gN 6) bYes (eCall oList (aCons (eV 6) aNil))) (gN 3))
  (sSeq (sFor (wkQ (eV 2)) (gT 2 (gsC (gN 4) (gsC (gN 5) gsN)))
  (sSeq (sAsg (e2 oIx (eV 3) (e2 oIx (e2 oIx (e2 oIx (eV 0) (eC (.int 2))) (eV 4)) (eC (.int 1)))) (gN 6))
  (sIf (eB (e2 oNi (eV 5) (eV 6))) (sExpr (eApp (eV 6) (eV 5))) sNil)))
  (sRet (eCall oTuple (aCons (eLc (wkQ (eV 3)) [6] (gN 6) bYes (eCall oTuple (aCons (eCall oSorted (aCons (eV 6) aNil)) aNil))) aNil)))))
noncomputable def f__law_come : FD := fnD 3 7 F__law_come
noncomputable def F__law_plan : SD :=
  (sSeq (sAsg (eLst aNil) (gN 4))
  (sSeq (sFor (wkR (eCall f__law_roll (aCons (eV 0) (aCons (e2 oPlus (eV 3) (eC (.int 1))) aNil)))) (gN 5)
  (sSeq (sAsg (eLst aNil) (gN 6))
  (sSeq (sFor (wkR (eCall oLen (aCons (e2 oIx (eV 1) (eC (.int 2))) aNil))) (gN 7)
  (sSeq (sAsg (eLc (wkQ (e2 oIx (eV 2) (e2 oIx (e2 oIx (e2 oIx (eV 1) (eC (.int 2))) (eV 7)) (eC (.int 0))))) [9] (gN 9) (eB (e2 oGt (eCall f__law_roll (aCons (eV 0) (aCons (eC (.int 3)) aNil))) (eC (.int 0)))) (eV 9)) (gN 8))
  (sAsg (e2 oPlus (eV 6) (eLc (wkQ (eSl (eV 8) pN (pS (e2 oIx (e2 oIx (e2 oIx (eV 1) (eC (.int 2))) (eV 7)) (eC (.int 2)))))) [9] (gN 9) bYes (eTup (aCons (eV 7) (aCons (eV 9) aNil))))) (gN 6))))
  (sSeq (sExpr (eApp (eV 4) (eCall oTuple (aCons (eV 6) aNil))))
  (sAsg (eCall f__law_come (aCons (eV 1) (aCons (eV 2) (aCons (eV 6) aNil)))) (gN 2))))))
  (sRet (eCall oTuple (aCons (eV 4) aNil)))))
noncomputable def f__law_plan : FD := fnD 4 10 F__law_plan
noncomputable def F__law_played : SD :=
  (sSeq (sAsg (eLst (aCons (eV 1) aNil)) (gN 3))
  (sSeq (sFor (wkR (eCall oLen (aCons (eV 2) aNil))) (gN 4)
  (sSeq (sAsg (eCall f__law_fault (aCons (eV 0) (aCons (e2 oIx (eV 3) (eNeg (eC (.int 1)))) (aCons (e2 oIx (eV 2) (eV 4)) aNil)))) (gN 5))
  (sSeq (sIf (eB (e2 oNeD (eV 5) (eC (.str ("" : PySem.Str))))) (sRet (eTup (aCons (eV 4) (aCons (eV 5) aNil)))) sNil)
  (sExpr (eApp (eV 3) (eCall f__law_come (aCons (eV 0) (aCons (e2 oIx (eV 3) (eNeg (eC (.int 1)))) (aCons (e2 oIx (eV 2) (eV 4)) aNil)))))))))
  (sRet (eV 3))))
noncomputable def f__law_played : FD := fnD 3 6 F__law_played
noncomputable def F__law_lossy : SD :=
  (sSeq (sAsg (eLst (aCons (eV 1) aNil)) (gN 4))
  (sSeq (sFor (wkR (eCall oLen (aCons (eV 2) aNil))) (gN 5)
  (sSeq (sAsg (eLc (wkQ (e2 oIx (eV 2) (eV 5))) [7] (gN 7) (eB (e2 oIn (e2 oIx (eV 7) (eC (.int 1))) (e2 oIx (e2 oIx (eV 4) (eNeg (eC (.int 1)))) (e2 oIx (e2 oIx (e2 oIx (eV 0) (eC (.int 2))) (e2 oIx (eV 7) (eC (.int 0)))) (eC (.int 0)))))) (eV 7)) (gN 6))
  (sSeq (sAsg (eLc (wkQ (eV 6)) [7] (gN 7) (eB (e2 oNi (eTup (aCons (eV 5) (aCons (e2 oIx (eV 7) (eC (.int 0))) (aCons (e2 oIx (eV 7) (eC (.int 1))) aNil)))) (eV 3))) (eV 7)) (gN 6))
  (sExpr (eApp (eV 4) (eCall f__law_come (aCons (eV 0) (aCons (e2 oIx (eV 4) (eNeg (eC (.int 1)))) (aCons (eV 6) aNil)))))))))
  (sRet (eV 4))))
noncomputable def f__law_lossy : FD := fnD 4 8 F__law_lossy
noncomputable def F__law_lost : SD :=
  (sSeq (sAsg (eLst aNil) (gN 2))
  (sSeq (sFor (wkR (eCall oLen (aCons (eV 1) aNil))) (gN 3)
  (sAsg (e2 oPlus (eV 2) (eLc (wkQ (e2 oIx (eV 1) (eV 3))) [5] (gN 5) (eB (e2 oEqD (eCall f__law_roll (aCons (eV 0) (aCons (eC (.int 3)) aNil))) (eC (.int 0)))) (e2 oPlus (eTup (aCons (eV 3) aNil)) (eV 5)))) (gN 2)))
  (sSeq (sFor (wkR (eCall f__law_roll (aCons (eV 0) (aCons (eC (.int 3)) aNil)))) (gN 4)
  (sExpr (eApp (eV 2) (eTup (aCons (eCall f__law_roll (aCons (eV 0) (aCons (eC (.int 7)) aNil))) (aCons (eCall f__law_roll (aCons (eV 0) (aCons (eC (.int 9)) aNil))) (aCons (eCall f__law_roll (aCons (eV 0) (aCons (eC (.int 5)) aNil))) aNil)))))))
  (sSeq (sIf (eB (e2 oEqD (eCall f__law_roll (aCons (eV 0) (aCons (eC (.int 2)) aNil))) (eC (.int 0)))) (sExpr (eRev (eV 2))) sNil)
  (sRet (eCall oTuple (aCons (e2 oPlus (eV 2) (eSl (eV 2) pN (pS (eCall f__law_roll (aCons (eV 0) (aCons (eC (.int 2)) aNil)))))) aNil)))))))
noncomputable def f__law_lost : FD := fnD 2 6 F__law_lost
noncomputable def F__law_word : SD :=
  (sSeq (sTryBR (sExpr (eCall f_lossy (aCons (eV 0) (aCons (eV 1) (aCons (eV 2) (aCons (eTup aNil) aNil)))))))
  (sRet (eC (.str ("" : PySem.Str)))))
noncomputable def f__law_word : FD := fnD 3 4 F__law_word
noncomputable def F_has_each : SD :=
  (sRet (eAllG (wkQ (eV 1)) [0] (e2 oIn (eV 0) (eV 1))))
noncomputable def f_has_each : FD := fnD 2 2 F_has_each
noncomputable def F_has_all : SD :=
  (sSeq (sAsg (eV 0) (gT 3 (gsC (gN 2) (gsC (gN 3) (gsC (gN 2) gsN)))))
  (sRet (eAllG (wkQ (eV 1)) [3] (e2 oEqD (eCall oLen (aCons (eV 0) aNil)) (eV 1)))))
noncomputable def f_has_all : FD := fnD 2 4 F_has_all
noncomputable def F_lies_within : SD :=
  (sRet (eCall oAll (aCons (eLc (wkZ (aCons (eV 0) (aCons (eV 1) aNil))) [2, 3] (gT 2 (gsC (gN 2) (gsC (gN 3) gsN))) bYes (eCall f_has_each (aCons (eV 3) (aCons (eV 2) aNil)))) aNil)))
noncomputable def f_lies_within : FD := fnD 2 4 F_lies_within
noncomputable def F_is_done : SD :=
  (sSeq (sExpr (eCall f_check (aCons (eV 0) (aCons (eV 1) aNil))))
  (sRet (eCall f_has_all (aCons (eV 0) (aCons (eV 1) aNil)))))
noncomputable def f_is_done : FD := fnD 2 2 F_is_done
noncomputable def F_is_within : SD :=
  (sSeq (sExpr (eCall f_check (aCons (eV 0) (aCons (eV 1) aNil))))
  (sSeq (sExpr (eCall f_check_holding (aCons (eV 0) (aCons (eV 2) aNil))))
  (sRet (eCall f_lies_within (aCons (eV 1) (aCons (eV 2) aNil))))))
noncomputable def f_is_within : FD := fnD 3 3 F_is_within
noncomputable def F__law_told : SD :=
  (sTryBR (sRet (eCall f_played (aCons (eV 0) (aCons (eV 1) (aCons (eV 2) aNil))))))
noncomputable def f__law_told : FD := fnD 3 4 F__law_told
noncomputable def F__law_spoilt : SD :=
  (sSeq (sIf (eB (e2 oEqD (eV 2) (eTup aNil))) (sRet (e2 oIx (eLst (aCons (eTup aNil) (aCons (eLst aNil) (aCons (eC .non) (aCons (eC (.str ("plan" : PySem.Str))) (aCons (eC (.int 5)) aNil)))))) (eCall f__law_roll (aCons (eV 0) (aCons (eC (.int 5)) aNil))))) sNil)
  (sSeq (sAsg (eCall f__law_roll (aCons (eV 0) (aCons (eCall oLen (aCons (eV 2) aNil)) aNil))) (gN 3))
  (sSeq (sAsg (e2 oIx (eV 2) (eV 3)) (gN 4))
  (sSeq (sAsg (eLc (wkR (eCall oLen (aCons (e2 oIx (eV 1) (eC (.int 2))) aNil))) [6] (gN 6) (eB (e2 oLt (e2 oIx (e2 oIx (e2 oIx (eV 1) (eC (.int 2))) (eV 6)) (eC (.int 2))) (e2 oIx (eV 1) (eC (.int 1))))) (eV 6)) (gN 5))
  (sSeq (sIf (bAnd (eB (e2 oNeD (eV 5) (eLst aNil))) (eB (e2 oEqD (eCall f__law_roll (aCons (eV 0) (aCons (eC (.int 4)) aNil))) (eC (.int 0))))) (sSeq (sAsg (e2 oIx (eV 5) (eCall f__law_roll (aCons (eV 0) (aCons (eCall oLen (aCons (eV 5) aNil)) aNil)))) (gN 6))
  (sSeq (sAsg (e2 oPlus (e2 oIx (e2 oIx (e2 oIx (eV 1) (eC (.int 2))) (eV 6)) (eC (.int 2))) (eC (.int 1))) (gN 7))
  (sRet (e2 oPlus (e2 oPlus (eSl (eV 2) pN (pS (eV 3))) (eTup (aCons (eCall oTuple (aCons (eLc (wkR (eV 7)) [9] (gN 9) bYes (eTup (aCons (eV 6) (aCons (eV 9) aNil)))) aNil)) aNil))) (eSl (eV 2) (pS (e2 oPlus (eV 3) (eC (.int 1)))) pN))))) sNil)
  (sSeq (sAsg (eCall f__law_roll (aCons (eV 0) (aCons (eC (.int 9)) aNil))) (gN 8))
  (sSeq (sAsg (eCall f__law_roll (aCons (eV 0) (aCons (eC (.int 5)) aNil))) (gN 9))
  (sSeq (sAsg (eLst (aCons (e2 oPlus (eV 4) (eTup (aCons (eTup (aCons (eV 8) (aCons (eV 9) aNil))) aNil))) (aCons (eCall oTuple (aCons (eSortSet (e2 oPlus (eV 4) (eTup (aCons (eTup (aCons (eV 8) (aCons (eV 9) aNil))) aNil)))) aNil)) (aCons (eRevS (eV 4)) (aCons (e2 oPlus (eV 4) (eV 4)) aNil))))) (gN 10))
  (sSeq (sAsg (e2 oPlus (eV 10) (eLst (aCons (eCall oList (aCons (eV 4) aNil)) (aCons (e2 oPlus (eV 4) (eTup (aCons (eTup (aCons (eV 8) aNil)) aNil))) (aCons (e2 oPlus (eV 4) (eTup (aCons (eTup (aCons (eV 8) (aCons (eC .non) aNil))) aNil))) (aCons (e2 oPlus (eTup (aCons (eTup (aCons (eNeg (eC (.int 1))) (aCons (eC (.int 0)) aNil))) aNil)) (eV 4)) (aCons (eC .non) (aCons (eC (.int 5)) aNil)))))))) (gN 10))
  (sSeq (sAsg (e2 oPlus (eV 10) (eLst (aCons (e2 oPlus (eV 4) (eTup (aCons (eTup (aCons (eC (.bl true)) (aCons (eC (.int 0)) aNil))) aNil))) (aCons (e2 oPlus (eV 4) (eTup (aCons (eLst (aCons (eV 8) (aCons (eV 9) aNil))) aNil))) (aCons (eSl (eV 4) (pS (eC (.int 1))) pN) aNil))))) (gN 10))
  (sRet (e2 oPlus (e2 oPlus (eSl (eV 2) pN (pS (eV 3))) (eTup (aCons (e2 oIx (eV 10) (eCall f__law_roll (aCons (eV 0) (aCons (eC (.int 13)) aNil)))) aNil))) (eSl (eV 2) (pS (e2 oPlus (eV 3) (eC (.int 1)))) pN)))))))))))))
noncomputable def f__law_spoilt : FD := fnD 3 11 F__law_spoilt
noncomputable def F__law_in : SD :=
  (sSeq (sFor (wkR (eCall oLen (aCons (eV 0) aNil))) (gN 2)
  (sIf (eB (e2 oNeD (eLc (wkQ (e2 oIx (eV 0) (eV 2))) [3] (gN 3) (eB (e2 oNi (eV 3) (e2 oIx (eV 1) (eV 2)))) (eV 3)) (eLst aNil))) (sRet (eC (.bl false))) sNil))
  (sRet (eC (.bl true))))
noncomputable def f__law_in : FD := fnD 2 4 F__law_in
end Pd

set_option Elab.async false
set_option linter.all false
set_option maxRecDepth 100000
set_option maxHeartbeats 1000000
/-! Ma1: the small defs. -/
namespace Pd
open PySem PySem.Spec PyProof.Rows L2 Dn
open Classical
theorem is_int_int {v : Int} {st : Store} : oIsi [.int v, .ty "int"] st = some (.ok (.bl true) st) := by
  have k : kitB "int" "int" = some true := by decide +kernel
  simp [oIsi, tyW, k, okW]
theorem is_int_bool {v : Int} {st : Store} : oIsi [.int v, .ty "bool"] st = some (.ok (.bl false) st) := by
  have k : kitB "int" "bool" = some false := by decide +kernel
  simp [oIsi, tyW, k, okW]
theorem is_tup_tup {v : List W} {st : Store} : oIsi [.tup v, .ty "tuple"] st = some (.ok (.bl true) st) := by
  have k : kitB "tuple" "tuple" = some true := by decide +kernel
  simp [oIsi, tyW, k, okW]
theorem is_loc_tup {v : Nat} {st : Store} : oIsi [.loc v, .ty "tuple"] st = some (.ok (.bl false) st) := by
  have k : kitB "list" "tuple" = some false := by decide +kernel
  simp [oIsi, tyW, k, okW]
theorem is_int_tup {v : Int} {st : Store} : oIsi [.int v, .ty "tuple"] st = some (.ok (.bl false) st) := by
  have k : kitB "int" "tuple" = some false := by decide +kernel
  simp [oIsi, tyW, k, okW]
theorem is_loc_list {v : Nat} {st : Store} : oIsi [.loc v, .ty "list"] st = some (.ok (.bl true) st) := by
  have k : kitB "list" "list" = some true := by decide +kernel
  simp [oIsi, tyW, k, okW]
theorem i_lt {i j : Int} {st : Store} : oLt (.int i) (.int j) st = some (.ok (.bl (decide (i < j))) st) := rfl
theorem i_le {i j : Int} {st : Store} : oLe (.int i) (.int j) st = some (.ok (.bl (decide (i ≤ j))) st) := rfl
theorem i_gt {i j : Int} {st : Store} : oGt (.int i) (.int j) st = some (.ok (.bl (decide (j < i))) st) := rfl
theorem i_ge {i j : Int} {st : Store} : oGe (.int i) (.int j) st = some (.ok (.bl (decide (j ≤ i))) st) := rfl
theorem i_sub {i j : Int} {st : Store} : oSub (.int i) (.int j) st = some (.ok (.int (i - j)) st) := rfl
theorem i_add {i j : Int} {st : Store} : oPlus (.int i) (.int j) st = some (.ok (.int (i + j)) st) := rfl
theorem i_mod {i j : Int} {st : Store} : oMod (.int i) (.int j) st = if 0 < j then some (.ok (.int (i % j)) st) else none := by
  by_cases h : 0 < j <;> simp [oMod, oI, h, okW]
theorem i_div {i j : Int} {st : Store} : oDiv (.int i) (.int j) st = if 0 < j ∧ j.natAbs.log2 < 9000 then some (.ok (.int (i / j)) st) else none := by
  by_cases h : 0 < j ∧ j.natAbs.log2 < 9000 <;> simp [oDiv, oI, h, okW]
theorem i_mul {i j : Int} {st : Store} (h : -18446744073709551616 < j ∧ j < 18446744073709551616) : oTimes (.int i) (.int j) st = some (.ok (.int (i * j)) st) := by
  have e : oMul (.int i) (.int j) st = some (.ok (.int (i * j)) st) := by
    unfold oMul oI
    have : (-(2 ^ 64) < j ∧ j < 2 ^ 64) := by
      have e : (2 : Int) ^ 64 = 18446744073709551616 := by decide
      rw [e]; exact h
    show (if decide ((-(2 ^ 64) < i ∧ i < 2 ^ 64) ∨ (-(2 ^ 64) < j ∧ j < 2 ^ 64)) = true then (okW (W.int (i * j)) st : Option (Res W)) else none) = _
    rw [if_pos (decide_eq_true (Or.inr this))]
    rfl
  unfold oTimes
  rw [e]
theorem ix_tup {l : List W} {i : Int} {st : Store} : oIx (.tup l) (.int i) st = (match atI l i with
    | some w => some (.ok w st)
    | none => none) := rfl
theorem ix_frz {l : List W} {i : Int} {st : Store} : oIx (.frz l) (.int i) st = (match atI l i with
    | some w => some (.ok w st)
    | none => none) := rfl
theorem ix_loc {l : List W} {n : Nat} {i : Int} {st : Store} (h : st[n]? = some l) : oIx (.loc n) (.int i) st = (match atI l i with
    | some w => some (.ok w st)
    | none => none) := by simp only [oIx, h]; cases atI l i <;> rfl
theorem trim_bl {st : Store} {b : Bool} : trim st (.bl b) st = .ok (.bl b) st := trim_same rfl
theorem trim_non {st : Store} : trim st .non st = .ok .non st := trim_same rfl
theorem trim_int {st : Store} {b : Int} : trim st (.int b) st = .ok (.int b) st := trim_same rfl
theorem f_is_whole_int {v : Int} {st : Store} : f_is_whole [.int v] st = some (.ok (.bl true) st) := by
  unfold f_is_whole F_is_whole
  (simp [Dn.fnD, sSeq, sNil, sRet, sRetN, sExpr, sIf, sAsg, sSetIx, Dn.eV, Dn.eC, Dn.e2, eB, bAnd, bOr, bNot, vAnd, vOr, vNot, eIf, eChain, aNil, aCons, eTup, eLst, eCall, Dn.okW, bnd_ok, bndS_ok, bnd0_ok, gN, gT, gsC, gsN, i_lt, i_le, i_gt, i_ge, i_sub, i_add, i_mod, i_div, i_mul, ix_tup, ix_frz, ix_loc, oLen, is_int_int, is_int_bool, is_tup_tup, is_loc_tup, is_int_tup, is_loc_list, trim_bl])
theorem f_is_number_ok {v lo hi : Int} {st : Store} : f_is_number [.int v, .int lo, .int hi] st = some (.ok (.bl (decide (lo ≤ v ∧ v ≤ hi))) st) := by
  unfold f_is_number F_is_number
  (simp [Dn.fnD, sSeq, sNil, sRet, sRetN, sExpr, sIf, sAsg, sSetIx, Dn.eV, Dn.eC, Dn.e2, eB, bAnd, bOr, bNot, vAnd, vOr, vNot, eIf, eChain, aNil, aCons, eTup, eLst, eCall, Dn.okW, bnd_ok, bndS_ok, bnd0_ok, gN, gT, gsC, gsN, i_lt, i_le, i_gt, i_ge, i_sub, i_add, i_mod, i_div, i_mul, ix_tup, ix_frz, ix_loc, oLen, is_int_int, is_int_bool, is_tup_tup, is_loc_tup, is_int_tup, is_loc_list, f_is_whole_int])
  by_cases h : lo ≤ v <;> simp [h, trim_bl, bndS_ok]
theorem ne_int {i j : Int} {st : Store} : oNeD (.int i) (.int j) st = some (.ok (.bl (!decide (i = j))) st) := by
  simp [oNeD, toD_int, eqv_int, okW]
theorem eq_int {i j : Int} {st : Store} : oEqD (.int i) (.int j) st = some (.ok (.bl (decide (i = j))) st) := by
  simp [oEqD, toD_int, eqv_int, okW]
def tieW (t : Int × Int × Int) : W := .tup [.int t.1, .int t.2.1, .int t.2.2]
def tieB (h : Int) (t : Int × Int × Int) : Prop := 0 ≤ t.1 ∧ t.1 ≤ h - 1 ∧ 0 ≤ t.2.1 ∧ t.2.1 ≤ h - 1 ∧ t.1 ≠ t.2.1 ∧ 1 ≤ t.2.2 ∧ t.2.2 ≤ 4
theorem f_is_tie_ok {h : Int} {t : Int × Int × Int} {st : Store} (ht : tieB h t) : f_is_tie [.int h, tieW t] st = some (.ok (.bl true) st) := by
  obtain ⟨h1, h2, h3, h4, h5, h6, h7⟩ := ht
  unfold f_is_tie F_is_tie tieW
  (simp [Dn.fnD, sSeq, sNil, sRet, sRetN, sExpr, sIf, sAsg, sSetIx, Dn.eV, Dn.eC, Dn.e2, eB, bAnd, bOr, bNot, vAnd, vOr, vNot, eIf, eChain, aNil, aCons, eTup, eLst, eCall, Dn.okW, bnd_ok, bndS_ok, bnd0_ok, gN, gT, gsC, gsN, i_lt, i_le, i_gt, i_ge, i_sub, i_add, i_mod, i_div, i_mul, ix_tup, ix_frz, ix_loc, oLen, is_int_int, is_int_bool, is_tup_tup, is_loc_tup, is_int_tup, is_loc_list, ne_int, f_is_number_ok, h1, h2, h3, h4, h5, h6, h7, trim_bl])
theorem f_is_letter_ok {h m : Int} {ts : List W} {x : Int × Int} {st : Store} : f_is_letter [.tup [.int h, .int m, .tup ts], pairW x] st = some (.ok (.bl (decide (0 ≤ x.1 ∧ x.1 < ts.length ∧ 0 ≤ x.2 ∧ x.2 < m))) st) := by
  have e : ∀ a b : Int, (a ≤ b - 1) = (a < b) := fun a b => propext (by omega)
  unfold f_is_letter F_is_letter pairW
  (simp [Dn.fnD, sSeq, sNil, sRet, sRetN, sExpr, sIf, sAsg, sSetIx, Dn.eV, Dn.eC, Dn.e2, eB, bAnd, bOr, bNot, vAnd, vOr, vNot, eIf, eChain, aNil, aCons, eTup, eLst, eCall, Dn.okW, bnd_ok, bndS_ok, bnd0_ok, gN, gT, gsC, gsN, i_lt, i_le, i_gt, i_ge, i_sub, i_add, i_mod, i_div, i_mul, ix_tup, ix_frz, ix_loc, oLen, is_int_int, is_int_bool, is_tup_tup, is_loc_tup, is_int_tup, is_loc_list, ne_int, f_is_number_ok, trim_bl, e])
  by_cases h1 : 0 ≤ x.1 <;> by_cases h2 : x.1 < ts.length <;> simp [h1, h2, bndS_ok, trim_bl]
theorem ix20 : ixN 2 0 = some 0 := by decide +kernel
theorem ix21 : ixN 2 1 = some 1 := by decide +kernel
theorem log_few {j : Int} (h : j < 100000000000) (h0 : 0 < j) : j.natAbs.log2 < 9000 := by
  have h1 : j.natAbs < 2 ^ 40 := by have : (2 : Nat) ^ 40 = 1099511627776 := by decide
                                    omega
  have h2 : j.natAbs ≠ 0 := by omega
  have := (Nat.log2_lt h2).mpr h1
  omega
theorem okP_set {st : Store} {d : Nat} {l : List W} (hs : okP st) (hl : belows st.length l = true) : ∀ x ∈ st.set d l, belows st.length x = true := fun x hx => by
  rcases List.mem_or_eq_of_mem_set hx with h | h
  · exact hs x h
  · rw [h]; exact hl
theorem trim_set {st : Store} {d : Nat} {l : List W} {w : W} (hs : okP st) (hl : belows st.length l = true) (hw : below st.length w = true) : trim st w (st.set d l) = .ok w (st.set d l) := by
  have e : (st.set d l).take st.length = st.set d l := by rw [List.take_of_length_le (by simp)]
  unfold trim
  rw [if_pos ⟨.inr (by rw [e]; exact okP_set hs hl), by simp⟩, if_pos hw, e]
theorem f_roll_ok {d : Nat} {a b most : Int} {st : Store} (hd : st[d]? = some [.int a, .int b]) (h0 : 0 < most) (h1 : most < 1000) (hs : okP st) : ∃ r a' b' : Int, 0 ≤ r ∧ r < most ∧ f__law_roll [.loc d, .int most] st = some (.ok (.int r) (st.set d [.int a', .int b'])) := by
  have hlt : d < st.length := (List.getElem?_eq_some_iff.mp hd).1
  have lg := log_few (j := most) (by omega) h0
  have hset : ∀ l : List W, (st.set d l)[d]? = some l := fun l => by rw [List.getElem?_set_self hlt]
  unfold f__law_roll F__law_roll
  by_cases hb : 0 < b
  · refine ⟨b % most, a, b / most, Int.emod_nonneg _ (by omega), Int.emod_lt_of_pos _ h0, ?_⟩
    (simp [Dn.fnD, sSeq, sNil, sRet, sRetN, sExpr, sIf, sAsg, sSetIx, Dn.eV, Dn.eC, Dn.e2, eB, bAnd, bOr, bNot, vAnd, vOr, vNot, eIf, eChain, aNil, aCons, eTup, eLst, eCall, Dn.okW, bnd_ok, bndS_ok, bnd0_ok, gN, gT, gsC, gsN, i_lt, i_le, i_gt, i_ge, i_sub, i_add, i_mod, i_div, i_mul, ix_tup, ix_frz, ix_loc, oLen, is_int_int, is_int_bool, is_tup_tup, is_loc_tup, is_int_tup, is_loc_list, hd, atI, hb, h0, ix20, ix21, lg, hset])
    exact trim_set hs (by rfl) (by rfl)
  · refine ⟨(a * 48271 + 11) % 2147483647 / 7 % most, (a * 48271 + 11) % 2147483647, b, Int.emod_nonneg _ (by omega), Int.emod_lt_of_pos _ h0, ?_⟩
    have l7 : Nat.log2 7 < 9000 := by decide +kernel
    (simp [Dn.fnD, sSeq, sNil, sRet, sRetN, sExpr, sIf, sAsg, sSetIx, Dn.eV, Dn.eC, Dn.e2, eB, bAnd, bOr, bNot, vAnd, vOr, vNot, eIf, eChain, aNil, aCons, eTup, eLst, eCall, Dn.okW, bnd_ok, bndS_ok, bnd0_ok, gN, gT, gsC, gsN, i_lt, i_le, i_gt, i_ge, i_sub, i_add, i_mod, i_div, i_mul, ix_tup, ix_frz, ix_loc, oLen, is_int_int, is_int_bool, is_tup_tup, is_loc_tup, is_int_tup, is_loc_list, hd, atI, hb, h0, ix20, ix21, lg, l7, hset])
    exact trim_set hs (by rfl) (by rfl)
end Pd

set_option Elab.async false
set_option linter.all false
set_option maxRecDepth 100000
set_option maxHeartbeats 1000000
/-! Ma2: rising, ties, deals, holdings. -/
namespace Pd
open PySem PySem.Spec PyProof.Rows L2 Dn
open Classical
theorem asInts {l : List Int} : allS ((l.map W.int).map asInt) = some l := by
  rw [List.map_map, allS_map (B := Unit) (g := asInt ∘ W.int) (f := id) fun x _ => rfl, List.map_id]
theorem asPairs {l : List (Int × Int)} : allS ((l.map pairW).map asPair) = some l := by
  rw [List.map_map, allS_map (B := Unit) (g := asPair ∘ pairW) (f := id) fun x _ => rfl, List.map_id]
theorem sortU_id {l : List Int} (h : l.Pairwise (· < ·)) : sortU l = l := rise_eq (lt := (· < ·)) (fun x => by omega) (fun x y z => by omega) (sortU_lt l) h fun k => mem_sortU
theorem sortP_id {l : List (Int × Int)} (h : l.Pairwise (fun a b => ltP a b = true)) : sortP l = l := rise_eq (lt := fun a b => ltP a b = true) (fun x => ltP_irr) (fun x y z => ltP_trans) (sortP_lt l) h fun k => mem_sortP
theorem eq_locs {C : Type} [DecidableEq C] {st : Store} {i j : Nat} {g : C → W} {f : C → PyData} {l l' : List C} (hi : st[i]? = some (l.map g)) (hj : st[j]? = some (l'.map g)) (hg : ∀ x, toD st 7 (g x) = some (f x)) (hf : ∀ x y, PyData.eqv (f x) (f y) = decide (x = y)) :
    oEqD (.loc i) (.loc j) st = some (.ok (.bl (decide (l = l'))) st) := by
  unfold oEqD
  rw [toD_loc (n := 7) hi fun x _ => hg x, toD_loc (n := 7) hj fun x _ => hg x]
  simp only [okW]
  rw [eqv_lst, eqvAll_map hf]
theorem f_is_rising_ints {l : List Int} {st : Store} (h : l.length < 64) : f_is_rising [.tup (l.map .int)] st = some (.ok (.bl (decide (l = sortU l))) st) := by
  unfold f_is_rising F_is_rising
  have e1 : sortSet (l.map W.int) = some ((sortU l).map W.int) := by unfold sortSet; rw [asInts]; simp [h]
  have e2 := eq_locs (st := st ++ [l.map W.int] ++ [(sortU l).map W.int]) (i := st.length) (j := st.length + 1) (g := W.int) (f := PyData.int) (l := l) (l' := sortU l) (by simp) (by simp) (fun x => toD_int) (fun x y => eqv_int)
  (simp [Dn.fnD, sSeq, sNil, sRet, sRetN, sExpr, sIf, sAsg, sSetIx, Dn.eV, Dn.eC, Dn.e2, eB, bAnd, bOr, bNot, vAnd, vOr, vNot, eIf, eChain, aNil, aCons, eTup, eLst, eCall, Dn.okW, bnd_ok, bndS_ok, bnd0_ok, gN, gT, gsC, gsN, i_lt, i_le, i_gt, i_ge, i_sub, i_add, i_mod, i_div, i_mul, ix_tup, ix_frz, ix_loc, oLen, is_int_int, is_int_bool, is_tup_tup, is_loc_tup, is_int_tup, is_loc_list, oList, eSortSet, itemsW, e1])
  simp only [List.append_assoc, List.cons_append, List.nil_append] at e2 ⊢
  rw [e2]
  simp only [bndS_ok]
  rw [trim_cut rfl rfl]
theorem f_is_rising_pairs {l : List (Int × Int)} {st : Store} (h : l.length < 64) (hs : l.all smallP = true) : f_is_rising [.tup (l.map pairW)] st = some (.ok (.bl (decide (l = sortP l))) st) := by
  unfold f_is_rising F_is_rising
  have e1 : sortSet (l.map pairW) = some ((sortP l).map pairW) := by
    cases l with
    | nil => rfl
    | cons x l =>
      unfold sortSet
      have : allS (((x :: l).map pairW).map asInt) = none := rfl
      rw [this, asPairs]
      simp only [hs, h, and_self, if_true]
  have e2 := eq_locs (st := st ++ [l.map pairW] ++ [(sortP l).map pairW]) (i := st.length) (j := st.length + 1) (g := pairW) (f := pairD) (l := l) (l' := sortP l) (by simp) (by simp) (fun x => toD_pair) (fun x y => eqv_pair)
  (simp [Dn.fnD, sSeq, sNil, sRet, sRetN, sExpr, sIf, sAsg, sSetIx, Dn.eV, Dn.eC, Dn.e2, eB, bAnd, bOr, bNot, vAnd, vOr, vNot, eIf, eChain, aNil, aCons, eTup, eLst, eCall, Dn.okW, bnd_ok, bndS_ok, bnd0_ok, gN, gT, gsC, gsN, i_lt, i_le, i_gt, i_ge, i_sub, i_add, i_mod, i_div, i_mul, ix_tup, ix_frz, ix_loc, oLen, is_int_int, is_int_bool, is_tup_tup, is_loc_tup, is_int_tup, is_loc_list, oList, eSortSet, itemsW, e1])
  simp only [List.append_assoc, List.cons_append, List.nil_append] at e2 ⊢
  rw [e2]
  simp only [bndS_ok]
  rw [trim_cut rfl rfl]
/-- all(..) whose test is told for each -/
theorem allD_ok {f : Den W} {caps : Sl} {on : Option Nat} {all : List W} {st : Store} {b : W → Bool} (hs : stays st (on, all)) : ∀ {l : List W}, (∀ w ∈ l, f (some w :: caps) st = some (.ok (.bl (b w)) st)) → allD f caps on all l st = some (.ok (.bl (l.all b)) st)
  | [], _ => by unfold allD; rw [if_pos hs]; rfl
  | w :: l, h => by
    unfold allD
    rw [if_pos hs, h w (List.mem_cons_self ..)]
    simp only
    cases hb : b w with
    | true =>
      rw [if_pos rfl, allD_ok hs fun x hx => h x (List.mem_cons_of_mem _ hx)]
      simp [hb]
    | false => simp [hb, okW]
theorem all_true {f : Den W} {caps : Sl} {on : Option Nat} {all l : List W} {st : Store} (hs : stays st (on, all)) (h : ∀ w ∈ l, f (some w :: caps) st = some (.ok (.bl true) st)) : allD f caps on all l st = some (.ok (.bl true) st) := by
  rw [allD_ok (b := fun _ => true) hs h]
  simp
end Pd

set_option Elab.async false
set_option linter.all false
set_option maxRecDepth 100000
set_option maxHeartbeats 1000000
/-! Ma3: deals and holdings let by. -/
namespace Pd
open PySem PySem.Spec PyProof.Rows L2 Dn
open Classical
def fst2 (t : Int × Int × Int) : Int × Int := (t.1, t.2.1)
structure GD (h m : Int) (ts : List (Int × Int × Int)) : Prop where
  h1 : 1 ≤ h
  h4 : h ≤ 4
  m1 : 1 ≤ m
  m4 : m ≤ 4
  few : ts.length ≤ 8
  ties : ∀ t ∈ ts, tieB h t
  nd : (ts.map fst2).Nodup
def dealW (h m : Int) (ts : List (Int × Int × Int)) : W := .tup [.int h, .int m, .tup (ts.map tieW)]
def rowW (r : List Int) : W := .tup (r.map .int)
def holdW (hs : List (List Int)) : W := .tup (hs.map rowW)
structure GH (h m : Int) (hs : List (List Int)) : Prop where
  len : (hs.length : Int) = h
  rise : ∀ r ∈ hs, r.Pairwise (· < ·)
  inb : ∀ r ∈ hs, ∀ p ∈ r, 0 ≤ p ∧ p < m
  few : ∀ r ∈ hs, r.length ≤ 4
theorem sortP_nd {ps : List (Int × Int)} (h : ps.Nodup) : (sortP ps).length = ps.length := by
  have n : (ps.map pk2).Nodup := by
    refine List.pairwise_map.mpr (List.Pairwise.imp (fun {x y} hne e => hne (pk2_inj e)) h)
  rw [← many_diff (ls := ps.map pk2) n fun k => Iff.rfl, List.length_map]
theorem cut2 {a b c : W} : cutW [a, b, c] none (some 2) = [a, b] := by
  unfold cutW
  have e1 : HT.sIx 3 0 none = 0 := by decide +kernel
  have e2 : HT.sIx 3 3 (some 2) = 2 := by decide +kernel
  simp [e1, e2]
theorem scD_ties {a b : Option W} {all : List W} {st : Store} : ∀ {l : List (Int × Int × Int)} {acc : List (Int × Int)}, acc.length + l.length ≤ 40 →
    scD (gN 2) (eSl (eV 2) pN (pS (eC (.int 2)))) [a, b, none] none all (l.map tieW) acc st = some (.ok (.int (sortP (acc ++ l.map fst2)).length) st)
  | [], acc, h => by simp [scD, stays, okW]
  | t :: l, acc, h => by
    have ih := scD_ties (a := a) (b := b) (all := all) (st := st) (l := l) (acc := acc ++ [fst2 t]) (by simp at h ⊢; omega)
    simp only [List.map_cons]
    unfold scD
    rw [if_pos ⟨True.intro, by simp at h; omega⟩]
    have e : eSl (eV 2) pN (pS (eC (.int 2))) ([a, b, none].set 2 (some (tieW t))) st = some (.ok (pairW (fst2 t)) st) := by
      simp [eSl, eV, pN, pS, eC, okW, bnd_ok, oSl, tieW, cut2, pairW, fst2]
    simp only [gN]
    rw [e]
    simp only [bnd0_ok, asPair, pairW]
    rw [show (fst2 t).1 = (fst2 t).1 from rfl]
    have e3 : acc ++ [((fst2 t).1, (fst2 t).2)] = acc ++ [fst2 t] := rfl
    rw [e3, ih]
    simp
theorem f_are_ties_ok {h m : Int} {ts : List (Int × Int × Int)} {st : Store} (g : GD h m ts) : f_are_ties [.int h, .tup (ts.map tieW)] st = some (.ok (.bl true) st) := by
  unfold f_are_ties F_are_ties
  have a1 : ∀ {caps : Sl} {all : List W}, caps = [some (.int h)] → allD (eCall f_is_tie (aCons (eV 1) (aCons (eV 0) aNil))) caps none all (ts.map tieW) st = some (.ok (.bl true) st) := fun {caps all} hc => by
    subst hc
    refine all_true True.intro fun w hw => ?_
    obtain ⟨t, ht, rfl⟩ := List.mem_map.mp hw
    simp [eCall, aCons, aNil, eV, okW, bnd_ok, f_is_tie_ok (g.ties t ht)]
  have a2 := scD_ties (a := some (.int h)) (b := some (.tup (ts.map tieW))) (all := ts.map tieW) (st := st) (l := ts) (acc := []) (by simp; have := g.few; omega)
  have a3 : (sortP (ts.map fst2)).length = ts.length := by rw [sortP_nd g.nd, List.length_map]
  have few : ¬ (8 : Int) < (ts.length : Int) := by have := g.few; omega
  (simp [Dn.fnD, sSeq, sNil, sRet, sRetN, sExpr, sIf, sAsg, sSetIx, Dn.eV, Dn.eC, Dn.e2, eB, bAnd, bOr, bNot, vAnd, vOr, vNot, eIf, eChain, aNil, aCons, eTup, eLst, eCall, Dn.okW, bnd_ok, bndS_ok, bnd0_ok, gN, gT, gsC, gsN, i_lt, i_le, i_gt, i_ge, i_sub, i_add, i_mod, i_div, i_mul, ix_tup, ix_frz, ix_loc, oLen, is_int_int, is_int_bool, is_tup_tup, is_loc_tup, is_int_tup, is_loc_list, eAllG, wkQ, capsW, a1, eLenSC, wipeW, few])
  simp only [List.nil_append] at a2
  rw [a2, a3]
  simp [bnd_ok, eq_int, bndS_ok, trim_bl]
theorem f_is_deal_ok {h m : Int} {ts : List (Int × Int × Int)} {st : Store} (g : GD h m ts) : f_is_deal [dealW h m ts] st = some (.ok (.bl true) st) := by
  unfold f_is_deal F_is_deal dealW
  (simp [Dn.fnD, sSeq, sNil, sRet, sRetN, sExpr, sIf, sAsg, sSetIx, Dn.eV, Dn.eC, Dn.e2, eB, bAnd, bOr, bNot, vAnd, vOr, vNot, eIf, eChain, aNil, aCons, eTup, eLst, eCall, Dn.okW, bnd_ok, bndS_ok, bnd0_ok, gN, gT, gsC, gsN, i_lt, i_le, i_gt, i_ge, i_sub, i_add, i_mod, i_div, i_mul, ix_tup, ix_frz, ix_loc, oLen, is_int_int, is_int_bool, is_tup_tup, is_loc_tup, is_int_tup, is_loc_list, ne_int, f_is_number_ok, g.h1, g.h4, g.m1, g.m4, f_are_ties_ok g, trim_bl])
theorem f_check_deal_ok {h m : Int} {ts : List (Int × Int × Int)} {st : Store} (g : GD h m ts) : f_check_deal [dealW h m ts] st = some (.ok .non st) := by
  unfold f_check_deal F_check_deal
  (simp [Dn.fnD, sSeq, sNil, sRet, sRetN, sExpr, sIf, sAsg, sSetIx, Dn.eV, Dn.eC, Dn.e2, eB, bAnd, bOr, bNot, vAnd, vOr, vNot, eIf, eChain, aNil, aCons, eTup, eLst, eCall, Dn.okW, bnd_ok, bndS_ok, bnd0_ok, gN, gT, gsC, gsN, i_lt, i_le, i_gt, i_ge, i_sub, i_add, i_mod, i_div, i_mul, ix_tup, ix_frz, ix_loc, oLen, is_int_int, is_int_bool, is_tup_tup, is_loc_tup, is_int_tup, is_loc_list, f_is_deal_ok g, trim_non])
theorem f_is_choice_ok {m : Int} {r : List Int} {st : Store} (hr : r.Pairwise (· < ·)) (hb : ∀ p ∈ r, 0 ≤ p ∧ p < m) (few : r.length ≤ 4) : f_is_choice [.int m, rowW r] st = some (.ok (.bl true) st) := by
  unfold f_is_choice F_is_choice rowW
  have a1 : ∀ {caps : Sl} {all : List W}, caps = [some (.int m)] → allD (eCall f_is_number (aCons (eV 0) (aCons (eC (.int 0)) (aCons (e2 oSub (eV 1) (eC (.int 1))) aNil)))) caps none all (r.map W.int) st = some (.ok (.bl true) st) := fun {caps all} hc => by
    subst hc
    refine all_true True.intro fun w hw => ?_
    obtain ⟨p, hp, rfl⟩ := List.mem_map.mp hw
    have := hb p hp
    have e : p ≤ m - 1 := by omega
    (simp [Dn.fnD, sSeq, sNil, sRet, sRetN, sExpr, sIf, sAsg, sSetIx, Dn.eV, Dn.eC, Dn.e2, eB, bAnd, bOr, bNot, vAnd, vOr, vNot, eIf, eChain, aNil, aCons, eTup, eLst, eCall, Dn.okW, bnd_ok, bndS_ok, bnd0_ok, gN, gT, gsC, gsN, i_lt, i_le, i_gt, i_ge, i_sub, i_add, i_mod, i_div, i_mul, ix_tup, ix_frz, ix_loc, oLen, is_int_int, is_int_bool, is_tup_tup, is_loc_tup, is_int_tup, is_loc_list, f_is_number_ok, this.1, e])
  (simp [Dn.fnD, sSeq, sNil, sRet, sRetN, sExpr, sIf, sAsg, sSetIx, Dn.eV, Dn.eC, Dn.e2, eB, bAnd, bOr, bNot, vAnd, vOr, vNot, eIf, eChain, aNil, aCons, eTup, eLst, eCall, Dn.okW, bnd_ok, bndS_ok, bnd0_ok, gN, gT, gsC, gsN, i_lt, i_le, i_gt, i_ge, i_sub, i_add, i_mod, i_div, i_mul, ix_tup, ix_frz, ix_loc, oLen, is_int_int, is_int_bool, is_tup_tup, is_loc_tup, is_int_tup, is_loc_list, eAllG, wkQ, capsW, a1, f_is_rising_ints (by omega : r.length < 64), sortU_id hr, trim_bl])
theorem f_is_holding_ok {h m : Int} {ts : List (Int × Int × Int)} {hs : List (List Int)} {st : Store} (g : GH h m hs) : f_is_holding [dealW h m ts, holdW hs] st = some (.ok (.bl true) st) := by
  unfold f_is_holding F_is_holding dealW holdW
  have a1 : ∀ {caps : Sl} {all : List W}, caps = [some (.int m)] → allD (eCall f_is_choice (aCons (eV 1) (aCons (eV 0) aNil))) caps none all (hs.map rowW) st = some (.ok (.bl true) st) := fun {caps all} hc => by
    subst hc
    refine all_true True.intro fun w hw => ?_
    obtain ⟨r, hr, rfl⟩ := List.mem_map.mp hw
    (simp [Dn.fnD, sSeq, sNil, sRet, sRetN, sExpr, sIf, sAsg, sSetIx, Dn.eV, Dn.eC, Dn.e2, eB, bAnd, bOr, bNot, vAnd, vOr, vNot, eIf, eChain, aNil, aCons, eTup, eLst, eCall, Dn.okW, bnd_ok, bndS_ok, bnd0_ok, gN, gT, gsC, gsN, i_lt, i_le, i_gt, i_ge, i_sub, i_add, i_mod, i_div, i_mul, ix_tup, ix_frz, ix_loc, oLen, is_int_int, is_int_bool, is_tup_tup, is_loc_tup, is_int_tup, is_loc_list, f_is_choice_ok (g.rise r hr) (g.inb r hr) (g.few r hr)])
  (simp [Dn.fnD, sSeq, sNil, sRet, sRetN, sExpr, sIf, sAsg, sSetIx, Dn.eV, Dn.eC, Dn.e2, eB, bAnd, bOr, bNot, vAnd, vOr, vNot, eIf, eChain, aNil, aCons, eTup, eLst, eCall, Dn.okW, bnd_ok, bndS_ok, bnd0_ok, gN, gT, gsC, gsN, i_lt, i_le, i_gt, i_ge, i_sub, i_add, i_mod, i_div, i_mul, ix_tup, ix_frz, ix_loc, oLen, is_int_int, is_int_bool, is_tup_tup, is_loc_tup, is_int_tup, is_loc_list, eAllG, wkQ, capsW, a1, ne_int, g.len, trim_bl])
theorem f_check_ok {h m : Int} {ts : List (Int × Int × Int)} {hs : List (List Int)} {st : Store} (g : GD h m ts) (gh : GH h m hs) : f_check [dealW h m ts, holdW hs] st = some (.ok .non st) := by
  unfold f_check F_check
  have e : f_check_holding [dealW h m ts, holdW hs] st = some (.ok .non st) := by
    unfold f_check_holding F_check_holding
    (simp [Dn.fnD, sSeq, sNil, sRet, sRetN, sExpr, sIf, sAsg, sSetIx, Dn.eV, Dn.eC, Dn.e2, eB, bAnd, bOr, bNot, vAnd, vOr, vNot, eIf, eChain, aNil, aCons, eTup, eLst, eCall, Dn.okW, bnd_ok, bndS_ok, bnd0_ok, gN, gT, gsC, gsN, i_lt, i_le, i_gt, i_ge, i_sub, i_add, i_mod, i_div, i_mul, ix_tup, ix_frz, ix_loc, oLen, is_int_int, is_int_bool, is_tup_tup, is_loc_tup, is_int_tup, is_loc_list, f_is_holding_ok gh, trim_non])
  (simp [Dn.fnD, sSeq, sNil, sRet, sRetN, sExpr, sIf, sAsg, sSetIx, Dn.eV, Dn.eC, Dn.e2, eB, bAnd, bOr, bNot, vAnd, vOr, vNot, eIf, eChain, aNil, aCons, eTup, eLst, eCall, Dn.okW, bnd_ok, bndS_ok, bnd0_ok, gN, gT, gsC, gsN, i_lt, i_le, i_gt, i_ge, i_sub, i_add, i_mod, i_div, i_mul, ix_tup, ix_frz, ix_loc, oLen, is_int_int, is_int_bool, is_tup_tup, is_loc_tup, is_int_tup, is_loc_list, f_check_deal_ok g, e, trim_non])
end Pd

set_option Elab.async false
set_option linter.all false
set_option maxRecDepth 100000
set_option maxHeartbeats 1000000
/-! Ma4: letters, rounds. -/
namespace Pd
open PySem PySem.Spec PyProof.Rows L2 Dn
open Classical
/-- a list comprehension whose test and element leave the store: the new list stands at its end -/
theorem lcD_ok {C : Type} {d : TgD} {p : Den Bool} {f : Den W} {sl0 : Sl} {st0 : Store} {on : Option Nat} {all : List W} {b : C → Bool} {g src : C → W} (hs : ∀ acc : List W, stays (st0 ++ [acc]) (on, all)) :
    ∀ {l : List C} {acc : List W}, (∀ x ∈ l, ∃ sl1, d (src x) sl0 = some sl1 ∧ ∀ acc : List W, p sl1 (st0 ++ [acc]) = some (.ok (b x) (st0 ++ [acc])) ∧ (b x = true → f sl1 (st0 ++ [acc]) = some (.ok (g x) (st0 ++ [acc])))) → acc.length + l.length < 10000 →
      lcD d p f sl0 st0.length on all (l.map src) (st0 ++ [acc]) = some (.ok (.loc st0.length) (st0 ++ [acc ++ (l.filter b).map g]))
  | [], acc, _, _ => by
    unfold lcD
    rw [List.map_nil]
    simp only
    rw [if_pos (hs acc)]
    simp [okW]
  | x :: l, acc, h, hl => by
    obtain ⟨sl1, e1, e2⟩ := h x (List.mem_cons_self ..)
    obtain ⟨e2, e3⟩ := e2 acc
    rw [List.map_cons]
    unfold lcD
    rw [if_pos (hs acc), e1]
    simp only
    rw [e2]
    simp only [bnd0_ok]
    have hl' : acc.length + 1 + l.length < 10000 := by simp at hl; omega
    cases hb : b x with
    | true =>
      rw [if_pos rfl, e3 hb]
      simp only [bnd0_ok]
      have e4 : (st0 ++ [acc])[st0.length]? = some acc := by simp
      have e5 : (st0 ++ [acc]).set st0.length (acc ++ [g x]) = st0 ++ [acc ++ [g x]] := by simp
      rw [e4]
      simp only
      rw [if_pos (by omega), e5, lcD_ok (b := b) (g := g) (src := src) hs (fun y hy => h y (List.mem_cons_of_mem _ hy)) (by simp; omega)]
      simp [hb]
    | false =>
      rw [if_neg (by simp), lcD_ok (b := b) (g := g) (src := src) hs (fun y hy => h y (List.mem_cons_of_mem _ hy)) (by omega)]
      simp [hb]
theorem trim_new {st : Store} {l : List W} (h : belows st.length l = true) : trim st (.loc st.length) (st ++ [l]) = .ok (.loc st.length) (st ++ [l]) := by
  unfold trim
  rw [if_pos ⟨.inl (by simp), by simp⟩, if_neg (by simp [below])]
  simp [h]
theorem belows_pairs {n : Nat} (l : List (Int × Int)) : belows n (l.map pairW) = true := belows_map (fun _ => rfl) l
def tieAt (ts : List (Int × Int × Int)) (i : Int) : Int × Int × Int := ts.getD i.toNat (0, 0, 0)
theorem atI_ok {A : Type} {l : List A} {i : Int} (h0 : 0 ≤ i) (h1 : i < l.length) : atI l i = l[i.toNat]? := by
  unfold atI ixN
  rw [if_pos h0, if_pos h1]
  rfl
theorem atI_tie {ts : List (Int × Int × Int)} {i : Int} (h0 : 0 ≤ i) (h1 : i < ts.length) : atI (ts.map tieW) i = some (tieW (tieAt ts i)) := by
  rw [atI_ok h0 (by simpa using h1), List.getElem?_map]
  unfold tieAt
  have : i.toNat < ts.length := by omega
  rw [List.getElem?_eq_getElem this, List.getD_eq_getElem?_getD, List.getElem?_eq_getElem this]
  rfl
def rowAt (hs : List (List Int)) (i : Int) : List Int := hs.getD i.toNat []
theorem atI_row {hs : List (List Int)} {i : Int} (h0 : 0 ≤ i) (h1 : i < hs.length) : atI (hs.map rowW) i = some (rowW (rowAt hs i)) := by
  rw [atI_ok h0 (by simpa using h1), List.getElem?_map]
  unfold rowAt
  have : i.toNat < hs.length := by omega
  rw [List.getElem?_eq_getElem this, List.getD_eq_getElem?_getD, List.getElem?_eq_getElem this]
  rfl
theorem any_int {p : Int} : ∀ {r : List Int}, ((r.map PyData.int).any fun z => PyData.eqv z (.int p)) = decide (p ∈ r)
  | [] => by simp
  | x :: r => by
    rw [List.map_cons, List.any_cons, eqv_int, any_int]
    by_cases h : x = p
    · simp [h]
    · have : ¬ p = x := fun e => h e.symm
      simp [h, this]
theorem in_row {p : Int} {r : List Int} {st : Store} : oIn (.int p) (rowW r) st = some (.ok (.bl (decide (p ∈ r))) st) := by
  unfold oIn inW rowW
  rw [toD_int, toD_tup (n := 7) (g := W.int) (f := PyData.int) fun x _ => toD_int]
  simp only [okW]
  rw [any_int]
/-- the letters are of this deal -/
def letP (ts : List (Int × Int × Int)) (m : Int) (x : Int × Int) : Prop := 0 ≤ x.1 ∧ x.1 < ts.length ∧ 0 ≤ x.2 ∧ x.2 < m
def sendL (ts : List (Int × Int × Int)) (hs : List (List Int)) (ls : List (Int × Int)) : List (Int × Int) := ls.filter fun x => decide (x.2 ∈ rowAt hs (tieAt ts x.1).1)
theorem tieAt_ok {h m : Int} {ts : List (Int × Int × Int)} (g : GD h m ts) {i : Int} (h0 : 0 ≤ i) (h1 : i < ts.length) : tieB h (tieAt ts i) := by
  unfold tieAt
  have : i.toNat < ts.length := by omega
  rw [List.getD_eq_getElem?_getD, List.getElem?_eq_getElem this]
  exact g.ties _ (List.getElem_mem ..)
theorem ix30 : ixN 3 0 = some 0 := by decide +kernel
theorem ix31 : ixN 3 1 = some 1 := by decide +kernel
theorem ix32 : ixN 3 2 = some 2 := by decide +kernel
theorem f_sendable_ok {h m : Int} {ts : List (Int × Int × Int)} {hs : List (List Int)} {ls : List (Int × Int)} {st : Store} (g : GD h m ts) (gh : GH h m hs) (hl : ∀ x ∈ ls, letP ts m x) (few : ls.length < 100) :
    f_sendable [dealW h m ts, holdW hs, .tup (ls.map pairW)] st = some (.ok (.loc st.length) (st ++ [(sendL ts hs ls).map pairW])) := by
  unfold f_sendable F_sendable dealW holdW
  have key := lcD_ok (C := Int × Int) (d := gT 2 (gsC (gN 5) (gsC (gN 6) gsN))) (p := eB (e2 oIn (eV 6) (e2 oIx (eV 1) (e2 oIx (e2 oIx (eV 4) (eV 5)) (eC (.int 0)))))) (f := eTup (aCons (eV 5) (aCons (eV 6) aNil)))
    (sl0 := [some (.tup [.int h, .int m, .tup (ts.map tieW)]), some (.tup (hs.map rowW)), some (.tup (ls.map pairW)), some (.int m), some (.tup (ts.map tieW)), none, none]) (st0 := st) (on := none) (all := ls.map pairW)
    (b := fun x => decide (x.2 ∈ rowAt hs (tieAt ts x.1).1)) (g := pairW) (src := pairW) (fun acc => True.intro) (l := ls) (acc := []) (fun x hx => by
      obtain ⟨l1, l2, l3, l4⟩ := hl x hx
      have tb := tieAt_ok g l1 l2
      have r0 : 0 ≤ (tieAt ts x.1).1 := tb.1
      have r1 : (tieAt ts x.1).1 < hs.length := by have := tb.2.1; have := gh.len; omega
      refine ⟨[some (.tup [.int h, .int m, .tup (ts.map tieW)]), some (.tup (hs.map rowW)), some (.tup (ls.map pairW)), some (.int m), some (.tup (ts.map tieW)), some (.int x.1), some (.int x.2)], by simp [gT, pairW, gsC, gN, gsN], fun acc => ?_⟩
      have e0 : atI [W.int (tieAt ts x.1).1, W.int (tieAt ts x.1).2.1, W.int (tieAt ts x.1).2.2] 0 = some (.int (tieAt ts x.1).1) := by simp [atI, ix30]
      constructor
      · simp [eB, e2, eV, eC, okW, bnd_ok, ix_tup, atI_tie l1 l2, tieW, e0, atI_row r0 r1, in_row]
      · intro _
        simp [eTup, aCons, aNil, eV, okW, bnd_ok, pairW]) (by simp; omega)
  simp only [List.nil_append] at key
  (simp [Dn.fnD, sSeq, sNil, sRet, sRetN, sExpr, sIf, sAsg, sSetIx, Dn.eV, Dn.eC, Dn.e2, eB, bAnd, bOr, bNot, vAnd, vOr, vNot, eIf, eChain, aNil, aCons, eTup, eLst, eCall, Dn.okW, bnd_ok, bndS_ok, bnd0_ok, gN, gT, gsC, gsN, i_lt, i_le, i_gt, i_ge, i_sub, i_add, i_mod, i_div, i_mul, ix_tup, ix_frz, ix_loc, oLen, is_int_int, is_int_bool, is_tup_tup, is_loc_tup, is_int_tup, is_loc_list, eLc, wkQ, wipeW])
  rw [key]
  simp only [bndS_ok]
  rw [trim_new (belows_pairs _)]
  rfl
/-! ### a round's form, what it bears -/
def letB (ts : List (Int × Int × Int)) (m : Int) (x : Int × Int) : Bool := decide (0 ≤ x.1 ∧ x.1 < ts.length ∧ 0 ≤ x.2 ∧ x.2 < m)
theorem letB_iff {ts : List (Int × Int × Int)} {m : Int} {x : Int × Int} : letB ts m x = true ↔ letP ts m x := by unfold letB letP; exact decide_eq_true_iff
theorem f_has_form_ok {h m : Int} {ts : List (Int × Int × Int)} {ls : List (Int × Int)} {st : Store} (g : GD h m ts) (few : ls.length < 64) :
    f_has_form [dealW h m ts, .tup (ls.map pairW)] st = some (.ok (.bl (ls.all (letB ts m) && decide (ls = sortP ls))) st) := by
  unfold f_has_form F_has_form
  have a1 : ∀ {caps : Sl} {all : List W} {l : List (Int × Int)}, caps = [some (dealW h m ts)] → allD (eCall f_is_letter (aCons (eV 1) (aCons (eV 0) aNil))) caps none all (l.map pairW) st = some (.ok (.bl (l.all (letB ts m))) st) := fun {caps all l} hc => by
    subst hc
    induction l with
    | nil => simp [allD, stays, okW]
    | cons x l ih =>
      rw [List.map_cons]
      unfold allD
      rw [if_pos (show stays st (none, all) from True.intro)]
      have e : eCall f_is_letter (aCons (eV 1) (aCons (eV 0) aNil)) (some (pairW x) :: [some (dealW h m ts)]) st = some (.ok (.bl (letB ts m x)) st) := by
        have := f_is_letter_ok (h := h) (m := m) (ts := ts.map tieW) (x := x) (st := st)
        rw [List.length_map] at this
        simp [eCall, aCons, aNil, eV, okW, bnd_ok, dealW, this, letB]
      rw [e]
      simp only
      rw [ih]
      cases hb : letB ts m x <;> simp [hb, okW]
  by_cases hb : ls.all (letB ts m) = true
  · have sm : ls.all smallP = true := by
      refine List.all_eq_true.mpr fun x hx => ?_
      have := letB_iff.mp (List.all_eq_true.mp hb x hx)
      have f8 := g.few
      have m4 := g.m4
      unfold letP at this
      unfold smallP
      exact decide_eq_true (by omega)
    (simp [Dn.fnD, sSeq, sNil, sRet, sRetN, sExpr, sIf, sAsg, sSetIx, Dn.eV, Dn.eC, Dn.e2, eB, bAnd, bOr, bNot, vAnd, vOr, vNot, eIf, eChain, aNil, aCons, eTup, eLst, eCall, Dn.okW, bnd_ok, bndS_ok, bnd0_ok, gN, gT, gsC, gsN, i_lt, i_le, i_gt, i_ge, i_sub, i_add, i_mod, i_div, i_mul, ix_tup, ix_frz, ix_loc, oLen, is_int_int, is_int_bool, is_tup_tup, is_loc_tup, is_int_tup, is_loc_list, eAllG, wkQ, capsW, a1, hb, f_is_rising_pairs few sm, trim_bl])
  · have hb : ls.all (letB ts m) = false := by simpa using hb
    (simp [Dn.fnD, sSeq, sNil, sRet, sRetN, sExpr, sIf, sAsg, sSetIx, Dn.eV, Dn.eC, Dn.e2, eB, bAnd, bOr, bNot, vAnd, vOr, vNot, eIf, eChain, aNil, aCons, eTup, eLst, eCall, Dn.okW, bnd_ok, bndS_ok, bnd0_ok, gN, gT, gsC, gsN, i_lt, i_le, i_gt, i_ge, i_sub, i_add, i_mod, i_div, i_mul, ix_tup, ix_frz, ix_loc, oLen, is_int_int, is_int_bool, is_tup_tup, is_loc_tup, is_int_tup, is_loc_list, eAllG, wkQ, capsW, a1, hb, trim_bl])
theorem f_has_form_loc {D : W} {n : Nat} {st : Store} : f_has_form [D, .loc n] st = some (.ok (.bl false) st) := by
  unfold f_has_form F_has_form
  (simp [Dn.fnD, sSeq, sNil, sRet, sRetN, sExpr, sIf, sAsg, sSetIx, Dn.eV, Dn.eC, Dn.e2, eB, bAnd, bOr, bNot, vAnd, vOr, vNot, eIf, eChain, aNil, aCons, eTup, eLst, eCall, Dn.okW, bnd_ok, bndS_ok, bnd0_ok, gN, gT, gsC, gsN, i_lt, i_le, i_gt, i_ge, i_sub, i_add, i_mod, i_div, i_mul, ix_tup, ix_frz, ix_loc, oLen, is_int_int, is_int_bool, is_tup_tup, is_loc_tup, is_int_tup, is_loc_list, trim_bl])
theorem f_has_form_int {D : W} {n : Int} {st : Store} : f_has_form [D, .int n] st = some (.ok (.bl false) st) := by
  unfold f_has_form F_has_form
  (simp [Dn.fnD, sSeq, sNil, sRet, sRetN, sExpr, sIf, sAsg, sSetIx, Dn.eV, Dn.eC, Dn.e2, eB, bAnd, bOr, bNot, vAnd, vOr, vNot, eIf, eChain, aNil, aCons, eTup, eLst, eCall, Dn.okW, bnd_ok, bndS_ok, bnd0_ok, gN, gT, gsC, gsN, i_lt, i_le, i_gt, i_ge, i_sub, i_add, i_mod, i_div, i_mul, ix_tup, ix_frz, ix_loc, oLen, is_int_int, is_int_bool, is_tup_tup, is_loc_tup, is_int_tup, is_loc_list, trim_bl])
theorem f_has_form_three {h m : Int} {ts : List (Int × Int × Int)} {a b c : W} {st : Store} : f_has_form [dealW h m ts, .tup [.tup [a, b, c]]] st = some (.ok (.bl false) st) := by
  have e : f_is_letter [dealW h m ts, .tup [a, b, c]] st = some (.ok (.bl false) st) := by
    unfold f_is_letter F_is_letter
    (simp [Dn.fnD, sSeq, sNil, sRet, sRetN, sExpr, sIf, sAsg, sSetIx, Dn.eV, Dn.eC, Dn.e2, eB, bAnd, bOr, bNot, vAnd, vOr, vNot, eIf, eChain, aNil, aCons, eTup, eLst, eCall, Dn.okW, bnd_ok, bndS_ok, bnd0_ok, gN, gT, gsC, gsN, i_lt, i_le, i_gt, i_ge, i_sub, i_add, i_mod, i_div, i_mul, ix_tup, ix_frz, ix_loc, oLen, is_int_int, is_int_bool, is_tup_tup, is_loc_tup, is_int_tup, is_loc_list, ne_int, trim_bl])
  unfold f_has_form F_has_form
  (simp [Dn.fnD, sSeq, sNil, sRet, sRetN, sExpr, sIf, sAsg, sSetIx, Dn.eV, Dn.eC, Dn.e2, eB, bAnd, bOr, bNot, vAnd, vOr, vNot, eIf, eChain, aNil, aCons, eTup, eLst, eCall, Dn.okW, bnd_ok, bndS_ok, bnd0_ok, gN, gT, gsC, gsN, i_lt, i_le, i_gt, i_ge, i_sub, i_add, i_mod, i_div, i_mul, ix_tup, ix_frz, ix_loc, oLen, is_int_int, is_int_bool, is_tup_tup, is_loc_tup, is_int_tup, is_loc_list, eAllG, wkQ, capsW, allD, stays, e, trim_bl])
def bornB (ts : List (Int × Int × Int)) (ls : List (Int × Int)) : Bool := ls.all fun x => decide (((ls.map (·.1)).count x.1 : Int) ≤ (tieAt ts x.1).2.2)
theorem f_is_borne_ok {h m : Int} {ts : List (Int × Int × Int)} {ls : List (Int × Int)} {st : Store} (g : GD h m ts) (hl : ∀ x ∈ ls, letP ts m x) (few : ls.length < 100) :
    f_is_borne [dealW h m ts, .tup (ls.map pairW)] st = some (.ok (.bl (bornB ts ls)) st) := by
  unfold f_is_borne F_is_borne dealW
  have key := lcD_ok (C := Int × Int) (d := gT 2 (gsC (gN 5) (gsC (gN 2) gsN))) (p := bYes) (f := eV 5)
    (sl0 := [some (.tup [.int h, .int m, .tup (ts.map tieW)]), some (.tup (ls.map pairW)), none, some (.tup (ts.map tieW)), none, none]) (st0 := st) (on := none) (all := ls.map pairW)
    (b := fun _ => true) (g := fun x => .int x.1) (src := pairW) (fun acc => True.intro) (l := ls) (acc := []) (fun x hx => by
      refine ⟨[some (.tup [.int h, .int m, .tup (ts.map tieW)]), some (.tup (ls.map pairW)), some (.int x.2), some (.tup (ts.map tieW)), none, some (.int x.1)], by simp [gT, pairW, gsC, gN, gsN], fun acc => ?_⟩
      simp [bYes, eV, okW]) (by simp; omega)
  have ef : ls.filter (fun _ => true) = ls := by simp
  rw [ef] at key
  simp only [List.nil_append] at key
  have em : (ls.map fun x => W.int x.1) = (ls.map (·.1)).map W.int := by rw [List.map_map]; rfl
  rw [em] at key
  have a1 : ∀ {l : List (Int × Int)}, (∀ x ∈ l, letP ts m x) → allD (e2 oLe (eCount (eV 1) (eV 0)) (e2 oIx (e2 oIx (eV 2) (eV 0)) (eC (.int 2)))) [some (.loc st.length), some (.tup (ts.map tieW))] (some st.length) ((ls.map (·.1)).map W.int) ((l.map (·.1)).map W.int) (st ++ [(ls.map (·.1)).map W.int]) =
      some (.ok (.bl (l.all fun x => decide (((ls.map (·.1)).count x.1 : Int) ≤ (tieAt ts x.1).2.2))) (st ++ [(ls.map (·.1)).map W.int])) := fun {l} hl2 => by
    have stay : stays (st ++ [(ls.map (·.1)).map W.int]) (some st.length, (ls.map (·.1)).map W.int) := by simp [stays]
    induction l with
    | nil =>
      rw [List.map_nil, List.map_nil]
      unfold allD
      rw [if_pos stay]
      simp [okW]
    | cons x l ih =>
      obtain ⟨l1, l2, _, _⟩ := hl2 x (List.mem_cons_self ..)
      rw [List.map_cons, List.map_cons]
      unfold allD
      rw [if_pos stay]
      have e0 : atI [W.int (tieAt ts x.1).1, W.int (tieAt ts x.1).2.1, W.int (tieAt ts x.1).2.2] 2 = some (.int (tieAt ts x.1).2.2) := by simp [atI, ix32]
      have e : e2 oLe (eCount (eV 1) (eV 0)) (e2 oIx (e2 oIx (eV 2) (eV 0)) (eC (.int 2))) (some (.int x.1) :: [some (.loc st.length), some (.tup (ts.map tieW))]) (st ++ [(ls.map (·.1)).map W.int]) = some (.ok (.bl (decide (((ls.map (·.1)).count x.1 : Int) ≤ (tieAt ts x.1).2.2))) (st ++ [(ls.map (·.1)).map W.int])) := by
        have ai := asInts (l := ls.map (·.1))
        simp only [e2, eCount, eV, eC, okW, bnd_ok, List.getElem?_cons_zero, List.getElem?_cons_succ]
        rw [show (st ++ [(ls.map (·.1)).map W.int])[st.length]? = some ((ls.map (·.1)).map W.int) by simp]
        simp only
        rw [ai]
        simp only [bnd_ok, ix_tup]
        rw [atI_tie l1 l2]
        simp only [bnd_ok, tieW, ix_tup]
        rw [e0]
        simp only [bnd_ok, i_le]
      rw [e]
      simp only
      rw [ih fun y hy => hl2 y (List.mem_cons_of_mem _ hy)]
      simp only [List.all_cons]
      cases hb : decide (((ls.map (·.1)).count x.1 : Int) ≤ (tieAt ts x.1).2.2) <;> simp [okW]
  (simp [Dn.fnD, sSeq, sNil, sRet, sRetN, sExpr, sIf, sAsg, sSetIx, Dn.eV, Dn.eC, Dn.e2, eB, bAnd, bOr, bNot, vAnd, vOr, vNot, eIf, eChain, aNil, aCons, eTup, eLst, eCall, Dn.okW, bnd_ok, bndS_ok, bnd0_ok, gN, gT, gsC, gsN, i_lt, i_le, i_gt, i_ge, i_sub, i_add, i_mod, i_div, i_mul, ix_tup, ix_frz, ix_loc, oLen, is_int_int, is_int_bool, is_tup_tup, is_loc_tup, is_int_tup, is_loc_list, eLc, wkQ, wipeW])
  rw [key]
  (simp [Dn.fnD, sSeq, sNil, sRet, sRetN, sExpr, sIf, sAsg, sSetIx, Dn.eV, Dn.eC, Dn.e2, eB, bAnd, bOr, bNot, vAnd, vOr, vNot, eIf, eChain, aNil, aCons, eTup, eLst, eCall, Dn.okW, bnd_ok, bndS_ok, bnd0_ok, gN, gT, gsC, gsN, i_lt, i_le, i_gt, i_ge, i_sub, i_add, i_mod, i_div, i_mul, ix_tup, ix_frz, ix_loc, oLen, is_int_int, is_int_bool, is_tup_tup, is_loc_tup, is_int_tup, is_loc_list, eAllG, wkQ, capsW])
  have em2 : ls.map (W.int ∘ fun x => x.1) = (ls.map (·.1)).map W.int := by rw [List.map_map]
  rw [em2, a1 hl]
  simp only [bndS_ok]
  rw [trim_cut rfl rfl]
  rfl
/-! ### a round is looked at -/
theorem raise_ok {n : Int} {y : Str} {sl : Sl} {st : Store} {f : Den (List W)} (h : f sl st = some (.ok [.int n, .str y] st)) (h0 : 0 ≤ n) (h1 : n < 100) (hy : y.length ≤ 1000) : sRaise f sl st = some (.er (badRound n y) st) := by
  unfold sRaise
  rw [h]
  simp only [bndS_ok]
  rw [if_pos ⟨h0, h1, hy⟩]
theorem trimE_same {st : Store} {n : Int} {y : Str} : trimE st (badRound n y) st = .er (badRound n y) st := by
  unfold trimE
  rw [if_pos ⟨.inl (List.take_length), rfl⟩, List.take_length]
theorem check_form {n : Int} {D L : W} {st : Store} (h : f_has_form [D, L] st = some (.ok (.bl false) st)) (h0 : 0 ≤ n) (h1 : n < 100) : f_check_round [D, .int n, L] st = some (.er (badRound n "form") st) := by
  unfold f_check_round F_check_round
  have e := raise_ok (n := n) (y := "form") (sl := [some D, some (.int n), some L]) (st := st) (f := aCons (eV 1) (aCons (eC (.str "form")) aNil)) (by simp [aCons, aNil, eV, eC, okW, bnd_ok]) h0 h1 (by decide +kernel)
  (simp [Dn.fnD, sSeq, sNil, sRet, sRetN, sExpr, sIf, sAsg, sSetIx, Dn.eV, Dn.eC, Dn.e2, eB, bAnd, bOr, bNot, vAnd, vOr, vNot, eIf, eChain, aNil, aCons, eTup, eLst, eCall, Dn.okW, bnd_ok, bndS_ok, bnd0_ok, gN, gT, gsC, gsN, i_lt, i_le, i_gt, i_ge, i_sub, i_add, i_mod, i_div, i_mul, ix_tup, ix_frz, ix_loc, oLen, is_int_int, is_int_bool, is_tup_tup, is_loc_tup, is_int_tup, is_loc_list, h, e, trimE_same])
theorem check_many {n : Int} {D L : W} {st : Store} (h : f_has_form [D, L] st = some (.ok (.bl true) st)) (hb : f_is_borne [D, L] st = some (.ok (.bl false) st)) (h0 : 0 ≤ n) (h1 : n < 100) : f_check_round [D, .int n, L] st = some (.er (badRound n "many") st) := by
  unfold f_check_round F_check_round
  have e := raise_ok (n := n) (y := "many") (sl := [some D, some (.int n), some L]) (st := st) (f := aCons (eV 1) (aCons (eC (.str "many")) aNil)) (by simp [aCons, aNil, eV, eC, okW, bnd_ok]) h0 h1 (by decide +kernel)
  (simp [Dn.fnD, sSeq, sNil, sRet, sRetN, sExpr, sIf, sAsg, sSetIx, Dn.eV, Dn.eC, Dn.e2, eB, bAnd, bOr, bNot, vAnd, vOr, vNot, eIf, eChain, aNil, aCons, eTup, eLst, eCall, Dn.okW, bnd_ok, bndS_ok, bnd0_ok, gN, gT, gsC, gsN, i_lt, i_le, i_gt, i_ge, i_sub, i_add, i_mod, i_div, i_mul, ix_tup, ix_frz, ix_loc, oLen, is_int_int, is_int_bool, is_tup_tup, is_loc_tup, is_int_tup, is_loc_list, h, hb, e, trimE_same])
theorem check_good {n : Int} {D L : W} {st : Store} (h : f_has_form [D, L] st = some (.ok (.bl true) st)) (hb : f_is_borne [D, L] st = some (.ok (.bl true) st)) : f_check_round [D, .int n, L] st = some (.ok .non st) := by
  unfold f_check_round F_check_round
  (simp [Dn.fnD, sSeq, sNil, sRet, sRetN, sExpr, sIf, sAsg, sSetIx, Dn.eV, Dn.eC, Dn.e2, eB, bAnd, bOr, bNot, vAnd, vOr, vNot, eIf, eChain, aNil, aCons, eTup, eLst, eCall, Dn.okW, bnd_ok, bndS_ok, bnd0_ok, gN, gT, gsC, gsN, i_lt, i_le, i_gt, i_ge, i_sub, i_add, i_mod, i_div, i_mul, ix_tup, ix_frz, ix_loc, oLen, is_int_int, is_int_bool, is_tup_tup, is_loc_tup, is_int_tup, is_loc_list, h, hb, trim_non])
/-- a round that can be, but for the pieces -/
structure GR (ts : List (Int × Int × Int)) (m : Int) (ls : List (Int × Int)) : Prop where
  few : ls.length ≤ 32
  let_ : ∀ x ∈ ls, letP ts m x
  rise : ls.Pairwise (fun a b => ltP a b = true)
  born : bornB ts ls = true
theorem check_GR {h m n : Int} {ts : List (Int × Int × Int)} {ls : List (Int × Int)} {st : Store} (g : GD h m ts) (r : GR ts m ls) : f_check_round [dealW h m ts, .int n, .tup (ls.map pairW)] st = some (.ok .non st) := by
  refine check_good ?_ ?_
  · rw [f_has_form_ok g (by have := r.few; omega), List.all_eq_true.mpr fun x hx => letB_iff.mpr (r.let_ x hx), sortP_id r.rise]
    simp
  · rw [f_is_borne_ok g r.let_ (by have := r.few; omega), r.born]
end Pd

set_option Elab.async false
set_option linter.all false
set_option maxRecDepth 100000
set_option maxHeartbeats 1000000
/-! Ma5: what a round brings. -/
namespace Pd
open PySem PySem.Spec PyProof.Rows L2 Dn
open Classical
def intsW (r : List Int) : List W := r.map .int
/-- behind st: a list of lists, then these -/
def locsW (n k : Nat) : List W := (List.range k).map fun i => W.loc (n + 1 + i)
def hst (st : Store) (rows : List (List Int)) : Store := st ++ (locsW st.length rows.length :: rows.map intsW)
theorem hst_len {st : Store} {rows : List (List Int)} : (hst st rows).length = st.length + 1 + rows.length := by unfold hst; simp; omega
theorem hst_top {st : Store} {rows : List (List Int)} : (hst st rows)[st.length]? = some (locsW st.length rows.length) := by unfold hst; simp
theorem hst_row {st : Store} {rows : List (List Int)} {i : Nat} {r : List Int} (h : rows[i]? = some r) : (hst st rows)[st.length + 1 + i]? = some (intsW r) := by
  unfold hst
  rw [List.getElem?_append_right (by omega)]
  have : st.length + 1 + i - st.length = i + 1 := by omega
  rw [this, List.getElem?_cons_succ, List.getElem?_map, h]
  rfl
theorem hst_more {st : Store} {rows : List (List Int)} {r : List Int} : ((hst st rows) ++ [intsW r]).set st.length (locsW st.length rows.length ++ [W.loc (st.length + 1 + rows.length)]) = hst st (rows ++ [r]) := by
  unfold hst
  rw [List.append_assoc, List.set_append_right _ _ (Nat.le_refl _)]
  simp [locsW, List.range_succ]
theorem hst_set {st : Store} {rows : List (List Int)} {i : Nat} {r : List Int} : (hst st rows).set (st.length + 1 + i) (intsW r) = hst st (rows.set i r) := by
  unfold hst
  rw [List.set_append_right _ _ (by omega)]
  have : st.length + 1 + i - st.length = i + 1 := by omega
  rw [this, List.set_cons_succ]
  simp [List.map_set]
/-- [list(row) for row in rows] -/
theorem lists_made {sl0 : Sl} {k : Nat} {all : List W} {st : Store} (hk : k < sl0.length) : ∀ {rest done : List (List Int)}, done.length + rest.length < 1000 →
    lcD (gN k) bYes (eCall oList (aCons (eV k) aNil)) sl0 st.length none all (rest.map rowW) (hst st done) = some (.ok (.loc st.length) (hst st (done ++ rest)))
  | [], done, _ => by
    unfold lcD
    rw [List.map_nil]
    simp only
    rw [if_pos (show stays (hst st done) (none, all) from True.intro)]
    simp [okW]
  | r :: rest, done, h => by
    rw [List.map_cons]
    unfold lcD
    rw [if_pos (show stays (hst st done) (none, all) from True.intro)]
    have e1 : eCall oList (aCons (eV k) aNil) (sl0.set k (some (rowW r))) (hst st done) = some (.ok (.loc (st.length + 1 + done.length)) (hst st done ++ [intsW r])) := by
      have : (sl0.set k (some (rowW r)))[k]? = some (some (rowW r)) := by rw [List.getElem?_set_self hk]
      simp only [eCall, aCons, aNil, eV, this, okW, bnd_ok]
      simp only [rowW, oList, okW]
      rw [hst_len]
      rfl
    simp only [gN, bYes, okW, bnd0_ok, if_true]
    rw [e1]
    simp only [bnd0_ok]
    have e2 : (hst st done ++ [intsW r])[st.length]? = some (locsW st.length done.length) := by
      rw [List.getElem?_append_left (by rw [hst_len]; omega), hst_top]
    rw [e2]
    simp only
    rw [if_pos (by simp [locsW] at h ⊢; omega), hst_more, lists_made hk (by simp at h ⊢; omega)]
    simp
theorem hst_nil {st : Store} : st ++ [[]] = hst st [] := by unfold hst locsW; rfl
def addAt (rows : List (List Int)) (j p : Int) : List (List Int) := rows.set j.toNat (rowAt rows j ++ [p])
theorem atI_locs {n k : Nat} {j : Int} (h0 : 0 ≤ j) (h1 : j < k) : atI (locsW n k) j = some (.loc (n + 1 + j.toNat)) := by
  rw [atI_ok h0 (by simp [locsW]; omega)]
  unfold locsW
  have : j.toNat < k := by omega
  simp [this]
theorem row_at {rows : List (List Int)} {j : Int} (h0 : 0 ≤ j) (h1 : j < rows.length) : rows[j.toNat]? = some (rowAt rows j) := by
  unfold rowAt
  have : j.toNat < rows.length := by omega
  rw [List.getD_eq_getElem?_getD, List.getElem?_eq_getElem this]
  rfl
def bringL (ts : List (Int × Int × Int)) (rows : List (List Int)) (ls : List (Int × Int)) : List (List Int) := ls.foldl (fun rs x => addAt rs (tieAt ts x.1).2.1 x.2) rows
theorem bringL_len {ts : List (Int × Int × Int)} : ∀ {ls : List (Int × Int)} {rows : List (List Int)}, (bringL ts rows ls).length = rows.length
  | [], _ => rfl
  | x :: ls, rows => by
    show (bringL ts (addAt rows _ _) ls).length = _
    rw [bringL_len]
    simp [addAt]
/-- the letters come, one by one -/
theorem come_loop {h m : Int} {ts : List (Int × Int × Int)} {st : Store} {all : List W} {on : Option Nat} (hon : ∀ rows, stays (hst st rows) (on, all)) {D H L x3 s8 : Option W} (g : GD h m ts) (d : TgD) (hd : d = gT 2 (gsC (gN 6) (gsC (gN 7) gsN))) : ∀ {ls : List (Int × Int)} {rows : List (List Int)} {s6 s7 : Option W}, (rows.length : Int) = h → (∀ x ∈ ls, letP ts m x) → (∀ r ∈ rows, r.length + ls.length < 1000) →
    ∃ a b : Option W, forD d (sExpr (eApp (e2 oIx (eV 5) (e2 oIx (e2 oIx (eV 4) (eV 6)) (eC (.int 1)))) (eV 7))) on all (ls.map pairW) [D, H, L, x3, some (.tup (ts.map tieW)), some (.loc st.length), s6, s7, s8] (hst st rows) =
      some (.nx [D, H, L, x3, some (.tup (ts.map tieW)), some (.loc st.length), a, b, s8] (hst st (bringL ts rows ls)))
  | [], rows, s6, s7, _, _, _ => by
    refine ⟨s6, s7, ?_⟩
    unfold forD
    rw [List.map_nil]
    simp only
    rw [if_pos (hon rows)]
    rfl
  | x :: ls, rows, s6, s7, hr, hl, hb => by
    obtain ⟨l1, l2, _, _⟩ := hl x (List.mem_cons_self ..)
    have tb := tieAt_ok g l1 l2
    have j0 : 0 ≤ (tieAt ts x.1).2.1 := tb.2.2.1
    have j1 : (tieAt ts x.1).2.1 < rows.length := by have := tb.2.2.2.1; omega
    have hrow := row_at j0 j1
    have hmem : rowAt rows (tieAt ts x.1).2.1 ∈ rows := List.mem_of_getElem? hrow
    have hlen := hb _ hmem
    obtain ⟨a, b, ih⟩ := come_loop hon (D := D) (H := H) (L := L) (x3 := x3) (s8 := s8) (st := st) (all := all) g d hd (ls := ls) (rows := addAt rows (tieAt ts x.1).2.1 x.2) (s6 := some (.int x.1)) (s7 := some (.int x.2)) (by simpa [addAt] using hr) (fun y hy => hl y (List.mem_cons_of_mem _ hy)) (fun r hr2 => by
      rcases List.mem_or_eq_of_mem_set hr2 with h | h
      · have := hb r h; simp at this; omega
      · rw [h]; simp at hlen ⊢; omega)
    refine ⟨a, b, ?_⟩
    rw [List.map_cons]
    unfold forD
    rw [if_pos (hon rows)]
    have e1 : d (pairW x) [D, H, L, x3, some (.tup (ts.map tieW)), some (.loc st.length), s6, s7, s8] = some [D, H, L, x3, some (.tup (ts.map tieW)), some (.loc st.length), some (.int x.1), some (.int x.2), s8] := by
      subst hd
      simp [gT, pairW, gsC, gN, gsN]
    rw [e1]
    have e0 : atI [W.int (tieAt ts x.1).1, W.int (tieAt ts x.1).2.1, W.int (tieAt ts x.1).2.2] 1 = some (.int (tieAt ts x.1).2.1) := by simp [atI, ix31]
    have e2' : sExpr (eApp (e2 oIx (eV 5) (e2 oIx (e2 oIx (eV 4) (eV 6)) (eC (.int 1)))) (eV 7)) [D, H, L, x3, some (.tup (ts.map tieW)), some (.loc st.length), some (.int x.1), some (.int x.2), s8] (hst st rows) =
        some (.nx [D, H, L, x3, some (.tup (ts.map tieW)), some (.loc st.length), some (.int x.1), some (.int x.2), s8] (hst st (addAt rows (tieAt ts x.1).2.1 x.2))) := by
      have f1 : e2 oIx (eV 5) (e2 oIx (e2 oIx (eV 4) (eV 6)) (eC (.int 1))) [D, H, L, x3, some (.tup (ts.map tieW)), some (.loc st.length), some (.int x.1), some (.int x.2), s8] (hst st rows) = some (.ok (.loc (st.length + 1 + (tieAt ts x.1).2.1.toNat)) (hst st rows)) := by
        simp only [e2, eV, eC, okW, bnd_ok, List.getElem?_cons_zero, List.getElem?_cons_succ, ix_tup]
        rw [atI_tie l1 l2]
        simp only [bnd_ok, tieW, ix_tup]
        rw [e0]
        simp only [bnd_ok]
        rw [ix_loc hst_top, atI_locs j0 j1]
      unfold sExpr eApp
      rw [f1]
      simp only [bnd_ok, eV, okW, List.getElem?_cons_zero, List.getElem?_cons_succ]
      rw [hst_row hrow]
      simp only
      rw [if_pos (by simp [intsW] at hlen ⊢; omega)]
      simp only [bndS_ok]
      have e9 : intsW (rowAt rows (tieAt ts x.1).2.1) ++ [W.int x.2] = intsW (rowAt rows (tieAt ts x.1).2.1 ++ [x.2]) := by simp [intsW]
      rw [e9, hst_set]
      rfl
    simp only
    rw [e2']
    simp only
    rw [ih]
    rfl
theorem sort_row {r : List Int} (h : r.length < 64) : sortSet (intsW r) = some (intsW (sortU r)) := by
  unfold sortSet intsW
  rw [asInts]
  simp [h]
/-- [tuple(sorted(set(row))) for row in rows] -/
theorem tups_made {sl0 : Sl} {st : Store} {rows : List (List Int)} (h8 : 8 < sl0.length) (hb : ∀ r ∈ rows, r.length < 64) (few : rows.length < 1000) : ∀ {k i : Nat} {acc : List W} {T : Store}, rows.length - i = k → i ≤ rows.length → acc.length = i →
    ∃ T' : Store, lcD (gN 8) bYes (eCall oTuple (aCons (eSortSet (eV 8)) aNil)) sl0 (hst st rows).length (some st.length) (locsW st.length rows.length) ((locsW st.length rows.length).drop i) (hst st rows ++ (acc :: T)) =
      some (.ok (.loc (hst st rows).length) (hst st rows ++ ((acc ++ (rows.drop i).map fun r => rowW (sortU r)) :: T'))) := by
  have stay : ∀ T : Store, stays (hst st rows ++ T) (some st.length, locsW st.length rows.length) := fun T => by
    unfold stays
    simp only
    rw [List.getElem?_append_left (by rw [hst_len]; omega), hst_top]
  intro k
  induction k with
  | zero =>
    intro i acc T hk hi ha
    have : i = rows.length := by omega
    subst this
    refine ⟨T, ?_⟩
    have e : (locsW st.length rows.length).drop rows.length = [] := by simp [locsW]
    rw [e]
    unfold lcD
    rw [if_pos (stay _)]
    simp [okW]
  | succ k ih =>
    intro i acc T hk hi ha
    have hlt : i < rows.length := by omega
    have hl2 : i < (locsW st.length rows.length).length := by simpa [locsW] using hlt
    have hrow : rows[i]? = some rows[i] := List.getElem?_eq_getElem hlt
    obtain ⟨T', e'⟩ := ih (i := i + 1) (acc := acc ++ [rowW (sortU rows[i])]) (T := T ++ [intsW (sortU rows[i])]) (by omega) hlt (by simp [ha])
    refine ⟨T', ?_⟩
    rw [List.drop_eq_getElem_cons hl2]
    unfold lcD
    rw [if_pos (stay _)]
    have e0 : (locsW st.length rows.length)[i] = W.loc (st.length + 1 + i) := by simp [locsW]
    have e1 : eCall oTuple (aCons (eSortSet (eV 8)) aNil) (sl0.set 8 (some (W.loc (st.length + 1 + i)))) (hst st rows ++ (acc :: T)) = some (.ok (rowW (sortU rows[i])) (hst st rows ++ (acc :: T) ++ [intsW (sortU rows[i])])) := by
      have a1 : (sl0.set 8 (some (W.loc (st.length + 1 + i))))[8]? = some (some (W.loc (st.length + 1 + i))) := by rw [List.getElem?_set_self h8]
      have a2 : (hst st rows ++ (acc :: T))[st.length + 1 + i]? = some (intsW rows[i]) := by rw [List.getElem?_append_left (by rw [hst_len]; omega), hst_row hrow]
      have a3 : (hst st rows ++ (acc :: T) ++ [intsW (sortU rows[i])])[(hst st rows ++ (acc :: T)).length]? = some (intsW (sortU rows[i])) := by simp
      simp only [eCall, aCons, aNil, eSortSet, eV, a1, okW, bnd_ok, itemsW, a2, sort_row (hb _ (List.getElem_mem hlt)), oTuple, a3]
      rfl
    simp only [gN, bYes, okW, bnd0_ok, if_true]
    rw [e0, e1]
    simp only [bnd0_ok]
    have e3 : (hst st rows ++ (acc :: T) ++ [intsW (sortU rows[i])])[(hst st rows).length]? = some acc := by
      rw [List.append_assoc, List.getElem?_append_right (Nat.le_refl _)]
      simp
    have e4 : (hst st rows ++ (acc :: T) ++ [intsW (sortU rows[i])]).set (hst st rows).length (acc ++ [rowW (sortU rows[i])]) = hst st rows ++ ((acc ++ [rowW (sortU rows[i])]) :: (T ++ [intsW (sortU rows[i])])) := by
      rw [List.append_assoc, List.set_append_right _ _ (Nat.le_refl _)]
      simp
    rw [e3]
    simp only
    rw [if_pos (by omega), e4, e']
    have e5 : (rows.drop i).map (fun r => rowW (sortU r)) = rowW (sortU rows[i]) :: (rows.drop (i + 1)).map fun r => rowW (sortU r) := by rw [List.drop_eq_getElem_cons hlt, List.map_cons]
    rw [e5, List.append_assoc]
    rfl
theorem below_hold {n : Nat} {hs : List (List Int)} : below n (holdW hs) = true := by
  unfold holdW
  simp only [below]
  exact belows_map (fun r => by unfold rowW; simp only [below]; exact belows_map (fun _ => rfl) r) hs
theorem bringL_few {ts : List (Int × Int × Int)} {b : Nat} : ∀ {ls : List (Int × Int)} {rows : List (List Int)}, (∀ r ∈ rows, r.length ≤ b) → (∀ x ∈ ls, 0 ≤ (tieAt ts x.1).2.1 ∧ (tieAt ts x.1).2.1 < rows.length) → ∀ r ∈ bringL ts rows ls, r.length ≤ b + ls.length
  | [], rows, h, _, r, hr => by simpa using h r hr
  | x :: ls, rows, h, hj, r, hr => by
    have j := hj x (List.mem_cons_self ..)
    have hm : rowAt rows (tieAt ts x.1).2.1 ∈ rows := List.mem_of_getElem? (row_at j.1 j.2)
    have := bringL_few (b := b + 1) (ls := ls) (rows := addAt rows (tieAt ts x.1).2.1 x.2) (fun r hr => by
      rcases List.mem_or_eq_of_mem_set hr with h2 | h2
      · have := h r h2; omega
      · rw [h2]; have := h _ hm; simp; omega) (fun y hy => by have := hj y (List.mem_cons_of_mem _ hy); simpa [addAt] using this) r hr
    simp
    omega
theorem f_brought_ok {h m : Int} {ts : List (Int × Int × Int)} {hs : List (List Int)} {ls : List (Int × Int)} {st : Store} (g : GD h m ts) (gh : GH h m hs) (hl : ∀ x ∈ ls, letP ts m x) (few : ls.length ≤ 40) :
    f_brought [dealW h m ts, holdW hs, .tup (ls.map pairW)] st = some (.ok (holdW ((bringL ts hs ls).map sortU)) st) := by
  unfold f_brought F_brought dealW holdW
  have hh : hs.length ≤ 4 := by have := gh.len; have := g.h4; omega
  have j : ∀ x ∈ ls, 0 ≤ (tieAt ts x.1).2.1 ∧ (tieAt ts x.1).2.1 < hs.length := fun x hx => by
    obtain ⟨l1, l2, _, _⟩ := hl x hx
    have tb := tieAt_ok g l1 l2
    have := gh.len
    exact ⟨tb.2.2.1, by have := tb.2.2.2.1; omega⟩
  have made := lists_made (sl0 := [some (.tup [.int h, .int m, .tup (ts.map tieW)]), some (.tup (hs.map rowW)), some (.tup (ls.map pairW)), some (.int m), some (.tup (ts.map tieW)), none, none, none, none]) (k := 8) (all := hs.map rowW) (st := st) (by simp) (rest := hs) (done := []) (by simp; omega)
  rw [← hst_nil] at made
  simp only [List.nil_append] at made
  obtain ⟨a, b, loop⟩ := come_loop (on := none) (fun rows => True.intro) (D := some (.tup [.int h, .int m, .tup (ts.map tieW)])) (H := some (.tup (hs.map rowW))) (L := some (.tup (ls.map pairW))) (x3 := some (.int m)) (s8 := none) (st := st) (all := ls.map pairW) g _ rfl (ls := ls) (rows := hs) (s6 := none) (s7 := none) gh.len hl (fun r hr => by have := gh.few r hr; omega)
  have rf := bringL_few (ts := ts) (b := 4) (ls := ls) (rows := hs) gh.few j
  obtain ⟨T', tm⟩ := tups_made (sl0 := [some (.tup [.int h, .int m, .tup (ts.map tieW)]), some (.tup (hs.map rowW)), some (.tup (ls.map pairW)), some (.int m), some (.tup (ts.map tieW)), some (.loc st.length), a, b, none]) (st := st) (rows := bringL ts hs ls) (by simp) (fun r hr => by have := rf r hr; omega) (by rw [bringL_len]; omega) (k := (bringL ts hs ls).length) (i := 0) (acc := []) (T := []) rfl (Nat.zero_le _) rfl
  rw [List.drop_zero, List.drop_zero, List.nil_append] at tm
  (simp [Dn.fnD, sSeq, sNil, sRet, sRetN, sExpr, sIf, sAsg, sSetIx, Dn.eV, Dn.eC, Dn.e2, eB, bAnd, bOr, bNot, vAnd, vOr, vNot, eIf, eChain, aNil, aCons, eTup, eLst, eCall, Dn.okW, bnd_ok, bndS_ok, bnd0_ok, gN, gT, gsC, gsN, i_lt, i_le, i_gt, i_ge, i_sub, i_add, i_mod, i_div, i_mul, ix_tup, ix_frz, ix_loc, oLen, is_int_int, is_int_bool, is_tup_tup, is_loc_tup, is_int_tup, is_loc_list, eLc, wkQ, wipeW])
  rw [made]
  simp only [bndS_ok, sFor, wkQ, eV, okW, bnd_ok, List.getElem?_cons_zero, List.getElem?_cons_succ]
  rw [loop]
  simp only [bndS_ok, bnd_ok, List.getElem?_cons_zero, List.getElem?_cons_succ, List.set_cons_succ, List.set_cons_zero, hst_top]
  rw [tm]
  simp only [bnd_ok, oTuple, okW, List.getElem?_append_right (Nat.le_refl _), Nat.sub_self, List.getElem?_cons_zero, bndS_ok]
  have e : (W.tup ((bringL ts hs ls).map fun r => rowW (sortU r))) = holdW ((bringL ts hs ls).map sortU) := by unfold holdW; rw [List.map_map]; rfl
  rw [e]
  rw [trim_cut (t := locsW st.length (bringL ts hs ls).length :: (bringL ts hs ls).map intsW ++ ((bringL ts hs ls).map (fun r => rowW (sortU r)) :: T')) (by unfold hst; simp) below_hold]
  unfold holdW
  rw [List.map_map]
theorem f_brought_loc {k : Nat} {h m : Int} {ts : List (Int × Int × Int)} {hs : List (List Int)} {ls : List (Int × Int)} {st : Store} (g : GD h m ts) (gh : GH h m hs) (hl : ∀ x ∈ ls, letP ts m x) (few : ls.length ≤ 40) (hk : st[k]? = some (ls.map pairW)) :
    f_brought [dealW h m ts, holdW hs, .loc k] st = some (.ok (holdW ((bringL ts hs ls).map sortU)) st) := by
  unfold f_brought F_brought dealW holdW
  have hh : hs.length ≤ 4 := by have := gh.len; have := g.h4; omega
  have j : ∀ x ∈ ls, 0 ≤ (tieAt ts x.1).2.1 ∧ (tieAt ts x.1).2.1 < hs.length := fun x hx => by
    obtain ⟨l1, l2, _, _⟩ := hl x hx
    have tb := tieAt_ok g l1 l2
    have := gh.len
    exact ⟨tb.2.2.1, by have := tb.2.2.2.1; omega⟩
  have made := lists_made (sl0 := [some (.tup [.int h, .int m, .tup (ts.map tieW)]), some (.tup (hs.map rowW)), some (.loc k), some (.int m), some (.tup (ts.map tieW)), none, none, none, none]) (k := 8) (all := hs.map rowW) (st := st) (by simp) (rest := hs) (done := []) (by simp; omega)
  rw [← hst_nil] at made
  simp only [List.nil_append] at made
  obtain ⟨a, b, loop⟩ := come_loop (on := some k) (fun rows => by show (hst st rows)[k]? = _; unfold hst; rw [List.getElem?_append_left (List.getElem?_eq_some_iff.mp hk).1]; exact hk) (D := some (.tup [.int h, .int m, .tup (ts.map tieW)])) (H := some (.tup (hs.map rowW))) (L := some (.loc k)) (x3 := some (.int m)) (s8 := none) (st := st) (all := ls.map pairW) g _ rfl (ls := ls) (rows := hs) (s6 := none) (s7 := none) gh.len hl (fun r hr => by have := gh.few r hr; omega)
  have rf := bringL_few (ts := ts) (b := 4) (ls := ls) (rows := hs) gh.few j
  obtain ⟨T', tm⟩ := tups_made (sl0 := [some (.tup [.int h, .int m, .tup (ts.map tieW)]), some (.tup (hs.map rowW)), some (.loc k), some (.int m), some (.tup (ts.map tieW)), some (.loc st.length), a, b, none]) (st := st) (rows := bringL ts hs ls) (by simp) (fun r hr => by have := rf r hr; omega) (by rw [bringL_len]; omega) (k := (bringL ts hs ls).length) (i := 0) (acc := []) (T := []) rfl (Nat.zero_le _) rfl
  rw [List.drop_zero, List.drop_zero, List.nil_append] at tm
  (simp [Dn.fnD, sSeq, sNil, sRet, sRetN, sExpr, sIf, sAsg, sSetIx, Dn.eV, Dn.eC, Dn.e2, eB, bAnd, bOr, bNot, vAnd, vOr, vNot, eIf, eChain, aNil, aCons, eTup, eLst, eCall, Dn.okW, bnd_ok, bndS_ok, bnd0_ok, gN, gT, gsC, gsN, i_lt, i_le, i_gt, i_ge, i_sub, i_add, i_mod, i_div, i_mul, ix_tup, ix_frz, ix_loc, oLen, is_int_int, is_int_bool, is_tup_tup, is_loc_tup, is_int_tup, is_loc_list, eLc, wkQ, wipeW])
  rw [made]
  have hk2 : (hst st hs)[k]? = some (ls.map pairW) := by unfold hst; rw [List.getElem?_append_left (List.getElem?_eq_some_iff.mp hk).1]; exact hk
  simp only [hk2, bndS_ok, sFor, wkQ, eV, okW, bnd_ok, List.getElem?_cons_zero, List.getElem?_cons_succ]
  rw [loop]
  simp only [bndS_ok, bnd_ok, List.getElem?_cons_zero, List.getElem?_cons_succ, List.set_cons_succ, List.set_cons_zero, hst_top]
  rw [tm]
  simp only [bnd_ok, oTuple, okW, List.getElem?_append_right (Nat.le_refl _), Nat.sub_self, List.getElem?_cons_zero, bndS_ok]
  have e : (W.tup ((bringL ts hs ls).map fun r => rowW (sortU r))) = holdW ((bringL ts hs ls).map sortU) := by unfold holdW; rw [List.map_map]; rfl
  rw [e]
  rw [trim_cut (t := locsW st.length (bringL ts hs ls).length :: (bringL ts hs ls).map intsW ++ ((bringL ts hs ls).map (fun r => rowW (sortU r)) :: T')) (by unfold hst; simp) below_hold]
  unfold holdW
  rw [List.map_map]
end Pd

set_option Elab.async false
set_option linter.all false
set_option maxRecDepth 100000
set_option maxHeartbeats 1000000
/-! Ma6: a plan with lost letters. -/
namespace Pd
open PySem PySem.Spec PyProof.Rows L2 Dn
open Classical
def letsW (ls : List (Int × Int)) : W := .tup (ls.map pairW)
def tripW (t : Int × Int × Int) : W := .tup [.int t.1, .int t.2.1, .int t.2.2]
def lostW (lost : List (Int × Int × Int)) : W := .tup (lost.map tripW)
def tripD (t : Int × Int × Int) : PyData := .tuple [.int t.1, .int t.2.1, .int t.2.2]
theorem toD_trip {st : Store} {n : Nat} {t : Int × Int × Int} : toD st (n + 1) (tripW t) = some (tripD t) := by
  unfold tripW tripD
  exact toD_tup (l := [t.1, t.2.1, t.2.2]) (g := W.int) (f := PyData.int) fun y _ => toD_int
theorem eqv_trip {x y : Int × Int × Int} : PyData.eqv (tripD x) (tripD y) = decide (x = y) := by
  unfold tripD
  rw [eqv_tup]
  simp only [PyData.eqvAll, eqv_int]
  obtain ⟨a, b, c⟩ := x
  obtain ⟨d, e, f⟩ := y
  by_cases h : a = d <;> by_cases h2 : b = e <;> by_cases h3 : c = f <;> simp [h, h2, h3]
theorem any_map {C : Type} [DecidableEq C] {f : C → PyData} (hf : ∀ x y, PyData.eqv (f x) (f y) = decide (x = y)) {p : C} : ∀ {r : List C}, ((r.map f).any fun z => PyData.eqv z (f p)) = decide (p ∈ r)
  | [] => by simp
  | x :: r => by
    rw [List.map_cons, List.any_cons, hf, any_map hf]
    by_cases h : x = p
    · simp [h]
    · have : ¬ p = x := fun e => h e.symm
      simp [h, this]
theorem not_in_lost {t : Int × Int × Int} {lost : List (Int × Int × Int)} {st : Store} : oNi (tripW t) (lostW lost) st = some (.ok (.bl (!decide (t ∈ lost))) st) := by
  unfold oNi inW lostW
  rw [toD_trip (n := 6), toD_tup (n := 7) (g := tripW) (f := tripD) fun x _ => toD_trip (n := 6)]
  simp only [okW]
  rw [any_map fun x y => eqv_trip]
  congr
theorem atI_last {l : List W} {w : W} : atI (l ++ [w]) (-1) = some w := by
  unfold atI ixN
  have h1 : ¬ (0 : Int) ≤ -1 := by decide
  have h2 : -(((l ++ [w]).length : Nat) : Int) ≤ -1 := by simp; omega
  rw [if_neg h1, if_pos h2]
  have : ((-1 : Int) + ((l ++ [w]).length : Nat)).toNat = l.length := by simp; omega
  simp only [Option.bind_some]
  rw [this]
  simp
def comeL (lost : List (Int × Int × Int)) (n : Int) (ls : List (Int × Int)) : List (Int × Int) := ls.filter fun x => !decide ((n, x.1, x.2) ∈ lost)
/-- the holding behind a round -/
def nextH (ts : List (Int × Int × Int)) (cur : List (List Int)) (ls : List (Int × Int)) : List (List Int) := (bringL ts cur ls).map sortU
def lossN (ts : List (Int × Int × Int)) (lost : List (Int × Int × Int)) (n : Int) (cur : List (List Int)) (ls : List (Int × Int)) : List (List Int) := nextH ts cur (comeL lost n (sendL ts cur ls))
/-! a row that rises within few numbers is short -/
theorem rise_len : ∀ {r : List Int} {a b : Int}, r.Pairwise (· < ·) → (∀ p ∈ r, a ≤ p ∧ p < b) → a ≤ b → (r.length : Int) ≤ b - a
  | [], a, b, _, _, h => by simp; omega
  | x :: r, a, b, hr, hb, h => by
    have h1 := List.pairwise_cons.mp hr
    have hx := hb x (List.mem_cons_self ..)
    have := rise_len (a := x + 1) (b := b) h1.2 (fun p hp => ⟨by have := h1.1 p hp; omega, (hb p (List.mem_cons_of_mem _ hp)).2⟩) (by omega)
    simp
    omega
theorem bringL_in {ts : List (Int × Int × Int)} {m : Int} : ∀ {ls : List (Int × Int)} {rows : List (List Int)}, (∀ r ∈ rows, ∀ p ∈ r, 0 ≤ p ∧ p < m) → (∀ x ∈ ls, 0 ≤ x.2 ∧ x.2 < m) → (∀ x ∈ ls, 0 ≤ (tieAt ts x.1).2.1 ∧ (tieAt ts x.1).2.1 < rows.length) → ∀ r ∈ bringL ts rows ls, ∀ p ∈ r, 0 ≤ p ∧ p < m
  | [], rows, h, _, _ => h
  | x :: ls, rows, h, hl, hj => by
    have j := hj x (List.mem_cons_self ..)
    have hm : rowAt rows (tieAt ts x.1).2.1 ∈ rows := List.mem_of_getElem? (row_at j.1 j.2)
    exact bringL_in (rows := addAt rows (tieAt ts x.1).2.1 x.2) (fun r hr p hp => by
      rcases List.mem_or_eq_of_mem_set hr with h2 | h2
      · exact h r h2 p hp
      · rw [h2] at hp
        rcases List.mem_append.mp hp with hp | hp
        · exact h _ hm p hp
        · rw [List.mem_singleton.mp hp]; exact hl x (List.mem_cons_self ..)) (fun y hy => hl y (List.mem_cons_of_mem _ hy)) fun y hy => by have := hj y (List.mem_cons_of_mem _ hy); simpa [addAt] using this
theorem GH_next {h m : Int} {ts : List (Int × Int × Int)} {cur : List (List Int)} {ls : List (Int × Int)} (g : GD h m ts) (gh : GH h m cur) (hl : ∀ x ∈ ls, letP ts m x) : GH h m (nextH ts cur ls) := by
  have j : ∀ x ∈ ls, 0 ≤ (tieAt ts x.1).2.1 ∧ (tieAt ts x.1).2.1 < cur.length := fun x hx => by
    obtain ⟨l1, l2, _, _⟩ := hl x hx
    have tb := tieAt_ok g l1 l2
    have := gh.len
    exact ⟨tb.2.2.1, by have := tb.2.2.2.1; omega⟩
  have inb : ∀ r ∈ nextH ts cur ls, ∀ p ∈ r, 0 ≤ p ∧ p < m := fun r hr p hp => by
    obtain ⟨r', hr', rfl⟩ := List.mem_map.mp hr
    exact bringL_in gh.inb (fun x hx => ⟨(hl x hx).2.2.1, (hl x hx).2.2.2⟩) j r' hr' p (mem_sortU.mp hp)
  have rise : ∀ r ∈ nextH ts cur ls, r.Pairwise (· < ·) := fun r hr => by
    obtain ⟨r', hr', rfl⟩ := List.mem_map.mp hr
    exact sortU_lt r'
  refine ⟨by unfold nextH; rw [List.length_map, bringL_len]; exact gh.len, rise, inb, fun r hr => ?_⟩
  have := rise_len (rise r hr) (inb r hr) (by have := g.m1; omega)
  have := g.m4
  omega
/-! ### lossy's loop -/
noncomputable def bodyL : SD := (sSeq (sExpr (eCall f_check_round (aCons (eV 0) (aCons (eV 5) (aCons (eV 6) aNil)))))
  (sSeq (sAsg (eCall f_sendable (aCons (eV 0) (aCons (e2 oIx (eV 4) (eNeg (eC (.int 1)))) (aCons (eV 6) aNil)))) (gN 7))
  (sSeq (sAsg (eLc (wkQ (eV 7)) [9, 10] (gT 2 (gsC (gN 9) (gsC (gN 10) gsN))) (eB (e2 oNi (eTup (aCons (eV 5) (aCons (eV 9) (aCons (eV 10) aNil)))) (eV 3))) (eTup (aCons (eV 9) (aCons (eV 10) aNil)))) (gN 8))
  (sExpr (eApp (eV 4) (eCall f_brought (aCons (eV 0) (aCons (e2 oIx (eV 4) (eNeg (eC (.int 1)))) (aCons (eV 8) aNil)))))))))
theorem sendL_sub {ts : List (Int × Int × Int)} {hs : List (List Int)} {ls : List (Int × Int)} {x : Int × Int} (h : x ∈ sendL ts hs ls) : x ∈ ls := (List.mem_filter.mp h).1
theorem comeL_sub {lost : List (Int × Int × Int)} {n : Int} {ls : List (Int × Int)} {x : Int × Int} (h : x ∈ comeL lost n ls) : x ∈ ls := (List.mem_filter.mp h).1
theorem bodyL_ok {h m n : Int} {ts lost : List (Int × Int × Int)} {accs : List (List (List Int))} {cur : List (List Int)} {ls : List (Int × Int)} {st T : Store} {P s7 s8 s9 s10 : Option W} {Hd : W} (g : GD h m ts) (gh : GH h m cur) (r : GR ts m ls) (few : accs.length < 900) :
    ∃ (T' : Store) (t7 t8 : Option W), bodyL [some (dealW h m ts), some Hd, P, some (lostW lost), some (.loc st.length), some (.int n), some (letsW ls), s7, s8, s9, s10] (st ++ ((accs ++ [cur]).map holdW :: T)) =
      some (.nx [some (dealW h m ts), some Hd, P, some (lostW lost), some (.loc st.length), some (.int n), some (letsW ls), t7, t8, s9, s10] (st ++ ((accs ++ [cur] ++ [lossN ts lost n cur ls]).map holdW :: T'))) := by
  obtain ⟨S, hS⟩ : ∃ S : Store, S = st ++ ((accs ++ [cur]).map holdW :: T) := ⟨_, rfl⟩
  rw [← hS]
  have top : S[st.length]? = some ((accs ++ [cur]).map holdW) := by rw [hS]; simp
  have last : atI ((accs ++ [cur]).map holdW) (-1) = some (holdW cur) := by rw [List.map_append, List.map_cons, List.map_nil]; exact atI_last
  have c1 : f_check_round [dealW h m ts, .int n, letsW ls] S = some (.ok .non S) := check_GR g r
  have c2 : f_sendable [dealW h m ts, holdW cur, letsW ls] S = some (.ok (.loc S.length) (S ++ [(sendL ts cur ls).map pairW])) := f_sendable_ok g gh r.let_ (by have := r.few; omega)
  refine ⟨T ++ [(sendL ts cur ls).map pairW] ++ [(comeL lost n (sendL ts cur ls)).map pairW], some (.loc S.length), some (.loc (S.length + 1)), ?_⟩
  have ltop : st.length < S.length := (List.getElem?_eq_some_iff.mp top).1
  have top1 : (S ++ [(sendL ts cur ls).map pairW])[st.length]? = some ((accs ++ [cur]).map holdW) := by rw [List.getElem?_append_left ltop, top]
  have sent1 : (S ++ [(sendL ts cur ls).map pairW])[S.length]? = some ((sendL ts cur ls).map pairW) := by simp
  have sl1 : (sendL ts cur ls).length ≤ 32 := Nat.le_trans (List.length_filter_le _ _) r.few
  have key := lcD_ok (C := Int × Int) (d := gT 2 (gsC (gN 9) (gsC (gN 10) gsN))) (p := eB (e2 oNi (eTup (aCons (eV 5) (aCons (eV 9) (aCons (eV 10) aNil)))) (eV 3))) (f := eTup (aCons (eV 9) (aCons (eV 10) aNil)))
    (sl0 := [some (dealW h m ts), some Hd, P, some (lostW lost), some (.loc st.length), some (.int n), some (letsW ls), some (.loc S.length), s8, none, none]) (st0 := S ++ [(sendL ts cur ls).map pairW]) (on := some S.length) (all := (sendL ts cur ls).map pairW)
    (b := fun x => !decide ((n, x.1, x.2) ∈ lost)) (g := pairW) (src := pairW) (fun acc => by show (S ++ [(sendL ts cur ls).map pairW] ++ [acc])[S.length]? = _; rw [List.getElem?_append_left (by simp), sent1]) (l := sendL ts cur ls) (acc := []) (fun x hx => by
      refine ⟨[some (dealW h m ts), some Hd, P, some (lostW lost), some (.loc st.length), some (.int n), some (letsW ls), some (.loc S.length), s8, some (.int x.1), some (.int x.2)], by simp [gT, pairW, gsC, gN, gsN], fun acc => ?_⟩
      constructor
      · have e := not_in_lost (t := (n, x.1, x.2)) (lost := lost) (st := S ++ [(sendL ts cur ls).map pairW] ++ [acc])
        unfold tripW at e
        simp only [eB, e2, eTup, aCons, aNil, eV, okW, bnd_ok, List.getElem?_cons_zero, List.getElem?_cons_succ]
        rw [if_pos (by simp)]
        simp only [bnd_ok]
        rw [e]
        rfl
      · intro _
        simp [eTup, aCons, aNil, eV, okW, bnd_ok, pairW]) (by simp; omega)
  simp only [List.nil_append] at key
  obtain ⟨S1, hS1⟩ : ∃ S1 : Store, S1 = S ++ [(sendL ts cur ls).map pairW] := ⟨_, rfl⟩
  rw [← hS1] at key top1 sent1 c2
  have l1 : S1.length = S.length + 1 := by rw [hS1]; simp
  rw [l1] at key
  have ec : (sendL ts cur ls).filter (fun x => !decide ((n, x.1, x.2) ∈ lost)) = comeL lost n (sendL ts cur ls) := rfl
  rw [ec] at key
  obtain ⟨S2, hS2⟩ : ∃ S2 : Store, S2 = S1 ++ [(comeL lost n (sendL ts cur ls)).map pairW] := ⟨_, rfl⟩
  rw [← hS2] at key
  have top2 : S2[st.length]? = some ((accs ++ [cur]).map holdW) := by rw [hS2, List.getElem?_append_left (by omega), top1]
  have come2 : S2[S.length + 1]? = some ((comeL lost n (sendL ts cur ls)).map pairW) := by rw [hS2, ← l1]; simp
  have cl : (comeL lost n (sendL ts cur ls)).length ≤ 40 := Nat.le_trans (List.length_filter_le _ _) (by omega)
  have c3 := f_brought_loc (k := S.length + 1) (st := S2) g gh (ls := comeL lost n (sendL ts cur ls)) (fun x hx => r.let_ x (sendL_sub (comeL_sub hx))) cl come2
  unfold bodyL
  simp only [sSeq, sExpr, sAsg, eCall, aCons, aNil, eV, eC, eNeg, e2, okW, bnd_ok, bndS_ok, List.getElem?_cons_zero, List.getElem?_cons_succ, c1, ix_loc top, Int.reduceNeg, last, c2, gN, List.set_cons_zero, List.set_cons_succ, eLc, wkQ, sent1, wipeW]
  rw [l1, key]
  simp only [bndS_ok, eApp, eV, eCall, aCons, aNil, eC, eNeg, e2, okW, bnd_ok, List.getElem?_cons_zero, List.getElem?_cons_succ, ix_loc top2, Int.reduceNeg, last, c3, top2]
  rw [if_pos (by simp; omega)]
  simp only [bndS_ok]
  have fin : S2.set st.length ((accs ++ [cur]).map holdW ++ [holdW ((bringL ts cur (comeL lost n (sendL ts cur ls))).map sortU)]) = st ++ ((accs ++ [cur] ++ [lossN ts lost n cur ls]).map holdW :: (T ++ [(sendL ts cur ls).map pairW] ++ [(comeL lost n (sendL ts cur ls)).map pairW])) := by
    rw [hS2, hS1, hS]
    simp [lossN, nextH]
  rw [fin]
end Pd

set_option Elab.async false
set_option linter.all false
set_option maxRecDepth 100000
set_option maxHeartbeats 1000000
/-! Ma7: lossy, as a whole. -/
namespace Pd
open PySem PySem.Spec PyProof.Rows L2 Dn
open Classical
def numbW : Nat → List W → List W
  | _, [] => []
  | k, w :: l => .tup [.int (k : Nat), w] :: numbW (k + 1) l
theorem enum_numb (l : List W) : enumW l = numbW 0 l := by
  have : ∀ (l : List W) (k : Nat), (l.mapIdx fun i w => W.tup [.int ((i + k : Nat)), w]) = numbW k l := by
    intro l
    induction l with
    | nil => intro k; rfl
    | cons w l ih =>
      intro k
      rw [List.mapIdx_cons]
      unfold numbW
      rw [← ih (k + 1)]
      simp only [Nat.zero_add, List.cons.injEq, true_and]
      congr 1
      funext i w
      have : i + 1 + k = i + (k + 1) := by omega
      rw [this]
  have h := this l 0
  simpa [enumW] using h
def lossL (ts lost : List (Int × Int × Int)) : Nat → List (List Int) → List (List (Int × Int)) → List (List (List Int))
  | _, _, [] => []
  | k, cur, ls :: r => lossN ts lost k cur ls :: lossL ts lost (k + 1) (lossN ts lost k cur ls) r
theorem GH_loss {h m : Int} {ts lost : List (Int × Int × Int)} {n : Int} {cur : List (List Int)} {ls : List (Int × Int)} (g : GD h m ts) (gh : GH h m cur) (r : GR ts m ls) : GH h m (lossN ts lost n cur ls) :=
  GH_next g gh fun x hx => r.let_ x (sendL_sub (comeL_sub hx))
/-- the good rounds, then the rest -/
theorem loopL {h m : Int} {ts lost : List (Int × Int × Int)} {st : Store} {P s9 s10 : Option W} {Hd : W} {all more : List W} (g : GD h m ts) (d : TgD) (hd : d = gT 2 (gsC (gN 5) (gsC (gN 6) gsN))) : ∀ {plan : List (List (Int × Int))} {k : Nat} {accs : List (List (List Int))} {cur : List (List Int)} {T : Store} {s5 s6 s7 s8 : Option W},
    GH h m cur → (∀ ls ∈ plan, GR ts m ls) → accs.length + plan.length < 900 →
    ∃ (accs' : List (List (List Int))) (cur' : List (List Int)) (T' : Store) (t5 t6 t7 t8 : Option W), GH h m cur' ∧ accs' ++ [cur'] = accs ++ [cur] ++ lossL ts lost k cur plan ∧
      forD d bodyL none all (numbW k (plan.map letsW ++ more)) [some (dealW h m ts), some Hd, P, some (lostW lost), some (.loc st.length), s5, s6, s7, s8, s9, s10] (st ++ ((accs ++ [cur]).map holdW :: T)) =
      forD d bodyL none all (numbW (k + plan.length) more) [some (dealW h m ts), some Hd, P, some (lostW lost), some (.loc st.length), t5, t6, t7, t8, s9, s10] (st ++ ((accs' ++ [cur']).map holdW :: T'))
  | [], k, accs, cur, T, s5, s6, s7, s8, gh, _, _ => ⟨accs, cur, T, s5, s6, s7, s8, gh, by simp [lossL], by simp⟩
  | ls :: plan, k, accs, cur, T, s5, s6, s7, s8, gh, hp, hl => by
    have r := hp ls (List.mem_cons_self ..)
    obtain ⟨T1, t7, t8, e1⟩ := bodyL_ok (n := (k : Nat)) (lost := lost) (accs := accs) (st := st) (T := T) (P := P) (Hd := Hd) (s7 := s7) (s8 := s8) (s9 := s9) (s10 := s10) g gh r (by simp at hl; omega)
    obtain ⟨accs', cur', T', u5, u6, u7, u8, gh', ea, e2⟩ := loopL (lost := lost) (st := st) (P := P) (Hd := Hd) (s9 := s9) (s10 := s10) (all := all) (more := more) g d hd (plan := plan) (k := k + 1) (accs := accs ++ [cur]) (cur := lossN ts lost k cur ls) (T := T1) (s5 := some (.int (k : Nat))) (s6 := some (letsW ls)) (s7 := t7) (s8 := t8) (GH_loss g gh r) (fun x hx => hp x (List.mem_cons_of_mem _ hx)) (by simp at hl ⊢; omega)
    refine ⟨accs', cur', T', u5, u6, u7, u8, gh', by rw [ea]; simp [lossL], ?_⟩
    have hlen : k + (ls :: plan).length = k + 1 + plan.length := by simp; omega
    rw [hlen, ← e2, List.map_cons, List.cons_append]
    rw [show numbW k (letsW ls :: (plan.map letsW ++ more)) = .tup [.int (k : Nat), letsW ls] :: numbW (k + 1) (plan.map letsW ++ more) from rfl]
    rw [forD, if_pos (show stays _ (none, all) from True.intro)]
    have ed : d (.tup [.int (k : Nat), letsW ls]) [some (dealW h m ts), some Hd, P, some (lostW lost), some (.loc st.length), s5, s6, s7, s8, s9, s10] = some [some (dealW h m ts), some Hd, P, some (lostW lost), some (.loc st.length), some (.int (k : Nat)), some (letsW ls), s7, s8, s9, s10] := by
      subst hd
      simp [gT, gsC, gN, gsN]
    rw [ed]
    simp only
    rw [e1]
theorem check_plan_tup {l : List W} {st : Store} : f_check_plan [.tup l] st = some (.ok .non st) := by
  unfold f_check_plan F_check_plan
  (simp [Dn.fnD, sSeq, sNil, sRet, sRetN, sExpr, sIf, sAsg, sSetIx, Dn.eV, Dn.eC, Dn.e2, eB, bAnd, bOr, bNot, vAnd, vOr, vNot, eIf, eChain, aNil, aCons, eTup, eLst, eCall, Dn.okW, bnd_ok, bndS_ok, bnd0_ok, gN, gT, gsC, gsN, i_lt, i_le, i_gt, i_ge, i_sub, i_add, i_mod, i_div, i_mul, ix_tup, ix_frz, ix_loc, oLen, is_int_int, is_int_bool, is_tup_tup, is_loc_tup, is_int_tup, is_loc_list, trim_non])
theorem belows_holds {n : Nat} (l : List (List (List Int))) : belows n (l.map holdW) = true := belows_map (fun _ => below_hold) l
theorem trim_more {st T : Store} {l : List W} (h : belows st.length l = true) : trim st (.loc st.length) (st ++ (l :: T)) = .ok (.loc st.length) (st ++ [l]) := by
  unfold trim
  rw [if_pos ⟨.inl (by simp), by simp⟩, if_neg (by simp [below])]
  simp [h]
theorem f_lossy_ok {h m : Int} {ts lost : List (Int × Int × Int)} {hs : List (List Int)} {plan : List (List (Int × Int))} {st : Store} (g : GD h m ts) (gh : GH h m hs) (hp : ∀ ls ∈ plan, GR ts m ls) (few : plan.length < 800) :
    f_lossy [dealW h m ts, holdW hs, .tup (plan.map letsW), lostW lost] st = some (.ok (.loc st.length) (st ++ [(hs :: lossL ts lost 0 hs plan).map holdW])) := by
  unfold f_lossy F_lossy
  obtain ⟨accs', cur', T', t5, t6, t7, t8, _, ea, e⟩ := loopL (lost := lost) (st := st) (P := some (.tup (plan.map letsW))) (Hd := holdW hs) (s9 := none) (s10 := none) (all := numbW 0 (plan.map letsW)) (more := []) g _ rfl (plan := plan) (k := 0) (accs := []) (cur := hs) (T := []) (s5 := none) (s6 := none) (s7 := none) (s8 := none) gh hp (by simp; omega)
  have e0 : forD (gT 2 (gsC (gN 5) (gsC (gN 6) gsN))) bodyL none (numbW 0 (plan.map letsW)) (numbW (0 + plan.length) []) [some (dealW h m ts), some (holdW hs), some (.tup (plan.map letsW)), some (lostW lost), some (.loc st.length), t5, t6, t7, t8, none, none] (st ++ ((accs' ++ [cur']).map holdW :: T')) =
      some (.nx [some (dealW h m ts), some (holdW hs), some (.tup (plan.map letsW)), some (lostW lost), some (.loc st.length), t5, t6, t7, t8, none, none] (st ++ ((accs' ++ [cur']).map holdW :: T'))) := by
    unfold numbW
    rw [forD, if_pos (show stays _ (none, _) from True.intro)]
  rw [e0, ea] at e
  simp only [List.append_nil, List.nil_append, List.cons_append] at e
  unfold bodyL at e
  (simp [Dn.fnD, sSeq, sNil, sRet, sRetN, sExpr, sIf, sAsg, sSetIx, Dn.eV, Dn.eC, Dn.e2, eB, bAnd, bOr, bNot, vAnd, vOr, vNot, eIf, eChain, aNil, aCons, eTup, eLst, eCall, Dn.okW, bnd_ok, bndS_ok, bnd0_ok, gN, gT, gsC, gsN, i_lt, i_le, i_gt, i_ge, i_sub, i_add, i_mod, i_div, i_mul, ix_tup, ix_frz, ix_loc, oLen, is_int_int, is_int_bool, is_tup_tup, is_loc_tup, is_int_tup, is_loc_list, f_check_ok g gh, check_plan_tup, sFor, wkE, enum_numb])
  simp only [List.map_cons, List.map_nil] at e
  rw [e]
  simp only [bndS_ok, List.getElem?_cons_zero, List.getElem?_cons_succ]
  rw [← List.map_cons, trim_more (belows_holds _)]
theorem trimE_more {st T : Store} {n : Int} {y : Str} : trimE st (badRound n y) (st ++ T) = .er (badRound n y) st := by
  unfold trimE
  rw [if_pos ⟨.inl (by simp), rfl⟩]
  simp
theorem f_lossy_bad {h m : Int} {ts lost : List (Int × Int × Int)} {hs : List (List Int)} {pre : List (List (Int × Int))} {bad : W} {post : List W} {why : Str} {st : Store} (g : GD h m ts) (gh : GH h m hs) (hp : ∀ ls ∈ pre, GR ts m ls) (few : pre.length < 800)
    (hbad : ∀ S : Store, f_check_round [dealW h m ts, .int (pre.length : Nat), bad] S = some (.er (badRound (pre.length : Nat) why) S)) :
    f_lossy [dealW h m ts, holdW hs, .tup (pre.map letsW ++ bad :: post), lostW lost] st = some (.er (badRound (pre.length : Nat) why) st) := by
  unfold f_lossy F_lossy
  obtain ⟨accs', cur', T', t5, t6, t7, t8, _, ea, e⟩ := loopL (lost := lost) (st := st) (P := some (.tup (pre.map letsW ++ bad :: post))) (Hd := holdW hs) (s9 := none) (s10 := none) (all := numbW 0 (pre.map letsW ++ bad :: post)) (more := bad :: post) g _ rfl (plan := pre) (k := 0) (accs := []) (cur := hs) (T := []) (s5 := none) (s6 := none) (s7 := none) (s8 := none) gh hp (by simp; omega)
  have e0 : forD (gT 2 (gsC (gN 5) (gsC (gN 6) gsN))) bodyL none (numbW 0 (pre.map letsW ++ bad :: post)) (numbW (0 + pre.length) (bad :: post)) [some (dealW h m ts), some (holdW hs), some (.tup (pre.map letsW ++ bad :: post)), some (lostW lost), some (.loc st.length), t5, t6, t7, t8, none, none] (st ++ ((accs' ++ [cur']).map holdW :: T')) =
      some (.er (badRound (pre.length : Nat) why) (st ++ ((accs' ++ [cur']).map holdW :: T'))) := by
    rw [Nat.zero_add, show numbW pre.length (bad :: post) = .tup [.int (pre.length : Nat), bad] :: numbW (pre.length + 1) post from rfl]
    rw [forD, if_pos (show stays _ (none, _) from True.intro)]
    have eb : bodyL [some (dealW h m ts), some (holdW hs), some (.tup (pre.map letsW ++ bad :: post)), some (lostW lost), some (.loc st.length), some (.int (pre.length : Nat)), some bad, t7, t8, none, none] (st ++ ((accs' ++ [cur']).map holdW :: T')) = some (.er (badRound (pre.length : Nat) why) (st ++ ((accs' ++ [cur']).map holdW :: T'))) := by
      unfold bodyL
      simp only [sSeq, sExpr, eCall, aCons, aNil, eV, okW, bnd_ok, List.getElem?_cons_zero, List.getElem?_cons_succ, hbad]
      rfl
    simp only [gT, gsC, gN, gsN, List.length_cons, List.length_nil, Nat.reduceAdd, if_true, List.set_cons_succ, List.set_cons_zero]
    rw [eb]
  rw [e0] at e
  simp only [List.nil_append] at e
  unfold bodyL at e
  (simp [Dn.fnD, sSeq, sNil, sRet, sRetN, sExpr, sIf, sAsg, sSetIx, Dn.eV, Dn.eC, Dn.e2, eB, bAnd, bOr, bNot, vAnd, vOr, vNot, eIf, eChain, aNil, aCons, eTup, eLst, eCall, Dn.okW, bnd_ok, bndS_ok, bnd0_ok, gN, gT, gsC, gsN, i_lt, i_le, i_gt, i_ge, i_sub, i_add, i_mod, i_div, i_mul, ix_tup, ix_frz, ix_loc, oLen, is_int_int, is_int_bool, is_tup_tup, is_loc_tup, is_int_tup, is_loc_list, f_check_ok g gh, check_plan_tup, sFor, wkE, enum_numb])
  simp only [List.map_cons, List.map_nil] at e
  rw [e]
  simp only
  rw [trimE_more]
end Pd

set_option Elab.async false
set_option linter.all false
set_option maxRecDepth 100000
set_option maxHeartbeats 1000000
/-! Ma8: the law's word on a plan that can't be. -/
namespace Pd
open PySem PySem.Spec PyProof.Rows L2 Dn
open Classical
theorem bndS_er {A : Type} {x : Er} {st : Store} {k : A → Store → Option Out} : bndS (some (.er x st) : Option (Res A)) k = some (.er x st) := rfl
theorem bnd_er {A B : Type} {x : Er} {st : Store} {k : A → Store → Option (Res B)} : bnd (some (.er x st) : Option (Res A)) k = some (.er x st) := rfl
theorem f_lossy_int {h m n : Int} {ts : List (Int × Int × Int)} {hs : List (List Int)} {lw : W} {st : Store} (g : GD h m ts) (gh : GH h m hs) : f_lossy [dealW h m ts, holdW hs, .int n, lw] st = some (.er (badRound 0 "form") st) := by
  have c : f_check_plan [.int n] st = some (.er (badRound 0 "form") st) := by
    unfold f_check_plan F_check_plan
    have e := raise_ok (n := 0) (y := "form") (sl := [some (.int n)]) (st := st) (f := aCons (eC (.int 0)) (aCons (eC (.str "form")) aNil)) (by simp [aCons, aNil, eC, okW, bnd_ok]) (by omega) (by omega) (by decide +kernel)
    (simp [Dn.fnD, sSeq, sNil, sRet, sRetN, sExpr, sIf, sAsg, sSetIx, Dn.eV, Dn.eC, Dn.e2, eB, bAnd, bOr, bNot, vAnd, vOr, vNot, eIf, eChain, aNil, aCons, eTup, eLst, eCall, Dn.okW, bnd_ok, bndS_ok, bnd0_ok, gN, gT, gsC, gsN, i_lt, i_le, i_gt, i_ge, i_sub, i_add, i_mod, i_div, i_mul, ix_tup, ix_frz, ix_loc, oLen, is_int_int, is_int_bool, is_tup_tup, is_loc_tup, is_int_tup, is_loc_list, e, trimE_same])
  unfold f_lossy F_lossy
  simp only [fnD, sSeq, sExpr, eCall, aCons, aNil, eV, okW, bnd_ok, List.map_cons, List.map_nil, List.cons_append, List.nil_append, List.length_cons, List.length_nil, List.getElem?_cons_zero, List.getElem?_cons_succ, f_check_ok g gh, bndS_ok, c, Nat.reduceAdd, if_true]
  rw [bndS_er]
  simp only [trimE_same]
theorem law_word_bad {D H P : W} {n : Int} {why : Str} {st : Store} (h : f_lossy [D, H, P, .tup []] st = some (.er (badRound n why) st)) : f__law_word [D, H, P] st = some (.ok (.tup [.int n, .str why]) st) := by
  unfold f__law_word F__law_word
  (simp [Dn.fnD, sSeq, sNil, sRet, sRetN, sExpr, sIf, sAsg, sSetIx, Dn.eV, Dn.eC, Dn.e2, eB, bAnd, bOr, bNot, vAnd, vOr, vNot, eIf, eChain, aNil, aCons, eTup, eLst, eCall, Dn.okW, bnd_ok, bndS_ok, bnd0_ok, gN, gT, gsC, gsN, i_lt, i_le, i_gt, i_ge, i_sub, i_add, i_mod, i_div, i_mul, ix_tup, ix_frz, ix_loc, oLen, is_int_int, is_int_bool, is_tup_tup, is_loc_tup, is_int_tup, is_loc_list, sTryBR, h, bndS_er, badRound])
  exact trim_same rfl
end Pd

set_option Elab.async false
set_option linter.all false
set_option maxRecDepth 100000
set_option maxHeartbeats 1000000
/-! Ma9: played, as a whole. -/
namespace Pd
open PySem PySem.Spec PyProof.Rows L2 Dn
open Classical
noncomputable def bodyP : SD := (sSeq (sExpr (eCall f_check_round (aCons (eV 0) (aCons (eV 4) (aCons (eV 5) aNil)))))
  (sSeq (sIf (eB (e2 oLt (eCall oLen (aCons (eCall f_sendable (aCons (eV 0) (aCons (e2 oIx (eV 3) (eNeg (eC (.int 1)))) (aCons (eV 5) aNil)))) aNil)) (eCall oLen (aCons (eV 5) aNil)))) (sRaise (aCons (eV 4) (aCons (eC (.str ("piece" : PySem.Str))) aNil))) sNil)
  (sExpr (eApp (eV 3) (eCall f_brought (aCons (eV 0) (aCons (e2 oIx (eV 3) (eNeg (eC (.int 1)))) (aCons (eV 5) aNil))))))))
/-- each letter's piece is there -/
def pathOK (ts : List (Int × Int × Int)) : List (List Int) → List (List (Int × Int)) → Prop
  | _, [] => True
  | cur, ls :: r => sendL ts cur ls = ls ∧ pathOK ts (nextH ts cur ls) r
theorem lossN_nil {ts : List (Int × Int × Int)} {n : Int} {cur : List (List Int)} {ls : List (Int × Int)} (h : sendL ts cur ls = ls) : lossN ts [] n cur ls = nextH ts cur ls := by
  unfold lossN comeL
  rw [h, List.filter_eq_self.mpr fun x _ => by simp]
theorem bodyP_ok {h m n : Int} {ts : List (Int × Int × Int)} {accs : List (List (List Int))} {cur : List (List Int)} {ls : List (Int × Int)} {st T : Store} {P : Option W} {Hd : W} (g : GD h m ts) (gh : GH h m cur) (r : GR ts m ls) (few : accs.length < 900) (hs : sendL ts cur ls = ls) :
    ∃ (T' : Store), bodyP [some (dealW h m ts), some Hd, P, some (.loc st.length), some (.int n), some (letsW ls)] (st ++ ((accs ++ [cur]).map holdW :: T)) =
      some (.nx [some (dealW h m ts), some Hd, P, some (.loc st.length), some (.int n), some (letsW ls)] (st ++ ((accs ++ [cur] ++ [nextH ts cur ls]).map holdW :: T'))) := by
  obtain ⟨S, hS⟩ : ∃ S : Store, S = st ++ ((accs ++ [cur]).map holdW :: T) := ⟨_, rfl⟩
  rw [← hS]
  have top : S[st.length]? = some ((accs ++ [cur]).map holdW) := by rw [hS]; simp
  have last : atI ((accs ++ [cur]).map holdW) (-1) = some (holdW cur) := by rw [List.map_append, List.map_cons, List.map_nil]; exact atI_last
  have c1 : f_check_round [dealW h m ts, .int n, letsW ls] S = some (.ok .non S) := check_GR g r
  have c2 : f_sendable [dealW h m ts, holdW cur, letsW ls] S = some (.ok (.loc S.length) (S ++ [ls.map pairW])) := by
    have := f_sendable_ok (st := S) g gh r.let_ (by have := r.few; omega)
    rw [hs] at this
    exact this
  refine ⟨T ++ [ls.map pairW], ?_⟩
  have ltop : st.length < S.length := (List.getElem?_eq_some_iff.mp top).1
  obtain ⟨S1, hS1⟩ : ∃ S1 : Store, S1 = S ++ [ls.map pairW] := ⟨_, rfl⟩
  rw [← hS1] at c2
  have top1 : S1[st.length]? = some ((accs ++ [cur]).map holdW) := by rw [hS1, List.getElem?_append_left ltop, top]
  have sent1 : S1[S.length]? = some (ls.map pairW) := by rw [hS1]; simp
  have c3 : f_brought [dealW h m ts, holdW cur, letsW ls] S1 = some (.ok (holdW ((bringL ts cur ls).map sortU)) S1) := f_brought_ok g gh r.let_ (by have := r.few; omega)
  have el : oLen [letsW ls] S1 = some (.ok (.int ls.length) S1) := by simp [oLen, letsW, okW]
  unfold bodyP
  simp only [sSeq, sExpr, sIf, eB, eCall, aCons, aNil, eV, eC, eNeg, e2, okW, bnd_ok, bndS_ok, List.getElem?_cons_zero, List.getElem?_cons_succ, c1, ix_loc top, Int.reduceNeg, last, c2, el]
  have el2 : oLen [.loc S.length] S1 = some (.ok (.int ls.length) S1) := by simp [oLen, sent1, okW]
  rw [el2]
  simp only [bnd_ok, el, i_lt, bndS_ok, Int.lt_irrefl, decide_false, Bool.false_eq_true, if_false, sNil]
  simp only [eApp, eV, eCall, aCons, aNil, eC, eNeg, e2, okW, bnd_ok, bndS_ok, List.getElem?_cons_zero, List.getElem?_cons_succ, ix_loc top1, Int.reduceNeg, last, c3, top1]
  rw [if_pos (by simp; omega)]
  simp only [bndS_ok]
  have fin : S1.set st.length ((accs ++ [cur]).map holdW ++ [holdW ((bringL ts cur ls).map sortU)]) = st ++ ((accs ++ [cur] ++ [nextH ts cur ls]).map holdW :: (T ++ [ls.map pairW])) := by
    rw [hS1, hS]
    simp [nextH]
  rw [fin]
theorem loopP {h m : Int} {ts : List (Int × Int × Int)} {st : Store} {P : Option W} {Hd : W} {all : List W} (g : GD h m ts) (d : TgD) (hd : d = gT 2 (gsC (gN 4) (gsC (gN 5) gsN))) : ∀ {plan : List (List (Int × Int))} {k : Nat} {accs : List (List (List Int))} {cur : List (List Int)} {T : Store} {s5 s6 : Option W},
    GH h m cur → (∀ ls ∈ plan, GR ts m ls) → accs.length + plan.length < 900 → pathOK ts cur plan →
    ∃ (T' : Store) (t5 t6 : Option W), forD d bodyP none all (numbW k (plan.map letsW)) [some (dealW h m ts), some Hd, P, some (.loc st.length), s5, s6] (st ++ ((accs ++ [cur]).map holdW :: T)) =
      some (.nx [some (dealW h m ts), some Hd, P, some (.loc st.length), t5, t6] (st ++ ((accs ++ [cur] ++ lossL ts [] k cur plan).map holdW :: T')))
  | [], k, accs, cur, T, s5, s6, gh, _, _, _ => by
    refine ⟨T, s5, s6, ?_⟩
    rw [List.map_nil]
    unfold numbW
    rw [forD, if_pos (show stays _ (none, _) from True.intro)]
    simp [lossL]
  | ls :: plan, k, accs, cur, T, s5, s6, gh, hp, hl, hpath => by
    have r := hp ls (List.mem_cons_self ..)
    obtain ⟨T1, e1⟩ := bodyP_ok (n := (k : Nat)) (accs := accs) (st := st) (T := T) (P := P) (Hd := Hd) g gh r (by simp at hl; omega) hpath.1
    have hn := lossN_nil (n := (k : Nat)) hpath.1
    obtain ⟨T', u5, u6, e2⟩ := loopP (st := st) (P := P) (Hd := Hd) (all := all) g d hd (plan := plan) (k := k + 1) (accs := accs ++ [cur]) (cur := nextH ts cur ls) (T := T1) (s5 := some (.int (k : Nat))) (s6 := some (letsW ls)) (GH_next g gh r.let_) (fun x hx => hp x (List.mem_cons_of_mem _ hx)) (by simp at hl ⊢; omega) hpath.2
    refine ⟨T', u5, u6, ?_⟩
    have ea : accs ++ [cur] ++ lossL ts [] k cur (ls :: plan) = accs ++ [cur] ++ [nextH ts cur ls] ++ lossL ts [] (k + 1) (nextH ts cur ls) plan := by
      simp only [lossL]
      rw [hn]
      simp
    rw [ea, ← e2, List.map_cons]
    rw [show numbW k (letsW ls :: plan.map letsW) = .tup [.int (k : Nat), letsW ls] :: numbW (k + 1) (plan.map letsW) from rfl]
    rw [forD, if_pos (show stays _ (none, all) from True.intro)]
    have ed : d (.tup [.int (k : Nat), letsW ls]) [some (dealW h m ts), some Hd, P, some (.loc st.length), s5, s6] = some [some (dealW h m ts), some Hd, P, some (.loc st.length), some (.int (k : Nat)), some (letsW ls)] := by
      subst hd
      simp [gT, gsC, gN, gsN]
    rw [ed]
    simp only
    rw [e1]
theorem f_played_ok {h m : Int} {ts : List (Int × Int × Int)} {hs : List (List Int)} {plan : List (List (Int × Int))} {st : Store} (g : GD h m ts) (gh : GH h m hs) (hp : ∀ ls ∈ plan, GR ts m ls) (few : plan.length < 800) (hpath : pathOK ts hs plan) :
    f_played [dealW h m ts, holdW hs, .tup (plan.map letsW)] st = some (.ok (.loc st.length) (st ++ [(hs :: lossL ts [] 0 hs plan).map holdW])) := by
  unfold f_played F_played
  obtain ⟨T', t5, t6, e⟩ := loopP (st := st) (P := some (.tup (plan.map letsW))) (Hd := holdW hs) (all := numbW 0 (plan.map letsW)) g _ rfl (plan := plan) (k := 0) (accs := []) (cur := hs) (T := []) (s5 := none) (s6 := none) gh hp (by simp; omega) hpath
  simp only [List.append_nil, List.nil_append, List.cons_append] at e
  unfold bodyP at e
  (simp [Dn.fnD, sSeq, sNil, sRet, sRetN, sExpr, sIf, sAsg, sSetIx, Dn.eV, Dn.eC, Dn.e2, eB, bAnd, bOr, bNot, vAnd, vOr, vNot, eIf, eChain, aNil, aCons, eTup, eLst, eCall, Dn.okW, bnd_ok, bndS_ok, bnd0_ok, gN, gT, gsC, gsN, i_lt, i_le, i_gt, i_ge, i_sub, i_add, i_mod, i_div, i_mul, ix_tup, ix_frz, ix_loc, oLen, is_int_int, is_int_bool, is_tup_tup, is_loc_tup, is_int_tup, is_loc_list, f_check_ok g gh, check_plan_tup, sFor, wkE, enum_numb])
  simp only [List.map_cons, List.map_nil] at e
  rw [e]
  simp only [bndS_ok, List.getElem?_cons_zero, List.getElem?_cons_succ]
  rw [← List.map_cons, trim_more (belows_holds _)]
end Pd

set_option Elab.async false
set_option linter.all false
set_option maxRecDepth 100000
set_option maxHeartbeats 1000000
/-! Ma10: the law's own cells, dice, coming. -/
namespace Pd
open PySem PySem.Spec PyProof.Rows L2 Dn
open Classical
/-- the script, as it may stand -/
def Scr (w : W) (ns : List Int) (st : Store) : Prop := w = .frz (ns.map .int) ∨ ∃ n, w = .loc n ∧ st[n]? = some (ns.map .int)
theorem f_cell_ok {w : W} {ns : List Int} {k : Nat} {st : Store} (h : Scr w ns st) : ∃ i : Int, f__law_cell_at [w, .int (k : Nat)] st = some (.ok (.int i) st) := by
  unfold f__law_cell_at F__law_cell_at
  by_cases hk : k < ns.length
  · refine ⟨ns[k], ?_⟩
    have hi : (k : Int) < (ns.length : Int) := by omega
    have e : atI (ns.map W.int) (k : Nat) = some (.int ns[k]) := by
      rw [atI_ok (by omega) (by simpa using hi)]
      simp [hk]
    rcases h with rfl | ⟨n, rfl, hn⟩
    · (simp [Dn.fnD, sSeq, sNil, sRet, sRetN, sExpr, sIf, sAsg, sSetIx, Dn.eV, Dn.eC, Dn.e2, eB, bAnd, bOr, bNot, vAnd, vOr, vNot, eIf, eChain, aNil, aCons, eTup, eLst, eCall, Dn.okW, bnd_ok, bndS_ok, bnd0_ok, gN, gT, gsC, gsN, i_lt, i_le, i_gt, i_ge, i_sub, i_add, i_mod, i_div, i_mul, ix_tup, ix_frz, ix_loc, oLen, is_int_int, is_int_bool, is_tup_tup, is_loc_tup, is_int_tup, is_loc_list, hi, e])
      exact trim_same rfl
    · have ix := ix_loc (i := (k : Nat)) hn
      rw [e] at ix
      simp only [fnD, sSeq, sNil, sRet, sIf, eV, eC, e2, eB, aCons, aNil, eCall, okW, bnd_ok, bndS_ok, List.map_cons, List.map_nil, List.cons_append, List.nil_append, List.length_cons, List.length_nil, List.getElem?_cons_zero, List.getElem?_cons_succ, Nat.reduceAdd, if_true, Nat.sub_self, List.replicate_zero, oLen, hn, i_lt, List.length_map, hi, decide_true, ix]
      rw [trim_same rfl]
  · refine ⟨0, ?_⟩
    have hi : ¬ (k : Int) < (ns.length : Int) := by omega
    rcases h with rfl | ⟨n, rfl, hn⟩
    · (simp [Dn.fnD, sSeq, sNil, sRet, sRetN, sExpr, sIf, sAsg, sSetIx, Dn.eV, Dn.eC, Dn.e2, eB, bAnd, bOr, bNot, vAnd, vOr, vNot, eIf, eChain, aNil, aCons, eTup, eLst, eCall, Dn.okW, bnd_ok, bndS_ok, bnd0_ok, gN, gT, gsC, gsN, i_lt, i_le, i_gt, i_ge, i_sub, i_add, i_mod, i_div, i_mul, ix_tup, ix_frz, ix_loc, oLen, is_int_int, is_int_bool, is_tup_tup, is_loc_tup, is_int_tup, is_loc_list, hi])
      exact trim_same rfl
    · simp only [fnD, sSeq, sNil, sRet, sIf, eV, eC, e2, eB, aCons, aNil, eCall, okW, bnd_ok, bndS_ok, List.map_cons, List.map_nil, List.cons_append, List.nil_append, List.length_cons, List.length_nil, List.getElem?_cons_zero, List.getElem?_cons_succ, Nat.reduceAdd, if_true, Nat.sub_self, List.replicate_zero, oLen, hn, i_lt, List.length_map, hi, decide_false, Bool.false_eq_true, if_false]
      rw [trim_same rfl]
theorem f_dice_ok {i : Int} {st : Store} : ∃ a b : Int, f__law_dice [.int i] st = some (.ok (.loc st.length) (st ++ [[.int a, .int b]])) := by
  unfold f__law_dice F__law_dice
  have lg : Nat.log2 2147483647 < 9000 := by decide +kernel
  have pw : oPow (.int 10) (.int 18) st = some (.ok (.int 1000000000000000000) st) := by
    have e : (10 : Int) ^ (18 : Int).toNat = 1000000000000000000 := by decide +kernel
    have c : decide ((0 : Int) ≤ 18 ∧ (18 : Int) ≤ 1000000 ∧ (10 : Int).natAbs < 2 ^ 64) = true := by decide +kernel
    show (if decide ((0 : Int) ≤ 18 ∧ (18 : Int) ≤ 1000000 ∧ (10 : Int).natAbs < 2 ^ 64) = true then (okW (W.int ((10 : Int) ^ (18 : Int).toNat)) st : Option (Res W)) else none) = _
    rw [if_pos c, e]
    rfl
  have m1 : oTimes (.int (i / 2147483647)) (.int 1) st = some (.ok (.int (i / 2147483647 * 1)) st) := i_mul (by omega)
  have m0 : oTimes (.int (i / 2147483647)) (.int 0) st = some (.ok (.int (i / 2147483647 * 0)) st) := i_mul (by omega)
  have lg2 : (2147483647 : Int).natAbs.log2 < 9000 := by decide +kernel
  have go : ∀ (v : Int) (b : Bool), decide (1000000000000000000 ≤ i) = b → oTimes (.int (i / 2147483647)) (.int (if b = true then 1 else 0)) st = some (.ok (.int v) st) →
      fnD 1 1 (sRet (eLst (aCons (e2 oMod (eV 0) (eC (.int 2147483647))) (aCons (e2 oTimes (e2 oDiv (eV 0) (eC (.int 2147483647))) (eCall oInt (aCons (e2 oGe (eV 0) (e2 oPow (eC (.int 10)) (eC (.int 18)))) aNil))) aNil)))) [.int i] st = some (.ok (.loc st.length) (st ++ [[.int (i % 2147483647), .int v]])) := fun v b hb hv => by
    simp only [fnD, sRet, eLst, aCons, aNil, e2, eCall, eV, eC, okW, bnd_ok, List.map_cons, List.map_nil, List.cons_append, List.nil_append, List.length_cons, List.length_nil, List.getElem?_cons_zero, Nat.reduceAdd, if_true, i_mod, i_div]
    rw [if_pos (by omega)]
    simp only [bnd_ok]
    rw [if_pos ⟨by omega, lg2⟩]
    simp only [bnd_ok]
    rw [pw]
    simp only [bnd_ok, i_ge, hb, oInt, okW]
    rw [hv]
    simp only [bnd_ok]
    rw [if_pos (by simp)]
    simp only [bndS_ok]
    rw [trim_new rfl]
  by_cases c : 1000000000000000000 ≤ i
  · exact ⟨i % 2147483647, i / 2147483647 * 1, go _ true (decide_eq_true c) (by simpa using m1)⟩
  · exact ⟨i % 2147483647, i / 2147483647 * 0, go _ false (decide_eq_false c) (by simpa using m0)⟩
end Pd

set_option Elab.async false
set_option linter.all false
set_option maxRecDepth 100000
set_option maxHeartbeats 1000000
/-! Ma11: the law's own coming. -/
namespace Pd
open PySem PySem.Spec PyProof.Rows L2 Dn
open Classical
theorem sorted_row {n : Nat} {r : List Int} {st : Store} (h : st[n]? = some (intsW r)) (hl : r.length < 64) : oSorted [.loc n] st = some (.ok (.loc st.length) (st ++ [intsW (sortI r)])) := by
  unfold oSorted
  simp only [h]
  have : allS ((intsW r).map asInt) = some r := asInts
  rw [this]
  simp only
  rw [if_pos hl]
  rfl
/-- [tuple(sorted(row)) for row in rows] -/
theorem tups_sorted {sl0 : Sl} {st : Store} {rows : List (List Int)} (h8 : 6 < sl0.length) (hb : ∀ r ∈ rows, r.length < 64) (few : rows.length < 1000) : ∀ {k i : Nat} {acc : List W} {T : Store}, rows.length - i = k → i ≤ rows.length → acc.length = i →
    ∃ T' : Store, lcD (gN 6) bYes (eCall oTuple (aCons (eCall oSorted (aCons (eV 6) aNil)) aNil)) sl0 (hst st rows).length (some st.length) (locsW st.length rows.length) ((locsW st.length rows.length).drop i) (hst st rows ++ (acc :: T)) =
      some (.ok (.loc (hst st rows).length) (hst st rows ++ ((acc ++ (rows.drop i).map fun r => rowW (sortI r)) :: T'))) := by
  have stay : ∀ T : Store, stays (hst st rows ++ T) (some st.length, locsW st.length rows.length) := fun T => by
    unfold stays
    simp only
    rw [List.getElem?_append_left (by rw [hst_len]; omega), hst_top]
  intro k
  induction k with
  | zero =>
    intro i acc T hk hi ha
    have : i = rows.length := by omega
    subst this
    refine ⟨T, ?_⟩
    have e : (locsW st.length rows.length).drop rows.length = [] := by simp [locsW]
    rw [e]
    unfold lcD
    rw [if_pos (stay _)]
    simp [okW]
  | succ k ih =>
    intro i acc T hk hi ha
    have hlt : i < rows.length := by omega
    have hl2 : i < (locsW st.length rows.length).length := by simpa [locsW] using hlt
    have hrow : rows[i]? = some rows[i] := List.getElem?_eq_getElem hlt
    obtain ⟨T', e'⟩ := ih (i := i + 1) (acc := acc ++ [rowW (sortI rows[i])]) (T := T ++ [intsW (sortI rows[i])]) (by omega) hlt (by simp [ha])
    refine ⟨T', ?_⟩
    rw [List.drop_eq_getElem_cons hl2]
    unfold lcD
    rw [if_pos (stay _)]
    have e0 : (locsW st.length rows.length)[i] = W.loc (st.length + 1 + i) := by simp [locsW]
    have e1 : eCall oTuple (aCons (eCall oSorted (aCons (eV 6) aNil)) aNil) (sl0.set 6 (some (W.loc (st.length + 1 + i)))) (hst st rows ++ (acc :: T)) = some (.ok (rowW (sortI rows[i])) (hst st rows ++ (acc :: T) ++ [intsW (sortI rows[i])])) := by
      have a1 : (sl0.set 6 (some (W.loc (st.length + 1 + i))))[6]? = some (some (W.loc (st.length + 1 + i))) := by rw [List.getElem?_set_self h8]
      have a2 : (hst st rows ++ (acc :: T))[st.length + 1 + i]? = some (intsW rows[i]) := by rw [List.getElem?_append_left (by rw [hst_len]; omega), hst_row hrow]
      have a3 : (hst st rows ++ (acc :: T) ++ [intsW (sortI rows[i])])[(hst st rows ++ (acc :: T)).length]? = some (intsW (sortI rows[i])) := by simp
      have sr := sorted_row (st := hst st rows ++ (acc :: T)) a2 (hb _ (List.getElem_mem hlt))
      simp only [eCall, aCons, aNil, eV, a1, okW, bnd_ok, sr, oTuple, a3]
      rfl
    simp only [gN, bYes, okW, bnd0_ok, if_true]
    rw [e0, e1]
    simp only [bnd0_ok]
    have e3 : (hst st rows ++ (acc :: T) ++ [intsW (sortI rows[i])])[(hst st rows).length]? = some acc := by
      rw [List.append_assoc, List.getElem?_append_right (Nat.le_refl _)]
      simp
    have e4 : (hst st rows ++ (acc :: T) ++ [intsW (sortI rows[i])]).set (hst st rows).length (acc ++ [rowW (sortI rows[i])]) = hst st rows ++ ((acc ++ [rowW (sortI rows[i])]) :: (T ++ [intsW (sortI rows[i])])) := by
      rw [List.append_assoc, List.set_append_right _ _ (Nat.le_refl _)]
      simp
    rw [e3]
    simp only
    rw [if_pos (by omega), e4, e']
    have e5 : (rows.drop i).map (fun r => rowW (sortI r)) = rowW (sortI rows[i]) :: (rows.drop (i + 1)).map fun r => rowW (sortI r) := by rw [List.drop_eq_getElem_cons hlt, List.map_cons]
    rw [e5, List.append_assoc]
    rfl

def comeAt (rows : List (List Int)) (j p : Int) : List (List Int) := if p ∈ rowAt rows j then rows else addAt rows j p
def comeR (ts : List (Int × Int × Int)) (rows : List (List Int)) (ls : List (Int × Int)) : List (List Int) := ls.foldl (fun rs x => comeAt rs (tieAt ts x.1).2.1 x.2) rows
theorem comeAt_len {rows : List (List Int)} {j p : Int} : (comeAt rows j p).length = rows.length := by unfold comeAt; split <;> simp [addAt]
theorem comeR_len {ts : List (Int × Int × Int)} : ∀ {ls : List (Int × Int)} {rows : List (List Int)}, (comeR ts rows ls).length = rows.length
  | [], _ => rfl
  | x :: ls, rows => by
    show (comeR ts (comeAt rows _ _) ls).length = _
    rw [comeR_len, comeAt_len]
theorem not_in_list {n : Nat} {p : Int} {r : List Int} {st : Store} (h : st[n]? = some (intsW r)) : oNi (.int p) (.loc n) st = some (.ok (.bl (!decide (p ∈ r))) st) := by
  unfold oNi inW
  rw [toD_int, toD_loc (n := 7) (g := W.int) (f := PyData.int) h fun x _ => toD_int]
  simp only [okW]
  rw [any_int]
/-- two lists of rows whose rows have the same members, the first without doubles -/
def Same (a b : List (List Int)) : Prop := a.length = b.length ∧ ∀ i, i < a.length → (a.getD i []).Nodup ∧ ∀ p, p ∈ a.getD i [] ↔ p ∈ b.getD i []
theorem sortI_eq {a b : List Int} (nd : a.Nodup) (h : ∀ p, p ∈ a ↔ p ∈ b) : sortI a = sortU b := by
  refine rise_eq (lt := (· < ·)) (fun x => by omega) (fun x y z => by omega) ?_ (sortU_lt b) fun k => ?_
  · have n2 : (sortI a).Nodup := (sortI_perm a).nodup_iff.mpr nd
    refine List.Pairwise.imp (fun {x y} hxy => ?_) (n2.and (sortI_sorted a))
    have h1 := hxy.1
    have h2 := hxy.2
    omega
  · rw [(sortI_perm a).mem_iff, h k, mem_sortU]
theorem Same.sort {a b : List (List Int)} (s : Same a b) : a.map sortI = b.map sortU := by
  refine List.ext_getElem (by simp [s.1]) fun i h1 h2 => ?_
  have hi : i < a.length := by simpa using h1
  have hb : i < b.length := by rw [← s.1]; exact hi
  obtain ⟨nd, m⟩ := s.2 i hi
  rw [List.getElem_map, List.getElem_map]
  rw [List.getD_eq_getElem?_getD, List.getElem?_eq_getElem hi] at nd m
  refine sortI_eq nd fun p => ?_
  have := m p
  rw [List.getD_eq_getElem?_getD, List.getElem?_eq_getElem hb] at this
  exact this
theorem Same.step {a b : List (List Int)} {j p : Int} (s : Same a b) (h0 : 0 ≤ j) (h1 : j < a.length) : Same (comeAt a j p) (addAt b j p) := by
  have hj : j.toNat < a.length := by omega
  have hjb : j.toNat < b.length := by rw [← s.1]; exact hj
  refine ⟨by rw [comeAt_len]; simp [addAt, s.1], fun i hi => ?_⟩
  rw [comeAt_len] at hi
  obtain ⟨nd, m⟩ := s.2 i hi
  by_cases e : i = j.toNat
  · subst e
    have eb : (addAt b j p).getD j.toNat [] = rowAt b j ++ [p] := by unfold addAt; simp [List.getD_eq_getElem?_getD, hjb]
    rw [eb]
    unfold comeAt
    by_cases hp : p ∈ rowAt a j
    · rw [if_pos hp]
      refine ⟨nd, fun q => ?_⟩
      rw [m q, List.mem_append, List.mem_singleton]
      exact ⟨.inl, fun h => h.elim id fun h => by rw [h]; exact (m p).mp hp⟩
    · rw [if_neg hp]
      have ea : (addAt a j p).getD j.toNat [] = rowAt a j ++ [p] := by unfold addAt; simp [List.getD_eq_getElem?_getD, hj]
      rw [ea]
      refine ⟨List.nodup_append.mpr ⟨nd, by simp, fun x hx y hy => by rw [List.mem_singleton.mp hy]; exact fun z => hp (z ▸ hx)⟩, fun q => ?_⟩
      rw [List.mem_append, List.mem_append]
      exact or_congr (m q) Iff.rfl
  · have eb : (addAt b j p).getD i [] = b.getD i [] := by unfold addAt; simp [List.getD_eq_getElem?_getD, List.getElem?_set_ne (Ne.symm e)]
    have ea : (comeAt a j p).getD i [] = a.getD i [] := by
      unfold comeAt
      split
      · rfl
      · unfold addAt; simp [List.getD_eq_getElem?_getD, List.getElem?_set_ne (Ne.symm e)]
    rw [ea, eb]
    exact ⟨nd, m⟩
theorem Same.all {h m : Int} {ts : List (Int × Int × Int)} (g : GD h m ts) : ∀ {ls : List (Int × Int)} {a b : List (List Int)}, Same a b → (a.length : Int) = h → (∀ x ∈ ls, letP ts m x) → Same (comeR ts a ls) (bringL ts b ls)
  | [], a, b, s, _, _ => s
  | x :: ls, a, b, s, ha, hl => by
    obtain ⟨l1, l2, _, _⟩ := hl x (List.mem_cons_self ..)
    have tb := tieAt_ok g l1 l2
    exact Same.all g (ls := ls) (s.step tb.2.2.1 (by have := tb.2.2.2.1; omega)) (by rw [comeAt_len]; exact ha) fun y hy => hl y (List.mem_cons_of_mem _ hy)
theorem come_next {h m : Int} {ts : List (Int × Int × Int)} {cur : List (List Int)} {ls : List (Int × Int)} (g : GD h m ts) (gh : GH h m cur) (hl : ∀ x ∈ ls, letP ts m x) : (comeR ts cur ls).map sortI = nextH ts cur ls :=
  (Same.all g ⟨rfl, fun i hi => ⟨by
    rw [List.getD_eq_getElem?_getD, List.getElem?_eq_getElem hi]
    exact List.Pairwise.imp (fun {x y} h => by omega) (gh.rise _ (List.getElem_mem hi)), fun p => Iff.rfl⟩⟩ gh.len hl).sort
end Pd

set_option Elab.async false
set_option linter.all false
set_option maxRecDepth 100000
set_option maxHeartbeats 1000000
/-! Ma12: _law_come. -/
namespace Pd
open PySem PySem.Spec PyProof.Rows L2 Dn
open Classical
noncomputable def bodyC : SD := (sSeq (sAsg (e2 oIx (eV 3) (e2 oIx (e2 oIx (e2 oIx (eV 0) (eC (.int 2))) (eV 4)) (eC (.int 1)))) (gN 6))
  (sIf (eB (e2 oNi (eV 5) (eV 6))) (sExpr (eApp (eV 6) (eV 5))) sNil))
theorem law_come_loop {h m : Int} {ts : List (Int × Int × Int)} {st : Store} {all : List W} {on : Option Nat} (hon : ∀ rows, stays (hst st rows) (on, all)) {H L : Option W} (g : GD h m ts) (d : TgD) (hd : d = gT 2 (gsC (gN 4) (gsC (gN 5) gsN))) : ∀ {ls : List (Int × Int)} {rows : List (List Int)} {s4 s5 s6 : Option W}, (rows.length : Int) = h → (∀ x ∈ ls, letP ts m x) → (∀ r ∈ rows, r.length + ls.length < 1000) →
    ∃ a b c : Option W, forD d bodyC on all (ls.map pairW) [some (dealW h m ts), H, L, some (.loc st.length), s4, s5, s6] (hst st rows) =
      some (.nx [some (dealW h m ts), H, L, some (.loc st.length), a, b, c] (hst st (comeR ts rows ls)))
  | [], rows, s4, s5, s6, _, _, _ => by
    refine ⟨s4, s5, s6, ?_⟩
    rw [List.map_nil, forD, if_pos (hon rows)]
    rfl
  | x :: ls, rows, s4, s5, s6, hr, hl, hb => by
    obtain ⟨l1, l2, _, _⟩ := hl x (List.mem_cons_self ..)
    have tb := tieAt_ok g l1 l2
    have j0 : 0 ≤ (tieAt ts x.1).2.1 := tb.2.2.1
    have j1 : (tieAt ts x.1).2.1 < rows.length := by have := tb.2.2.2.1; omega
    have hrow := row_at j0 j1
    have hmem : rowAt rows (tieAt ts x.1).2.1 ∈ rows := List.mem_of_getElem? hrow
    have hlen := hb _ hmem
    obtain ⟨a, b, c, ih⟩ := law_come_loop hon (H := H) (L := L) g d hd (ls := ls) (rows := comeAt rows (tieAt ts x.1).2.1 x.2) (s4 := some (.int x.1)) (s5 := some (.int x.2)) (s6 := some (.loc (st.length + 1 + (tieAt ts x.1).2.1.toNat))) (by rw [comeAt_len]; exact hr) (fun y hy => hl y (List.mem_cons_of_mem _ hy)) (fun r hr2 => by
      unfold comeAt at hr2
      split at hr2
      · have := hb r hr2; simp at this; omega
      · rcases List.mem_or_eq_of_mem_set hr2 with h | h
        · have := hb r h; simp at this; omega
        · rw [h]; simp at hlen ⊢; omega)
    refine ⟨a, b, c, ?_⟩
    rw [List.map_cons, forD, if_pos (hon rows)]
    have e1 : d (pairW x) [some (dealW h m ts), H, L, some (.loc st.length), s4, s5, s6] = some [some (dealW h m ts), H, L, some (.loc st.length), some (.int x.1), some (.int x.2), s6] := by
      subst hd
      simp [gT, pairW, gsC, gN, gsN]
    rw [e1]
    have d2 : atI [W.int h, W.int m, W.tup (ts.map tieW)] 2 = some (.tup (ts.map tieW)) := by simp [atI, ix32]
    have e0 : atI [W.int (tieAt ts x.1).1, W.int (tieAt ts x.1).2.1, W.int (tieAt ts x.1).2.2] 1 = some (.int (tieAt ts x.1).2.1) := by simp [atI, ix31]
    have e2' : bodyC [some (dealW h m ts), H, L, some (.loc st.length), some (.int x.1), some (.int x.2), s6] (hst st rows) =
        some (.nx [some (dealW h m ts), H, L, some (.loc st.length), some (.int x.1), some (.int x.2), some (.loc (st.length + 1 + (tieAt ts x.1).2.1.toNat))] (hst st (comeAt rows (tieAt ts x.1).2.1 x.2))) := by
      have f1 : e2 oIx (eV 3) (e2 oIx (e2 oIx (e2 oIx (eV 0) (eC (.int 2))) (eV 4)) (eC (.int 1))) [some (dealW h m ts), H, L, some (.loc st.length), some (.int x.1), some (.int x.2), s6] (hst st rows) = some (.ok (.loc (st.length + 1 + (tieAt ts x.1).2.1.toNat)) (hst st rows)) := by
        simp only [e2, eV, eC, okW, bnd_ok, List.getElem?_cons_zero, List.getElem?_cons_succ, dealW, ix_tup, d2]
        rw [atI_tie l1 l2]
        simp only [bnd_ok, tieW, ix_tup]
        rw [e0]
        simp only [bnd_ok]
        rw [ix_loc hst_top, atI_locs j0 j1]
      have nin := not_in_list (p := x.2) (st := hst st rows) (hst_row hrow)
      unfold bodyC
      simp only [sSeq, sAsg]
      rw [f1]
      simp only [bndS_ok, gN, List.set_cons_succ, List.set_cons_zero, sIf, eB, e2, eV, okW, bnd_ok, List.getElem?_cons_zero, List.getElem?_cons_succ, nin]
      unfold comeAt
      by_cases hp : x.2 ∈ rowAt rows (tieAt ts x.1).2.1
      · simp [hp, sNil]
      · simp only [hp, decide_false, Bool.not_false, if_true, if_false, sExpr, eApp, eV, okW, bnd_ok, List.getElem?_cons_zero, List.getElem?_cons_succ]
        rw [hst_row hrow]
        simp only
        rw [if_pos (by simp [intsW] at hlen ⊢; omega)]
        simp only [bndS_ok]
        have e9 : intsW (rowAt rows (tieAt ts x.1).2.1) ++ [W.int x.2] = intsW (rowAt rows (tieAt ts x.1).2.1 ++ [x.2]) := by simp [intsW]
        rw [e9, hst_set]
        rfl
    simp only
    rw [e2']
    simp only
    rw [ih]
    rfl
theorem comeR_few {ts : List (Int × Int × Int)} {b : Nat} : ∀ {ls : List (Int × Int)} {rows : List (List Int)}, (∀ r ∈ rows, r.length ≤ b) → (∀ x ∈ ls, 0 ≤ (tieAt ts x.1).2.1 ∧ (tieAt ts x.1).2.1 < rows.length) → ∀ r ∈ comeR ts rows ls, r.length ≤ b + ls.length
  | [], rows, h, _, r, hr => by simpa using h r hr
  | x :: ls, rows, h, hj, r, hr => by
    have j := hj x (List.mem_cons_self ..)
    have hm : rowAt rows (tieAt ts x.1).2.1 ∈ rows := List.mem_of_getElem? (row_at j.1 j.2)
    have := comeR_few (b := b + 1) (ls := ls) (rows := comeAt rows (tieAt ts x.1).2.1 x.2) (fun r hr => by
      unfold comeAt at hr
      split at hr
      · have := h r hr; omega
      · rcases List.mem_or_eq_of_mem_set hr with h2 | h2
        · have := h r h2; omega
        · rw [h2]; have := h _ hm; simp; omega) (fun y hy => by have := hj y (List.mem_cons_of_mem _ hy); rw [comeAt_len]; exact this) r hr
    simp
    omega
theorem f_law_come_ok {k : Nat} {h m : Int} {ts : List (Int × Int × Int)} {hs : List (List Int)} {ls : List (Int × Int)} {st : Store} (g : GD h m ts) (gh : GH h m hs) (hl : ∀ x ∈ ls, letP ts m x) (few : ls.length ≤ 40) (hk : st[k]? = some (ls.map pairW)) :
    f__law_come [dealW h m ts, holdW hs, .loc k] st = some (.ok (holdW (nextH ts hs ls)) st) := by
  unfold f__law_come F__law_come holdW
  have hh : hs.length ≤ 4 := by have := gh.len; have := g.h4; omega
  have hk2 : ∀ rows, (hst st rows)[k]? = some (ls.map pairW) := fun rows => by unfold hst; rw [List.getElem?_append_left (List.getElem?_eq_some_iff.mp hk).1]; exact hk
  have made := lists_made (sl0 := [some (dealW h m ts), some (.tup (hs.map rowW)), some (.loc k), none, none, none, none]) (k := 6) (all := hs.map rowW) (st := st) (by simp) (rest := hs) (done := []) (by simp; omega)
  rw [← hst_nil] at made
  simp only [List.nil_append] at made
  obtain ⟨a, b, c, loop⟩ := law_come_loop (on := some k) (fun rows => hk2 rows) (H := some (.tup (hs.map rowW))) (L := some (.loc k)) (st := st) (all := ls.map pairW) g _ rfl (ls := ls) (rows := hs) (s4 := none) (s5 := none) (s6 := none) gh.len hl (fun r hr => by have := gh.few r hr; omega)
  have j : ∀ x ∈ ls, 0 ≤ (tieAt ts x.1).2.1 ∧ (tieAt ts x.1).2.1 < hs.length := fun x hx => by
    obtain ⟨l1, l2, _, _⟩ := hl x hx
    have tb := tieAt_ok g l1 l2
    have := gh.len
    exact ⟨tb.2.2.1, by have := tb.2.2.2.1; omega⟩
  have rl : ∀ r ∈ comeR ts hs ls, r.length < 64 := fun r hr => by have := comeR_few (b := 4) gh.few j r hr; omega
  obtain ⟨T', tm⟩ := tups_sorted (sl0 := [some (dealW h m ts), some (.tup (hs.map rowW)), some (.loc k), some (.loc st.length), a, b, none]) (st := st) (rows := comeR ts hs ls) (by simp) rl (by rw [comeR_len]; omega) (k := (comeR ts hs ls).length) (i := 0) (acc := []) (T := []) rfl (Nat.zero_le _) rfl
  rw [List.drop_zero, List.drop_zero, List.nil_append] at tm
  unfold bodyC at loop
  (simp [Dn.fnD, sSeq, sNil, sRet, sRetN, sExpr, sIf, sAsg, sSetIx, Dn.eV, Dn.eC, Dn.e2, eB, bAnd, bOr, bNot, vAnd, vOr, vNot, eIf, eChain, aNil, aCons, eTup, eLst, eCall, Dn.okW, bnd_ok, bndS_ok, bnd0_ok, gN, gT, gsC, gsN, i_lt, i_le, i_gt, i_ge, i_sub, i_add, i_mod, i_div, i_mul, ix_tup, ix_frz, ix_loc, oLen, is_int_int, is_int_bool, is_tup_tup, is_loc_tup, is_int_tup, is_loc_list, eLc, wkQ, wipeW])
  rw [made]
  simp only [hk2, bndS_ok, sFor, wkQ, eV, okW, bnd_ok, List.getElem?_cons_zero, List.getElem?_cons_succ, List.set_cons_succ, List.set_cons_zero]
  rw [loop]
  simp only [bndS_ok, bnd_ok, List.getElem?_cons_zero, List.getElem?_cons_succ, List.set_cons_succ, List.set_cons_zero, hst_top]
  rw [tm]
  simp only [bnd_ok, oTuple, okW, List.getElem?_append_right (Nat.le_refl _), Nat.sub_self, List.getElem?_cons_zero, bndS_ok]
  have e : (W.tup ((comeR ts hs ls).map fun r => rowW (sortI r))) = holdW (nextH ts hs ls) := by rw [← come_next g gh hl]; unfold holdW; rw [List.map_map]; rfl
  rw [e]
  rw [trim_cut (t := locsW st.length (comeR ts hs ls).length :: (comeR ts hs ls).map intsW ++ ((comeR ts hs ls).map (fun r => rowW (sortI r)) :: T')) (by unfold hst; simp) below_hold]
  unfold holdW
  rfl
end Pd

set_option Elab.async false
set_option linter.all false
set_option maxRecDepth 100000
set_option maxHeartbeats 1000000
/-! Ma13: _law_lossy. -/
namespace Pd
open PySem PySem.Spec PyProof.Rows L2 Dn
open Classical
noncomputable def bodyQ : SD := (sSeq (sAsg (eLc (wkQ (e2 oIx (eV 2) (eV 5))) [7] (gN 7) (eB (e2 oIn (e2 oIx (eV 7) (eC (.int 1))) (e2 oIx (e2 oIx (eV 4) (eNeg (eC (.int 1)))) (e2 oIx (e2 oIx (e2 oIx (eV 0) (eC (.int 2))) (e2 oIx (eV 7) (eC (.int 0)))) (eC (.int 0)))))) (eV 7)) (gN 6))
  (sSeq (sAsg (eLc (wkQ (eV 6)) [7] (gN 7) (eB (e2 oNi (eTup (aCons (eV 5) (aCons (e2 oIx (eV 7) (eC (.int 0))) (aCons (e2 oIx (eV 7) (eC (.int 1))) aNil)))) (eV 3))) (eV 7)) (gN 6))
  (sExpr (eApp (eV 4) (eCall f__law_come (aCons (eV 0) (aCons (e2 oIx (eV 4) (eNeg (eC (.int 1)))) (aCons (eV 6) aNil))))))))
theorem atP0 {x : Int × Int} : atI [W.int x.1, W.int x.2] 0 = some (.int x.1) := by simp [atI, ix20]
theorem atP1 {x : Int × Int} : atI [W.int x.1, W.int x.2] 1 = some (.int x.2) := by simp [atI, ix21]
theorem bodyQ_ok {h m n : Int} {ts lost : List (Int × Int × Int)} {accs : List (List (List Int))} {cur : List (List Int)} {pl : List W} {ls : List (Int × Int)} {st T : Store} {s6 s7 : Option W} {Hd : W} (g : GD h m ts) (gh : GH h m cur) (r : GR ts m ls) (few : accs.length < 900) (hn : atI pl n = some (letsW ls)) :
    ∃ (T' : Store) (t6 : Option W), bodyQ [some (dealW h m ts), some Hd, some (.tup pl), some (lostW lost), some (.loc st.length), some (.int n), s6, s7] (st ++ ((accs ++ [cur]).map holdW :: T)) =
      some (.nx [some (dealW h m ts), some Hd, some (.tup pl), some (lostW lost), some (.loc st.length), some (.int n), t6, s7] (st ++ ((accs ++ [cur] ++ [lossN ts lost n cur ls]).map holdW :: T'))) := by
  obtain ⟨S, hS⟩ : ∃ S : Store, S = st ++ ((accs ++ [cur]).map holdW :: T) := ⟨_, rfl⟩
  rw [← hS]
  have top : S[st.length]? = some ((accs ++ [cur]).map holdW) := by rw [hS]; simp
  have last : atI ((accs ++ [cur]).map holdW) (-1) = some (holdW cur) := by rw [List.map_append, List.map_cons, List.map_nil]; exact atI_last
  have ltop : st.length < S.length := (List.getElem?_eq_some_iff.mp top).1
  have d2 : atI [W.int h, W.int m, W.tup (ts.map tieW)] 2 = some (.tup (ts.map tieW)) := by simp [atI, ix32]
  refine ⟨T ++ [(sendL ts cur ls).map pairW] ++ [(comeL lost n (sendL ts cur ls)).map pairW], some (.loc (S.length + 1)), ?_⟩
  -- what is there
  have k1 := lcD_ok (C := Int × Int) (d := gN 7) (p := eB (e2 oIn (e2 oIx (eV 7) (eC (.int 1))) (e2 oIx (e2 oIx (eV 4) (eNeg (eC (.int 1)))) (e2 oIx (e2 oIx (e2 oIx (eV 0) (eC (.int 2))) (e2 oIx (eV 7) (eC (.int 0)))) (eC (.int 0)))))) (f := eV 7)
    (sl0 := [some (dealW h m ts), some Hd, some (.tup pl), some (lostW lost), some (.loc st.length), some (.int n), s6, none]) (st0 := S) (on := none) (all := ls.map pairW)
    (b := fun x => decide (x.2 ∈ rowAt cur (tieAt ts x.1).1)) (g := pairW) (src := pairW) (fun acc => True.intro) (l := ls) (acc := []) (fun x hx => by
      obtain ⟨l1, l2, l3, l4⟩ := r.let_ x hx
      have tb := tieAt_ok g l1 l2
      have r0 : 0 ≤ (tieAt ts x.1).1 := tb.1
      have r1 : (tieAt ts x.1).1 < cur.length := by have := tb.2.1; have := gh.len; omega
      refine ⟨[some (dealW h m ts), some Hd, some (.tup pl), some (lostW lost), some (.loc st.length), some (.int n), s6, some (pairW x)], by simp [gN], fun acc => ?_⟩
      have topA : (S ++ [acc])[st.length]? = some ((accs ++ [cur]).map holdW) := by rw [List.getElem?_append_left ltop, top]
      have e0 : atI [W.int (tieAt ts x.1).1, W.int (tieAt ts x.1).2.1, W.int (tieAt ts x.1).2.2] 0 = some (.int (tieAt ts x.1).1) := by simp [atI, ix30]
      constructor
      · simp only [eB, e2, eNeg, eV, eC, okW, bnd_ok, List.getElem?_cons_zero, List.getElem?_cons_succ, pairW, ix_tup, atP1, atP0, ix_loc topA, Int.reduceNeg, last, dealW, d2]
        rw [atI_tie l1 l2]
        simp only [bnd_ok, tieW, ix_tup, e0, holdW]
        rw [atI_row r0 r1]
        simp only [bnd_ok, in_row]
      · intro _
        simp [eV, okW]) (by have := r.few; simp; omega)
  simp only [List.nil_append] at k1
  have ec1 : ls.filter (fun x => decide (x.2 ∈ rowAt cur (tieAt ts x.1).1)) = sendL ts cur ls := rfl
  rw [ec1] at k1
  obtain ⟨S1, hS1⟩ : ∃ S1 : Store, S1 = S ++ [(sendL ts cur ls).map pairW] := ⟨_, rfl⟩
  rw [← hS1] at k1
  have l1 : S1.length = S.length + 1 := by rw [hS1]; simp
  have top1 : S1[st.length]? = some ((accs ++ [cur]).map holdW) := by rw [hS1, List.getElem?_append_left ltop, top]
  have sent1 : S1[S.length]? = some ((sendL ts cur ls).map pairW) := by rw [hS1]; simp
  have sl1 : (sendL ts cur ls).length ≤ 32 := Nat.le_trans (List.length_filter_le _ _) r.few
  have k2 := lcD_ok (C := Int × Int) (d := gN 7) (p := eB (e2 oNi (eTup (aCons (eV 5) (aCons (e2 oIx (eV 7) (eC (.int 0))) (aCons (e2 oIx (eV 7) (eC (.int 1))) aNil)))) (eV 3))) (f := eV 7)
    (sl0 := [some (dealW h m ts), some Hd, some (.tup pl), some (lostW lost), some (.loc st.length), some (.int n), some (.loc S.length), none]) (st0 := S1) (on := some S.length) (all := (sendL ts cur ls).map pairW)
    (b := fun x => !decide ((n, x.1, x.2) ∈ lost)) (g := pairW) (src := pairW) (fun acc => by show (S1 ++ [acc])[S.length]? = _; rw [List.getElem?_append_left (by omega), sent1]) (l := sendL ts cur ls) (acc := []) (fun x hx => by
      refine ⟨[some (dealW h m ts), some Hd, some (.tup pl), some (lostW lost), some (.loc st.length), some (.int n), some (.loc S.length), some (pairW x)], by simp [gN], fun acc => ?_⟩
      constructor
      · have e := not_in_lost (t := (n, x.1, x.2)) (lost := lost) (st := S1 ++ [acc])
        unfold tripW at e
        simp only [eB, e2, eTup, aCons, aNil, eV, eC, okW, bnd_ok, List.getElem?_cons_zero, List.getElem?_cons_succ, pairW, ix_tup, atP0, atP1]
        rw [if_pos (by simp)]
        simp only [bnd_ok]
        rw [e]
        rfl
      · intro _
        simp [eV, okW]) (by simp; omega)
  simp only [List.nil_append] at k2
  have ec : (sendL ts cur ls).filter (fun x => !decide ((n, x.1, x.2) ∈ lost)) = comeL lost n (sendL ts cur ls) := rfl
  rw [ec, l1] at k2
  obtain ⟨S2, hS2⟩ : ∃ S2 : Store, S2 = S1 ++ [(comeL lost n (sendL ts cur ls)).map pairW] := ⟨_, rfl⟩
  rw [← hS2] at k2
  have top2 : S2[st.length]? = some ((accs ++ [cur]).map holdW) := by rw [hS2, List.getElem?_append_left (by omega), top1]
  have come2 : S2[S.length + 1]? = some ((comeL lost n (sendL ts cur ls)).map pairW) := by rw [hS2, ← l1]; simp
  have cl : (comeL lost n (sendL ts cur ls)).length ≤ 40 := Nat.le_trans (List.length_filter_le _ _) (by omega)
  have c3 := f_law_come_ok (k := S.length + 1) (st := S2) g gh (ls := comeL lost n (sendL ts cur ls)) (fun x hx => r.let_ x (sendL_sub (comeL_sub hx))) cl come2
  unfold bodyQ
  simp only [sSeq, sExpr, sAsg, eLc, wkQ, e2, eV, okW, bnd_ok, bndS_ok, List.getElem?_cons_zero, List.getElem?_cons_succ, ix_tup, hn, letsW, wipeW, gN, List.set_cons_zero, List.set_cons_succ]
  rw [k1]
  simp only [bndS_ok, bnd_ok, okW, List.getElem?_cons_zero, List.getElem?_cons_succ, List.set_cons_zero, List.set_cons_succ, sent1]
  rw [l1, k2]
  simp only [bndS_ok, eApp, eV, eCall, aCons, aNil, eC, eNeg, e2, okW, bnd_ok, List.getElem?_cons_zero, List.getElem?_cons_succ, ix_loc top2, Int.reduceNeg, last, c3, top2]
  rw [if_pos (by simp; omega)]
  simp only [bndS_ok]
  have fin : S2.set st.length ((accs ++ [cur]).map holdW ++ [holdW (nextH ts cur (comeL lost n (sendL ts cur ls)))]) = st ++ ((accs ++ [cur] ++ [lossN ts lost n cur ls]).map holdW :: (T ++ [(sendL ts cur ls).map pairW] ++ [(comeL lost n (sendL ts cur ls)).map pairW])) := by
    rw [hS2, hS1, hS]
    simp [lossN]
  rw [fin]
/-- the numbers from k on -/
def numsW : Nat → Nat → List W
  | _, 0 => []
  | k, c + 1 => .int (k : Nat) :: numsW (k + 1) c
theorem rng_nums (n : Nat) : rngW 0 n = numsW 0 n := by
  have : ∀ (c k : Nat), ((List.range c).map fun (i : Nat) => W.int ((k : Int) + (i : Int))) = numsW k c := by
    intro c
    induction c with
    | zero => intro k; rfl
    | succ c ih =>
      intro k
      rw [List.range_succ_eq_map, List.map_cons, List.map_map]
      unfold numsW
      rw [← ih (k + 1)]
      simp only [Int.natCast_zero, Int.add_zero, List.cons.injEq, true_and]
      refine List.map_congr_left fun i _ => ?_
      simp only [Function.comp]
      congr 1
      omega
  have h := this n 0
  simpa [rngW] using h
theorem loopQ {h m : Int} {ts lost : List (Int × Int × Int)} {st : Store} {Hd : W} {all : List W} {pl : List W} (g : GD h m ts) : ∀ {plan : List (List (Int × Int))} {k : Nat} {accs : List (List (List Int))} {cur : List (List Int)} {T : Store} {s5 s6 s7 : Option W},
    GH h m cur → (∀ ls ∈ plan, GR ts m ls) → accs.length + plan.length < 900 → (∀ i ls, plan[i]? = some ls → atI pl ((k + i : Nat) : Int) = some (letsW ls)) →
    ∃ (T' : Store) (t5 t6 t7 : Option W), forD (gN 5) bodyQ none all (numsW k plan.length) [some (dealW h m ts), some Hd, some (.tup pl), some (lostW lost), some (.loc st.length), s5, s6, s7] (st ++ ((accs ++ [cur]).map holdW :: T)) =
      some (.nx [some (dealW h m ts), some Hd, some (.tup pl), some (lostW lost), some (.loc st.length), t5, t6, t7] (st ++ ((accs ++ [cur] ++ lossL ts lost k cur plan).map holdW :: T')))
  | [], k, accs, cur, T, s5, s6, s7, gh, _, _, _ => by
    refine ⟨T, s5, s6, s7, ?_⟩
    rw [List.length_nil, show numsW k 0 = [] from rfl, forD, if_pos (show stays _ (none, _) from True.intro)]
    simp [lossL]
  | ls :: plan, k, accs, cur, T, s5, s6, s7, gh, hp, hl, hat => by
    have r := hp ls (List.mem_cons_self ..)
    obtain ⟨T1, t6, e1⟩ := bodyQ_ok (n := (k : Nat)) (lost := lost) (accs := accs) (st := st) (T := T) (pl := pl) (Hd := Hd) (s6 := s6) (s7 := s7) g gh r (by simp at hl; omega) (by simpa using hat 0 ls rfl)
    obtain ⟨T', u5, u6, u7, e2⟩ := loopQ (lost := lost) (st := st) (Hd := Hd) (all := all) (pl := pl) g (plan := plan) (k := k + 1) (accs := accs ++ [cur]) (cur := lossN ts lost k cur ls) (T := T1) (s5 := some (.int (k : Nat))) (s6 := t6) (s7 := s7) (GH_loss g gh r) (fun x hx => hp x (List.mem_cons_of_mem _ hx)) (by simp at hl ⊢; omega) (fun i x hx => by have := hat (i + 1) x (by simpa using hx); rw [show k + 1 + i = k + (i + 1) by omega]; exact this)
    refine ⟨T', u5, u6, u7, ?_⟩
    have ea : accs ++ [cur] ++ lossL ts lost k cur (ls :: plan) = accs ++ [cur] ++ [lossN ts lost k cur ls] ++ lossL ts lost (k + 1) (lossN ts lost k cur ls) plan := by simp [lossL]
    rw [ea, ← e2, List.length_cons, show numsW k (plan.length + 1) = .int (k : Nat) :: numsW (k + 1) plan.length from rfl]
    rw [forD, if_pos (show stays _ (none, all) from True.intro)]
    simp only [gN, List.set_cons_zero, List.set_cons_succ]
    rw [e1]
theorem f_law_lossy_ok {h m : Int} {ts lost : List (Int × Int × Int)} {hs : List (List Int)} {plan : List (List (Int × Int))} {st : Store} (g : GD h m ts) (gh : GH h m hs) (hp : ∀ ls ∈ plan, GR ts m ls) (few : plan.length < 800) :
    f__law_lossy [dealW h m ts, holdW hs, .tup (plan.map letsW), lostW lost] st = some (.ok (.loc st.length) (st ++ [(hs :: lossL ts lost 0 hs plan).map holdW])) := by
  unfold f__law_lossy F__law_lossy
  obtain ⟨T', t5, t6, t7, e⟩ := loopQ (lost := lost) (st := st) (Hd := holdW hs) (all := numsW 0 plan.length) (pl := plan.map letsW) g (plan := plan) (k := 0) (accs := []) (cur := hs) (T := []) (s5 := none) (s6 := none) (s7 := none) gh hp (by simp; omega) (fun i ls hi => by
    have hlt := (List.getElem?_eq_some_iff.mp hi).1
    rw [atI_ok (by omega) (by simp; omega), Int.toNat_natCast, Nat.zero_add, List.getElem?_map, hi]
    rfl)
  simp only [List.append_nil, List.nil_append, List.cons_append, List.map_cons, List.map_nil] at e
  unfold bodyQ at e
  have b1 : (-1000000 : Int) ≤ (plan.length : Int) := by omega
  have b2 : (plan.length : Int) ≤ 1000000 := by omega
  (simp [Dn.fnD, sSeq, sNil, sRet, sRetN, sExpr, sIf, sAsg, sSetIx, Dn.eV, Dn.eC, Dn.e2, eB, bAnd, bOr, bNot, vAnd, vOr, vNot, eIf, eChain, aNil, aCons, eTup, eLst, eCall, Dn.okW, bnd_ok, bndS_ok, bnd0_ok, gN, gT, gsC, gsN, i_lt, i_le, i_gt, i_ge, i_sub, i_add, i_mod, i_div, i_mul, ix_tup, ix_frz, ix_loc, oLen, is_int_int, is_int_bool, is_tup_tup, is_loc_tup, is_int_tup, is_loc_list, sFor, wkR, b1, b2, rng_nums])
  rw [e]
  simp only [bndS_ok, List.getElem?_cons_zero, List.getElem?_cons_succ]
  rw [← List.map_cons, trim_more (belows_holds _)]
end Pd

set_option Elab.async false
set_option linter.all false
set_option maxRecDepth 100000
set_option maxHeartbeats 1000000
/-! Ma14: comprehensions whose test rolls. -/
namespace Pd
open PySem PySem.Spec PyProof.Rows L2 Dn
open Classical
/-- the store with other dice at dz -/
def dst (st : Store) (dz : Nat) (a b : Int) : Store := st.set dz [.int a, .int b]
theorem dst_len {st : Store} {dz : Nat} {a b : Int} : (dst st dz a b).length = st.length := by simp [dst]
theorem dst_dst {st : Store} {dz : Nat} {a b a' b' : Int} : dst (dst st dz a b) dz a' b' = dst st dz a' b' := by simp [dst]
theorem dst_at {st : Store} {dz : Nat} {a b : Int} (h : dz < st.length) : (dst st dz a b)[dz]? = some [.int a, .int b] := by unfold dst; rw [List.getElem?_set_self h]
theorem dst_ne {st : Store} {dz n : Nat} {a b : Int} (h : n ≠ dz) : (dst st dz a b)[n]? = st[n]? := by unfold dst; rw [List.getElem?_set_ne (Ne.symm h)]
theorem dst_okP {st : Store} {dz : Nat} {a b : Int} (h : okP st) : okP (dst st dz a b) := fun l hl => by
  rw [dst_len]
  exact okP_set h rfl l hl
theorem roll_at {st : Store} {dz : Nat} {a b most : Int} (h : dz < st.length) (h0 : 0 < most) (h1 : most < 1000) (hs : okP st) : ∃ r a' b' : Int, 0 ≤ r ∧ r < most ∧ f__law_roll [.loc dz, .int most] (dst st dz a b) = some (.ok (.int r) (dst st dz a' b')) := by
  obtain ⟨r, a', b', q0, q1, e⟩ := f_roll_ok (dst_at (a := a) (b := b) h) h0 h1 (dst_okP hs)
  exact ⟨r, a', b', q0, q1, by rw [e]; unfold dst; simp⟩
mutual
theorem below_le {n m : Nat} (h : n ≤ m) : ∀ {w : W}, below n w = true → below m w = true
  | .tup l, q => by simp only [below] at q ⊢; exact belows_le h q
  | .frz l, q => by simp only [below] at q ⊢; exact belows_le h q
  | .loc k, q => by simp only [below, decide_eq_true_eq] at q ⊢; omega
  | .non, _ => rfl
  | .bl _, _ => rfl
  | .int _, _ => rfl
  | .str _, _ => rfl
  | .ty _, _ => rfl
  | .obj _, _ => rfl
theorem belows_le {n m : Nat} (h : n ≤ m) : ∀ {l : List W}, belows n l = true → belows m l = true
  | [], _ => rfl
  | w :: l, q => by
    simp only [belows, Bool.and_eq_true] at q ⊢
    exact ⟨below_le h q.1, belows_le h q.2⟩
end
/-- no places at all -/
def pureL (l : List W) : Prop := ∀ n, belows n l = true
theorem belows_app {n : Nat} : ∀ {a b : List W}, belows n a = true → belows n b = true → belows n (a ++ b) = true
  | [], b, _, h => h
  | x :: a, b, h, hb => by
    simp only [belows, Bool.and_eq_true] at h
    rw [List.cons_append]
    simp only [belows, Bool.and_eq_true]
    exact ⟨h.1, belows_app h.2 hb⟩
theorem pure_app {l : List W} {w : W} (h : pureL l) (hw : ∀ n, below n w = true) : pureL (l ++ [w]) := fun n => belows_app (h n) (by simp only [belows, hw n]; rfl)
theorem okP_app {st : Store} {l : List W} (h : okP st) (hl : pureL l) : okP (st ++ [l]) := fun x hx => by
  rcases List.mem_append.mp hx with hx | hx
  · have := h x hx
    exact belows_le (by simp) this
  · rw [List.mem_singleton.mp hx]; exact hl _
theorem dst_app {st T : Store} {dz : Nat} {a b : Int} (h : dz < st.length) : dst (st ++ T) dz a b = dst st dz a b ++ T := by unfold dst; rw [List.set_append_left _ _ h]
/-- .. a list comprehension whose test rolls: some of the elements, in their order -/
theorem lcR_ok {C : Type} {d : TgD} {p : Den Bool} {f : Den W} {sl0 : Sl} {st0 : Store} {dz : Nat} {on : Option Nat} {all : List W} {g src : C → W} (hs : ∀ a b (acc : List W), stays (dst st0 dz a b ++ [acc]) (on, all)) (hg : ∀ x n, below n (g x) = true) :
    ∀ {l : List C} {acc : List W} {a b : Int}, (∀ x ∈ l, ∃ sl1, d (src x) sl0 = some sl1 ∧ ∀ (a b : Int) (acc : List W), pureL acc → ∃ (k : Bool) (a' b' : Int), p sl1 (dst st0 dz a b ++ [acc]) = some (.ok k (dst st0 dz a' b' ++ [acc])) ∧ f sl1 (dst st0 dz a' b' ++ [acc]) = some (.ok (g x) (dst st0 dz a' b' ++ [acc]))) → acc.length + l.length < 10000 → pureL acc →
      ∃ (l' : List C) (a' b' : Int), l'.Sublist l ∧ lcD d p f sl0 st0.length on all (l.map src) (dst st0 dz a b ++ [acc]) = some (.ok (.loc st0.length) (dst st0 dz a' b' ++ [acc ++ l'.map g]))
  | [], acc, a, b, _, _, _ => by
    refine ⟨[], a, b, .slnil, ?_⟩
    rw [List.map_nil, lcD, if_pos (hs a b acc)]
    simp [okW]
  | x :: l, acc, a, b, h, hl, hpu => by
    obtain ⟨sl1, e1, e2⟩ := h x (List.mem_cons_self ..)
    obtain ⟨k, a1, b1, e2, e3⟩ := e2 a b acc hpu
    have hl' : acc.length + 1 + l.length < 10000 := by simp at hl; omega
    rw [List.map_cons]
    cases k with
    | true =>
      obtain ⟨l', a', b', sub, ih⟩ := lcR_ok (src := src) (g := g) hs hg (l := l) (acc := acc ++ [g x]) (a := a1) (b := b1) (fun y hy => h y (List.mem_cons_of_mem _ hy)) (by simp; omega) (pure_app hpu (hg x))
      refine ⟨x :: l', a', b', sub.cons₂ x, ?_⟩
      rw [lcD, if_pos (hs a b acc), e1]
      simp only
      rw [e2]
      simp only [bnd0_ok, if_true]
      rw [e3]
      simp only [bnd0_ok]
      have e4 : (dst st0 dz a1 b1 ++ [acc])[st0.length]? = some acc := by rw [List.getElem?_append_right (by rw [dst_len]; exact Nat.le_refl _), dst_len]; simp
      have e5 : (dst st0 dz a1 b1 ++ [acc]).set st0.length (acc ++ [g x]) = dst st0 dz a1 b1 ++ [acc ++ [g x]] := by rw [List.set_append_right _ _ (by rw [dst_len]; exact Nat.le_refl _), dst_len]; simp
      rw [e4]
      simp only
      rw [if_pos (by omega), e5, ih]
      simp
    | false =>
      obtain ⟨l', a', b', sub, ih⟩ := lcR_ok (src := src) (g := g) hs hg (l := l) (acc := acc) (a := a1) (b := b1) (fun y hy => h y (List.mem_cons_of_mem _ hy)) (by omega) hpu
      refine ⟨l', a', b', sub.cons x, ?_⟩
      rw [lcD, if_pos (hs a b acc), e1]
      simp only
      rw [e2]
      simp only [bnd0_ok, Bool.false_eq_true, if_false]
      rw [ih]
/-- what a def that rolled leaves: the dice alone are other ones -/
theorem trim_dst {st T : Store} {dz : Nat} {a b : Int} {w : W} (hs : okP st) (hw : below st.length w = true) : trim st w (dst st dz a b ++ T) = .ok w (dst st dz a b) := by
  have e : (dst st dz a b ++ T).take st.length = dst st dz a b := by
    rw [List.take_append_of_le_length (by rw [dst_len]; exact Nat.le_refl _), List.take_of_length_le (by rw [dst_len]; exact Nat.le_refl _)]
  unfold trim
  rw [if_pos ⟨.inr (by rw [e]; exact okP_set hs rfl), by rw [List.length_append, dst_len]; omega⟩, if_pos hw, e]
end Pd

set_option Elab.async false
set_option linter.all false
set_option maxRecDepth 100000
set_option maxHeartbeats 1000000
/-! Ma15: lists and tuples put together. -/
namespace Pd
open PySem PySem.Spec PyProof.Rows L2 Dn
open Classical
theorem plus_tup {l l' : List W} {st : Store} (h : l.length + l'.length ≤ 20000) : oPlus (.tup l) (.tup l') st = some (.ok (.tup (l ++ l')) st) := by
  unfold oPlus
  have e1 : oAdd (.tup l) (.tup l') st = none := rfl
  have e2 : oCatL (.tup l) (.tup l') st = none := rfl
  rw [e1, e2]
  simp only
  unfold oCatT
  simp only
  rw [if_pos h]
  rfl
theorem plus_loc {i j : Nat} {l l' : List W} {st : Store} (hi : st[i]? = some l) (hj : st[j]? = some l') (h : l.length + l'.length ≤ 20000) : oPlus (.loc i) (.loc j) st = some (.ok (.loc st.length) (st ++ [l ++ l'])) := by
  unfold oPlus
  have e1 : oAdd (.loc i) (.loc j) st = none := rfl
  rw [e1]
  simp only
  unfold oCatL
  simp only [hi, hj]
  rw [if_pos h]
  rfl
theorem pure_map {C : Type} {g : C → W} (hg : ∀ x n, below n (g x) = true) (l : List C) : pureL (l.map g) := fun n => belows_map (fun x => hg x n) l
theorem below_trip {t : Int × Int × Int} {n : Nat} : below n (tripW t) = true := rfl
/-- the letters of a round that get lost -/
theorem lost_turn {st T : Store} {dz k n : Nat} {a b : Int} {pl : List W} {ls : List (Int × Int)} {out : List (Int × Int × Int)} {s5 : Option W} (hd : dz < st.length) (hs : okP (st ++ T)) (hk0 : st.length ≤ k) (hk : (dst st dz a b ++ T)[k]? = some (out.map tripW)) (hn : atI pl (n : Nat) = some (letsW ls)) (few : out.length + ls.length < 9000) :
    ∃ (more : List (Int × Int × Int)) (a' b' : Int) (T' : Store), more.length ≤ ls.length ∧ okP (st ++ T') ∧ (dst st dz a' b' ++ T')[(st ++ T).length + 1]? = some ((out ++ more).map tripW) ∧
      sAsg (e2 oPlus (eV 2) (eLc (wkQ (e2 oIx (eV 1) (eV 3))) [5] (gN 5) (eB (e2 oEqD (eCall f__law_roll (aCons (eV 0) (aCons (eC (.int 3)) aNil))) (eC (.int 0)))) (e2 oPlus (eTup (aCons (eV 3) aNil)) (eV 5)))) (gN 2) [some (.loc dz), some (.tup pl), some (.loc k), some (.int (n : Nat)), none, s5] (dst st dz a b ++ T) =
        some (.nx [some (.loc dz), some (.tup pl), some (.loc ((st ++ T).length + 1)), some (.int (n : Nat)), none, s5] (dst st dz a' b' ++ T')) := by
  have hd2 : dz < (st ++ T).length := by rw [List.length_append]; omega
  obtain ⟨l', a', b', sub, e⟩ := lcR_ok (C := Int × Int) (d := gN 5) (p := eB (e2 oEqD (eCall f__law_roll (aCons (eV 0) (aCons (eC (.int 3)) aNil))) (eC (.int 0)))) (f := e2 oPlus (eTup (aCons (eV 3) aNil)) (eV 5))
    (sl0 := [some (.loc dz), some (.tup pl), some (.loc k), some (.int (n : Nat)), none, none]) (st0 := st ++ T) (dz := dz) (on := none) (all := ls.map pairW) (g := fun x => tripW ((n : Nat), x.1, x.2)) (src := pairW) (fun a b acc => True.intro) (fun x n => below_trip) (l := ls) (acc := []) (a := a) (b := b)
    (fun x hx => ⟨[some (.loc dz), some (.tup pl), some (.loc k), some (.int (n : Nat)), none, some (pairW x)], by simp [gN], fun a b acc hp => by
      obtain ⟨r, a', b', _, _, er⟩ := roll_at (dz := dz) (st := st ++ T ++ [acc]) (a := a) (b := b) (most := 3) (by rw [List.length_append]; omega) (by omega) (by omega) (okP_app hs hp)
      rw [dst_app hd2, dst_app hd2] at er
      refine ⟨decide (r = 0), a', b', ?_, ?_⟩
      · simp only [eB, e2, eCall, aCons, aNil, eV, eC, okW, bnd_ok, List.getElem?_cons_zero, List.getElem?_cons_succ, er, eq_int]
      · simp only [e2, eTup, aCons, aNil, eV, okW, bnd_ok, List.getElem?_cons_zero, List.getElem?_cons_succ]
        rw [if_pos (by simp)]
        simp only [bnd_ok, pairW]
        rw [plus_tup (by simp)]
        rfl⟩) (by simp; omega) (fun n => rfl)
  have sl := sub.length_le
  refine ⟨l'.map fun x => ((n : Nat), x.1, x.2), a', b', T ++ [(l'.map fun x => ((n : Int), x.1, x.2)).map tripW] ++ [(out ++ l'.map fun x => ((n : Int), x.1, x.2)).map tripW], by simpa using sl, ?_, ?_, ?_⟩
  · rw [← List.append_assoc, ← List.append_assoc]
    exact okP_app (okP_app hs (pure_map (fun x n => below_trip) _)) (pure_map (fun x n => below_trip) _)
  · rw [← List.append_assoc, List.getElem?_append_right (by simp [dst_len]; omega)]
    have : (st ++ T).length + 1 - (dst st dz a' b' ++ (T ++ [(l'.map fun x => ((n : Int), x.1, x.2)).map tripW])).length = 0 := by simp [dst_len]; omega
    rw [this]
    rfl
  · rw [dst_app hd, dst_app hd] at e
    have em : (l'.map fun x => tripW ((n : Nat), x.1, x.2)) = (l'.map fun x => ((n : Int), x.1, x.2)).map tripW := by rw [List.map_map]; rfl
    simp only [List.nil_append] at e
    rw [em] at e
    have hklt : k < (dst st dz a b ++ T).length := (List.getElem?_eq_some_iff.mp hk).1
    have hT : T[k - st.length]? = some (out.map tripW) := by
      rw [List.getElem?_append_right (by rw [dst_len]; exact hk0), dst_len] at hk
      exact hk
    have hkT : k - st.length < T.length := (List.getElem?_eq_some_iff.mp hT).1
    have hk2 : (dst st dz a' b' ++ T ++ [(l'.map fun x => ((n : Int), x.1, x.2)).map tripW])[k]? = some (out.map tripW) := by
      rw [List.append_assoc, List.getElem?_append_right (by rw [dst_len]; exact hk0), dst_len, List.getElem?_append_left hkT, hT]
    have hnew : (dst st dz a' b' ++ T ++ [(l'.map fun x => ((n : Int), x.1, x.2)).map tripW])[(st ++ T).length]? = some ((l'.map fun x => ((n : Int), x.1, x.2)).map tripW) := by
      rw [List.getElem?_append_right (by simp [dst_len])]
      simp [dst_len]
    have hp := plus_loc hk2 hnew (by simp; omega)
    have hlen : (dst st dz a b ++ T).length = (st ++ T).length := by simp [dst_len]
    have hlen2 : (dst st dz a' b' ++ T ++ [(l'.map fun x => ((n : Int), x.1, x.2)).map tripW]).length = (st ++ T).length + 1 := by simp [dst_len]; omega
    simp only [sAsg, e2, eV, okW, bnd_ok, bndS_ok, List.getElem?_cons_zero, List.getElem?_cons_succ, eLc, wkQ, ix_tup, hn, letsW, wipeW, List.set_cons_zero, List.set_cons_succ, hlen]
    rw [e]
    simp only [bnd_ok]
    rw [hp, hlen2]
    simp only [bndS_ok, gN, List.set_cons_zero, List.set_cons_succ, List.map_append, List.append_assoc]
end Pd

set_option Elab.async false
set_option linter.all false
set_option maxRecDepth 100000
set_option maxHeartbeats 1000000
/-! Hr: the law's rolls, its deals. -/
namespace Pd
open PySem PySem.Spec PyProof.Rows L2 Dn
open Classical
theorem trim_set' {st : Store} {d : Nat} {l : List W} {w : W} (hw : below st.length w = true) : trim st w (st.set d l) = .ok w (st.set d l) := by
  have e : (st.set d l).take st.length = st.set d l := by rw [List.take_of_length_le (by simp)]
  unfold trim
  split
  · simp [e]
  · rfl
theorem f_roll_any {d : Nat} {a b most : Int} {st : Store} (hd : st[d]? = some [.int a, .int b]) (h0 : 0 < most) (h1 : most < 1000) : ∃ r a' b' : Int, 0 ≤ r ∧ r < most ∧ f__law_roll [.loc d, .int most] st = some (.ok (.int r) (st.set d [.int a', .int b'])) := by
  have hlt : d < st.length := (List.getElem?_eq_some_iff.mp hd).1
  have lg := log_few (j := most) (by omega) h0
  have hset : ∀ l : List W, (st.set d l)[d]? = some l := fun l => by rw [List.getElem?_set_self hlt]
  unfold f__law_roll F__law_roll
  by_cases hb : 0 < b
  · refine ⟨b % most, a, b / most, Int.emod_nonneg _ (by omega), Int.emod_lt_of_pos _ h0, ?_⟩
    (simp [Dn.fnD, sSeq, sNil, sRet, sRetN, sExpr, sIf, sAsg, sSetIx, Dn.eV, Dn.eC, Dn.e2, eB, bAnd, bOr, bNot, vAnd, vOr, vNot, eIf, eChain, aNil, aCons, eTup, eLst, eCall, Dn.okW, bnd_ok, bndS_ok, bnd0_ok, gN, gT, gsC, gsN, i_lt, i_le, i_gt, i_ge, i_sub, i_add, i_mod, i_div, i_mul, ix_tup, ix_frz, ix_loc, oLen, is_int_int, is_int_bool, is_tup_tup, is_loc_tup, is_int_tup, is_loc_list, hd, atI, hb, h0, ix20, ix21, lg, hset])
    exact trim_set' (by rfl)
  · refine ⟨(a * 48271 + 11) % 2147483647 / 7 % most, (a * 48271 + 11) % 2147483647, b, Int.emod_nonneg _ (by omega), Int.emod_lt_of_pos _ h0, ?_⟩
    have l7 : Nat.log2 7 < 9000 := by decide +kernel
    (simp [Dn.fnD, sSeq, sNil, sRet, sRetN, sExpr, sIf, sAsg, sSetIx, Dn.eV, Dn.eC, Dn.e2, eB, bAnd, bOr, bNot, vAnd, vOr, vNot, eIf, eChain, aNil, aCons, eTup, eLst, eCall, Dn.okW, bnd_ok, bndS_ok, bnd0_ok, gN, gT, gsC, gsN, i_lt, i_le, i_gt, i_ge, i_sub, i_add, i_mod, i_div, i_mul, ix_tup, ix_frz, ix_loc, oLen, is_int_int, is_int_bool, is_tup_tup, is_loc_tup, is_int_tup, is_loc_list, hd, atI, hb, h0, ix20, ix21, lg, l7, hset])
    exact trim_set' (by rfl)
theorem wp_roll {X : Er → Store → Prop} {Q : W → Store → Prop} {st T : Store} {dz : Nat} {a b most : Int} (hd : dz < st.length) (h0 : 0 < most) (h1 : most < 1000) (h : ∀ r a' b' : Int, 0 ≤ r → r < most → Q (.int r) (fr st dz a' b' T)) : Wp (f__law_roll [.loc dz, .int most] (fr st dz a b T)) X Q := by
  obtain ⟨r, a', b', q0, q1, e⟩ := f_roll_any (fr_dz (a := a) (b := b) (T := T) hd) h0 h1
  rw [e, fr_roll hd]
  exact h r a' b' q0 q1
theorem nb_pair {n : Nat} {x : Int × Int} : nb (n + 1) (pairW x) := fun y hy => by
  simp at hy
  rcases hy with rfl | rfl <;> (rw [nb_int]; trivial)
theorem nb_map {C : Type} {n : Nat} {g : C → W} {l : List C} (h : ∀ x, nb n (g x)) : ∀ y ∈ l.map g, nb n y := fun y hy => by
  obtain ⟨x, _, rfl⟩ := List.mem_map.mp hy
  exact h x
theorem pairW_inj {x y : Int × Int} : pairW x = pairW y ↔ x = y := by
  obtain ⟨a, b⟩ := x
  obtain ⟨c, d⟩ := y
  simp [pairW]
theorem mem_pairs {x : Int × Int} {l : List (Int × Int)} : pairW x ∈ l.map pairW ↔ x ∈ l := by
  rw [List.mem_map]
  exact ⟨fun ⟨y, hy, e⟩ => pairW_inj.mp e ▸ hy, fun h => ⟨x, h, rfl⟩⟩
theorem wp_rollS {X : Er → Store → Prop} {Q : W → Store → Prop} {S : Store} {dz : Nat} {a b most : Int} (hd : S[dz]? = some [.int a, .int b]) (h0 : 0 < most) (h1 : most < 1000) (h : ∀ r a' b' : Int, 0 ≤ r → r < most → Q (.int r) (S.set dz [.int a', .int b'])) : Wp (f__law_roll [.loc dz, .int most] S) X Q := by
  obtain ⟨r, a', b', q0, q1, e⟩ := f_roll_any hd h0 h1
  rw [e]
  exact h r a' b' q0 q1
/-- pairs of different hands -/
def PP (h : Int) (x : Int × Int) : Prop := 0 ≤ x.1 ∧ x.1 < h ∧ 0 ≤ x.2 ∧ x.2 < h ∧ x.1 ≠ x.2
theorem wp_deal {X : Er → Store → Prop} {Q : W → Store → Prop} {st : Store} {dz : Nat} {a b most pieces : Int} (hd : dz < st.length) (hs : okPl st) (h0 : 1 ≤ most) (h1 : most ≤ 4) (p0 : 1 ≤ pieces) (p1 : pieces ≤ 4)
    (h : ∀ (hn m : Int) (ts : List (Int × Int × Int)) (a' b' : Int), GD hn m ts → hn ≤ most → m ≤ pieces → Q (dealW hn m ts) (fr st dz a' b' [])) : Wp (f__law_deal [.loc dz, .int most, .int pieces] (fr st dz a b [])) X Q := by
  unfold f__law_deal F__law_deal
  refine wp_fn rfl ?_
  (try simp only [wps_seq, wps_nil, wps_ret, wps_retN, wps_expr, wps_asg, wps_setIx, wps_for, wp_eC, wp_eV, wp_e2, wp_eB, wp_bNot, wp_vNot, wp_eNeg, wp_aNil, wp_aCons, wp_eTup, wp_eLst, wp_eCall, wp_pN, wp_pS, wp_eSl, wp_sl_tup, wp_sl_loc, wp_eApp, wp_eRev, wp_add, wp_sub, wp_lt, wp_le, wp_gt, wp_ge, wp_mod, wp_eqI, wp_neI, wp_catT, wp_catL, wp_rep, wp_ixT, wp_ixF, wp_ixL, wp_lenT, wp_lenF, wp_lenL, wp_listT, wp_listL, wp_tupleT, wp_tupleL, wp_intB, wp_intI, wp_wkQT, wp_wkR, wp_eLc, wipeW, ov_some, tb_bl, tl_loc, ti_int, vw_some, wp_gN, wp_ok, List.getElem?_cons_zero, List.getElem?_cons_succ, List.set_cons_zero, List.set_cons_succ, fr_len, fr_app, fr_at, fr_at0, fr_set, fr_set0, fo_len, fo_app, fo_at, fo_at0, fo_set, fo_set0, tl_at, tl_at', tl_atM, tl_set, tl_set', List.length_cons, List.length_nil, List.length_append, List.length_map, List.cons_append, List.nil_append, List.append_assoc, at_nat, at_zero, at_one, at_two, cut_to, cut_from, Nat.zero_add, Nat.add_zero, Nat.reduceAdd, decide_eq_true_eq, decide_eq_false_iff_not, Bool.not_eq_true', Bool.not_eq_false', Bool.not_true, Bool.not_false, forall_const, Bool.false_eq_true, Bool.true_eq_false, false_implies, eq_self, true_and, and_true, true_implies, List.map_cons, List.map_nil, List.cons_append, List.nil_append, List.replicate_succ, List.replicate_zero, Nat.reduceSub])
  refine wp_roll hd (by omega) (by omega) fun r1 a b r10 r11 => ?_
  (try simp only [wps_seq, wps_nil, wps_ret, wps_retN, wps_expr, wps_asg, wps_setIx, wps_for, wp_eC, wp_eV, wp_e2, wp_eB, wp_bNot, wp_vNot, wp_eNeg, wp_aNil, wp_aCons, wp_eTup, wp_eLst, wp_eCall, wp_pN, wp_pS, wp_eSl, wp_sl_tup, wp_sl_loc, wp_eApp, wp_eRev, wp_add, wp_sub, wp_lt, wp_le, wp_gt, wp_ge, wp_mod, wp_eqI, wp_neI, wp_catT, wp_catL, wp_rep, wp_ixT, wp_ixF, wp_ixL, wp_lenT, wp_lenF, wp_lenL, wp_listT, wp_listL, wp_tupleT, wp_tupleL, wp_intB, wp_intI, wp_wkQT, wp_wkR, wp_eLc, wipeW, ov_some, tb_bl, tl_loc, ti_int, vw_some, wp_gN, wp_ok, List.getElem?_cons_zero, List.getElem?_cons_succ, List.set_cons_zero, List.set_cons_succ, fr_len, fr_app, fr_at, fr_at0, fr_set, fr_set0, fo_len, fo_app, fo_at, fo_at0, fo_set, fo_set0, tl_at, tl_at', tl_atM, tl_set, tl_set', List.length_cons, List.length_nil, List.length_append, List.length_map, List.cons_append, List.nil_append, List.append_assoc, at_nat, at_zero, at_one, at_two, cut_to, cut_from, Nat.zero_add, Nat.add_zero, Nat.reduceAdd, decide_eq_true_eq, decide_eq_false_iff_not, Bool.not_eq_true', Bool.not_eq_false', Bool.not_true, Bool.not_false, forall_const, Bool.false_eq_true, Bool.true_eq_false, false_implies, eq_self, true_and, and_true, true_implies])
  refine wp_roll hd (by omega) (by omega) fun r2 a b r20 r21 => ?_
  (try simp only [wps_seq, wps_nil, wps_ret, wps_retN, wps_expr, wps_asg, wps_setIx, wps_for, wp_eC, wp_eV, wp_e2, wp_eB, wp_bNot, wp_vNot, wp_eNeg, wp_aNil, wp_aCons, wp_eTup, wp_eLst, wp_eCall, wp_pN, wp_pS, wp_eSl, wp_sl_tup, wp_sl_loc, wp_eApp, wp_eRev, wp_add, wp_sub, wp_lt, wp_le, wp_gt, wp_ge, wp_mod, wp_eqI, wp_neI, wp_catT, wp_catL, wp_rep, wp_ixT, wp_ixF, wp_ixL, wp_lenT, wp_lenF, wp_lenL, wp_listT, wp_listL, wp_tupleT, wp_tupleL, wp_intB, wp_intI, wp_wkQT, wp_wkR, wp_eLc, wipeW, ov_some, tb_bl, tl_loc, ti_int, vw_some, wp_gN, wp_ok, List.getElem?_cons_zero, List.getElem?_cons_succ, List.set_cons_zero, List.set_cons_succ, fr_len, fr_app, fr_at, fr_at0, fr_set, fr_set0, fo_len, fo_app, fo_at, fo_at0, fo_set, fo_set0, tl_at, tl_at', tl_atM, tl_set, tl_set', List.length_cons, List.length_nil, List.length_append, List.length_map, List.cons_append, List.nil_append, List.append_assoc, at_nat, at_zero, at_one, at_two, cut_to, cut_from, Nat.zero_add, Nat.add_zero, Nat.reduceAdd, decide_eq_true_eq, decide_eq_false_iff_not, Bool.not_eq_true', Bool.not_eq_false', Bool.not_true, Bool.not_false, forall_const, Bool.false_eq_true, Bool.true_eq_false, false_implies, eq_self, true_and, and_true, true_implies])
  refine ⟨by omega, ?_⟩
  refine wp_roll hd (by omega) (by omega) fun r3 a b r30 r31 => ?_
  (try simp only [wps_seq, wps_nil, wps_ret, wps_retN, wps_expr, wps_asg, wps_setIx, wps_for, wp_eC, wp_eV, wp_e2, wp_eB, wp_bNot, wp_vNot, wp_eNeg, wp_aNil, wp_aCons, wp_eTup, wp_eLst, wp_eCall, wp_pN, wp_pS, wp_eSl, wp_sl_tup, wp_sl_loc, wp_eApp, wp_eRev, wp_add, wp_sub, wp_lt, wp_le, wp_gt, wp_ge, wp_mod, wp_eqI, wp_neI, wp_catT, wp_catL, wp_rep, wp_ixT, wp_ixF, wp_ixL, wp_lenT, wp_lenF, wp_lenL, wp_listT, wp_listL, wp_tupleT, wp_tupleL, wp_intB, wp_intI, wp_wkQT, wp_wkR, wp_eLc, wipeW, ov_some, tb_bl, tl_loc, ti_int, vw_some, wp_gN, wp_ok, List.getElem?_cons_zero, List.getElem?_cons_succ, List.set_cons_zero, List.set_cons_succ, fr_len, fr_app, fr_at, fr_at0, fr_set, fr_set0, fo_len, fo_app, fo_at, fo_at0, fo_set, fo_set0, tl_at, tl_at', tl_atM, tl_set, tl_set', List.length_cons, List.length_nil, List.length_append, List.length_map, List.cons_append, List.nil_append, List.append_assoc, at_nat, at_zero, at_one, at_two, cut_to, cut_from, Nat.zero_add, Nat.add_zero, Nat.reduceAdd, decide_eq_true_eq, decide_eq_false_iff_not, Bool.not_eq_true', Bool.not_eq_false', Bool.not_true, Bool.not_false, forall_const, Bool.false_eq_true, Bool.true_eq_false, false_implies, eq_self, true_and, and_true, true_implies])
  refine ⟨by omega, ?_⟩
  obtain ⟨n, hn⟩ : ∃ n : Nat, n = (1 + r1).toNat := ⟨_, rfl⟩
  have hn' : (1 + r1) = (n : Int) := by omega
  rw [← hn, hn', rng_map]
  refine wp_lcF (T := [[]]) (fun i => pairW ((i : Nat), ((i + 1) % n : Nat))) (fun _ => true) (fun acc => True.intro) (by simp; omega) (fun i hi acc => ?_) ?_
  · simp only [bYes]
    (try simp only [wps_seq, wps_nil, wps_ret, wps_retN, wps_expr, wps_asg, wps_setIx, wps_for, wp_eC, wp_eV, wp_e2, wp_eB, wp_bNot, wp_vNot, wp_eNeg, wp_aNil, wp_aCons, wp_eTup, wp_eLst, wp_eCall, wp_pN, wp_pS, wp_eSl, wp_sl_tup, wp_sl_loc, wp_eApp, wp_eRev, wp_add, wp_sub, wp_lt, wp_le, wp_gt, wp_ge, wp_mod, wp_eqI, wp_neI, wp_catT, wp_catL, wp_rep, wp_ixT, wp_ixF, wp_ixL, wp_lenT, wp_lenF, wp_lenL, wp_listT, wp_listL, wp_tupleT, wp_tupleL, wp_intB, wp_intI, wp_wkQT, wp_wkR, wp_eLc, wipeW, ov_some, tb_bl, tl_loc, ti_int, vw_some, wp_gN, wp_ok, List.getElem?_cons_zero, List.getElem?_cons_succ, List.set_cons_zero, List.set_cons_succ, fr_len, fr_app, fr_at, fr_at0, fr_set, fr_set0, fo_len, fo_app, fo_at, fo_at0, fo_set, fo_set0, tl_at, tl_at', tl_atM, tl_set, tl_set', List.length_cons, List.length_nil, List.length_append, List.length_map, List.cons_append, List.nil_append, List.append_assoc, at_nat, at_zero, at_one, at_two, cut_to, cut_from, Nat.zero_add, Nat.add_zero, Nat.reduceAdd, decide_eq_true_eq, decide_eq_false_iff_not, Bool.not_eq_true', Bool.not_eq_false', Bool.not_true, Bool.not_false, forall_const, Bool.false_eq_true, Bool.true_eq_false, false_implies, eq_self, true_and, and_true, true_implies, wp_okW])
    simp only [nX, pairW]
    have : 0 < n := by omega
    simp [this]
  (try simp only [wps_seq, wps_nil, wps_ret, wps_retN, wps_expr, wps_asg, wps_setIx, wps_for, wp_eC, wp_eV, wp_e2, wp_eB, wp_bNot, wp_vNot, wp_eNeg, wp_aNil, wp_aCons, wp_eTup, wp_eLst, wp_eCall, wp_pN, wp_pS, wp_eSl, wp_sl_tup, wp_sl_loc, wp_eApp, wp_eRev, wp_add, wp_sub, wp_lt, wp_le, wp_gt, wp_ge, wp_mod, wp_eqI, wp_neI, wp_catT, wp_catL, wp_rep, wp_ixT, wp_ixF, wp_ixL, wp_lenT, wp_lenF, wp_lenL, wp_listT, wp_listL, wp_tupleT, wp_tupleL, wp_intB, wp_intI, wp_wkQT, wp_wkR, wp_eLc, wipeW, ov_some, tb_bl, tl_loc, ti_int, vw_some, wp_gN, wp_ok, List.getElem?_cons_zero, List.getElem?_cons_succ, List.set_cons_zero, List.set_cons_succ, fr_len, fr_app, fr_at, fr_at0, fr_set, fr_set0, fo_len, fo_app, fo_at, fo_at0, fo_set, fo_set0, tl_at, tl_at', tl_atM, tl_set, tl_set', List.length_cons, List.length_nil, List.length_append, List.length_map, List.cons_append, List.nil_append, List.append_assoc, at_nat, at_zero, at_one, at_two, cut_to, cut_from, Nat.zero_add, Nat.add_zero, Nat.reduceAdd, decide_eq_true_eq, decide_eq_false_iff_not, Bool.not_eq_true', Bool.not_eq_false', Bool.not_true, Bool.not_false, forall_const, Bool.false_eq_true, Bool.true_eq_false, false_implies, eq_self, true_and, and_true, true_implies])
  refine Wp.cut (P := fun w s => w = .bl (decide (r3 = 0 ∧ 1 < n)) ∧ s = _) (by (try simp only [wps_seq, wps_nil, wps_ret, wps_retN, wps_expr, wps_asg, wps_setIx, wps_for, wp_eC, wp_eV, wp_e2, wp_eB, wp_bNot, wp_vNot, wp_eNeg, wp_aNil, wp_aCons, wp_eTup, wp_eLst, wp_eCall, wp_pN, wp_pS, wp_eSl, wp_sl_tup, wp_sl_loc, wp_eApp, wp_eRev, wp_add, wp_sub, wp_lt, wp_le, wp_gt, wp_ge, wp_mod, wp_eqI, wp_neI, wp_catT, wp_catL, wp_rep, wp_ixT, wp_ixF, wp_ixL, wp_lenT, wp_lenF, wp_lenL, wp_listT, wp_listL, wp_tupleT, wp_tupleL, wp_intB, wp_intI, wp_wkQT, wp_wkR, wp_eLc, wipeW, ov_some, tb_bl, tl_loc, ti_int, vw_some, wp_gN, wp_ok, List.getElem?_cons_zero, List.getElem?_cons_succ, List.set_cons_zero, List.set_cons_succ, fr_len, fr_app, fr_at, fr_at0, fr_set, fr_set0, fo_len, fo_app, fo_at, fo_at0, fo_set, fo_set0, tl_at, tl_at', tl_atM, tl_set, tl_set', List.length_cons, List.length_nil, List.length_append, List.length_map, List.cons_append, List.nil_append, List.append_assoc, at_nat, at_zero, at_one, at_two, cut_to, cut_from, Nat.zero_add, Nat.add_zero, Nat.reduceAdd, decide_eq_true_eq, decide_eq_false_iff_not, Bool.not_eq_true', Bool.not_eq_false', Bool.not_true, Bool.not_false, forall_const, Bool.false_eq_true, Bool.true_eq_false, false_implies, eq_self, true_and, and_true, true_implies, wp_vAnd]); exact ⟨fun h => ⟨by simp [h]; omega, rfl⟩, fun h => ⟨by simp [h], rfl⟩⟩) fun w s hw => ?_
  obtain ⟨rfl, rfl⟩ := hw
  (try simp only [wps_seq, wps_nil, wps_ret, wps_retN, wps_expr, wps_asg, wps_setIx, wps_for, wp_eC, wp_eV, wp_e2, wp_eB, wp_bNot, wp_vNot, wp_eNeg, wp_aNil, wp_aCons, wp_eTup, wp_eLst, wp_eCall, wp_pN, wp_pS, wp_eSl, wp_sl_tup, wp_sl_loc, wp_eApp, wp_eRev, wp_add, wp_sub, wp_lt, wp_le, wp_gt, wp_ge, wp_mod, wp_eqI, wp_neI, wp_catT, wp_catL, wp_rep, wp_ixT, wp_ixF, wp_ixL, wp_lenT, wp_lenF, wp_lenL, wp_listT, wp_listL, wp_tupleT, wp_tupleL, wp_intB, wp_intI, wp_wkQT, wp_wkR, wp_eLc, wipeW, ov_some, tb_bl, tl_loc, ti_int, vw_some, wp_gN, wp_ok, List.getElem?_cons_zero, List.getElem?_cons_succ, List.set_cons_zero, List.set_cons_succ, fr_len, fr_app, fr_at, fr_at0, fr_set, fr_set0, fo_len, fo_app, fo_at, fo_at0, fo_set, fo_set0, tl_at, tl_at', tl_atM, tl_set, tl_set', List.length_cons, List.length_nil, List.length_append, List.length_map, List.cons_append, List.nil_append, List.append_assoc, at_nat, at_zero, at_one, at_two, cut_to, cut_from, Nat.zero_add, Nat.add_zero, Nat.reduceAdd, decide_eq_true_eq, decide_eq_false_iff_not, Bool.not_eq_true', Bool.not_eq_false', Bool.not_true, Bool.not_false, forall_const, Bool.false_eq_true, Bool.true_eq_false, false_implies, eq_self, true_and, and_true, true_implies])
  refine ⟨⟨by split <;> omega, by split <;> omega, ?_⟩, ?_⟩
  · have := List.length_filter_le (fun _ => true) (List.range n)
    rw [List.length_range] at this
    omega
  generalize hpc : (List.replicate _ _).flatten = pc
  obtain ⟨pl, rfl, pl4, plP⟩ : ∃ pl : List (Int × Int), pc = pl.map pairW ∧ pl.length ≤ 4 ∧ ∀ x ∈ pl, PP n x := by
    rw [← hpc]
    by_cases hc : r3 = 0 ∧ 1 < n
    · refine ⟨(List.range n).map fun i => ((i : Nat), ((i + 1) % n : Nat)), ?_, by simp; omega, fun x hx => ?_⟩
      · have : (List.range n).filter (fun _ => true) = List.range n := by simp
        rw [if_pos hc, this, List.map_map]
        simp [Function.comp_def]
      obtain ⟨i, hi, rfl⟩ := List.mem_map.mp hx
      have hi : i < n := List.mem_range.mp hi
      have h3 : (i + 1) % n < n := Nat.mod_lt _ (by omega)
      have h4 : i ≠ (i + 1) % n := by
        by_cases q : i + 1 < n
        · rw [Nat.mod_eq_of_lt q]; omega
        · have : i + 1 = n := by omega
          rw [this, Nat.mod_self]; omega
      unfold PP
      omega
    · exact ⟨[], by simp [hc], by simp, fun x hx => nomatch hx⟩
  refine wp_roll hd (by omega) (by omega) fun r4 a b r40 r41 => ?_
  (try simp only [wps_seq, wps_nil, wps_ret, wps_retN, wps_expr, wps_asg, wps_setIx, wps_for, wp_eC, wp_eV, wp_e2, wp_eB, wp_bNot, wp_vNot, wp_eNeg, wp_aNil, wp_aCons, wp_eTup, wp_eLst, wp_eCall, wp_pN, wp_pS, wp_eSl, wp_sl_tup, wp_sl_loc, wp_eApp, wp_eRev, wp_add, wp_sub, wp_lt, wp_le, wp_gt, wp_ge, wp_mod, wp_eqI, wp_neI, wp_catT, wp_catL, wp_rep, wp_ixT, wp_ixF, wp_ixL, wp_lenT, wp_lenF, wp_lenL, wp_listT, wp_listL, wp_tupleT, wp_tupleL, wp_intB, wp_intI, wp_wkQT, wp_wkR, wp_eLc, wipeW, ov_some, tb_bl, tl_loc, ti_int, vw_some, wp_gN, wp_ok, List.getElem?_cons_zero, List.getElem?_cons_succ, List.set_cons_zero, List.set_cons_succ, fr_len, fr_app, fr_at, fr_at0, fr_set, fr_set0, fo_len, fo_app, fo_at, fo_at0, fo_set, fo_set0, tl_at, tl_at', tl_atM, tl_set, tl_set', List.length_cons, List.length_nil, List.length_append, List.length_map, List.cons_append, List.nil_append, List.append_assoc, at_nat, at_zero, at_one, at_two, cut_to, cut_from, Nat.zero_add, Nat.add_zero, Nat.reduceAdd, decide_eq_true_eq, decide_eq_false_iff_not, Bool.not_eq_true', Bool.not_eq_false', Bool.not_true, Bool.not_false, forall_const, Bool.false_eq_true, Bool.true_eq_false, false_implies, eq_self, true_and, and_true, true_implies])
  refine ⟨by omega, ?_⟩
  refine wps_forR (I := fun k sl st' => ∃ (pl : List (Int × Int)) (c1 : List W) (a b : Int) (s8 s9 s10 : Option W), sl = [some (W.loc dz), some (W.int most), some (W.int pieces), some (W.int n), some (W.int (1 + r2)), some (W.loc st.length), some (W.int r3), some (W.loc (st.length + 2)), s8, s9, s10, none] ∧
    st' = fr st dz a b [[], c1, pl.map pairW] ∧ pl.length ≤ 4 + k ∧ ∀ x ∈ pl, PP n x) ⟨pl, _, a, b, _, _, _, rfl, rfl, pl4, plP⟩ (fun k sl st' hk hI => ?_) fun sl st' hI => ?_
  · obtain ⟨pl, c1, a, b, s8, s9, s10, rfl, rfl, hl, hp⟩ := hI
    (try simp only [wps_seq, wps_nil, wps_ret, wps_retN, wps_expr, wps_asg, wps_setIx, wps_for, wp_eC, wp_eV, wp_e2, wp_eB, wp_bNot, wp_vNot, wp_eNeg, wp_aNil, wp_aCons, wp_eTup, wp_eLst, wp_eCall, wp_pN, wp_pS, wp_eSl, wp_sl_tup, wp_sl_loc, wp_eApp, wp_eRev, wp_add, wp_sub, wp_lt, wp_le, wp_gt, wp_ge, wp_mod, wp_eqI, wp_neI, wp_catT, wp_catL, wp_rep, wp_ixT, wp_ixF, wp_ixL, wp_lenT, wp_lenF, wp_lenL, wp_listT, wp_listL, wp_tupleT, wp_tupleL, wp_intB, wp_intI, wp_wkQT, wp_wkR, wp_eLc, wipeW, ov_some, tb_bl, tl_loc, ti_int, vw_some, wp_gN, wp_ok, List.getElem?_cons_zero, List.getElem?_cons_succ, List.set_cons_zero, List.set_cons_succ, fr_len, fr_app, fr_at, fr_at0, fr_set, fr_set0, fo_len, fo_app, fo_at, fo_at0, fo_set, fo_set0, tl_at, tl_at', tl_atM, tl_set, tl_set', List.length_cons, List.length_nil, List.length_append, List.length_map, List.cons_append, List.nil_append, List.append_assoc, at_nat, at_zero, at_one, at_two, cut_to, cut_from, Nat.zero_add, Nat.add_zero, Nat.reduceAdd, decide_eq_true_eq, decide_eq_false_iff_not, Bool.not_eq_true', Bool.not_eq_false', Bool.not_true, Bool.not_false, forall_const, Bool.false_eq_true, Bool.true_eq_false, false_implies, eq_self, true_and, and_true, true_implies])
    refine wp_roll hd (by omega) (by omega) fun r5 a b r50 r51 => ?_
    (try simp only [wps_seq, wps_nil, wps_ret, wps_retN, wps_expr, wps_asg, wps_setIx, wps_for, wp_eC, wp_eV, wp_e2, wp_eB, wp_bNot, wp_vNot, wp_eNeg, wp_aNil, wp_aCons, wp_eTup, wp_eLst, wp_eCall, wp_pN, wp_pS, wp_eSl, wp_sl_tup, wp_sl_loc, wp_eApp, wp_eRev, wp_add, wp_sub, wp_lt, wp_le, wp_gt, wp_ge, wp_mod, wp_eqI, wp_neI, wp_catT, wp_catL, wp_rep, wp_ixT, wp_ixF, wp_ixL, wp_lenT, wp_lenF, wp_lenL, wp_listT, wp_listL, wp_tupleT, wp_tupleL, wp_intB, wp_intI, wp_wkQT, wp_wkR, wp_eLc, wipeW, ov_some, tb_bl, tl_loc, ti_int, vw_some, wp_gN, wp_ok, List.getElem?_cons_zero, List.getElem?_cons_succ, List.set_cons_zero, List.set_cons_succ, fr_len, fr_app, fr_at, fr_at0, fr_set, fr_set0, fo_len, fo_app, fo_at, fo_at0, fo_set, fo_set0, tl_at, tl_at', tl_atM, tl_set, tl_set', List.length_cons, List.length_nil, List.length_append, List.length_map, List.cons_append, List.nil_append, List.append_assoc, at_nat, at_zero, at_one, at_two, cut_to, cut_from, Nat.zero_add, Nat.add_zero, Nat.reduceAdd, decide_eq_true_eq, decide_eq_false_iff_not, Bool.not_eq_true', Bool.not_eq_false', Bool.not_true, Bool.not_false, forall_const, Bool.false_eq_true, Bool.true_eq_false, false_implies, eq_self, true_and, and_true, true_implies])
    refine wp_roll hd (by omega) (by omega) fun r6 a b r60 r61 => ?_
    (try simp only [wps_seq, wps_nil, wps_ret, wps_retN, wps_expr, wps_asg, wps_setIx, wps_for, wp_eC, wp_eV, wp_e2, wp_eB, wp_bNot, wp_vNot, wp_eNeg, wp_aNil, wp_aCons, wp_eTup, wp_eLst, wp_eCall, wp_pN, wp_pS, wp_eSl, wp_sl_tup, wp_sl_loc, wp_eApp, wp_eRev, wp_add, wp_sub, wp_lt, wp_le, wp_gt, wp_ge, wp_mod, wp_eqI, wp_neI, wp_catT, wp_catL, wp_rep, wp_ixT, wp_ixF, wp_ixL, wp_lenT, wp_lenF, wp_lenL, wp_listT, wp_listL, wp_tupleT, wp_tupleL, wp_intB, wp_intI, wp_wkQT, wp_wkR, wp_eLc, wipeW, ov_some, tb_bl, tl_loc, ti_int, vw_some, wp_gN, wp_ok, List.getElem?_cons_zero, List.getElem?_cons_succ, List.set_cons_zero, List.set_cons_succ, fr_len, fr_app, fr_at, fr_at0, fr_set, fr_set0, fo_len, fo_app, fo_at, fo_at0, fo_set, fo_set0, tl_at, tl_at', tl_atM, tl_set, tl_set', List.length_cons, List.length_nil, List.length_append, List.length_map, List.cons_append, List.nil_append, List.append_assoc, at_nat, at_zero, at_one, at_two, cut_to, cut_from, Nat.zero_add, Nat.add_zero, Nat.reduceAdd, decide_eq_true_eq, decide_eq_false_iff_not, Bool.not_eq_true', Bool.not_eq_false', Bool.not_true, Bool.not_false, forall_const, Bool.false_eq_true, Bool.true_eq_false, false_implies, eq_self, true_and, and_true, true_implies])
    ((rw [wps_if]; (try simp only [wps_seq, wps_nil, wps_ret, wps_retN, wps_expr, wps_asg, wps_setIx, wps_for, wp_eC, wp_eV, wp_e2, wp_eB, wp_bNot, wp_vNot, wp_eNeg, wp_aNil, wp_aCons, wp_eTup, wp_eLst, wp_eCall, wp_pN, wp_pS, wp_eSl, wp_sl_tup, wp_sl_loc, wp_eApp, wp_eRev, wp_add, wp_sub, wp_lt, wp_le, wp_gt, wp_ge, wp_mod, wp_eqI, wp_neI, wp_catT, wp_catL, wp_rep, wp_ixT, wp_ixF, wp_ixL, wp_lenT, wp_lenF, wp_lenL, wp_listT, wp_listL, wp_tupleT, wp_tupleL, wp_intB, wp_intI, wp_wkQT, wp_wkR, wp_eLc, wipeW, ov_some, tb_bl, tl_loc, ti_int, vw_some, wp_gN, wp_ok, List.getElem?_cons_zero, List.getElem?_cons_succ, List.set_cons_zero, List.set_cons_succ, fr_len, fr_app, fr_at, fr_at0, fr_set, fr_set0, fo_len, fo_app, fo_at, fo_at0, fo_set, fo_set0, tl_at, tl_at', tl_atM, tl_set, tl_set', List.length_cons, List.length_nil, List.length_append, List.length_map, List.cons_append, List.nil_append, List.append_assoc, at_nat, at_zero, at_one, at_two, cut_to, cut_from, Nat.zero_add, Nat.add_zero, Nat.reduceAdd, decide_eq_true_eq, decide_eq_false_iff_not, Bool.not_eq_true', Bool.not_eq_false', Bool.not_true, Bool.not_false, forall_const, Bool.false_eq_true, Bool.true_eq_false, false_implies, eq_self, true_and, and_true, true_implies, wp_bAnd, wp_bOr])))
    refine ⟨fun hne => ⟨by omega, by omega, pl ++ [(r5, r6)], _, _, _, _, _, _, rfl, by rw [List.map_append]; rfl, by simp; omega, fun x hx => ?_⟩, fun heq => ⟨pl, _, _, _, _, _, _, rfl, rfl, by omega, hp⟩⟩
    rcases List.mem_append.mp hx with hx | hx
    · exact hp x hx
    · rw [List.mem_singleton.mp hx]; exact ⟨r50, r51, r60, r61, hne⟩
  obtain ⟨pl, c1, a, b, s8, s9, s10, rfl, rfl, hl, hp⟩ := hI
  (try simp only [wps_seq, wps_nil, wps_ret, wps_retN, wps_expr, wps_asg, wps_setIx, wps_for, wp_eC, wp_eV, wp_e2, wp_eB, wp_bNot, wp_vNot, wp_eNeg, wp_aNil, wp_aCons, wp_eTup, wp_eLst, wp_eCall, wp_pN, wp_pS, wp_eSl, wp_sl_tup, wp_sl_loc, wp_eApp, wp_eRev, wp_add, wp_sub, wp_lt, wp_le, wp_gt, wp_ge, wp_mod, wp_eqI, wp_neI, wp_catT, wp_catL, wp_rep, wp_ixT, wp_ixF, wp_ixL, wp_lenT, wp_lenF, wp_lenL, wp_listT, wp_listL, wp_tupleT, wp_tupleL, wp_intB, wp_intI, wp_wkQT, wp_wkR, wp_eLc, wipeW, ov_some, tb_bl, tl_loc, ti_int, vw_some, wp_gN, wp_ok, List.getElem?_cons_zero, List.getElem?_cons_succ, List.set_cons_zero, List.set_cons_succ, fr_len, fr_app, fr_at, fr_at0, fr_set, fr_set0, fo_len, fo_app, fo_at, fo_at0, fo_set, fo_set0, tl_at, tl_at', tl_atM, tl_set, tl_set', List.length_cons, List.length_nil, List.length_append, List.length_map, List.cons_append, List.nil_append, List.append_assoc, at_nat, at_zero, at_one, at_two, cut_to, cut_from, Nat.zero_add, Nat.add_zero, Nat.reduceAdd, decide_eq_true_eq, decide_eq_false_iff_not, Bool.not_eq_true', Bool.not_eq_false', Bool.not_true, Bool.not_false, forall_const, Bool.false_eq_true, Bool.true_eq_false, false_implies, eq_self, true_and, and_true, true_implies])
  refine ⟨by omega, ?_⟩
  rw [Int.toNat_natCast]
  refine wps_forR (I := fun k sl st' => ∃ (ts : List (Int × Int × Int)) (G : Store) (a b : Int) (s8 s11 : Option W), sl = [some (W.loc dz), some (W.int most), some (W.int pieces), some (W.int n), some (W.int (1 + r2)), some (W.loc st.length), some (W.int r3), some (W.loc (st.length + 2)), s8, s9, s10, s11] ∧
    st' = fr st dz a b (ts.map tieW :: c1 :: pl.map pairW :: G) ∧ ts.length ≤ 8 ∧ (∀ t ∈ ts, tieB n t) ∧ (ts.map fst2).Nodup ∧ ∀ t ∈ ts, fst2 t ∈ pl.take k) ⟨[], [], a, b, _, _, rfl, rfl, by simp, fun _ h => (nomatch h), by simp, fun _ h => (nomatch h)⟩ (fun k sl st' hk hI => ?_) fun sl st' hI => ?_
  · obtain ⟨ts, G, a, b, s8, s11, rfl, rfl, t8, tB, nd, hin⟩ := hI
    (try simp only [wps_seq, wps_nil, wps_ret, wps_retN, wps_expr, wps_asg, wps_setIx, wps_for, wp_eC, wp_eV, wp_e2, wp_eB, wp_bNot, wp_vNot, wp_eNeg, wp_aNil, wp_aCons, wp_eTup, wp_eLst, wp_eCall, wp_pN, wp_pS, wp_eSl, wp_sl_tup, wp_sl_loc, wp_eApp, wp_eRev, wp_add, wp_sub, wp_lt, wp_le, wp_gt, wp_ge, wp_mod, wp_eqI, wp_neI, wp_catT, wp_catL, wp_rep, wp_ixT, wp_ixF, wp_ixL, wp_lenT, wp_lenF, wp_lenL, wp_listT, wp_listL, wp_tupleT, wp_tupleL, wp_intB, wp_intI, wp_wkQT, wp_wkR, wp_eLc, wipeW, ov_some, tb_bl, tl_loc, ti_int, vw_some, wp_gN, wp_ok, List.getElem?_cons_zero, List.getElem?_cons_succ, List.set_cons_zero, List.set_cons_succ, fr_len, fr_app, fr_at, fr_at0, fr_set, fr_set0, fo_len, fo_app, fo_at, fo_at0, fo_set, fo_set0, tl_at, tl_at', tl_atM, tl_set, tl_set', List.length_cons, List.length_nil, List.length_append, List.length_map, List.cons_append, List.nil_append, List.append_assoc, at_nat, at_zero, at_one, at_two, cut_to, cut_from, Nat.zero_add, Nat.add_zero, Nat.reduceAdd, decide_eq_true_eq, decide_eq_false_iff_not, Bool.not_eq_true', Bool.not_eq_false', Bool.not_true, Bool.not_false, forall_const, Bool.false_eq_true, Bool.true_eq_false, false_implies, eq_self, true_and, and_true, true_implies])
    refine wp_roll hd (by omega) (by omega) fun r5 a b r50 r51 => ?_
    (try simp only [wps_seq, wps_nil, wps_ret, wps_retN, wps_expr, wps_asg, wps_setIx, wps_for, wp_eC, wp_eV, wp_e2, wp_eB, wp_bNot, wp_vNot, wp_eNeg, wp_aNil, wp_aCons, wp_eTup, wp_eLst, wp_eCall, wp_pN, wp_pS, wp_eSl, wp_sl_tup, wp_sl_loc, wp_eApp, wp_eRev, wp_add, wp_sub, wp_lt, wp_le, wp_gt, wp_ge, wp_mod, wp_eqI, wp_neI, wp_catT, wp_catL, wp_rep, wp_ixT, wp_ixF, wp_ixL, wp_lenT, wp_lenF, wp_lenL, wp_listT, wp_listL, wp_tupleT, wp_tupleL, wp_intB, wp_intI, wp_wkQT, wp_wkR, wp_eLc, wipeW, ov_some, tb_bl, tl_loc, ti_int, vw_some, wp_gN, wp_ok, List.getElem?_cons_zero, List.getElem?_cons_succ, List.set_cons_zero, List.set_cons_succ, fr_len, fr_app, fr_at, fr_at0, fr_set, fr_set0, fo_len, fo_app, fo_at, fo_at0, fo_set, fo_set0, tl_at, tl_at', tl_atM, tl_set, tl_set', List.length_cons, List.length_nil, List.length_append, List.length_map, List.cons_append, List.nil_append, List.append_assoc, at_nat, at_zero, at_one, at_two, cut_to, cut_from, Nat.zero_add, Nat.add_zero, Nat.reduceAdd, decide_eq_true_eq, decide_eq_false_iff_not, Bool.not_eq_true', Bool.not_eq_false', Bool.not_true, Bool.not_false, forall_const, Bool.false_eq_true, Bool.true_eq_false, false_implies, eq_self, true_and, and_true, true_implies])
    refine wp_roll hd (by omega) (by omega) fun r6 a b r60 r61 => ?_
    (try simp only [wps_seq, wps_nil, wps_ret, wps_retN, wps_expr, wps_asg, wps_setIx, wps_for, wp_eC, wp_eV, wp_e2, wp_eB, wp_bNot, wp_vNot, wp_eNeg, wp_aNil, wp_aCons, wp_eTup, wp_eLst, wp_eCall, wp_pN, wp_pS, wp_eSl, wp_sl_tup, wp_sl_loc, wp_eApp, wp_eRev, wp_add, wp_sub, wp_lt, wp_le, wp_gt, wp_ge, wp_mod, wp_eqI, wp_neI, wp_catT, wp_catL, wp_rep, wp_ixT, wp_ixF, wp_ixL, wp_lenT, wp_lenF, wp_lenL, wp_listT, wp_listL, wp_tupleT, wp_tupleL, wp_intB, wp_intI, wp_wkQT, wp_wkR, wp_eLc, wipeW, ov_some, tb_bl, tl_loc, ti_int, vw_some, wp_gN, wp_ok, List.getElem?_cons_zero, List.getElem?_cons_succ, List.set_cons_zero, List.set_cons_succ, fr_len, fr_app, fr_at, fr_at0, fr_set, fr_set0, fo_len, fo_app, fo_at, fo_at0, fo_set, fo_set0, tl_at, tl_at', tl_atM, tl_set, tl_set', List.length_cons, List.length_nil, List.length_append, List.length_map, List.cons_append, List.nil_append, List.append_assoc, at_nat, at_zero, at_one, at_two, cut_to, cut_from, Nat.zero_add, Nat.add_zero, Nat.reduceAdd, decide_eq_true_eq, decide_eq_false_iff_not, Bool.not_eq_true', Bool.not_eq_false', Bool.not_true, Bool.not_false, forall_const, Bool.false_eq_true, Bool.true_eq_false, false_implies, eq_self, true_and, and_true, true_implies])
    refine ⟨by omega, ?_⟩
    refine wp_roll hd (by omega) (by omega) fun r7 a b r70 r71 => ?_
    (try simp only [wps_seq, wps_nil, wps_ret, wps_retN, wps_expr, wps_asg, wps_setIx, wps_for, wp_eC, wp_eV, wp_e2, wp_eB, wp_bNot, wp_vNot, wp_eNeg, wp_aNil, wp_aCons, wp_eTup, wp_eLst, wp_eCall, wp_pN, wp_pS, wp_eSl, wp_sl_tup, wp_sl_loc, wp_eApp, wp_eRev, wp_add, wp_sub, wp_lt, wp_le, wp_gt, wp_ge, wp_mod, wp_eqI, wp_neI, wp_catT, wp_catL, wp_rep, wp_ixT, wp_ixF, wp_ixL, wp_lenT, wp_lenF, wp_lenL, wp_listT, wp_listL, wp_tupleT, wp_tupleL, wp_intB, wp_intI, wp_wkQT, wp_wkR, wp_eLc, wipeW, ov_some, tb_bl, tl_loc, ti_int, vw_some, wp_gN, wp_ok, List.getElem?_cons_zero, List.getElem?_cons_succ, List.set_cons_zero, List.set_cons_succ, fr_len, fr_app, fr_at, fr_at0, fr_set, fr_set0, fo_len, fo_app, fo_at, fo_at0, fo_set, fo_set0, tl_at, tl_at', tl_atM, tl_set, tl_set', List.length_cons, List.length_nil, List.length_append, List.length_map, List.cons_append, List.nil_append, List.append_assoc, at_nat, at_zero, at_one, at_two, cut_to, cut_from, Nat.zero_add, Nat.add_zero, Nat.reduceAdd, decide_eq_true_eq, decide_eq_false_iff_not, Bool.not_eq_true', Bool.not_eq_false', Bool.not_true, Bool.not_false, forall_const, Bool.false_eq_true, Bool.true_eq_false, false_implies, eq_self, true_and, and_true, true_implies])
    obtain ⟨v, hv, v0, v4⟩ : ∃ v : Int, atI [W.int 0, W.int r5, W.int r6] r7 = some (.int v) ∧ 0 ≤ v ∧ v < 4 := by
      rw [at_int r70]
      have : r7 = 0 ∨ r7 = 1 ∨ r7 = 2 := by omega
      rcases this with rfl | rfl | rfl
      · exact ⟨0, rfl, by omega, by omega⟩
      · exact ⟨r5, rfl, by omega, by omega⟩
      · exact ⟨r6, rfl, by omega, by omega⟩
    (try simp only [wps_seq, wps_nil, wps_ret, wps_retN, wps_expr, wps_asg, wps_setIx, wps_for, wp_eC, wp_eV, wp_e2, wp_eB, wp_bNot, wp_vNot, wp_eNeg, wp_aNil, wp_aCons, wp_eTup, wp_eLst, wp_eCall, wp_pN, wp_pS, wp_eSl, wp_sl_tup, wp_sl_loc, wp_eApp, wp_eRev, wp_add, wp_sub, wp_lt, wp_le, wp_gt, wp_ge, wp_mod, wp_eqI, wp_neI, wp_catT, wp_catL, wp_rep, wp_ixT, wp_ixF, wp_ixL, wp_lenT, wp_lenF, wp_lenL, wp_listT, wp_listL, wp_tupleT, wp_tupleL, wp_intB, wp_intI, wp_wkQT, wp_wkR, wp_eLc, wipeW, ov_some, tb_bl, tl_loc, ti_int, vw_some, wp_gN, wp_ok, List.getElem?_cons_zero, List.getElem?_cons_succ, List.set_cons_zero, List.set_cons_succ, fr_len, fr_app, fr_at, fr_at0, fr_set, fr_set0, fo_len, fo_app, fo_at, fo_at0, fo_set, fo_set0, tl_at, tl_at', tl_atM, tl_set, tl_set', List.length_cons, List.length_nil, List.length_append, List.length_map, List.cons_append, List.nil_append, List.append_assoc, at_nat, at_zero, at_one, at_two, cut_to, cut_from, Nat.zero_add, Nat.add_zero, Nat.reduceAdd, decide_eq_true_eq, decide_eq_false_iff_not, Bool.not_eq_true', Bool.not_eq_false', Bool.not_true, Bool.not_false, forall_const, Bool.false_eq_true, Bool.true_eq_false, false_implies, eq_self, true_and, and_true, true_implies, hv])
    ((rw [wps_if]; (try simp only [wps_seq, wps_nil, wps_ret, wps_retN, wps_expr, wps_asg, wps_setIx, wps_for, wp_eC, wp_eV, wp_e2, wp_eB, wp_bNot, wp_vNot, wp_eNeg, wp_aNil, wp_aCons, wp_eTup, wp_eLst, wp_eCall, wp_pN, wp_pS, wp_eSl, wp_sl_tup, wp_sl_loc, wp_eApp, wp_eRev, wp_add, wp_sub, wp_lt, wp_le, wp_gt, wp_ge, wp_mod, wp_eqI, wp_neI, wp_catT, wp_catL, wp_rep, wp_ixT, wp_ixF, wp_ixL, wp_lenT, wp_lenF, wp_lenL, wp_listT, wp_listL, wp_tupleT, wp_tupleL, wp_intB, wp_intI, wp_wkQT, wp_wkR, wp_eLc, wipeW, ov_some, tb_bl, tl_loc, ti_int, vw_some, wp_gN, wp_ok, List.getElem?_cons_zero, List.getElem?_cons_succ, List.set_cons_zero, List.set_cons_succ, fr_len, fr_app, fr_at, fr_at0, fr_set, fr_set0, fo_len, fo_app, fo_at, fo_at0, fo_set, fo_set0, tl_at, tl_at', tl_atM, tl_set, tl_set', List.length_cons, List.length_nil, List.length_append, List.length_map, List.cons_append, List.nil_append, List.append_assoc, at_nat, at_zero, at_one, at_two, cut_to, cut_from, Nat.zero_add, Nat.add_zero, Nat.reduceAdd, decide_eq_true_eq, decide_eq_false_iff_not, Bool.not_eq_true', Bool.not_eq_false', Bool.not_true, Bool.not_false, forall_const, Bool.false_eq_true, Bool.true_eq_false, false_implies, eq_self, true_and, and_true, true_implies, wp_bAnd, wp_bOr])))
    have hk2 : (pl.map pairW)[k]? = some (pairW pl[k]) := by simp [hk]
    rw [hk2, ov_some, wp_niL (l := (pl.take k).map pairW) (by simp [fr_at, List.map_take]) nb_pair (nb_map fun _ => nb_pair)]
    have ht : List.take (k + 1) pl = List.take k pl ++ [pl[k]] := by rw [List.take_succ, List.getElem?_eq_getElem hk]; rfl
    (try simp only [wps_seq, wps_nil, wps_ret, wps_retN, wps_expr, wps_asg, wps_setIx, wps_for, wp_eC, wp_eV, wp_e2, wp_eB, wp_bNot, wp_vNot, wp_eNeg, wp_aNil, wp_aCons, wp_eTup, wp_eLst, wp_eCall, wp_pN, wp_pS, wp_eSl, wp_sl_tup, wp_sl_loc, wp_eApp, wp_eRev, wp_add, wp_sub, wp_lt, wp_le, wp_gt, wp_ge, wp_mod, wp_eqI, wp_neI, wp_catT, wp_catL, wp_rep, wp_ixT, wp_ixF, wp_ixL, wp_lenT, wp_lenF, wp_lenL, wp_listT, wp_listL, wp_tupleT, wp_tupleL, wp_intB, wp_intI, wp_wkQT, wp_wkR, wp_eLc, wipeW, ov_some, tb_bl, tl_loc, ti_int, vw_some, wp_gN, wp_ok, List.getElem?_cons_zero, List.getElem?_cons_succ, List.set_cons_zero, List.set_cons_succ, fr_len, fr_app, fr_at, fr_at0, fr_set, fr_set0, fo_len, fo_app, fo_at, fo_at0, fo_set, fo_set0, tl_at, tl_at', tl_atM, tl_set, tl_set', List.length_cons, List.length_nil, List.length_append, List.length_map, List.cons_append, List.nil_append, List.append_assoc, at_nat, at_zero, at_one, at_two, cut_to, cut_from, Nat.zero_add, Nat.add_zero, Nat.reduceAdd, decide_eq_true_eq, decide_eq_false_iff_not, Bool.not_eq_true', Bool.not_eq_false', Bool.not_true, Bool.not_false, forall_const, Bool.false_eq_true, Bool.true_eq_false, false_implies, eq_self, true_and, and_true, true_implies, mem_pairs, hk2])
    refine ⟨fun hni => ⟨fun hlt => ?_, fun hge => ?_⟩, fun hi => ?_⟩
    · refine ⟨by omega, ?_⟩
      have hpk := hp pl[k] (List.getElem_mem hk)
      rw [pairW, wp_catT]
      refine ⟨by simp, ?_⟩
      (try simp only [wps_seq, wps_nil, wps_ret, wps_retN, wps_expr, wps_asg, wps_setIx, wps_for, wp_eC, wp_eV, wp_e2, wp_eB, wp_bNot, wp_vNot, wp_eNeg, wp_aNil, wp_aCons, wp_eTup, wp_eLst, wp_eCall, wp_pN, wp_pS, wp_eSl, wp_sl_tup, wp_sl_loc, wp_eApp, wp_eRev, wp_add, wp_sub, wp_lt, wp_le, wp_gt, wp_ge, wp_mod, wp_eqI, wp_neI, wp_catT, wp_catL, wp_rep, wp_ixT, wp_ixF, wp_ixL, wp_lenT, wp_lenF, wp_lenL, wp_listT, wp_listL, wp_tupleT, wp_tupleL, wp_intB, wp_intI, wp_wkQT, wp_wkR, wp_eLc, wipeW, ov_some, tb_bl, tl_loc, ti_int, vw_some, wp_gN, wp_ok, List.getElem?_cons_zero, List.getElem?_cons_succ, List.set_cons_zero, List.set_cons_succ, fr_len, fr_app, fr_at, fr_at0, fr_set, fr_set0, fo_len, fo_app, fo_at, fo_at0, fo_set, fo_set0, tl_at, tl_at', tl_atM, tl_set, tl_set', List.length_cons, List.length_nil, List.length_append, List.length_map, List.cons_append, List.nil_append, List.append_assoc, at_nat, at_zero, at_one, at_two, cut_to, cut_from, Nat.zero_add, Nat.add_zero, Nat.reduceAdd, decide_eq_true_eq, decide_eq_false_iff_not, Bool.not_eq_true', Bool.not_eq_false', Bool.not_true, Bool.not_false, forall_const, Bool.false_eq_true, Bool.true_eq_false, false_implies, eq_self, true_and, and_true, true_implies])
      refine ⟨by omega, ts ++ [(pl[k].1, pl[k].2, 1 + v)], _, _, _, _, _, rfl, by rw [List.map_append]; rfl, by simp; omega, fun t ht => ?_, ?_, fun t hm => ?_⟩
      · rcases List.mem_append.mp ht with ht | ht
        · exact tB t ht
        · rw [List.mem_singleton.mp ht]
          unfold PP at hpk
          unfold tieB
          simp only
          omega
      · rw [List.map_append]
        refine List.nodup_append.mpr ⟨nd, by simp, fun x hx y hy => ?_⟩
        rw [List.mem_singleton.mp hy]
        obtain ⟨t, ht, rfl⟩ := List.mem_map.mp hx
        exact fun e => hni (by rw [show pl[k] = fst2 t from e.symm]; exact hin t ht)
      · rw [ht]
        rcases List.mem_append.mp hm with hm | hm
        · exact List.mem_append_left _ (hin t hm)
        · rw [List.mem_singleton.mp hm]; exact List.mem_append_right _ (by simp [fst2])
    · exact ⟨ts, _, _, _, _, _, rfl, rfl, t8, tB, nd, fun t h => by rw [ht]; exact List.mem_append_left _ (hin t h)⟩
    · exact ⟨ts, _, _, _, _, _, rfl, rfl, t8, tB, nd, fun t h => by rw [ht]; exact List.mem_append_left _ (hin t h)⟩
  obtain ⟨ts, G, a, b, s8, s11, rfl, rfl, t8, tB, nd, hin⟩ := hI
  (try simp only [wps_seq, wps_nil, wps_ret, wps_retN, wps_expr, wps_asg, wps_setIx, wps_for, wp_eC, wp_eV, wp_e2, wp_eB, wp_bNot, wp_vNot, wp_eNeg, wp_aNil, wp_aCons, wp_eTup, wp_eLst, wp_eCall, wp_pN, wp_pS, wp_eSl, wp_sl_tup, wp_sl_loc, wp_eApp, wp_eRev, wp_add, wp_sub, wp_lt, wp_le, wp_gt, wp_ge, wp_mod, wp_eqI, wp_neI, wp_catT, wp_catL, wp_rep, wp_ixT, wp_ixF, wp_ixL, wp_lenT, wp_lenF, wp_lenL, wp_listT, wp_listL, wp_tupleT, wp_tupleL, wp_intB, wp_intI, wp_wkQT, wp_wkR, wp_eLc, wipeW, ov_some, tb_bl, tl_loc, ti_int, vw_some, wp_gN, wp_ok, List.getElem?_cons_zero, List.getElem?_cons_succ, List.set_cons_zero, List.set_cons_succ, fr_len, fr_app, fr_at, fr_at0, fr_set, fr_set0, fo_len, fo_app, fo_at, fo_at0, fo_set, fo_set0, tl_at, tl_at', tl_atM, tl_set, tl_set', List.length_cons, List.length_nil, List.length_append, List.length_map, List.cons_append, List.nil_append, List.append_assoc, at_nat, at_zero, at_one, at_two, cut_to, cut_from, Nat.zero_add, Nat.add_zero, Nat.reduceAdd, decide_eq_true_eq, decide_eq_false_iff_not, Bool.not_eq_true', Bool.not_eq_false', Bool.not_true, Bool.not_false, forall_const, Bool.false_eq_true, Bool.true_eq_false, false_implies, eq_self, true_and, and_true, true_implies])
  refine ⟨by omega, ?_⟩
  have bel : below st.length (.tup [.int n, .int (1 + r2), .tup (ts.map tieW)]) = true := by
    simp only [below, belows, Bool.and_true, Bool.true_and]
    exact belows_map (fun _ => rfl) ts
  exact wp_trimF hs bel (h n (1 + r2) ts _ _ ⟨by omega, by omega, by omega, by omega, t8, tB, nd⟩ (by omega) (by omega))
theorem wp_dealS {X : Er → Store → Prop} {Q : W → Store → Prop} {S : Store} {dz : Nat} {a b most pieces : Int} (hd : S[dz]? = some [.int a, .int b]) (hs : okPl S) (h0 : 1 ≤ most) (h1 : most ≤ 4) (p0 : 1 ≤ pieces) (p1 : pieces ≤ 4)
    (h : ∀ (hn m : Int) (ts : List (Int × Int × Int)) (a' b' : Int), GD hn m ts → hn ≤ most → m ≤ pieces → Q (dealW hn m ts) (S.set dz [.int a', .int b'])) : Wp (f__law_deal [.loc dz, .int most, .int pieces] S) X Q := by
  have := wp_deal (X := X) (Q := Q) (a := a) (b := b) (List.getElem?_eq_some_iff.mp hd).1 hs h0 h1 p0 p1 fun hn m ts a' b' g q1 q2 => by rw [fr_nil]; exact h hn m ts a' b' g q1 q2
  rw [← fr_start hd] at this
  exact this
end Pd

set_option Elab.async false
set_option linter.all false
set_option maxRecDepth 100000
set_option maxHeartbeats 1000000
/-! Hs: the law's holdings. -/
namespace Pd
open PySem PySem.Spec PyProof.Rows L2 Dn
open Classical
theorem rise_len' {r : List Int} {k : Nat} (nd : r.Nodup) (hb : ∀ p ∈ r, 0 ≤ p ∧ p < (k : Int)) : r.length ≤ k := by
  have n2 : (sortI r).Nodup := (sortI_perm r).nodup_iff.mpr nd
  have hp : (sortI r).Pairwise (· < ·) := List.Pairwise.imp (fun {x y} hxy => by
    have h1 := hxy.1
    have h2 := hxy.2
    omega) (n2.and (sortI_sorted r))
  have := rise_len (a := 0) (b := k) hp (fun p h => hb p ((sortI_perm r).mem_iff.mp h)) (by omega)
  rw [(sortI_perm r).length_eq] at this
  omega
/-- places of rows, the rows behind them -/
def lw (n k : Nat) : List W := (List.range k).map fun i => .loc (n + (i + 1))
theorem lw_len {n k : Nat} : (lw n k).length = k := by simp [lw]
theorem lw_succ {n k : Nat} : lw n (k + 1) = lw n k ++ [.loc (n + (k + 1))] := by simp [lw, List.range_succ]
theorem lw_at {n k : Nat} {j : Nat} (h : j < k) : (lw n k)[j]? = some (.loc (n + (j + 1))) := by simp [lw, h]
theorem rows_at {rows : List (List Int)} {G : Store} {j : Nat} (h : j < rows.length) : (rows.map intsW ++ G)[j]? = some (intsW rows[j]) := by
  rw [List.getElem?_append_left (by simpa using h)]
  simp [h]
theorem rows_set {rows : List (List Int)} {G : Store} {j : Nat} {x : List Int} (h : j < rows.length) : (rows.map intsW ++ G).set j (intsW x) = (rows.set j x).map intsW ++ G := by
  rw [List.set_append_left _ _ (by simpa using h)]
  simp [List.map_set]
theorem intsW_app {r : List Int} {p : Int} : intsW r ++ [.int p] = intsW (r ++ [p]) := by simp [intsW]
theorem nb_ints {n : Nat} {r : List Int} : ∀ x ∈ intsW r, nb n x := fun x hx => by
  obtain ⟨i, _, rfl⟩ := List.mem_map.mp hx
  rw [nb_int]; trivial
theorem mem_ints {p : Int} {r : List Int} : W.int p ∈ intsW r ↔ p ∈ r := by simp [intsW]
theorem fr_row {st : Store} {dz : Nat} {a b : Int} {c : List W} {rows : List (List Int)} {G : Store} {j : Nat} (h : j < rows.length) : (fr st dz a b (c :: (rows.map intsW ++ G)))[st.length + (j + 1)]? = some (intsW rows[j]) := by
  rw [fr_at, List.getElem?_cons_succ, rows_at h]
theorem fr_rowS {st : Store} {dz : Nat} {a b : Int} {c : List W} {rows : List (List Int)} {G : Store} {j : Nat} {x : List Int} (h : j < rows.length) : (fr st dz a b (c :: (rows.map intsW ++ G))).set (st.length + (j + 1)) (intsW x) = fr st dz a b (c :: ((rows.set j x).map intsW ++ G)) := by
  rw [fr_set, List.set_cons_succ, rows_set h]
/-- rows of different pieces below k -/
def RB (k : Nat) (rows : List (List Int)) : Prop := ∀ r ∈ rows, r.Nodup ∧ ∀ p ∈ r, 0 ≤ p ∧ p < (k : Int)
theorem RB.set {k : Nat} {rows : List (List Int)} {j : Nat} {r : List Int} (h : RB k rows) (hr : r.Nodup ∧ ∀ p ∈ r, 0 ≤ p ∧ p < (k : Int)) : RB k (rows.set j r) := fun x hx => by
  rcases List.mem_or_eq_of_mem_set hx with q | q
  · exact h x q
  · rw [q]; exact hr
theorem RB.mono {k : Nat} {rows : List (List Int)} (h : RB k rows) : RB (k + 1) rows := fun r hr => ⟨(h r hr).1, fun p hp => by have := (h r hr).2 p hp; omega⟩
theorem RB.app {k : Nat} {rows : List (List Int)} {j : Nat} (h : RB (k + 1) rows) (hj : j < rows.length) (hn : (k : Int) ∉ rows[j]) : RB (k + 1) (rows.set j (rows[j] ++ [(k : Int)])) := by
  have hm := h rows[j] (List.getElem_mem hj)
  refine h.set ⟨List.nodup_append.mpr ⟨hm.1, by simp, fun x hx y hy => by rw [List.mem_singleton.mp hy]; exact fun e => hn (e ▸ hx)⟩, fun p hp => ?_⟩
  rcases List.mem_append.mp hp with hp | hp
  · exact hm.2 p hp
  · rw [List.mem_singleton.mp hp]; omega
theorem wp_holding {X : Er → Store → Prop} {Q : W → Store → Prop} {st : Store} {dz : Nat} {a b h m : Int} {ts : List (Int × Int × Int)} (hd : dz < st.length) (hs : okPl st) (g : GD h m ts)
    (hq : ∀ (hs : List (List Int)) (a' b' : Int), GH h m hs → Q (holdW hs) (fr st dz a' b' [])) : Wp (f__law_holding [.loc dz, dealW h m ts] (fr st dz a b [])) X Q := by
  have g1 := g.h1
  have g4 := g.h4
  have m1 := g.m1
  have m4 := g.m4
  obtain ⟨n, rfl⟩ : ∃ n : Nat, h = (n : Int) := ⟨h.toNat, by omega⟩
  obtain ⟨mm, rfl⟩ : ∃ mm : Nat, m = (mm : Int) := ⟨m.toNat, by omega⟩
  unfold f__law_holding F__law_holding dealW
  refine wp_fn rfl ?_
  (try simp only [wps_seq, wps_nil, wps_ret, wps_retN, wps_expr, wps_asg, wps_setIx, wps_for, wp_eC, wp_eV, wp_e2, wp_eB, wp_bNot, wp_vNot, wp_eNeg, wp_aNil, wp_aCons, wp_eTup, wp_eLst, wp_eCall, wp_pN, wp_pS, wp_eSl, wp_sl_tup, wp_sl_loc, wp_eApp, wp_eRev, wp_add, wp_sub, wp_lt, wp_le, wp_gt, wp_ge, wp_mod, wp_eqI, wp_neI, wp_catT, wp_catL, wp_rep, wp_ixT, wp_ixF, wp_ixL, wp_lenT, wp_lenF, wp_lenL, wp_listT, wp_listL, wp_tupleT, wp_tupleL, wp_intB, wp_intI, wp_wkQT, wp_wkR, wp_eLc, wipeW, ov_some, tb_bl, tl_loc, ti_int, vw_some, wp_gN, wp_ok, List.getElem?_cons_zero, List.getElem?_cons_succ, List.set_cons_zero, List.set_cons_succ, fr_len, fr_app, fr_at, fr_at0, fr_set, fr_set0, fo_len, fo_app, fo_at, fo_at0, fo_set, fo_set0, tl_at, tl_at', tl_atM, tl_set, tl_set', List.length_cons, List.length_nil, List.length_append, List.length_map, List.cons_append, List.nil_append, List.append_assoc, at_nat, at_zero, at_one, at_two, cut_to, cut_from, Nat.zero_add, Nat.add_zero, Nat.reduceAdd, decide_eq_true_eq, decide_eq_false_iff_not, Bool.not_eq_true', Bool.not_eq_false', Bool.not_true, Bool.not_false, forall_const, Bool.false_eq_true, Bool.true_eq_false, false_implies, eq_self, true_and, and_true, true_implies, List.map_cons, List.map_nil, List.cons_append, List.nil_append, List.replicate_succ, List.replicate_zero, Nat.reduceSub])
  refine ⟨by omega, ?_⟩
  rw [Int.toNat_natCast]
  refine wp_lcD (I := fun k acc s => acc = lw st.length k ∧ s = fr st dz a b (lw st.length k :: (List.replicate k []))) ⟨rfl, rfl⟩ (fun k acc s hk hi => ?_) (fun k w acc s hw hi => ?_) (fun acc s hi => ?_)
  · obtain ⟨rfl, rfl⟩ := hi
    refine ⟨True.intro, ?_⟩
    rw [lw_len]
    simp [rngW] at hk
    omega
  · obtain ⟨rfl, rfl⟩ := hi
    (try simp only [wps_seq, wps_nil, wps_ret, wps_retN, wps_expr, wps_asg, wps_setIx, wps_for, wp_eC, wp_eV, wp_e2, wp_eB, wp_bNot, wp_vNot, wp_eNeg, wp_aNil, wp_aCons, wp_eTup, wp_eLst, wp_eCall, wp_pN, wp_pS, wp_eSl, wp_sl_tup, wp_sl_loc, wp_eApp, wp_eRev, wp_add, wp_sub, wp_lt, wp_le, wp_gt, wp_ge, wp_mod, wp_eqI, wp_neI, wp_catT, wp_catL, wp_rep, wp_ixT, wp_ixF, wp_ixL, wp_lenT, wp_lenF, wp_lenL, wp_listT, wp_listL, wp_tupleT, wp_tupleL, wp_intB, wp_intI, wp_wkQT, wp_wkR, wp_eLc, wipeW, ov_some, tb_bl, tl_loc, ti_int, vw_some, wp_gN, wp_ok, List.getElem?_cons_zero, List.getElem?_cons_succ, List.set_cons_zero, List.set_cons_succ, fr_len, fr_app, fr_at, fr_at0, fr_set, fr_set0, fo_len, fo_app, fo_at, fo_at0, fo_set, fo_set0, tl_at, tl_at', tl_atM, tl_set, tl_set', List.length_cons, List.length_nil, List.length_append, List.length_map, List.cons_append, List.nil_append, List.append_assoc, at_nat, at_zero, at_one, at_two, cut_to, cut_from, Nat.zero_add, Nat.add_zero, Nat.reduceAdd, decide_eq_true_eq, decide_eq_false_iff_not, Bool.not_eq_true', Bool.not_eq_false', Bool.not_true, Bool.not_false, forall_const, Bool.false_eq_true, Bool.true_eq_false, false_implies, eq_self, true_and, and_true, true_implies, bYes, wp_okW])
    refine ⟨by omega, ?_⟩
    exact ⟨by rw [lw_succ]; simp, by rw [lw_succ]; simp [List.replicate_succ']⟩
  obtain ⟨rfl, rfl⟩ := hi
  have hl : (rngW 0 n).length = n := by simp [rngW]
  rw [hl]
  refine wp_roll hd (by omega) (by omega) fun sort a b s0 s1 => ?_
  (try simp only [wps_seq, wps_nil, wps_ret, wps_retN, wps_expr, wps_asg, wps_setIx, wps_for, wp_eC, wp_eV, wp_e2, wp_eB, wp_bNot, wp_vNot, wp_eNeg, wp_aNil, wp_aCons, wp_eTup, wp_eLst, wp_eCall, wp_pN, wp_pS, wp_eSl, wp_sl_tup, wp_sl_loc, wp_eApp, wp_eRev, wp_add, wp_sub, wp_lt, wp_le, wp_gt, wp_ge, wp_mod, wp_eqI, wp_neI, wp_catT, wp_catL, wp_rep, wp_ixT, wp_ixF, wp_ixL, wp_lenT, wp_lenF, wp_lenL, wp_listT, wp_listL, wp_tupleT, wp_tupleL, wp_intB, wp_intI, wp_wkQT, wp_wkR, wp_eLc, wipeW, ov_some, tb_bl, tl_loc, ti_int, vw_some, wp_gN, wp_ok, List.getElem?_cons_zero, List.getElem?_cons_succ, List.set_cons_zero, List.set_cons_succ, fr_len, fr_app, fr_at, fr_at0, fr_set, fr_set0, fo_len, fo_app, fo_at, fo_at0, fo_set, fo_set0, tl_at, tl_at', tl_atM, tl_set, tl_set', List.length_cons, List.length_nil, List.length_append, List.length_map, List.cons_append, List.nil_append, List.append_assoc, at_nat, at_zero, at_one, at_two, cut_to, cut_from, Nat.zero_add, Nat.add_zero, Nat.reduceAdd, decide_eq_true_eq, decide_eq_false_iff_not, Bool.not_eq_true', Bool.not_eq_false', Bool.not_true, Bool.not_false, forall_const, Bool.false_eq_true, Bool.true_eq_false, false_implies, eq_self, true_and, and_true, true_implies])
  refine wp_roll hd (by omega) (by omega) fun home a b o0 o1 => ?_
  (try simp only [wps_seq, wps_nil, wps_ret, wps_retN, wps_expr, wps_asg, wps_setIx, wps_for, wp_eC, wp_eV, wp_e2, wp_eB, wp_bNot, wp_vNot, wp_eNeg, wp_aNil, wp_aCons, wp_eTup, wp_eLst, wp_eCall, wp_pN, wp_pS, wp_eSl, wp_sl_tup, wp_sl_loc, wp_eApp, wp_eRev, wp_add, wp_sub, wp_lt, wp_le, wp_gt, wp_ge, wp_mod, wp_eqI, wp_neI, wp_catT, wp_catL, wp_rep, wp_ixT, wp_ixF, wp_ixL, wp_lenT, wp_lenF, wp_lenL, wp_listT, wp_listL, wp_tupleT, wp_tupleL, wp_intB, wp_intI, wp_wkQT, wp_wkR, wp_eLc, wipeW, ov_some, tb_bl, tl_loc, ti_int, vw_some, wp_gN, wp_ok, List.getElem?_cons_zero, List.getElem?_cons_succ, List.set_cons_zero, List.set_cons_succ, fr_len, fr_app, fr_at, fr_at0, fr_set, fr_set0, fo_len, fo_app, fo_at, fo_at0, fo_set, fo_set0, tl_at, tl_at', tl_atM, tl_set, tl_set', List.length_cons, List.length_nil, List.length_append, List.length_map, List.cons_append, List.nil_append, List.append_assoc, at_nat, at_zero, at_one, at_two, cut_to, cut_from, Nat.zero_add, Nat.add_zero, Nat.reduceAdd, decide_eq_true_eq, decide_eq_false_iff_not, Bool.not_eq_true', Bool.not_eq_false', Bool.not_true, Bool.not_false, forall_const, Bool.false_eq_true, Bool.true_eq_false, false_implies, eq_self, true_and, and_true, true_implies])
  refine ⟨by omega, ?_⟩
  rw [Int.toNat_natCast]
  refine wps_forR (I := fun k sl st' => ∃ (rows : List (List Int)) (G : Store) (a b : Int) (s5 s6 s7 : Option W), sl = [some (W.loc dz), some (W.tup [W.int n, W.int mm, W.tup (List.map tieW ts)]), some (W.loc st.length), some (W.int sort), some (W.int home), s5, s6, s7] ∧
    st' = fr st dz a b (lw st.length n :: (rows.map intsW ++ G)) ∧ rows.length = n ∧ RB k rows) ⟨List.replicate n [], [], a, b, _, _, _, rfl, by simp [intsW], by simp, fun r hr => by rw [List.eq_of_mem_replicate hr]; simp⟩ (fun k sl st' hk hI => ?_) fun sl st' hI => ?_
  · obtain ⟨rows, G, a, b, s5, s6, s7, rfl, rfl, hr, rb⟩ := hI
    (try simp only [wps_seq, wps_nil, wps_ret, wps_retN, wps_expr, wps_asg, wps_setIx, wps_for, wp_eC, wp_eV, wp_e2, wp_eB, wp_bNot, wp_vNot, wp_eNeg, wp_aNil, wp_aCons, wp_eTup, wp_eLst, wp_eCall, wp_pN, wp_pS, wp_eSl, wp_sl_tup, wp_sl_loc, wp_eApp, wp_eRev, wp_add, wp_sub, wp_lt, wp_le, wp_gt, wp_ge, wp_mod, wp_eqI, wp_neI, wp_catT, wp_catL, wp_rep, wp_ixT, wp_ixF, wp_ixL, wp_lenT, wp_lenF, wp_lenL, wp_listT, wp_listL, wp_tupleT, wp_tupleL, wp_intB, wp_intI, wp_wkQT, wp_wkR, wp_eLc, wipeW, ov_some, tb_bl, tl_loc, ti_int, vw_some, wp_gN, wp_ok, List.getElem?_cons_zero, List.getElem?_cons_succ, List.set_cons_zero, List.set_cons_succ, fr_len, fr_app, fr_at, fr_at0, fr_set, fr_set0, fo_len, fo_app, fo_at, fo_at0, fo_set, fo_set0, tl_at, tl_at', tl_atM, tl_set, tl_set', List.length_cons, List.length_nil, List.length_append, List.length_map, List.cons_append, List.nil_append, List.append_assoc, at_nat, at_zero, at_one, at_two, cut_to, cut_from, Nat.zero_add, Nat.add_zero, Nat.reduceAdd, decide_eq_true_eq, decide_eq_false_iff_not, Bool.not_eq_true', Bool.not_eq_false', Bool.not_true, Bool.not_false, forall_const, Bool.false_eq_true, Bool.true_eq_false, false_implies, eq_self, true_and, and_true, true_implies])
    refine WpS.cut (N := fun sl st' => ∃ (rows : List (List Int)) (G : Store) (a b : Int), sl = [some (W.loc dz), some (W.tup [W.int n, W.int mm, W.tup (List.map tieW ts)]), some (W.loc st.length), some (W.int sort), some (W.int home), some (W.int k), s6, s7] ∧
      st' = fr st dz a b (lw st.length n :: (rows.map intsW ++ G)) ∧ rows.length = n ∧ RB (k + 1) rows) ?_ ?_
    · have body : ∀ (rows : List (List Int)) (G : Store) (a b : Int), rows.length = n → RB k rows → ∀ (X : Er → Store → Prop) (R : W → Store → Prop), WpS (sExpr (eApp (e2 oIx (eV 2) (e2 oIx (eLst (aCons (eV 4) (aCons (eCall f__law_roll (aCons (eV 0) (aCons (e2 oIx (eV 1) (eC (.int 0))) aNil))) aNil))) (eCall oInt (aCons (e2 oGt (eV 3) (eC (.int 0))) aNil)))) (eV 5))
          [some (W.loc dz), some (W.tup [W.int n, W.int mm, W.tup (List.map tieW ts)]), some (W.loc st.length), some (W.int sort), some (W.int home), some (W.int k), s6, s7] (fr st dz a b (lw st.length n :: (rows.map intsW ++ G)))) X (fun sl st' => ∃ (rows : List (List Int)) (G : Store) (a b : Int), sl = [some (W.loc dz), some (W.tup [W.int n, W.int mm, W.tup (List.map tieW ts)]), some (W.loc st.length), some (W.int sort), some (W.int home), some (W.int k), s6, s7] ∧
      st' = fr st dz a b (lw st.length n :: (rows.map intsW ++ G)) ∧ rows.length = n ∧ RB (k + 1) rows) R := by
        intro rows G a b hr rb X R
        (try simp only [wps_seq, wps_nil, wps_ret, wps_retN, wps_expr, wps_asg, wps_setIx, wps_for, wp_eC, wp_eV, wp_e2, wp_eB, wp_bNot, wp_vNot, wp_eNeg, wp_aNil, wp_aCons, wp_eTup, wp_eLst, wp_eCall, wp_pN, wp_pS, wp_eSl, wp_sl_tup, wp_sl_loc, wp_eApp, wp_eRev, wp_add, wp_sub, wp_lt, wp_le, wp_gt, wp_ge, wp_mod, wp_eqI, wp_neI, wp_catT, wp_catL, wp_rep, wp_ixT, wp_ixF, wp_ixL, wp_lenT, wp_lenF, wp_lenL, wp_listT, wp_listL, wp_tupleT, wp_tupleL, wp_intB, wp_intI, wp_wkQT, wp_wkR, wp_eLc, wipeW, ov_some, tb_bl, tl_loc, ti_int, vw_some, wp_gN, wp_ok, List.getElem?_cons_zero, List.getElem?_cons_succ, List.set_cons_zero, List.set_cons_succ, fr_len, fr_app, fr_at, fr_at0, fr_set, fr_set0, fo_len, fo_app, fo_at, fo_at0, fo_set, fo_set0, tl_at, tl_at', tl_atM, tl_set, tl_set', List.length_cons, List.length_nil, List.length_append, List.length_map, List.cons_append, List.nil_append, List.append_assoc, at_nat, at_zero, at_one, at_two, cut_to, cut_from, Nat.zero_add, Nat.add_zero, Nat.reduceAdd, decide_eq_true_eq, decide_eq_false_iff_not, Bool.not_eq_true', Bool.not_eq_false', Bool.not_true, Bool.not_false, forall_const, Bool.false_eq_true, Bool.true_eq_false, false_implies, eq_self, true_and, and_true, true_implies])
        refine wp_roll hd (by omega) (by omega) fun r a b r0 r1 => ?_
        (try simp only [wps_seq, wps_nil, wps_ret, wps_retN, wps_expr, wps_asg, wps_setIx, wps_for, wp_eC, wp_eV, wp_e2, wp_eB, wp_bNot, wp_vNot, wp_eNeg, wp_aNil, wp_aCons, wp_eTup, wp_eLst, wp_eCall, wp_pN, wp_pS, wp_eSl, wp_sl_tup, wp_sl_loc, wp_eApp, wp_eRev, wp_add, wp_sub, wp_lt, wp_le, wp_gt, wp_ge, wp_mod, wp_eqI, wp_neI, wp_catT, wp_catL, wp_rep, wp_ixT, wp_ixF, wp_ixL, wp_lenT, wp_lenF, wp_lenL, wp_listT, wp_listL, wp_tupleT, wp_tupleL, wp_intB, wp_intI, wp_wkQT, wp_wkR, wp_eLc, wipeW, ov_some, tb_bl, tl_loc, ti_int, vw_some, wp_gN, wp_ok, List.getElem?_cons_zero, List.getElem?_cons_succ, List.set_cons_zero, List.set_cons_succ, fr_len, fr_app, fr_at, fr_at0, fr_set, fr_set0, fo_len, fo_app, fo_at, fo_at0, fo_set, fo_set0, tl_at, tl_at', tl_atM, tl_set, tl_set', List.length_cons, List.length_nil, List.length_append, List.length_map, List.cons_append, List.nil_append, List.append_assoc, at_nat, at_zero, at_one, at_two, cut_to, cut_from, Nat.zero_add, Nat.add_zero, Nat.reduceAdd, decide_eq_true_eq, decide_eq_false_iff_not, Bool.not_eq_true', Bool.not_eq_false', Bool.not_true, Bool.not_false, forall_const, Bool.false_eq_true, Bool.true_eq_false, false_implies, eq_self, true_and, and_true, true_implies])
        refine ⟨by omega, ?_⟩
        obtain ⟨j, hj, hjn⟩ : ∃ j : Nat, atI [W.int home, W.int r] (if 0 < sort then 1 else 0) = some (.int j) ∧ j < n := by
          split
          · exact ⟨r.toNat, by rw [at_one]; simp; omega, by omega⟩
          · exact ⟨home.toNat, by rw [at_zero]; simp; omega, by omega⟩
        rw [hj, ov_some]
        have hjr : j < rows.length := by omega
        have hrj := rb rows[j] (List.getElem_mem hjr)
        have hlen := rise_len' hrj.1 hrj.2
        (try simp only [wps_seq, wps_nil, wps_ret, wps_retN, wps_expr, wps_asg, wps_setIx, wps_for, wp_eC, wp_eV, wp_e2, wp_eB, wp_bNot, wp_vNot, wp_eNeg, wp_aNil, wp_aCons, wp_eTup, wp_eLst, wp_eCall, wp_pN, wp_pS, wp_eSl, wp_sl_tup, wp_sl_loc, wp_eApp, wp_eRev, wp_add, wp_sub, wp_lt, wp_le, wp_gt, wp_ge, wp_mod, wp_eqI, wp_neI, wp_catT, wp_catL, wp_rep, wp_ixT, wp_ixF, wp_ixL, wp_lenT, wp_lenF, wp_lenL, wp_listT, wp_listL, wp_tupleT, wp_tupleL, wp_intB, wp_intI, wp_wkQT, wp_wkR, wp_eLc, wipeW, ov_some, tb_bl, tl_loc, ti_int, vw_some, wp_gN, wp_ok, List.getElem?_cons_zero, List.getElem?_cons_succ, List.set_cons_zero, List.set_cons_succ, fr_len, fr_app, fr_at, fr_at0, fr_set, fr_set0, fo_len, fo_app, fo_at, fo_at0, fo_set, fo_set0, tl_at, tl_at', tl_atM, tl_set, tl_set', List.length_cons, List.length_nil, List.length_append, List.length_map, List.cons_append, List.nil_append, List.append_assoc, at_nat, at_zero, at_one, at_two, cut_to, cut_from, Nat.zero_add, Nat.add_zero, Nat.reduceAdd, decide_eq_true_eq, decide_eq_false_iff_not, Bool.not_eq_true', Bool.not_eq_false', Bool.not_true, Bool.not_false, forall_const, Bool.false_eq_true, Bool.true_eq_false, false_implies, eq_self, true_and, and_true, true_implies, lw_at hjn, fr_row hjr])
        rw [intsW_app, rows_set hjr]
        refine ⟨by simp [intsW]; omega, _, _, _, _, rfl, by simp [hr], rb.mono.app hjr fun q => ?_⟩
        have := hrj.2 _ q
        omega
      refine wps_ifc (P := fun _ s => ∃ a b, s = fr st dz a b (lw st.length n :: (rows.map intsW ++ G))) ?_ ?_ ?_
      · (try simp only [wps_seq, wps_nil, wps_ret, wps_retN, wps_expr, wps_asg, wps_setIx, wps_for, wp_eC, wp_eV, wp_e2, wp_eB, wp_bNot, wp_vNot, wp_eNeg, wp_aNil, wp_aCons, wp_eTup, wp_eLst, wp_eCall, wp_pN, wp_pS, wp_eSl, wp_sl_tup, wp_sl_loc, wp_eApp, wp_eRev, wp_add, wp_sub, wp_lt, wp_le, wp_gt, wp_ge, wp_mod, wp_eqI, wp_neI, wp_catT, wp_catL, wp_rep, wp_ixT, wp_ixF, wp_ixL, wp_lenT, wp_lenF, wp_lenL, wp_listT, wp_listL, wp_tupleT, wp_tupleL, wp_intB, wp_intI, wp_wkQT, wp_wkR, wp_eLc, wipeW, ov_some, tb_bl, tl_loc, ti_int, vw_some, wp_gN, wp_ok, List.getElem?_cons_zero, List.getElem?_cons_succ, List.set_cons_zero, List.set_cons_succ, fr_len, fr_app, fr_at, fr_at0, fr_set, fr_set0, fo_len, fo_app, fo_at, fo_at0, fo_set, fo_set0, tl_at, tl_at', tl_atM, tl_set, tl_set', List.length_cons, List.length_nil, List.length_append, List.length_map, List.cons_append, List.nil_append, List.append_assoc, at_nat, at_zero, at_one, at_two, cut_to, cut_from, Nat.zero_add, Nat.add_zero, Nat.reduceAdd, decide_eq_true_eq, decide_eq_false_iff_not, Bool.not_eq_true', Bool.not_eq_false', Bool.not_true, Bool.not_false, forall_const, Bool.false_eq_true, Bool.true_eq_false, false_implies, eq_self, true_and, and_true, true_implies, wp_bOr])
        refine ⟨fun h0 => ⟨a, b, rfl⟩, fun h0 => wp_roll hd (by omega) (by omega) fun r a b r0 r1 => ?_⟩
        (try simp only [wps_seq, wps_nil, wps_ret, wps_retN, wps_expr, wps_asg, wps_setIx, wps_for, wp_eC, wp_eV, wp_e2, wp_eB, wp_bNot, wp_vNot, wp_eNeg, wp_aNil, wp_aCons, wp_eTup, wp_eLst, wp_eCall, wp_pN, wp_pS, wp_eSl, wp_sl_tup, wp_sl_loc, wp_eApp, wp_eRev, wp_add, wp_sub, wp_lt, wp_le, wp_gt, wp_ge, wp_mod, wp_eqI, wp_neI, wp_catT, wp_catL, wp_rep, wp_ixT, wp_ixF, wp_ixL, wp_lenT, wp_lenF, wp_lenL, wp_listT, wp_listL, wp_tupleT, wp_tupleL, wp_intB, wp_intI, wp_wkQT, wp_wkR, wp_eLc, wipeW, ov_some, tb_bl, tl_loc, ti_int, vw_some, wp_gN, wp_ok, List.getElem?_cons_zero, List.getElem?_cons_succ, List.set_cons_zero, List.set_cons_succ, fr_len, fr_app, fr_at, fr_at0, fr_set, fr_set0, fo_len, fo_app, fo_at, fo_at0, fo_set, fo_set0, tl_at, tl_at', tl_atM, tl_set, tl_set', List.length_cons, List.length_nil, List.length_append, List.length_map, List.cons_append, List.nil_append, List.append_assoc, at_nat, at_zero, at_one, at_two, cut_to, cut_from, Nat.zero_add, Nat.add_zero, Nat.reduceAdd, decide_eq_true_eq, decide_eq_false_iff_not, Bool.not_eq_true', Bool.not_eq_false', Bool.not_true, Bool.not_false, forall_const, Bool.false_eq_true, Bool.true_eq_false, false_implies, eq_self, true_and, and_true, true_implies])
        exact ⟨a, b, rfl⟩
      · rintro s ⟨a, b, rfl⟩
        exact body rows G a b hr rb _ _
      · rintro s ⟨a, b, rfl⟩
        exact ⟨rows, G, a, b, rfl, rfl, hr, rb.mono⟩
    clear hr rb rows
    rintro sl st' ⟨rows, G, a, b, rfl, rfl, hr, rb⟩
    (try simp only [wps_seq, wps_nil, wps_ret, wps_retN, wps_expr, wps_asg, wps_setIx, wps_for, wp_eC, wp_eV, wp_e2, wp_eB, wp_bNot, wp_vNot, wp_eNeg, wp_aNil, wp_aCons, wp_eTup, wp_eLst, wp_eCall, wp_pN, wp_pS, wp_eSl, wp_sl_tup, wp_sl_loc, wp_eApp, wp_eRev, wp_add, wp_sub, wp_lt, wp_le, wp_gt, wp_ge, wp_mod, wp_eqI, wp_neI, wp_catT, wp_catL, wp_rep, wp_ixT, wp_ixF, wp_ixL, wp_lenT, wp_lenF, wp_lenL, wp_listT, wp_listL, wp_tupleT, wp_tupleL, wp_intB, wp_intI, wp_wkQT, wp_wkR, wp_eLc, wipeW, ov_some, tb_bl, tl_loc, ti_int, vw_some, wp_gN, wp_ok, List.getElem?_cons_zero, List.getElem?_cons_succ, List.set_cons_zero, List.set_cons_succ, fr_len, fr_app, fr_at, fr_at0, fr_set, fr_set0, fo_len, fo_app, fo_at, fo_at0, fo_set, fo_set0, tl_at, tl_at', tl_atM, tl_set, tl_set', List.length_cons, List.length_nil, List.length_append, List.length_map, List.cons_append, List.nil_append, List.append_assoc, at_nat, at_zero, at_one, at_two, cut_to, cut_from, Nat.zero_add, Nat.add_zero, Nat.reduceAdd, decide_eq_true_eq, decide_eq_false_iff_not, Bool.not_eq_true', Bool.not_eq_false', Bool.not_true, Bool.not_false, forall_const, Bool.false_eq_true, Bool.true_eq_false, false_implies, eq_self, true_and, and_true, true_implies])
    have e8 : lw st.length n = (List.range n).map fun i => W.loc (st.length + (i + 1)) := rfl
    rw [e8]
    refine wps_forT (I := fun don sl st' => ∃ (rows : List (List Int)) (G : Store) (a b : Int) (s6 : Option W), sl = [some (W.loc dz), some (W.tup [W.int n, W.int mm, W.tup (List.map tieW ts)]), some (W.loc st.length), some (W.int sort), some (W.int home), some (W.int k), s6, s7] ∧
      st' = fr st dz a b (lw st.length n :: (rows.map intsW ++ G)) ∧ rows.length = n ∧ RB (k + 1) rows) ⟨rows, G, a, b, _, rfl, rfl, hr, rb⟩ (fun don rest sl st' e hi => ?_) (fun don i rest sl st' e hi => ?_) (fun sl st' hi => ?_)
    · obtain ⟨rows, G, a, b, s6, rfl, rfl, hr, rb⟩ := hi
      show _ = _
      rw [fr_at0]
      rfl
    · obtain ⟨rows, G, a, b, s6, rfl, rfl, hr, rb⟩ := hi
      have hi : i < n := List.mem_range.mp (by rw [← e]; simp)
      have hir : i < rows.length := by omega
      (try simp only [wps_seq, wps_nil, wps_ret, wps_retN, wps_expr, wps_asg, wps_setIx, wps_for, wp_eC, wp_eV, wp_e2, wp_eB, wp_bNot, wp_vNot, wp_eNeg, wp_aNil, wp_aCons, wp_eTup, wp_eLst, wp_eCall, wp_pN, wp_pS, wp_eSl, wp_sl_tup, wp_sl_loc, wp_eApp, wp_eRev, wp_add, wp_sub, wp_lt, wp_le, wp_gt, wp_ge, wp_mod, wp_eqI, wp_neI, wp_catT, wp_catL, wp_rep, wp_ixT, wp_ixF, wp_ixL, wp_lenT, wp_lenF, wp_lenL, wp_listT, wp_listL, wp_tupleT, wp_tupleL, wp_intB, wp_intI, wp_wkQT, wp_wkR, wp_eLc, wipeW, ov_some, tb_bl, tl_loc, ti_int, vw_some, wp_gN, wp_ok, List.getElem?_cons_zero, List.getElem?_cons_succ, List.set_cons_zero, List.set_cons_succ, fr_len, fr_app, fr_at, fr_at0, fr_set, fr_set0, fo_len, fo_app, fo_at, fo_at0, fo_set, fo_set0, tl_at, tl_at', tl_atM, tl_set, tl_set', List.length_cons, List.length_nil, List.length_append, List.length_map, List.cons_append, List.nil_append, List.append_assoc, at_nat, at_zero, at_one, at_two, cut_to, cut_from, Nat.zero_add, Nat.add_zero, Nat.reduceAdd, decide_eq_true_eq, decide_eq_false_iff_not, Bool.not_eq_true', Bool.not_eq_false', Bool.not_true, Bool.not_false, forall_const, Bool.false_eq_true, Bool.true_eq_false, false_implies, eq_self, true_and, and_true, true_implies])
      ((rw [wps_if]; (try simp only [wps_seq, wps_nil, wps_ret, wps_retN, wps_expr, wps_asg, wps_setIx, wps_for, wp_eC, wp_eV, wp_e2, wp_eB, wp_bNot, wp_vNot, wp_eNeg, wp_aNil, wp_aCons, wp_eTup, wp_eLst, wp_eCall, wp_pN, wp_pS, wp_eSl, wp_sl_tup, wp_sl_loc, wp_eApp, wp_eRev, wp_add, wp_sub, wp_lt, wp_le, wp_gt, wp_ge, wp_mod, wp_eqI, wp_neI, wp_catT, wp_catL, wp_rep, wp_ixT, wp_ixF, wp_ixL, wp_lenT, wp_lenF, wp_lenL, wp_listT, wp_listL, wp_tupleT, wp_tupleL, wp_intB, wp_intI, wp_wkQT, wp_wkR, wp_eLc, wipeW, ov_some, tb_bl, tl_loc, ti_int, vw_some, wp_gN, wp_ok, List.getElem?_cons_zero, List.getElem?_cons_succ, List.set_cons_zero, List.set_cons_succ, fr_len, fr_app, fr_at, fr_at0, fr_set, fr_set0, fo_len, fo_app, fo_at, fo_at0, fo_set, fo_set0, tl_at, tl_at', tl_atM, tl_set, tl_set', List.length_cons, List.length_nil, List.length_append, List.length_map, List.cons_append, List.nil_append, List.append_assoc, at_nat, at_zero, at_one, at_two, cut_to, cut_from, Nat.zero_add, Nat.add_zero, Nat.reduceAdd, decide_eq_true_eq, decide_eq_false_iff_not, Bool.not_eq_true', Bool.not_eq_false', Bool.not_true, Bool.not_false, forall_const, Bool.false_eq_true, Bool.true_eq_false, false_implies, eq_self, true_and, and_true, true_implies, wp_bAnd, wp_bOr])))
      refine ⟨fun h2 => ?_, fun _ => ⟨rows, G, a, b, _, rfl, rfl, hr, rb⟩⟩
      rw [wp_niL (fr_row hir) (by rw [nb_int]; trivial) nb_ints]
      (try simp only [wps_seq, wps_nil, wps_ret, wps_retN, wps_expr, wps_asg, wps_setIx, wps_for, wp_eC, wp_eV, wp_e2, wp_eB, wp_bNot, wp_vNot, wp_eNeg, wp_aNil, wp_aCons, wp_eTup, wp_eLst, wp_eCall, wp_pN, wp_pS, wp_eSl, wp_sl_tup, wp_sl_loc, wp_eApp, wp_eRev, wp_add, wp_sub, wp_lt, wp_le, wp_gt, wp_ge, wp_mod, wp_eqI, wp_neI, wp_catT, wp_catL, wp_rep, wp_ixT, wp_ixF, wp_ixL, wp_lenT, wp_lenF, wp_lenL, wp_listT, wp_listL, wp_tupleT, wp_tupleL, wp_intB, wp_intI, wp_wkQT, wp_wkR, wp_eLc, wipeW, ov_some, tb_bl, tl_loc, ti_int, vw_some, wp_gN, wp_ok, List.getElem?_cons_zero, List.getElem?_cons_succ, List.set_cons_zero, List.set_cons_succ, fr_len, fr_app, fr_at, fr_at0, fr_set, fr_set0, fo_len, fo_app, fo_at, fo_at0, fo_set, fo_set0, tl_at, tl_at', tl_atM, tl_set, tl_set', List.length_cons, List.length_nil, List.length_append, List.length_map, List.cons_append, List.nil_append, List.append_assoc, at_nat, at_zero, at_one, at_two, cut_to, cut_from, Nat.zero_add, Nat.add_zero, Nat.reduceAdd, decide_eq_true_eq, decide_eq_false_iff_not, Bool.not_eq_true', Bool.not_eq_false', Bool.not_true, Bool.not_false, forall_const, Bool.false_eq_true, Bool.true_eq_false, false_implies, eq_self, true_and, and_true, true_implies, mem_ints])
      refine ⟨fun hni => wp_roll hd (by omega) (by omega) fun r a b r0 r1 => ?_, fun _ => ⟨rows, G, a, b, _, rfl, rfl, hr, rb⟩⟩
      (try simp only [wps_seq, wps_nil, wps_ret, wps_retN, wps_expr, wps_asg, wps_setIx, wps_for, wp_eC, wp_eV, wp_e2, wp_eB, wp_bNot, wp_vNot, wp_eNeg, wp_aNil, wp_aCons, wp_eTup, wp_eLst, wp_eCall, wp_pN, wp_pS, wp_eSl, wp_sl_tup, wp_sl_loc, wp_eApp, wp_eRev, wp_add, wp_sub, wp_lt, wp_le, wp_gt, wp_ge, wp_mod, wp_eqI, wp_neI, wp_catT, wp_catL, wp_rep, wp_ixT, wp_ixF, wp_ixL, wp_lenT, wp_lenF, wp_lenL, wp_listT, wp_listL, wp_tupleT, wp_tupleL, wp_intB, wp_intI, wp_wkQT, wp_wkR, wp_eLc, wipeW, ov_some, tb_bl, tl_loc, ti_int, vw_some, wp_gN, wp_ok, List.getElem?_cons_zero, List.getElem?_cons_succ, List.set_cons_zero, List.set_cons_succ, fr_len, fr_app, fr_at, fr_at0, fr_set, fr_set0, fo_len, fo_app, fo_at, fo_at0, fo_set, fo_set0, tl_at, tl_at', tl_atM, tl_set, tl_set', List.length_cons, List.length_nil, List.length_append, List.length_map, List.cons_append, List.nil_append, List.append_assoc, at_nat, at_zero, at_one, at_two, cut_to, cut_from, Nat.zero_add, Nat.add_zero, Nat.reduceAdd, decide_eq_true_eq, decide_eq_false_iff_not, Bool.not_eq_true', Bool.not_eq_false', Bool.not_true, Bool.not_false, forall_const, Bool.false_eq_true, Bool.true_eq_false, false_implies, eq_self, true_and, and_true, true_implies, fr_row hir])
      have hrj := rb rows[i] (List.getElem_mem hir)
      have hlen := rise_len' hrj.1 hrj.2
      refine ⟨fun _ => ⟨by simp [intsW]; omega, ?_⟩, fun _ => ⟨rows, G, a, b, _, rfl, rfl, hr, rb⟩⟩
      rw [intsW_app, rows_set hir]
      exact ⟨_, _, _, _, _, rfl, rfl, by simp [hr], rb.app hir hni⟩
    · obtain ⟨rows, G, a, b, s6, rfl, rfl, hr, rb⟩ := hi
      exact ⟨rows, G, a, b, _, _, _, rfl, rfl, hr, rb⟩
  obtain ⟨rows, G, a, b, s5, s6, s7, rfl, rfl, hr, rb⟩ := hI
  (try simp only [wps_seq, wps_nil, wps_ret, wps_retN, wps_expr, wps_asg, wps_setIx, wps_for, wp_eC, wp_eV, wp_e2, wp_eB, wp_bNot, wp_vNot, wp_eNeg, wp_aNil, wp_aCons, wp_eTup, wp_eLst, wp_eCall, wp_pN, wp_pS, wp_eSl, wp_sl_tup, wp_sl_loc, wp_eApp, wp_eRev, wp_add, wp_sub, wp_lt, wp_le, wp_gt, wp_ge, wp_mod, wp_eqI, wp_neI, wp_catT, wp_catL, wp_rep, wp_ixT, wp_ixF, wp_ixL, wp_lenT, wp_lenF, wp_lenL, wp_listT, wp_listL, wp_tupleT, wp_tupleL, wp_intB, wp_intI, wp_wkQT, wp_wkR, wp_eLc, wipeW, ov_some, tb_bl, tl_loc, ti_int, vw_some, wp_gN, wp_ok, List.getElem?_cons_zero, List.getElem?_cons_succ, List.set_cons_zero, List.set_cons_succ, fr_len, fr_app, fr_at, fr_at0, fr_set, fr_set0, fo_len, fo_app, fo_at, fo_at0, fo_set, fo_set0, tl_at, tl_at', tl_atM, tl_set, tl_set', List.length_cons, List.length_nil, List.length_append, List.length_map, List.cons_append, List.nil_append, List.append_assoc, at_nat, at_zero, at_one, at_two, cut_to, cut_from, Nat.zero_add, Nat.add_zero, Nat.reduceAdd, decide_eq_true_eq, decide_eq_false_iff_not, Bool.not_eq_true', Bool.not_eq_false', Bool.not_true, Bool.not_false, forall_const, Bool.false_eq_true, Bool.true_eq_false, false_implies, eq_self, true_and, and_true, true_implies])
  have eT : fr st dz a b (lw st.length n :: (rows.map intsW ++ (G ++ [[]]))) = fr st dz a b ((lw st.length n :: (rows.map intsW ++ G)) ++ [[]]) := by simp
  have eL : st.length + (rows.length + List.length G + 1) = st.length + (lw st.length n :: (rows.map intsW ++ G)).length := by simp
  have e8 : lw st.length n = (List.range n).map fun i => W.loc (st.length + (i + 1)) := rfl
  rw [eT, eL]
  refine wp_lcG (T := lw st.length n :: (rows.map intsW ++ G)) (l := List.range n) (src := fun i => W.loc (st.length + (i + 1))) (fun i => rowW (sortI (rows.getD i []))) (fun _ => true) (fun a b acc G' => ?_) (by simp; omega) (fun i hi a b acc G' => ?_) (fun a b G' => ?_)
  · show _ = _
    rw [List.cons_append, fr_at0]
    rfl
  · have hi : i < n := List.mem_range.mp hi
    have hir : i < rows.length := by omega
    have hrj := rb rows[i] (List.getElem_mem hir)
    have hlen := rise_len' hrj.1 hrj.2
    have eg : rows.getD i [] = rows[i] := by simp [List.getD_eq_getElem?_getD, hir]
    have ai : allS ((intsW rows[i]).map asInt) = some rows[i] := asInts
    (try simp only [wps_seq, wps_nil, wps_ret, wps_retN, wps_expr, wps_asg, wps_setIx, wps_for, wp_eC, wp_eV, wp_e2, wp_eB, wp_bNot, wp_vNot, wp_eNeg, wp_aNil, wp_aCons, wp_eTup, wp_eLst, wp_eCall, wp_pN, wp_pS, wp_eSl, wp_sl_tup, wp_sl_loc, wp_eApp, wp_eRev, wp_add, wp_sub, wp_lt, wp_le, wp_gt, wp_ge, wp_mod, wp_eqI, wp_neI, wp_catT, wp_catL, wp_rep, wp_ixT, wp_ixF, wp_ixL, wp_lenT, wp_lenF, wp_lenL, wp_listT, wp_listL, wp_tupleT, wp_tupleL, wp_intB, wp_intI, wp_wkQT, wp_wkR, wp_eLc, wipeW, ov_some, tb_bl, tl_loc, ti_int, vw_some, wp_gN, wp_ok, List.getElem?_cons_zero, List.getElem?_cons_succ, List.set_cons_zero, List.set_cons_succ, fr_len, fr_app, fr_at, fr_at0, fr_set, fr_set0, fo_len, fo_app, fo_at, fo_at0, fo_set, fo_set0, tl_at, tl_at', tl_atM, tl_set, tl_set', List.length_cons, List.length_nil, List.length_append, List.length_map, List.cons_append, List.nil_append, List.append_assoc, at_nat, at_zero, at_one, at_two, cut_to, cut_from, Nat.zero_add, Nat.add_zero, Nat.reduceAdd, decide_eq_true_eq, decide_eq_false_iff_not, Bool.not_eq_true', Bool.not_eq_false', Bool.not_true, Bool.not_false, forall_const, Bool.false_eq_true, Bool.true_eq_false, false_implies, eq_self, true_and, and_true, true_implies, bYes, wp_okW])
    refine ⟨a, b, G', rfl, ?_⟩
    rw [wp_sortedL]
    (try simp only [wps_seq, wps_nil, wps_ret, wps_retN, wps_expr, wps_asg, wps_setIx, wps_for, wp_eC, wp_eV, wp_e2, wp_eB, wp_bNot, wp_vNot, wp_eNeg, wp_aNil, wp_aCons, wp_eTup, wp_eLst, wp_eCall, wp_pN, wp_pS, wp_eSl, wp_sl_tup, wp_sl_loc, wp_eApp, wp_eRev, wp_add, wp_sub, wp_lt, wp_le, wp_gt, wp_ge, wp_mod, wp_eqI, wp_neI, wp_catT, wp_catL, wp_rep, wp_ixT, wp_ixF, wp_ixL, wp_lenT, wp_lenF, wp_lenL, wp_listT, wp_listL, wp_tupleT, wp_tupleL, wp_intB, wp_intI, wp_wkQT, wp_wkR, wp_eLc, wipeW, ov_some, tb_bl, tl_loc, ti_int, vw_some, wp_gN, wp_ok, List.getElem?_cons_zero, List.getElem?_cons_succ, List.set_cons_zero, List.set_cons_succ, fr_len, fr_app, fr_at, fr_at0, fr_set, fr_set0, fo_len, fo_app, fo_at, fo_at0, fo_set, fo_set0, tl_at, tl_at', tl_atM, tl_set, tl_set', List.length_cons, List.length_nil, List.length_append, List.length_map, List.cons_append, List.nil_append, List.append_assoc, at_nat, at_zero, at_one, at_two, cut_to, cut_from, Nat.zero_add, Nat.add_zero, Nat.reduceAdd, decide_eq_true_eq, decide_eq_false_iff_not, Bool.not_eq_true', Bool.not_eq_false', Bool.not_true, Bool.not_false, forall_const, Bool.false_eq_true, Bool.true_eq_false, false_implies, eq_self, true_and, and_true, true_implies, fr_row hir])
    rw [ai]
    (try simp only [wps_seq, wps_nil, wps_ret, wps_retN, wps_expr, wps_asg, wps_setIx, wps_for, wp_eC, wp_eV, wp_e2, wp_eB, wp_bNot, wp_vNot, wp_eNeg, wp_aNil, wp_aCons, wp_eTup, wp_eLst, wp_eCall, wp_pN, wp_pS, wp_eSl, wp_sl_tup, wp_sl_loc, wp_eApp, wp_eRev, wp_add, wp_sub, wp_lt, wp_le, wp_gt, wp_ge, wp_mod, wp_eqI, wp_neI, wp_catT, wp_catL, wp_rep, wp_ixT, wp_ixF, wp_ixL, wp_lenT, wp_lenF, wp_lenL, wp_listT, wp_listL, wp_tupleT, wp_tupleL, wp_intB, wp_intI, wp_wkQT, wp_wkR, wp_eLc, wipeW, ov_some, tb_bl, tl_loc, ti_int, vw_some, wp_gN, wp_ok, List.getElem?_cons_zero, List.getElem?_cons_succ, List.set_cons_zero, List.set_cons_succ, fr_len, fr_app, fr_at, fr_at0, fr_set, fr_set0, fo_len, fo_app, fo_at, fo_at0, fo_set, fo_set0, tl_at, tl_at', tl_atM, tl_set, tl_set', List.length_cons, List.length_nil, List.length_append, List.length_map, List.cons_append, List.nil_append, List.append_assoc, at_nat, at_zero, at_one, at_two, cut_to, cut_from, Nat.zero_add, Nat.add_zero, Nat.reduceAdd, decide_eq_true_eq, decide_eq_false_iff_not, Bool.not_eq_true', Bool.not_eq_false', Bool.not_true, Bool.not_false, forall_const, Bool.false_eq_true, Bool.true_eq_false, false_implies, eq_self, true_and, and_true, true_implies])
    refine ⟨by omega, ?_⟩
    exact ⟨by rw [eg]; rfl, _, _, _, rfl⟩
  have ef : (List.range n).filter (fun _ => true) = List.range n := by simp
  rw [ef, wp_tupleL, fr_at, tl_at, ov_some]
  have er : (List.range n).map (fun i => rowW (sortI (rows.getD i []))) = (rows.map sortI).map rowW := by
    refine List.ext_getElem (by simp [hr]) fun i h1 h2 => ?_
    have hir : i < rows.length := by simpa using h2
    simp [List.getD_eq_getElem?_getD, hir]
  rw [er]
  refine wp_trimF hs below_hold (hq (rows.map sortI) _ _ ⟨by simp [hr], fun r hm => ?_, fun r hm p hp => ?_, fun r hm => ?_⟩)
  · obtain ⟨r', hr', rfl⟩ := List.mem_map.mp hm
    have n2 : (sortI r').Nodup := (sortI_perm r').nodup_iff.mpr (rb r' hr').1
    exact List.Pairwise.imp (fun {x y} hxy => by
      have h1 := hxy.1
      have h2 := hxy.2
      omega) (n2.and (sortI_sorted r'))
  · obtain ⟨r', hr', rfl⟩ := List.mem_map.mp hm
    exact (rb r' hr').2 p ((sortI_perm r').mem_iff.mp hp)
  · obtain ⟨r', hr', rfl⟩ := List.mem_map.mp hm
    have := rise_len' (rb r' hr').1 (rb r' hr').2
    rw [(sortI_perm r').length_eq]
    omega
theorem wp_cell {X : Er → Store → Prop} {Q : W → Store → Prop} {w : W} {ns : List Int} {i : Int} {st : Store} (h : Scr w ns st) (hi : 0 ≤ i) (hq : ∀ v : Int, Q (.int v) st) : Wp (f__law_cell_at [w, .int i] st) X Q := by
  obtain ⟨k, rfl⟩ : ∃ k : Nat, i = k := ⟨i.toNat, by omega⟩
  obtain ⟨v, e⟩ := f_cell_ok (k := k) h
  rw [e]
  exact hq v
theorem wp_holdingS {X : Er → Store → Prop} {Q : W → Store → Prop} {S : Store} {dz : Nat} {a b h m : Int} {ts : List (Int × Int × Int)} (hd : S[dz]? = some [.int a, .int b]) (hs : okPl S) (g : GD h m ts)
    (hq : ∀ (hs : List (List Int)) (a' b' : Int), GH h m hs → Q (holdW hs) (S.set dz [.int a', .int b'])) : Wp (f__law_holding [.loc dz, dealW h m ts] S) X Q := by
  have := wp_holding (X := X) (Q := Q) (a := a) (b := b) (List.getElem?_eq_some_iff.mp hd).1 hs g fun hs a' b' gh => by rw [fr_nil]; exact hq hs a' b' gh
  rw [← fr_start hd] at this
  exact this
theorem wp_dice {X : Er → Store → Prop} {Q : W → Store → Prop} {i : Int} {st : Store} (hq : ∀ a b : Int, Q (.loc st.length) (st ++ [[.int a, .int b]])) : Wp (f__law_dice [.int i] st) X Q := by
  obtain ⟨a, b, e⟩ := f_dice_ok (i := i) (st := st)
  rw [e]
  exact hq a b
theorem Scr.fo {w : W} {ns : List Int} {st T : Store} (h : Scr w ns st) : Scr w ns (fo st T) := h.imp id fun ⟨n, e, hn⟩ => ⟨n, e, by rw [fo_old (List.getElem?_eq_some_iff.mp hn).1]; exact hn⟩
theorem okPl_fo {st T : Store} (h : okPl st) (hl : ∀ l ∈ T, belows (st.length + T.length) l = true) : okPl (Dn.fo st T) := fun x hx => by
  rw [fo_len]
  rcases List.mem_append.mp hx with hx | hx
  · exact belows_le (by omega) (h x hx)
  · exact hl x hx
theorem below_deal {n : Nat} {h m : Int} {ts : List (Int × Int × Int)} : below n (dealW h m ts) = true := by
  unfold dealW
  simp only [below, belows, Bool.and_true, Bool.true_and]
  exact belows_map (fun _ => rfl) ts
/-- a deal and a holding of it -/
theorem wp_some {X : Er → Store → Prop} {Q : W → Store → Prop} {w : W} {ns : List Int} {k : Nat} {l : List W} {st : Store} {P : Int → Int → Prop} (hw : Scr w ns st) (hs : okPl st) (hk : st[k]? = some l) (hl : l ≠ []) (hP : ∀ x ∈ l, ∃ a b : Int, x = .tup [.int a, .int b] ∧ 1 ≤ a ∧ a ≤ 4 ∧ 1 ≤ b ∧ b ≤ 4 ∧ P a b)
    (hq : ∀ (a b h m : Int) (ts : List (Int × Int × Int)) (hs : List (List Int)), P a b → h ≤ a → m ≤ b → GD h m ts → GH h m hs → Q (.tup [dealW h m ts, holdW hs]) st) : Wp (f__law_some [w, .loc k] st) X Q := by
  have hkl : k < st.length := (List.getElem?_eq_some_iff.mp hk).1
  have hll : 0 < l.length := List.length_pos_iff.mpr hl
  unfold f__law_some F__law_some
  refine wp_fn rfl ?_
  (try simp only [wps_seq, wps_nil, wps_ret, wps_retN, wps_expr, wps_asg, wps_setIx, wps_for, wp_eC, wp_eV, wp_e2, wp_eB, wp_bNot, wp_vNot, wp_eNeg, wp_aNil, wp_aCons, wp_eTup, wp_eLst, wp_eCall, wp_pN, wp_pS, wp_eSl, wp_sl_tup, wp_sl_loc, wp_eApp, wp_eRev, wp_add, wp_sub, wp_lt, wp_le, wp_gt, wp_ge, wp_mod, wp_eqI, wp_neI, wp_catT, wp_catL, wp_rep, wp_ixT, wp_ixF, wp_ixL, wp_lenT, wp_lenF, wp_lenL, wp_listT, wp_listL, wp_tupleT, wp_tupleL, wp_intB, wp_intI, wp_wkQT, wp_wkR, wp_eLc, wipeW, ov_some, tb_bl, tl_loc, ti_int, vw_some, wp_gN, wp_ok, List.getElem?_cons_zero, List.getElem?_cons_succ, List.set_cons_zero, List.set_cons_succ, fr_len, fr_app, fr_at, fr_at0, fr_set, fr_set0, fo_len, fo_app, fo_at, fo_at0, fo_set, fo_set0, tl_at, tl_at', tl_atM, tl_set, tl_set', List.length_cons, List.length_nil, List.length_append, List.length_map, List.cons_append, List.nil_append, List.append_assoc, at_nat, at_zero, at_one, at_two, cut_to, cut_from, Nat.zero_add, Nat.add_zero, Nat.reduceAdd, decide_eq_true_eq, decide_eq_false_iff_not, Bool.not_eq_true', Bool.not_eq_false', Bool.not_true, Bool.not_false, forall_const, Bool.false_eq_true, Bool.true_eq_false, false_implies, eq_self, true_and, and_true, true_implies, List.map_cons, List.map_nil, List.cons_append, List.nil_append, List.replicate_succ, List.replicate_zero, Nat.reduceSub])
  refine wp_cell hw (by omega) fun v0 => ?_
  (try simp only [wps_seq, wps_nil, wps_ret, wps_retN, wps_expr, wps_asg, wps_setIx, wps_for, wp_eC, wp_eV, wp_e2, wp_eB, wp_bNot, wp_vNot, wp_eNeg, wp_aNil, wp_aCons, wp_eTup, wp_eLst, wp_eCall, wp_pN, wp_pS, wp_eSl, wp_sl_tup, wp_sl_loc, wp_eApp, wp_eRev, wp_add, wp_sub, wp_lt, wp_le, wp_gt, wp_ge, wp_mod, wp_eqI, wp_neI, wp_catT, wp_catL, wp_rep, wp_ixT, wp_ixF, wp_ixL, wp_lenT, wp_lenF, wp_lenL, wp_listT, wp_listL, wp_tupleT, wp_tupleL, wp_intB, wp_intI, wp_wkQT, wp_wkR, wp_eLc, wipeW, ov_some, tb_bl, tl_loc, ti_int, vw_some, wp_gN, wp_ok, List.getElem?_cons_zero, List.getElem?_cons_succ, List.set_cons_zero, List.set_cons_succ, fr_len, fr_app, fr_at, fr_at0, fr_set, fr_set0, fo_len, fo_app, fo_at, fo_at0, fo_set, fo_set0, tl_at, tl_at', tl_atM, tl_set, tl_set', List.length_cons, List.length_nil, List.length_append, List.length_map, List.cons_append, List.nil_append, List.append_assoc, at_nat, at_zero, at_one, at_two, cut_to, cut_from, Nat.zero_add, Nat.add_zero, Nat.reduceAdd, decide_eq_true_eq, decide_eq_false_iff_not, Bool.not_eq_true', Bool.not_eq_false', Bool.not_true, Bool.not_false, forall_const, Bool.false_eq_true, Bool.true_eq_false, false_implies, eq_self, true_and, and_true, true_implies])
  refine wp_dice fun a b => ?_
  (try simp only [wps_seq, wps_nil, wps_ret, wps_retN, wps_expr, wps_asg, wps_setIx, wps_for, wp_eC, wp_eV, wp_e2, wp_eB, wp_bNot, wp_vNot, wp_eNeg, wp_aNil, wp_aCons, wp_eTup, wp_eLst, wp_eCall, wp_pN, wp_pS, wp_eSl, wp_sl_tup, wp_sl_loc, wp_eApp, wp_eRev, wp_add, wp_sub, wp_lt, wp_le, wp_gt, wp_ge, wp_mod, wp_eqI, wp_neI, wp_catT, wp_catL, wp_rep, wp_ixT, wp_ixF, wp_ixL, wp_lenT, wp_lenF, wp_lenL, wp_listT, wp_listL, wp_tupleT, wp_tupleL, wp_intB, wp_intI, wp_wkQT, wp_wkR, wp_eLc, wipeW, ov_some, tb_bl, tl_loc, ti_int, vw_some, wp_gN, wp_ok, List.getElem?_cons_zero, List.getElem?_cons_succ, List.set_cons_zero, List.set_cons_succ, fr_len, fr_app, fr_at, fr_at0, fr_set, fr_set0, fo_len, fo_app, fo_at, fo_at0, fo_set, fo_set0, tl_at, tl_at', tl_atM, tl_set, tl_set', List.length_cons, List.length_nil, List.length_append, List.length_map, List.cons_append, List.nil_append, List.append_assoc, at_nat, at_zero, at_one, at_two, cut_to, cut_from, Nat.zero_add, Nat.add_zero, Nat.reduceAdd, decide_eq_true_eq, decide_eq_false_iff_not, Bool.not_eq_true', Bool.not_eq_false', Bool.not_true, Bool.not_false, forall_const, Bool.false_eq_true, Bool.true_eq_false, false_implies, eq_self, true_and, and_true, true_implies])
  rw [show st ++ [[W.int a, W.int b]] = fo st [[.int a, .int b]] from rfl]
  refine wp_cell hw.fo (by omega) fun v1 => ?_
  (try simp only [wps_seq, wps_nil, wps_ret, wps_retN, wps_expr, wps_asg, wps_setIx, wps_for, wp_eC, wp_eV, wp_e2, wp_eB, wp_bNot, wp_vNot, wp_eNeg, wp_aNil, wp_aCons, wp_eTup, wp_eLst, wp_eCall, wp_pN, wp_pS, wp_eSl, wp_sl_tup, wp_sl_loc, wp_eApp, wp_eRev, wp_add, wp_sub, wp_lt, wp_le, wp_gt, wp_ge, wp_mod, wp_eqI, wp_neI, wp_catT, wp_catL, wp_rep, wp_ixT, wp_ixF, wp_ixL, wp_lenT, wp_lenF, wp_lenL, wp_listT, wp_listL, wp_tupleT, wp_tupleL, wp_intB, wp_intI, wp_wkQT, wp_wkR, wp_eLc, wipeW, ov_some, tb_bl, tl_loc, ti_int, vw_some, wp_gN, wp_ok, List.getElem?_cons_zero, List.getElem?_cons_succ, List.set_cons_zero, List.set_cons_succ, fr_len, fr_app, fr_at, fr_at0, fr_set, fr_set0, fo_len, fo_app, fo_at, fo_at0, fo_set, fo_set0, tl_at, tl_at', tl_atM, tl_set, tl_set', List.length_cons, List.length_nil, List.length_append, List.length_map, List.cons_append, List.nil_append, List.append_assoc, at_nat, at_zero, at_one, at_two, cut_to, cut_from, Nat.zero_add, Nat.add_zero, Nat.reduceAdd, decide_eq_true_eq, decide_eq_false_iff_not, Bool.not_eq_true', Bool.not_eq_false', Bool.not_true, Bool.not_false, forall_const, Bool.false_eq_true, Bool.true_eq_false, false_implies, eq_self, true_and, and_true, true_implies, fo_old hkl, hk])
  refine ⟨by omega, ?_⟩
  obtain ⟨j, hj⟩ : ∃ j : Nat, v1 % (l.length : Int) = j := ⟨(v1 % (l.length : Int)).toNat, by have := Int.emod_nonneg v1 (b := (l.length : Int)) (by omega); omega⟩
  have hjl : j < l.length := by have := Int.emod_lt_of_pos v1 (b := (l.length : Int)) (by omega); omega
  obtain ⟨p, q, ep, p1, p4, q1, q4, hp⟩ := hP l[j] (List.getElem_mem hjl)
  have ej : l[j]? = some (.tup [.int p, .int q]) := by rw [List.getElem?_eq_getElem hjl, ep]
  rw [hj]
  (try simp only [wps_seq, wps_nil, wps_ret, wps_retN, wps_expr, wps_asg, wps_setIx, wps_for, wp_eC, wp_eV, wp_e2, wp_eB, wp_bNot, wp_vNot, wp_eNeg, wp_aNil, wp_aCons, wp_eTup, wp_eLst, wp_eCall, wp_pN, wp_pS, wp_eSl, wp_sl_tup, wp_sl_loc, wp_eApp, wp_eRev, wp_add, wp_sub, wp_lt, wp_le, wp_gt, wp_ge, wp_mod, wp_eqI, wp_neI, wp_catT, wp_catL, wp_rep, wp_ixT, wp_ixF, wp_ixL, wp_lenT, wp_lenF, wp_lenL, wp_listT, wp_listL, wp_tupleT, wp_tupleL, wp_intB, wp_intI, wp_wkQT, wp_wkR, wp_eLc, wipeW, ov_some, tb_bl, tl_loc, ti_int, vw_some, wp_gN, wp_ok, List.getElem?_cons_zero, List.getElem?_cons_succ, List.set_cons_zero, List.set_cons_succ, fr_len, fr_app, fr_at, fr_at0, fr_set, fr_set0, fo_len, fo_app, fo_at, fo_at0, fo_set, fo_set0, tl_at, tl_at', tl_atM, tl_set, tl_set', List.length_cons, List.length_nil, List.length_append, List.length_map, List.cons_append, List.nil_append, List.append_assoc, at_nat, at_zero, at_one, at_two, cut_to, cut_from, Nat.zero_add, Nat.add_zero, Nat.reduceAdd, decide_eq_true_eq, decide_eq_false_iff_not, Bool.not_eq_true', Bool.not_eq_false', Bool.not_true, Bool.not_false, forall_const, Bool.false_eq_true, Bool.true_eq_false, false_implies, eq_self, true_and, and_true, true_implies, fo_old hkl, hk, ej, gT, gsC, gN, gsN, if_true])
  refine wp_dealS (a := a) (b := b) (by rw [fo_at0]; rfl) (okPl_fo hs (by simp [belows, below])) p1 p4 q1 q4 fun h m ts a b g h1 h2 => ?_
  (try simp only [wps_seq, wps_nil, wps_ret, wps_retN, wps_expr, wps_asg, wps_setIx, wps_for, wp_eC, wp_eV, wp_e2, wp_eB, wp_bNot, wp_vNot, wp_eNeg, wp_aNil, wp_aCons, wp_eTup, wp_eLst, wp_eCall, wp_pN, wp_pS, wp_eSl, wp_sl_tup, wp_sl_loc, wp_eApp, wp_eRev, wp_add, wp_sub, wp_lt, wp_le, wp_gt, wp_ge, wp_mod, wp_eqI, wp_neI, wp_catT, wp_catL, wp_rep, wp_ixT, wp_ixF, wp_ixL, wp_lenT, wp_lenF, wp_lenL, wp_listT, wp_listL, wp_tupleT, wp_tupleL, wp_intB, wp_intI, wp_wkQT, wp_wkR, wp_eLc, wipeW, ov_some, tb_bl, tl_loc, ti_int, vw_some, wp_gN, wp_ok, List.getElem?_cons_zero, List.getElem?_cons_succ, List.set_cons_zero, List.set_cons_succ, fr_len, fr_app, fr_at, fr_at0, fr_set, fr_set0, fo_len, fo_app, fo_at, fo_at0, fo_set, fo_set0, tl_at, tl_at', tl_atM, tl_set, tl_set', List.length_cons, List.length_nil, List.length_append, List.length_map, List.cons_append, List.nil_append, List.append_assoc, at_nat, at_zero, at_one, at_two, cut_to, cut_from, Nat.zero_add, Nat.add_zero, Nat.reduceAdd, decide_eq_true_eq, decide_eq_false_iff_not, Bool.not_eq_true', Bool.not_eq_false', Bool.not_true, Bool.not_false, forall_const, Bool.false_eq_true, Bool.true_eq_false, false_implies, eq_self, true_and, and_true, true_implies])
  refine wp_holdingS (a := a) (b := b) (by rw [fo_at0]; rfl) (okPl_fo hs (by simp [belows, below])) g fun hs' a b gh => ?_
  (try simp only [wps_seq, wps_nil, wps_ret, wps_retN, wps_expr, wps_asg, wps_setIx, wps_for, wp_eC, wp_eV, wp_e2, wp_eB, wp_bNot, wp_vNot, wp_eNeg, wp_aNil, wp_aCons, wp_eTup, wp_eLst, wp_eCall, wp_pN, wp_pS, wp_eSl, wp_sl_tup, wp_sl_loc, wp_eApp, wp_eRev, wp_add, wp_sub, wp_lt, wp_le, wp_gt, wp_ge, wp_mod, wp_eqI, wp_neI, wp_catT, wp_catL, wp_rep, wp_ixT, wp_ixF, wp_ixL, wp_lenT, wp_lenF, wp_lenL, wp_listT, wp_listL, wp_tupleT, wp_tupleL, wp_intB, wp_intI, wp_wkQT, wp_wkR, wp_eLc, wipeW, ov_some, tb_bl, tl_loc, ti_int, vw_some, wp_gN, wp_ok, List.getElem?_cons_zero, List.getElem?_cons_succ, List.set_cons_zero, List.set_cons_succ, fr_len, fr_app, fr_at, fr_at0, fr_set, fr_set0, fo_len, fo_app, fo_at, fo_at0, fo_set, fo_set0, tl_at, tl_at', tl_atM, tl_set, tl_set', List.length_cons, List.length_nil, List.length_append, List.length_map, List.cons_append, List.nil_append, List.append_assoc, at_nat, at_zero, at_one, at_two, cut_to, cut_from, Nat.zero_add, Nat.add_zero, Nat.reduceAdd, decide_eq_true_eq, decide_eq_false_iff_not, Bool.not_eq_true', Bool.not_eq_false', Bool.not_true, Bool.not_false, forall_const, Bool.false_eq_true, Bool.true_eq_false, false_implies, eq_self, true_and, and_true, true_implies])
  refine ⟨by omega, wp_trimO ?_ (hq p q h m ts hs' hp h1 h2 g gh)⟩
  simp only [below, belows, Bool.and_true, Bool.and_eq_true]
  exact ⟨below_deal, below_hold⟩
end Pd

set_option Elab.async false
set_option linter.all false
set_option maxRecDepth 100000
set_option maxHeartbeats 1000000
/-! Ht: the law's plans. -/
namespace Pd
open PySem PySem.Spec PyProof.Rows L2 Dn
open Classical
/-- what the hands hold behind a plan -/
def endH (ts : List (Int × Int × Int)) (hs : List (List Int)) (plan : List (List (Int × Int))) : List (List Int) := plan.foldl (nextH ts) hs
theorem pathOK_app {ts : List (Int × Int × Int)} {ls : List (Int × Int)} : ∀ {plan : List (List (Int × Int))} {hs : List (List Int)}, pathOK ts hs plan → sendL ts (endH ts hs plan) ls = ls → pathOK ts hs (plan ++ [ls])
  | [], hs, _, h => ⟨h, True.intro⟩
  | x :: plan, hs, h, h2 => ⟨h.1, pathOK_app (plan := plan) (hs := nextH ts hs x) h.2 h2⟩
theorem endH_app {ts : List (Int × Int × Int)} {hs : List (List Int)} {plan : List (List (Int × Int))} {ls : List (Int × Int)} : endH ts hs (plan ++ [ls]) = nextH ts (endH ts hs plan) ls := by simp [endH]
/-- the letters of the first t ties -/
structure PL (ts : List (Int × Int × Int)) (cur : List (List Int)) (t : Nat) (ls : List (Int × Int)) : Prop where
  few : ls.length ≤ 4 * t
  in_ : ∀ x ∈ ls, 0 ≤ x.1 ∧ x.1 < t ∧ x.2 ∈ rowAt cur (tieAt ts x.1).1
  rise : ls.Pairwise (fun a b => ltP a b = true)
  born : ∀ x ∈ ls, ((ls.map (·.1)).count x.1 : Int) ≤ (tieAt ts x.1).2.2
theorem PL.nil {ts : List (Int × Int × Int)} {cur : List (List Int)} : PL ts cur 0 [] := ⟨by simp, fun _ h => (nomatch h), .nil, fun _ h => (nomatch h)⟩
theorem PL.more {ts : List (Int × Int × Int)} {cur : List (List Int)} {t : Nat} {ls : List (Int × Int)} {ps : List Int} (h : PL ts cur t ls) (hp : ps.Pairwise (· < ·)) (hi : ∀ p ∈ ps, p ∈ rowAt cur (tieAt ts (t : Nat)).1) (hl : (ps.length : Int) ≤ (tieAt ts (t : Nat)).2.2) (h4 : ps.length ≤ 4) :
    PL ts cur (t + 1) (ls ++ ps.map fun p => ((t : Int), p)) := by
  have c1 : ∀ i : Int, i < t → ((ps.map fun p => ((t : Int), p)).map (·.1)).count i = 0 := fun i hi => by
    rw [List.count_eq_zero]
    simp
    omega
  have c2 : ((ps.map fun p => ((t : Int), p)).map (·.1)).count (t : Int) = ps.length := by
    rw [List.map_map, List.count_eq_length.mpr (by simp)]
    simp
  have c3 : (ls.map (·.1)).count (t : Int) = 0 := by
    rw [List.count_eq_zero]
    intro hm
    obtain ⟨x, hx, e⟩ := List.mem_map.mp hm
    have := (h.in_ x hx).2.1
    omega
  refine ⟨by have := h.few; simp; omega, fun x hx => ?_, ?_, fun x hx => ?_⟩
  · rcases List.mem_append.mp hx with hx | hx
    · have := h.in_ x hx
      exact ⟨this.1, by omega, this.2.2⟩
    · obtain ⟨p, hp, rfl⟩ := List.mem_map.mp hx
      exact ⟨by simp, by simp; omega, hi p hp⟩
  · refine List.pairwise_append.mpr ⟨h.rise, ?_, fun x hx y hy => ?_⟩
    · refine List.pairwise_map.mpr (hp.imp fun {a b} hab => ?_)
      unfold Dn.ltP
      exact decide_eq_true (by simp; exact hab)
    · obtain ⟨p, hp, rfl⟩ := List.mem_map.mp hy
      have := (h.in_ x hx).2.1
      unfold Dn.ltP
      exact decide_eq_true (by simp; omega)
  · rw [List.map_append, List.count_append]
    rcases List.mem_append.mp hx with hx | hx
    · have q := h.in_ x hx
      rw [c1 x.1 q.2.1]
      have := h.born x hx
      simpa using this
    · obtain ⟨p, hp, rfl⟩ := List.mem_map.mp hx
      simp only
      rw [c3, c2]
      simpa using hl
theorem PL.good {h m : Int} {ts : List (Int × Int × Int)} {cur : List (List Int)} {ls : List (Int × Int)} (g : GD h m ts) (gh : GH h m cur) (p : PL ts cur ts.length ls) : GR ts m ls ∧ sendL ts cur ls = ls := by
  have f8 := g.few
  refine ⟨⟨by have := p.few; omega, fun x hx => ?_, p.rise, List.all_eq_true.mpr fun x hx => decide_eq_true (p.born x hx)⟩, List.filter_eq_self.mpr fun x hx => decide_eq_true (p.in_ x hx).2.2⟩
  obtain ⟨q1, q2, q3⟩ := p.in_ x hx
  have tb := tieAt_ok g q1 q2
  have r0 : 0 ≤ (tieAt ts x.1).1 := tb.1
  have r1 : (tieAt ts x.1).1 < cur.length := by have := tb.2.1; have := gh.len; omega
  have hm : rowAt cur (tieAt ts x.1).1 ∈ cur := List.mem_of_getElem? (row_at r0 r1)
  exact ⟨q1, q2, (gh.inb _ hm _ q3).1, (gh.inb _ hm _ q3).2⟩
theorem below_lets {n : Nat} {ls : List (Int × Int)} : below n (letsW ls) = true := by
  unfold letsW
  simp only [below]
  exact belows_pairs ls
theorem wp_plan {X : Er → Store → Prop} {Q : W → Store → Prop} {st : Store} {dz : Nat} {a b h m most : Int} {ts : List (Int × Int × Int)} {hs : List (List Int)} (hd : dz < st.length) (ok : okPl st) (g : GD h m ts) (gh : GH h m hs) (h0 : 0 ≤ most) (h1 : most ≤ 100)
    (hq : ∀ (plan : List (List (Int × Int))) (a' b' : Int), (plan.length : Int) ≤ most → (∀ ls ∈ plan, GR ts m ls) → pathOK ts hs plan → Q (.tup (plan.map letsW)) (fr st dz a' b' [])) : Wp (f__law_plan [.loc dz, dealW h m ts, holdW hs, .int most] (fr st dz a b [])) X Q := by
  have g8 := g.few
  unfold f__law_plan F__law_plan
  refine wp_fn rfl ?_
  (try simp only [wps_seq, wps_nil, wps_ret, wps_retN, wps_expr, wps_asg, wps_setIx, wps_for, wp_eC, wp_eV, wp_e2, wp_eB, wp_bNot, wp_vNot, wp_eNeg, wp_aNil, wp_aCons, wp_eTup, wp_eLst, wp_eCall, wp_pN, wp_pS, wp_eSl, wp_sl_tup, wp_sl_loc, wp_eApp, wp_eRev, wp_add, wp_sub, wp_lt, wp_le, wp_gt, wp_ge, wp_mod, wp_eqI, wp_neI, wp_catT, wp_catL, wp_rep, wp_ixT, wp_ixF, wp_ixL, wp_lenT, wp_lenF, wp_lenL, wp_listT, wp_listL, wp_tupleT, wp_tupleL, wp_intB, wp_intI, wp_wkQT, wp_wkR, wp_eLc, wipeW, ov_some, tb_bl, tl_loc, ti_int, vw_some, wp_gN, wp_ok, List.getElem?_cons_zero, List.getElem?_cons_succ, List.set_cons_zero, List.set_cons_succ, fr_len, fr_app, fr_at, fr_at0, fr_set, fr_set0, fo_len, fo_app, fo_at, fo_at0, fo_set, fo_set0, tl_at, tl_at', tl_atM, tl_set, tl_set', List.length_cons, List.length_nil, List.length_append, List.length_map, List.cons_append, List.nil_append, List.append_assoc, at_nat, at_zero, at_one, at_two, cut_to, cut_from, Nat.zero_add, Nat.add_zero, Nat.reduceAdd, decide_eq_true_eq, decide_eq_false_iff_not, Bool.not_eq_true', Bool.not_eq_false', Bool.not_true, Bool.not_false, forall_const, Bool.false_eq_true, Bool.true_eq_false, false_implies, eq_self, true_and, and_true, true_implies, List.map_cons, List.map_nil, List.cons_append, List.nil_append, List.replicate_succ, List.replicate_zero, Nat.reduceSub])
  refine ⟨by omega, ?_⟩
  refine wp_roll hd (by omega) (by omega) fun r a b r0 r1 => ?_
  (try simp only [wps_seq, wps_nil, wps_ret, wps_retN, wps_expr, wps_asg, wps_setIx, wps_for, wp_eC, wp_eV, wp_e2, wp_eB, wp_bNot, wp_vNot, wp_eNeg, wp_aNil, wp_aCons, wp_eTup, wp_eLst, wp_eCall, wp_pN, wp_pS, wp_eSl, wp_sl_tup, wp_sl_loc, wp_eApp, wp_eRev, wp_add, wp_sub, wp_lt, wp_le, wp_gt, wp_ge, wp_mod, wp_eqI, wp_neI, wp_catT, wp_catL, wp_rep, wp_ixT, wp_ixF, wp_ixL, wp_lenT, wp_lenF, wp_lenL, wp_listT, wp_listL, wp_tupleT, wp_tupleL, wp_intB, wp_intI, wp_wkQT, wp_wkR, wp_eLc, wipeW, ov_some, tb_bl, tl_loc, ti_int, vw_some, wp_gN, wp_ok, List.getElem?_cons_zero, List.getElem?_cons_succ, List.set_cons_zero, List.set_cons_succ, fr_len, fr_app, fr_at, fr_at0, fr_set, fr_set0, fo_len, fo_app, fo_at, fo_at0, fo_set, fo_set0, tl_at, tl_at', tl_atM, tl_set, tl_set', List.length_cons, List.length_nil, List.length_append, List.length_map, List.cons_append, List.nil_append, List.append_assoc, at_nat, at_zero, at_one, at_two, cut_to, cut_from, Nat.zero_add, Nat.add_zero, Nat.reduceAdd, decide_eq_true_eq, decide_eq_false_iff_not, Bool.not_eq_true', Bool.not_eq_false', Bool.not_true, Bool.not_false, forall_const, Bool.false_eq_true, Bool.true_eq_false, false_implies, eq_self, true_and, and_true, true_implies])
  refine ⟨by omega, ?_⟩
  refine wps_forR (I := fun k sl st' => ∃ (plan : List (List (Int × Int))) (G : Store) (a b : Int) (s5 s6 s7 s8 s9 : Option W), sl = [some (W.loc dz), some (dealW h m ts), some (holdW (endH ts hs plan)), some (W.int most), some (W.loc st.length), s5, s6, s7, s8, s9] ∧
    st' = fr st dz a b (plan.map letsW :: G) ∧ plan.length = k ∧ (∀ ls ∈ plan, GR ts m ls) ∧ pathOK ts hs plan ∧ GH h m (endH ts hs plan)) ⟨[], [], a, b, _, _, _, _, _, rfl, rfl, rfl, fun _ h => (nomatch h), True.intro, gh⟩ (fun k sl st' hk hI => ?_) fun sl st' hI => ?_
  · obtain ⟨plan, G, a, b, s5, s6, s7, s8, s9, rfl, rfl, hl, hp, hpath, ghc⟩ := hI
    obtain ⟨cur, hcur⟩ : ∃ cur, cur = endH ts hs plan := ⟨_, rfl⟩
    rw [← hcur] at ghc ⊢
    rw [dealW]
    (try simp only [wps_seq, wps_nil, wps_ret, wps_retN, wps_expr, wps_asg, wps_setIx, wps_for, wp_eC, wp_eV, wp_e2, wp_eB, wp_bNot, wp_vNot, wp_eNeg, wp_aNil, wp_aCons, wp_eTup, wp_eLst, wp_eCall, wp_pN, wp_pS, wp_eSl, wp_sl_tup, wp_sl_loc, wp_eApp, wp_eRev, wp_add, wp_sub, wp_lt, wp_le, wp_gt, wp_ge, wp_mod, wp_eqI, wp_neI, wp_catT, wp_catL, wp_rep, wp_ixT, wp_ixF, wp_ixL, wp_lenT, wp_lenF, wp_lenL, wp_listT, wp_listL, wp_tupleT, wp_tupleL, wp_intB, wp_intI, wp_wkQT, wp_wkR, wp_eLc, wipeW, ov_some, tb_bl, tl_loc, ti_int, vw_some, wp_gN, wp_ok, List.getElem?_cons_zero, List.getElem?_cons_succ, List.set_cons_zero, List.set_cons_succ, fr_len, fr_app, fr_at, fr_at0, fr_set, fr_set0, fo_len, fo_app, fo_at, fo_at0, fo_set, fo_set0, tl_at, tl_at', tl_atM, tl_set, tl_set', List.length_cons, List.length_nil, List.length_append, List.length_map, List.cons_append, List.nil_append, List.append_assoc, at_nat, at_zero, at_one, at_two, cut_to, cut_from, Nat.zero_add, Nat.add_zero, Nat.reduceAdd, decide_eq_true_eq, decide_eq_false_iff_not, Bool.not_eq_true', Bool.not_eq_false', Bool.not_true, Bool.not_false, forall_const, Bool.false_eq_true, Bool.true_eq_false, false_implies, eq_self, true_and, and_true, true_implies])
    refine ⟨by omega, by omega, ?_⟩
    rw [Int.toNat_natCast]
    refine wps_forR (I := fun t sl st' => ∃ (ls : List (Int × Int)) (G : Store) (j : Nat) (a b : Int) (s7 s8 s9 : Option W), sl = [some (W.loc dz), some (W.tup [W.int h, W.int m, W.tup (List.map tieW ts)]), some (holdW cur), some (W.int most), some (W.loc st.length), some (W.int k), some (W.loc (st.length + (j + 1))), s7, s8, s9] ∧
      st' = fr st dz a b (plan.map letsW :: G) ∧ G[j]? = some (ls.map pairW) ∧ PL ts cur t ls) ⟨[], _, _, _, _, _, _, _, rfl, rfl, by simp, PL.nil⟩ (fun t sl st' ht hI => ?_) fun sl st' hI => ?_
    · obtain ⟨ls, G, j, a, b, s7, s8, s9, rfl, rfl, hj, pl⟩ := hI
      have et : (ts.map tieW)[t]? = some (tieW (tieAt ts (t : Nat))) := by
        have := atI_tie (ts := ts) (i := (t : Nat)) (by omega) (by omega)
        rw [at_nat] at this
        exact this
      have tb := tieAt_ok g (i := (t : Nat)) (by omega) (by omega)
      have r0 : 0 ≤ (tieAt ts (t : Nat)).1 := tb.1
      have r1 : (tieAt ts (t : Nat)).1 < cur.length := by have := tb.2.1; have := ghc.len; omega
      have hm : rowAt cur (tieAt ts (t : Nat)).1 ∈ cur := List.mem_of_getElem? (row_at r0 r1)
      have rise := ghc.rise _ hm
      have few := ghc.few _ hm
      generalize hrow : rowAt cur (tieAt ts (t : Nat)).1 = row at hm rise few
      have hjl : j < G.length := (List.getElem?_eq_some_iff.mp hj).1
      have hG : ∀ U : Store, (G ++ U)[j]? = some (ls.map pairW) := fun U => by rw [List.getElem?_append_left hjl, hj]
      (try simp only [wps_seq, wps_nil, wps_ret, wps_retN, wps_expr, wps_asg, wps_setIx, wps_for, wp_eC, wp_eV, wp_e2, wp_eB, wp_bNot, wp_vNot, wp_eNeg, wp_aNil, wp_aCons, wp_eTup, wp_eLst, wp_eCall, wp_pN, wp_pS, wp_eSl, wp_sl_tup, wp_sl_loc, wp_eApp, wp_eRev, wp_add, wp_sub, wp_lt, wp_le, wp_gt, wp_ge, wp_mod, wp_eqI, wp_neI, wp_catT, wp_catL, wp_rep, wp_ixT, wp_ixF, wp_ixL, wp_lenT, wp_lenF, wp_lenL, wp_listT, wp_listL, wp_tupleT, wp_tupleL, wp_intB, wp_intI, wp_wkQT, wp_wkR, wp_eLc, wipeW, ov_some, tb_bl, tl_loc, ti_int, vw_some, wp_gN, wp_ok, List.getElem?_cons_zero, List.getElem?_cons_succ, List.set_cons_zero, List.set_cons_succ, fr_len, fr_app, fr_at, fr_at0, fr_set, fr_set0, fo_len, fo_app, fo_at, fo_at0, fo_set, fo_set0, tl_at, tl_at', tl_atM, tl_set, tl_set', List.length_cons, List.length_nil, List.length_append, List.length_map, List.cons_append, List.nil_append, List.append_assoc, at_nat, at_zero, at_one, at_two, cut_to, cut_from, Nat.zero_add, Nat.add_zero, Nat.reduceAdd, decide_eq_true_eq, decide_eq_false_iff_not, Bool.not_eq_true', Bool.not_eq_false', Bool.not_true, Bool.not_false, forall_const, Bool.false_eq_true, Bool.true_eq_false, false_implies, eq_self, true_and, and_true, true_implies, et, tieW, holdW, atI_row r0 r1, rowW, hrow])
      refine wp_lcD (I := fun k acc s => ∃ (ps : List Int) (a b : Int), acc = ps.map W.int ∧ ps.Sublist (row.take k) ∧ s = fr st dz a b (plan.map letsW :: (G ++ [acc]))) ⟨[], a, b, rfl, List.nil_sublist _, rfl⟩ (fun k acc s hk hi => ?_) (fun k w acc s hw hi => ?_) (fun acc s hi => ?_)
      · obtain ⟨ps, a, b, rfl, sub, rfl⟩ := hi
        refine ⟨True.intro, ?_⟩
        have := sub.length_le
        have h2 : (row.take k).length ≤ row.length := List.length_take_le' ..
        rw [List.length_map]
        omega
      · obtain ⟨ps, a, b, rfl, sub, rfl⟩ := hi
        rw [List.getElem?_map] at hw
        cases hx : row[k]? with
        | none => rw [hx] at hw; cases hw
        | some x =>
          rw [hx] at hw
          cases hw
          have e : row.take (k + 1) = row.take k ++ [x] := by rw [List.take_succ, hx]; rfl
          (try simp only [wps_seq, wps_nil, wps_ret, wps_retN, wps_expr, wps_asg, wps_setIx, wps_for, wp_eC, wp_eV, wp_e2, wp_eB, wp_bNot, wp_vNot, wp_eNeg, wp_aNil, wp_aCons, wp_eTup, wp_eLst, wp_eCall, wp_pN, wp_pS, wp_eSl, wp_sl_tup, wp_sl_loc, wp_eApp, wp_eRev, wp_add, wp_sub, wp_lt, wp_le, wp_gt, wp_ge, wp_mod, wp_eqI, wp_neI, wp_catT, wp_catL, wp_rep, wp_ixT, wp_ixF, wp_ixL, wp_lenT, wp_lenF, wp_lenL, wp_listT, wp_listL, wp_tupleT, wp_tupleL, wp_intB, wp_intI, wp_wkQT, wp_wkR, wp_eLc, wipeW, ov_some, tb_bl, tl_loc, ti_int, vw_some, wp_gN, wp_ok, List.getElem?_cons_zero, List.getElem?_cons_succ, List.set_cons_zero, List.set_cons_succ, fr_len, fr_app, fr_at, fr_at0, fr_set, fr_set0, fo_len, fo_app, fo_at, fo_at0, fo_set, fo_set0, tl_at, tl_at', tl_atM, tl_set, tl_set', List.length_cons, List.length_nil, List.length_append, List.length_map, List.cons_append, List.nil_append, List.append_assoc, at_nat, at_zero, at_one, at_two, cut_to, cut_from, Nat.zero_add, Nat.add_zero, Nat.reduceAdd, decide_eq_true_eq, decide_eq_false_iff_not, Bool.not_eq_true', Bool.not_eq_false', Bool.not_true, Bool.not_false, forall_const, Bool.false_eq_true, Bool.true_eq_false, false_implies, eq_self, true_and, and_true, true_implies])
          refine wp_roll hd (by omega) (by omega) fun r a b r0 r1 => ?_
          (try simp only [wps_seq, wps_nil, wps_ret, wps_retN, wps_expr, wps_asg, wps_setIx, wps_for, wp_eC, wp_eV, wp_e2, wp_eB, wp_bNot, wp_vNot, wp_eNeg, wp_aNil, wp_aCons, wp_eTup, wp_eLst, wp_eCall, wp_pN, wp_pS, wp_eSl, wp_sl_tup, wp_sl_loc, wp_eApp, wp_eRev, wp_add, wp_sub, wp_lt, wp_le, wp_gt, wp_ge, wp_mod, wp_eqI, wp_neI, wp_catT, wp_catL, wp_rep, wp_ixT, wp_ixF, wp_ixL, wp_lenT, wp_lenF, wp_lenL, wp_listT, wp_listL, wp_tupleT, wp_tupleL, wp_intB, wp_intI, wp_wkQT, wp_wkR, wp_eLc, wipeW, ov_some, tb_bl, tl_loc, ti_int, vw_some, wp_gN, wp_ok, List.getElem?_cons_zero, List.getElem?_cons_succ, List.set_cons_zero, List.set_cons_succ, fr_len, fr_app, fr_at, fr_at0, fr_set, fr_set0, fo_len, fo_app, fo_at, fo_at0, fo_set, fo_set0, tl_at, tl_at', tl_atM, tl_set, tl_set', List.length_cons, List.length_nil, List.length_append, List.length_map, List.cons_append, List.nil_append, List.append_assoc, at_nat, at_zero, at_one, at_two, cut_to, cut_from, Nat.zero_add, Nat.add_zero, Nat.reduceAdd, decide_eq_true_eq, decide_eq_false_iff_not, Bool.not_eq_true', Bool.not_eq_false', Bool.not_true, Bool.not_false, forall_const, Bool.false_eq_true, Bool.true_eq_false, false_implies, eq_self, true_and, and_true, true_implies])
          refine ⟨fun _ => ⟨ps ++ [x], _, _, by simp, by rw [e]; exact sub.append_right [x], rfl⟩, fun _ => ⟨ps, _, _, rfl, by rw [e]; exact sub.trans (List.sublist_append_left ..), rfl⟩⟩
      · obtain ⟨ps, a, b, rfl, sub, rfl⟩ := hi
        rw [List.length_map, List.take_length] at sub
        (try simp only [wps_seq, wps_nil, wps_ret, wps_retN, wps_expr, wps_asg, wps_setIx, wps_for, wp_eC, wp_eV, wp_e2, wp_eB, wp_bNot, wp_vNot, wp_eNeg, wp_aNil, wp_aCons, wp_eTup, wp_eLst, wp_eCall, wp_pN, wp_pS, wp_eSl, wp_sl_tup, wp_sl_loc, wp_eApp, wp_eRev, wp_add, wp_sub, wp_lt, wp_le, wp_gt, wp_ge, wp_mod, wp_eqI, wp_neI, wp_catT, wp_catL, wp_rep, wp_ixT, wp_ixF, wp_ixL, wp_lenT, wp_lenF, wp_lenL, wp_listT, wp_listL, wp_tupleT, wp_tupleL, wp_intB, wp_intI, wp_wkQT, wp_wkR, wp_eLc, wipeW, ov_some, tb_bl, tl_loc, ti_int, vw_some, wp_gN, wp_ok, List.getElem?_cons_zero, List.getElem?_cons_succ, List.set_cons_zero, List.set_cons_succ, fr_len, fr_app, fr_at, fr_at0, fr_set, fr_set0, fo_len, fo_app, fo_at, fo_at0, fo_set, fo_set0, tl_at, tl_at', tl_atM, tl_set, tl_set', List.length_cons, List.length_nil, List.length_append, List.length_map, List.cons_append, List.nil_append, List.append_assoc, at_nat, at_zero, at_one, at_two, cut_to, cut_from, Nat.zero_add, Nat.add_zero, Nat.reduceAdd, decide_eq_true_eq, decide_eq_false_iff_not, Bool.not_eq_true', Bool.not_eq_false', Bool.not_true, Bool.not_false, forall_const, Bool.false_eq_true, Bool.true_eq_false, false_implies, eq_self, true_and, and_true, true_implies, et, tieW, hG])
        have tb7 : 1 ≤ (tieAt ts (t : Nat)).2.2 ∧ (tieAt ts (t : Nat)).2.2 ≤ 4 := tb.2.2.2.2.2
        rw [cut_toI (by omega), ← List.map_take]
        have sub2 := (List.take_sublist (tieAt ts (t : Nat)).2.2.toNat ps).trans sub
        have len2 : ((ps.take (tieAt ts (t : Nat)).2.2.toNat).length : Int) ≤ (tieAt ts (t : Nat)).2.2 := by rw [List.length_take]; omega
        generalize ps.take (tieAt ts (t : Nat)).2.2.toNat = qs at sub2 len2
        have eT : (plan.map letsW :: (G ++ [ps.map W.int, qs.map W.int, []])) = (plan.map letsW :: (G ++ [ps.map W.int, qs.map W.int])) ++ [[]] := by simp
        have eL : st.length + (G.length + 2 + 1) = st.length + (plan.map letsW :: (G ++ [ps.map W.int, qs.map W.int])).length := by simp
        rw [eT, eL]
        refine wp_lcF (T := plan.map letsW :: (G ++ [ps.map W.int, qs.map W.int])) (fun p => pairW ((t : Nat), p)) (fun _ => true) (fun acc => ?_) (by omega) (fun p hp acc => ?_) ?_
        · show _ = _
          simp [fr_at, Nat.add_assoc]
        · simp only [bYes]
          (try simp only [wps_seq, wps_nil, wps_ret, wps_retN, wps_expr, wps_asg, wps_setIx, wps_for, wp_eC, wp_eV, wp_e2, wp_eB, wp_bNot, wp_vNot, wp_eNeg, wp_aNil, wp_aCons, wp_eTup, wp_eLst, wp_eCall, wp_pN, wp_pS, wp_eSl, wp_sl_tup, wp_sl_loc, wp_eApp, wp_eRev, wp_add, wp_sub, wp_lt, wp_le, wp_gt, wp_ge, wp_mod, wp_eqI, wp_neI, wp_catT, wp_catL, wp_rep, wp_ixT, wp_ixF, wp_ixL, wp_lenT, wp_lenF, wp_lenL, wp_listT, wp_listL, wp_tupleT, wp_tupleL, wp_intB, wp_intI, wp_wkQT, wp_wkR, wp_eLc, wipeW, ov_some, tb_bl, tl_loc, ti_int, vw_some, wp_gN, wp_ok, List.getElem?_cons_zero, List.getElem?_cons_succ, List.set_cons_zero, List.set_cons_succ, fr_len, fr_app, fr_at, fr_at0, fr_set, fr_set0, fo_len, fo_app, fo_at, fo_at0, fo_set, fo_set0, tl_at, tl_at', tl_atM, tl_set, tl_set', List.length_cons, List.length_nil, List.length_append, List.length_map, List.cons_append, List.nil_append, List.append_assoc, at_nat, at_zero, at_one, at_two, cut_to, cut_from, Nat.zero_add, Nat.add_zero, Nat.reduceAdd, decide_eq_true_eq, decide_eq_false_iff_not, Bool.not_eq_true', Bool.not_eq_false', Bool.not_true, Bool.not_false, forall_const, Bool.false_eq_true, Bool.true_eq_false, false_implies, eq_self, true_and, and_true, true_implies, wp_okW])
          exact ⟨by omega, rfl⟩
        have ef : qs.filter (fun _ => true) = qs := by simp
        have em : (qs.map fun p => pairW ((t : Nat), p)) = (qs.map fun p => ((t : Int), p)).map pairW := by rw [List.map_map]; rfl
        rw [ef, em]
        have pl2 := pl.more (ps := qs) (rise.sublist sub2) (fun p hp => by rw [hrow]; exact sub2.subset hp) len2 (by omega)
        have lf := pl.few
        (try simp only [wps_seq, wps_nil, wps_ret, wps_retN, wps_expr, wps_asg, wps_setIx, wps_for, wp_eC, wp_eV, wp_e2, wp_eB, wp_bNot, wp_vNot, wp_eNeg, wp_aNil, wp_aCons, wp_eTup, wp_eLst, wp_eCall, wp_pN, wp_pS, wp_eSl, wp_sl_tup, wp_sl_loc, wp_eApp, wp_eRev, wp_add, wp_sub, wp_lt, wp_le, wp_gt, wp_ge, wp_mod, wp_eqI, wp_neI, wp_catT, wp_catL, wp_rep, wp_ixT, wp_ixF, wp_ixL, wp_lenT, wp_lenF, wp_lenL, wp_listT, wp_listL, wp_tupleT, wp_tupleL, wp_intB, wp_intI, wp_wkQT, wp_wkR, wp_eLc, wipeW, ov_some, tb_bl, tl_loc, ti_int, vw_some, wp_gN, wp_ok, List.getElem?_cons_zero, List.getElem?_cons_succ, List.set_cons_zero, List.set_cons_succ, fr_len, fr_app, fr_at, fr_at0, fr_set, fr_set0, fo_len, fo_app, fo_at, fo_at0, fo_set, fo_set0, tl_at, tl_at', tl_atM, tl_set, tl_set', List.length_cons, List.length_nil, List.length_append, List.length_map, List.cons_append, List.nil_append, List.append_assoc, at_nat, at_zero, at_one, at_two, cut_to, cut_from, Nat.zero_add, Nat.add_zero, Nat.reduceAdd, decide_eq_true_eq, decide_eq_false_iff_not, Bool.not_eq_true', Bool.not_eq_false', Bool.not_true, Bool.not_false, forall_const, Bool.false_eq_true, Bool.true_eq_false, false_implies, eq_self, true_and, and_true, true_implies, hG])
        refine ⟨by omega, ls ++ qs.map fun p => ((t : Int), p), _, _, _, _, _, _, _, rfl, rfl, ?_, pl2⟩
        rw [tl_at', List.map_append]
        rfl
    obtain ⟨ls, G, j, a, b, s7, s8, s9, rfl, rfl, hj, pl⟩ := hI
    obtain ⟨gr, hsend⟩ := pl.good g ghc
    have hjl : j < G.length := (List.getElem?_eq_some_iff.mp hj).1
    (try simp only [wps_seq, wps_nil, wps_ret, wps_retN, wps_expr, wps_asg, wps_setIx, wps_for, wp_eC, wp_eV, wp_e2, wp_eB, wp_bNot, wp_vNot, wp_eNeg, wp_aNil, wp_aCons, wp_eTup, wp_eLst, wp_eCall, wp_pN, wp_pS, wp_eSl, wp_sl_tup, wp_sl_loc, wp_eApp, wp_eRev, wp_add, wp_sub, wp_lt, wp_le, wp_gt, wp_ge, wp_mod, wp_eqI, wp_neI, wp_catT, wp_catL, wp_rep, wp_ixT, wp_ixF, wp_ixL, wp_lenT, wp_lenF, wp_lenL, wp_listT, wp_listL, wp_tupleT, wp_tupleL, wp_intB, wp_intI, wp_wkQT, wp_wkR, wp_eLc, wipeW, ov_some, tb_bl, tl_loc, ti_int, vw_some, wp_gN, wp_ok, List.getElem?_cons_zero, List.getElem?_cons_succ, List.set_cons_zero, List.set_cons_succ, fr_len, fr_app, fr_at, fr_at0, fr_set, fr_set0, fo_len, fo_app, fo_at, fo_at0, fo_set, fo_set0, tl_at, tl_at', tl_atM, tl_set, tl_set', List.length_cons, List.length_nil, List.length_append, List.length_map, List.cons_append, List.nil_append, List.append_assoc, at_nat, at_zero, at_one, at_two, cut_to, cut_from, Nat.zero_add, Nat.add_zero, Nat.reduceAdd, decide_eq_true_eq, decide_eq_false_iff_not, Bool.not_eq_true', Bool.not_eq_false', Bool.not_true, Bool.not_false, forall_const, Bool.false_eq_true, Bool.true_eq_false, false_implies, eq_self, true_and, and_true, true_implies, hj])
    refine ⟨by omega, ?_⟩
    have gf := gr.few
    have key := f_law_come_ok (k := st.length + (j + 1)) (st := fr st dz a b ((List.map letsW plan ++ [W.tup (List.map pairW ls)]) :: G)) g ghc gr.let_ (by omega) (by rw [fr_at, List.getElem?_cons_succ, hj])
    rw [show W.tup [W.int h, W.int m, W.tup (List.map tieW ts)] = dealW h m ts from rfl, key, wp_ok]
    refine ⟨plan ++ [ls], G, a, b, _, _, _, _, _, by rw [endH_app, hcur], by rw [List.map_append]; rfl, by simp [hl], fun x hx => ?_, pathOK_app hpath (by rw [← hcur]; exact hsend), by rw [endH_app, ← hcur]; exact GH_next g ghc gr.let_⟩
    rcases List.mem_append.mp hx with hx | hx
    · exact hp x hx
    · rw [List.mem_singleton.mp hx]; exact gr
  obtain ⟨plan, G, a, b, s5, s6, s7, s8, s9, rfl, rfl, hl, hp, hpath, ghc⟩ := hI
  (try simp only [wps_seq, wps_nil, wps_ret, wps_retN, wps_expr, wps_asg, wps_setIx, wps_for, wp_eC, wp_eV, wp_e2, wp_eB, wp_bNot, wp_vNot, wp_eNeg, wp_aNil, wp_aCons, wp_eTup, wp_eLst, wp_eCall, wp_pN, wp_pS, wp_eSl, wp_sl_tup, wp_sl_loc, wp_eApp, wp_eRev, wp_add, wp_sub, wp_lt, wp_le, wp_gt, wp_ge, wp_mod, wp_eqI, wp_neI, wp_catT, wp_catL, wp_rep, wp_ixT, wp_ixF, wp_ixL, wp_lenT, wp_lenF, wp_lenL, wp_listT, wp_listL, wp_tupleT, wp_tupleL, wp_intB, wp_intI, wp_wkQT, wp_wkR, wp_eLc, wipeW, ov_some, tb_bl, tl_loc, ti_int, vw_some, wp_gN, wp_ok, List.getElem?_cons_zero, List.getElem?_cons_succ, List.set_cons_zero, List.set_cons_succ, fr_len, fr_app, fr_at, fr_at0, fr_set, fr_set0, fo_len, fo_app, fo_at, fo_at0, fo_set, fo_set0, tl_at, tl_at', tl_atM, tl_set, tl_set', List.length_cons, List.length_nil, List.length_append, List.length_map, List.cons_append, List.nil_append, List.append_assoc, at_nat, at_zero, at_one, at_two, cut_to, cut_from, Nat.zero_add, Nat.add_zero, Nat.reduceAdd, decide_eq_true_eq, decide_eq_false_iff_not, Bool.not_eq_true', Bool.not_eq_false', Bool.not_true, Bool.not_false, forall_const, Bool.false_eq_true, Bool.true_eq_false, false_implies, eq_self, true_and, and_true, true_implies])
  refine wp_trimF ok ?_ (hq plan _ _ (by omega) hp hpath)
  simp only [below]
  exact belows_map (fun _ => below_lets) plan
theorem wp_planS {X : Er → Store → Prop} {Q : W → Store → Prop} {S : Store} {dz : Nat} {a b h m most : Int} {ts : List (Int × Int × Int)} {hs : List (List Int)} (hd : S[dz]? = some [.int a, .int b]) (ok : okPl S) (g : GD h m ts) (gh : GH h m hs) (h0 : 0 ≤ most) (h1 : most ≤ 100)
    (hq : ∀ (plan : List (List (Int × Int))) (a' b' : Int), (plan.length : Int) ≤ most → (∀ ls ∈ plan, GR ts m ls) → pathOK ts hs plan → Q (.tup (plan.map letsW)) (S.set dz [.int a', .int b'])) : Wp (f__law_plan [.loc dz, dealW h m ts, holdW hs, .int most] S) X Q := by
  have := wp_plan (X := X) (Q := Q) (a := a) (b := b) (List.getElem?_eq_some_iff.mp hd).1 ok g gh h0 h1 fun plan a' b' q1 q2 q3 => by rw [fr_nil]; exact hq plan a' b' q1 q2 q3
  rw [← fr_start hd] at this
  exact this
end Pd

set_option Elab.async false
set_option linter.all false
set_option maxRecDepth 100000
set_option maxHeartbeats 1000000
/-! Hu: the law's lost letters. -/
namespace Pd
open PySem PySem.Spec PyProof.Rows L2 Dn
open Classical
theorem below_lost {n : Nat} {l : List (Int × Int × Int)} : below n (lostW l) = true := by
  unfold lostW
  simp only [below]
  exact belows_map (fun _ => rfl) l
theorem set_at {G : Store} {j : Nat} {l : List W} (h : j < G.length) : (G.set j l)[j]? = some l := by rw [List.getElem?_set_self h]
theorem wp_lost {X : Er → Store → Prop} {Q : W → Store → Prop} {st : Store} {dz : Nat} {a b : Int} {plan : List (List (Int × Int))} (hd : dz < st.length) (ok : okPl st) (few : plan.length ≤ 100) (hp : ∀ ls ∈ plan, ls.length ≤ 32)
    (hq : ∀ (lost : List (Int × Int × Int)) (a' b' : Int), Q (lostW lost) (fr st dz a' b' [])) : Wp (f__law_lost [.loc dz, .tup (plan.map letsW)] (fr st dz a b [])) X Q := by
  unfold f__law_lost F__law_lost
  refine wp_fn rfl ?_
  (try simp only [wps_seq, wps_nil, wps_ret, wps_retN, wps_expr, wps_asg, wps_setIx, wps_for, wp_eC, wp_eV, wp_e2, wp_eB, wp_bNot, wp_vNot, wp_eNeg, wp_aNil, wp_aCons, wp_eTup, wp_eLst, wp_eCall, wp_pN, wp_pS, wp_eSl, wp_sl_tup, wp_sl_loc, wp_eApp, wp_eRev, wp_add, wp_sub, wp_lt, wp_le, wp_gt, wp_ge, wp_mod, wp_eqI, wp_neI, wp_catT, wp_catL, wp_rep, wp_ixT, wp_ixF, wp_ixL, wp_lenT, wp_lenF, wp_lenL, wp_listT, wp_listL, wp_tupleT, wp_tupleL, wp_intB, wp_intI, wp_wkQT, wp_wkR, wp_eLc, wipeW, ov_some, tb_bl, tl_loc, ti_int, vw_some, wp_gN, wp_ok, List.getElem?_cons_zero, List.getElem?_cons_succ, List.set_cons_zero, List.set_cons_succ, fr_len, fr_app, fr_at, fr_at0, fr_set, fr_set0, fo_len, fo_app, fo_at, fo_at0, fo_set, fo_set0, tl_at, tl_at', tl_atM, tl_set, tl_set', List.length_cons, List.length_nil, List.length_append, List.length_map, List.cons_append, List.nil_append, List.append_assoc, at_nat, at_zero, at_one, at_two, cut_to, cut_from, Nat.zero_add, Nat.add_zero, Nat.reduceAdd, decide_eq_true_eq, decide_eq_false_iff_not, Bool.not_eq_true', Bool.not_eq_false', Bool.not_true, Bool.not_false, forall_const, Bool.false_eq_true, Bool.true_eq_false, false_implies, eq_self, true_and, and_true, true_implies, List.map_cons, List.map_nil, List.cons_append, List.nil_append, List.replicate_succ, List.replicate_zero, Nat.reduceSub])
  refine ⟨by omega, by omega, ?_⟩
  rw [Int.toNat_natCast]
  refine wps_forR (I := fun k sl st' => ∃ (out : List (Int × Int × Int)) (G : Store) (j : Nat) (a b : Int) (s3 s4 s5 : Option W), sl = [some (W.loc dz), some (W.tup (plan.map letsW)), some (W.loc (st.length + j)), s3, s4, s5] ∧
    st' = fr st dz a b G ∧ G[j]? = some (out.map tripW) ∧ out.length ≤ 32 * k) ⟨[], [[]], 0, a, b, none, none, none, rfl, rfl, rfl, by simp⟩ (fun k sl st' hk hI => ?_) fun sl st' hI => ?_
  · obtain ⟨out, G, j, a, b, s3, s4, s5, rfl, rfl, hj, hl⟩ := hI
    have hjl : j < G.length := (List.getElem?_eq_some_iff.mp hj).1
    have hG : ∀ U : Store, (G ++ U)[j]? = some (out.map tripW) := fun U => by rw [List.getElem?_append_left hjl, hj]
    have ek : (plan.map letsW)[k]? = some (letsW plan[k]) := by simp [hk]
    have l32 := hp plan[k] (List.getElem_mem hk)
    generalize plan[k] = ls at ek l32
    (try simp only [wps_seq, wps_nil, wps_ret, wps_retN, wps_expr, wps_asg, wps_setIx, wps_for, wp_eC, wp_eV, wp_e2, wp_eB, wp_bNot, wp_vNot, wp_eNeg, wp_aNil, wp_aCons, wp_eTup, wp_eLst, wp_eCall, wp_pN, wp_pS, wp_eSl, wp_sl_tup, wp_sl_loc, wp_eApp, wp_eRev, wp_add, wp_sub, wp_lt, wp_le, wp_gt, wp_ge, wp_mod, wp_eqI, wp_neI, wp_catT, wp_catL, wp_rep, wp_ixT, wp_ixF, wp_ixL, wp_lenT, wp_lenF, wp_lenL, wp_listT, wp_listL, wp_tupleT, wp_tupleL, wp_intB, wp_intI, wp_wkQT, wp_wkR, wp_eLc, wipeW, ov_some, tb_bl, tl_loc, ti_int, vw_some, wp_gN, wp_ok, List.getElem?_cons_zero, List.getElem?_cons_succ, List.set_cons_zero, List.set_cons_succ, fr_len, fr_app, fr_at, fr_at0, fr_set, fr_set0, fo_len, fo_app, fo_at, fo_at0, fo_set, fo_set0, tl_at, tl_at', tl_atM, tl_set, tl_set', List.length_cons, List.length_nil, List.length_append, List.length_map, List.cons_append, List.nil_append, List.append_assoc, at_nat, at_zero, at_one, at_two, cut_to, cut_from, Nat.zero_add, Nat.add_zero, Nat.reduceAdd, decide_eq_true_eq, decide_eq_false_iff_not, Bool.not_eq_true', Bool.not_eq_false', Bool.not_true, Bool.not_false, forall_const, Bool.false_eq_true, Bool.true_eq_false, false_implies, eq_self, true_and, and_true, true_implies, ek, letsW])
    refine wp_lcD (I := fun i acc s => ∃ (ps : List (Int × Int × Int)) (a b : Int), acc = ps.map tripW ∧ ps.length ≤ i ∧ i ≤ ls.length ∧ s = fr st dz a b (G ++ [acc])) ⟨[], a, b, rfl, by simp, by simp, rfl⟩ (fun i acc s hi hI => ?_) (fun i w acc s hw hI => ?_) (fun acc s hI => ?_)
    · obtain ⟨ps, a, b, rfl, h1, h2, rfl⟩ := hI
      exact ⟨True.intro, by simp; omega⟩
    · obtain ⟨ps, a, b, rfl, h1, h2, rfl⟩ := hI
      rw [List.getElem?_map] at hw
      cases hx : ls[i]? with
      | none => rw [hx] at hw; cases hw
      | some x =>
        rw [hx] at hw
        cases hw
        have hil : i < ls.length := (List.getElem?_eq_some_iff.mp hx).1
        (try simp only [wps_seq, wps_nil, wps_ret, wps_retN, wps_expr, wps_asg, wps_setIx, wps_for, wp_eC, wp_eV, wp_e2, wp_eB, wp_bNot, wp_vNot, wp_eNeg, wp_aNil, wp_aCons, wp_eTup, wp_eLst, wp_eCall, wp_pN, wp_pS, wp_eSl, wp_sl_tup, wp_sl_loc, wp_eApp, wp_eRev, wp_add, wp_sub, wp_lt, wp_le, wp_gt, wp_ge, wp_mod, wp_eqI, wp_neI, wp_catT, wp_catL, wp_rep, wp_ixT, wp_ixF, wp_ixL, wp_lenT, wp_lenF, wp_lenL, wp_listT, wp_listL, wp_tupleT, wp_tupleL, wp_intB, wp_intI, wp_wkQT, wp_wkR, wp_eLc, wipeW, ov_some, tb_bl, tl_loc, ti_int, vw_some, wp_gN, wp_ok, List.getElem?_cons_zero, List.getElem?_cons_succ, List.set_cons_zero, List.set_cons_succ, fr_len, fr_app, fr_at, fr_at0, fr_set, fr_set0, fo_len, fo_app, fo_at, fo_at0, fo_set, fo_set0, tl_at, tl_at', tl_atM, tl_set, tl_set', List.length_cons, List.length_nil, List.length_append, List.length_map, List.cons_append, List.nil_append, List.append_assoc, at_nat, at_zero, at_one, at_two, cut_to, cut_from, Nat.zero_add, Nat.add_zero, Nat.reduceAdd, decide_eq_true_eq, decide_eq_false_iff_not, Bool.not_eq_true', Bool.not_eq_false', Bool.not_true, Bool.not_false, forall_const, Bool.false_eq_true, Bool.true_eq_false, false_implies, eq_self, true_and, and_true, true_implies])
        refine wp_roll hd (by omega) (by omega) fun r a b r0 r1 => ?_
        (try simp only [wps_seq, wps_nil, wps_ret, wps_retN, wps_expr, wps_asg, wps_setIx, wps_for, wp_eC, wp_eV, wp_e2, wp_eB, wp_bNot, wp_vNot, wp_eNeg, wp_aNil, wp_aCons, wp_eTup, wp_eLst, wp_eCall, wp_pN, wp_pS, wp_eSl, wp_sl_tup, wp_sl_loc, wp_eApp, wp_eRev, wp_add, wp_sub, wp_lt, wp_le, wp_gt, wp_ge, wp_mod, wp_eqI, wp_neI, wp_catT, wp_catL, wp_rep, wp_ixT, wp_ixF, wp_ixL, wp_lenT, wp_lenF, wp_lenL, wp_listT, wp_listL, wp_tupleT, wp_tupleL, wp_intB, wp_intI, wp_wkQT, wp_wkR, wp_eLc, wipeW, ov_some, tb_bl, tl_loc, ti_int, vw_some, wp_gN, wp_ok, List.getElem?_cons_zero, List.getElem?_cons_succ, List.set_cons_zero, List.set_cons_succ, fr_len, fr_app, fr_at, fr_at0, fr_set, fr_set0, fo_len, fo_app, fo_at, fo_at0, fo_set, fo_set0, tl_at, tl_at', tl_atM, tl_set, tl_set', List.length_cons, List.length_nil, List.length_append, List.length_map, List.cons_append, List.nil_append, List.append_assoc, at_nat, at_zero, at_one, at_two, cut_to, cut_from, Nat.zero_add, Nat.add_zero, Nat.reduceAdd, decide_eq_true_eq, decide_eq_false_iff_not, Bool.not_eq_true', Bool.not_eq_false', Bool.not_true, Bool.not_false, forall_const, Bool.false_eq_true, Bool.true_eq_false, false_implies, eq_self, true_and, and_true, true_implies, pairW])
        exact ⟨fun _ => ⟨by omega, by omega, ps ++ [(((k : Nat) : Int), x.1, x.2)], _, _, by simp [tripW], by simp; omega, by omega, rfl⟩, fun _ => ⟨ps, _, _, rfl, by omega, by omega, rfl⟩⟩
    · obtain ⟨ps, a, b, rfl, h1, h2, rfl⟩ := hI
      rw [List.length_map] at h1
      (try simp only [wps_seq, wps_nil, wps_ret, wps_retN, wps_expr, wps_asg, wps_setIx, wps_for, wp_eC, wp_eV, wp_e2, wp_eB, wp_bNot, wp_vNot, wp_eNeg, wp_aNil, wp_aCons, wp_eTup, wp_eLst, wp_eCall, wp_pN, wp_pS, wp_eSl, wp_sl_tup, wp_sl_loc, wp_eApp, wp_eRev, wp_add, wp_sub, wp_lt, wp_le, wp_gt, wp_ge, wp_mod, wp_eqI, wp_neI, wp_catT, wp_catL, wp_rep, wp_ixT, wp_ixF, wp_ixL, wp_lenT, wp_lenF, wp_lenL, wp_listT, wp_listL, wp_tupleT, wp_tupleL, wp_intB, wp_intI, wp_wkQT, wp_wkR, wp_eLc, wipeW, ov_some, tb_bl, tl_loc, ti_int, vw_some, wp_gN, wp_ok, List.getElem?_cons_zero, List.getElem?_cons_succ, List.set_cons_zero, List.set_cons_succ, fr_len, fr_app, fr_at, fr_at0, fr_set, fr_set0, fo_len, fo_app, fo_at, fo_at0, fo_set, fo_set0, tl_at, tl_at', tl_atM, tl_set, tl_set', List.length_cons, List.length_nil, List.length_append, List.length_map, List.cons_append, List.nil_append, List.append_assoc, at_nat, at_zero, at_one, at_two, cut_to, cut_from, Nat.zero_add, Nat.add_zero, Nat.reduceAdd, decide_eq_true_eq, decide_eq_false_iff_not, Bool.not_eq_true', Bool.not_eq_false', Bool.not_true, Bool.not_false, forall_const, Bool.false_eq_true, Bool.true_eq_false, false_implies, eq_self, true_and, and_true, true_implies, hG])
      refine ⟨by omega, out ++ ps, _, _, _, _, _, _, _, rfl, rfl, ?_, by simp; omega⟩
      rw [tl_at', List.map_append]
      rfl
  obtain ⟨out, G, j, a, b, s3, s4, s5, rfl, rfl, hj, hl⟩ := hI
  (try simp only [wps_seq, wps_nil, wps_ret, wps_retN, wps_expr, wps_asg, wps_setIx, wps_for, wp_eC, wp_eV, wp_e2, wp_eB, wp_bNot, wp_vNot, wp_eNeg, wp_aNil, wp_aCons, wp_eTup, wp_eLst, wp_eCall, wp_pN, wp_pS, wp_eSl, wp_sl_tup, wp_sl_loc, wp_eApp, wp_eRev, wp_add, wp_sub, wp_lt, wp_le, wp_gt, wp_ge, wp_mod, wp_eqI, wp_neI, wp_catT, wp_catL, wp_rep, wp_ixT, wp_ixF, wp_ixL, wp_lenT, wp_lenF, wp_lenL, wp_listT, wp_listL, wp_tupleT, wp_tupleL, wp_intB, wp_intI, wp_wkQT, wp_wkR, wp_eLc, wipeW, ov_some, tb_bl, tl_loc, ti_int, vw_some, wp_gN, wp_ok, List.getElem?_cons_zero, List.getElem?_cons_succ, List.set_cons_zero, List.set_cons_succ, fr_len, fr_app, fr_at, fr_at0, fr_set, fr_set0, fo_len, fo_app, fo_at, fo_at0, fo_set, fo_set0, tl_at, tl_at', tl_atM, tl_set, tl_set', List.length_cons, List.length_nil, List.length_append, List.length_map, List.cons_append, List.nil_append, List.append_assoc, at_nat, at_zero, at_one, at_two, cut_to, cut_from, Nat.zero_add, Nat.add_zero, Nat.reduceAdd, decide_eq_true_eq, decide_eq_false_iff_not, Bool.not_eq_true', Bool.not_eq_false', Bool.not_true, Bool.not_false, forall_const, Bool.false_eq_true, Bool.true_eq_false, false_implies, eq_self, true_and, and_true, true_implies])
  refine wp_roll hd (by omega) (by omega) fun r a b r0 r1 => ?_
  (try simp only [wps_seq, wps_nil, wps_ret, wps_retN, wps_expr, wps_asg, wps_setIx, wps_for, wp_eC, wp_eV, wp_e2, wp_eB, wp_bNot, wp_vNot, wp_eNeg, wp_aNil, wp_aCons, wp_eTup, wp_eLst, wp_eCall, wp_pN, wp_pS, wp_eSl, wp_sl_tup, wp_sl_loc, wp_eApp, wp_eRev, wp_add, wp_sub, wp_lt, wp_le, wp_gt, wp_ge, wp_mod, wp_eqI, wp_neI, wp_catT, wp_catL, wp_rep, wp_ixT, wp_ixF, wp_ixL, wp_lenT, wp_lenF, wp_lenL, wp_listT, wp_listL, wp_tupleT, wp_tupleL, wp_intB, wp_intI, wp_wkQT, wp_wkR, wp_eLc, wipeW, ov_some, tb_bl, tl_loc, ti_int, vw_some, wp_gN, wp_ok, List.getElem?_cons_zero, List.getElem?_cons_succ, List.set_cons_zero, List.set_cons_succ, fr_len, fr_app, fr_at, fr_at0, fr_set, fr_set0, fo_len, fo_app, fo_at, fo_at0, fo_set, fo_set0, tl_at, tl_at', tl_atM, tl_set, tl_set', List.length_cons, List.length_nil, List.length_append, List.length_map, List.cons_append, List.nil_append, List.append_assoc, at_nat, at_zero, at_one, at_two, cut_to, cut_from, Nat.zero_add, Nat.add_zero, Nat.reduceAdd, decide_eq_true_eq, decide_eq_false_iff_not, Bool.not_eq_true', Bool.not_eq_false', Bool.not_true, Bool.not_false, forall_const, Bool.false_eq_true, Bool.true_eq_false, false_implies, eq_self, true_and, and_true, true_implies])
  refine ⟨by omega, ?_⟩
  refine wps_forR (I := fun k sl st' => ∃ (out : List (Int × Int × Int)) (G : Store) (a b : Int) (s3 s4 s5 : Option W), sl = [some (W.loc dz), some (W.tup (plan.map letsW)), some (W.loc (st.length + j)), s3, s4, s5] ∧
    st' = fr st dz a b G ∧ G[j]? = some (out.map tripW) ∧ out.length ≤ 3200 + k) ⟨out, G, a, b, _, _, _, rfl, rfl, hj, by omega⟩ (fun k sl st' hk hI => ?_) fun sl st' hI => ?_
  · obtain ⟨out, G, a, b, s3, s4, s5, rfl, rfl, hj, hl⟩ := hI
    have hjl : j < G.length := (List.getElem?_eq_some_iff.mp hj).1
    (try simp only [wps_seq, wps_nil, wps_ret, wps_retN, wps_expr, wps_asg, wps_setIx, wps_for, wp_eC, wp_eV, wp_e2, wp_eB, wp_bNot, wp_vNot, wp_eNeg, wp_aNil, wp_aCons, wp_eTup, wp_eLst, wp_eCall, wp_pN, wp_pS, wp_eSl, wp_sl_tup, wp_sl_loc, wp_eApp, wp_eRev, wp_add, wp_sub, wp_lt, wp_le, wp_gt, wp_ge, wp_mod, wp_eqI, wp_neI, wp_catT, wp_catL, wp_rep, wp_ixT, wp_ixF, wp_ixL, wp_lenT, wp_lenF, wp_lenL, wp_listT, wp_listL, wp_tupleT, wp_tupleL, wp_intB, wp_intI, wp_wkQT, wp_wkR, wp_eLc, wipeW, ov_some, tb_bl, tl_loc, ti_int, vw_some, wp_gN, wp_ok, List.getElem?_cons_zero, List.getElem?_cons_succ, List.set_cons_zero, List.set_cons_succ, fr_len, fr_app, fr_at, fr_at0, fr_set, fr_set0, fo_len, fo_app, fo_at, fo_at0, fo_set, fo_set0, tl_at, tl_at', tl_atM, tl_set, tl_set', List.length_cons, List.length_nil, List.length_append, List.length_map, List.cons_append, List.nil_append, List.append_assoc, at_nat, at_zero, at_one, at_two, cut_to, cut_from, Nat.zero_add, Nat.add_zero, Nat.reduceAdd, decide_eq_true_eq, decide_eq_false_iff_not, Bool.not_eq_true', Bool.not_eq_false', Bool.not_true, Bool.not_false, forall_const, Bool.false_eq_true, Bool.true_eq_false, false_implies, eq_self, true_and, and_true, true_implies])
    refine wp_roll hd (by omega) (by omega) fun x a b _ _ => ?_
    (try simp only [wps_seq, wps_nil, wps_ret, wps_retN, wps_expr, wps_asg, wps_setIx, wps_for, wp_eC, wp_eV, wp_e2, wp_eB, wp_bNot, wp_vNot, wp_eNeg, wp_aNil, wp_aCons, wp_eTup, wp_eLst, wp_eCall, wp_pN, wp_pS, wp_eSl, wp_sl_tup, wp_sl_loc, wp_eApp, wp_eRev, wp_add, wp_sub, wp_lt, wp_le, wp_gt, wp_ge, wp_mod, wp_eqI, wp_neI, wp_catT, wp_catL, wp_rep, wp_ixT, wp_ixF, wp_ixL, wp_lenT, wp_lenF, wp_lenL, wp_listT, wp_listL, wp_tupleT, wp_tupleL, wp_intB, wp_intI, wp_wkQT, wp_wkR, wp_eLc, wipeW, ov_some, tb_bl, tl_loc, ti_int, vw_some, wp_gN, wp_ok, List.getElem?_cons_zero, List.getElem?_cons_succ, List.set_cons_zero, List.set_cons_succ, fr_len, fr_app, fr_at, fr_at0, fr_set, fr_set0, fo_len, fo_app, fo_at, fo_at0, fo_set, fo_set0, tl_at, tl_at', tl_atM, tl_set, tl_set', List.length_cons, List.length_nil, List.length_append, List.length_map, List.cons_append, List.nil_append, List.append_assoc, at_nat, at_zero, at_one, at_two, cut_to, cut_from, Nat.zero_add, Nat.add_zero, Nat.reduceAdd, decide_eq_true_eq, decide_eq_false_iff_not, Bool.not_eq_true', Bool.not_eq_false', Bool.not_true, Bool.not_false, forall_const, Bool.false_eq_true, Bool.true_eq_false, false_implies, eq_self, true_and, and_true, true_implies])
    refine wp_roll hd (by omega) (by omega) fun y a b _ _ => ?_
    (try simp only [wps_seq, wps_nil, wps_ret, wps_retN, wps_expr, wps_asg, wps_setIx, wps_for, wp_eC, wp_eV, wp_e2, wp_eB, wp_bNot, wp_vNot, wp_eNeg, wp_aNil, wp_aCons, wp_eTup, wp_eLst, wp_eCall, wp_pN, wp_pS, wp_eSl, wp_sl_tup, wp_sl_loc, wp_eApp, wp_eRev, wp_add, wp_sub, wp_lt, wp_le, wp_gt, wp_ge, wp_mod, wp_eqI, wp_neI, wp_catT, wp_catL, wp_rep, wp_ixT, wp_ixF, wp_ixL, wp_lenT, wp_lenF, wp_lenL, wp_listT, wp_listL, wp_tupleT, wp_tupleL, wp_intB, wp_intI, wp_wkQT, wp_wkR, wp_eLc, wipeW, ov_some, tb_bl, tl_loc, ti_int, vw_some, wp_gN, wp_ok, List.getElem?_cons_zero, List.getElem?_cons_succ, List.set_cons_zero, List.set_cons_succ, fr_len, fr_app, fr_at, fr_at0, fr_set, fr_set0, fo_len, fo_app, fo_at, fo_at0, fo_set, fo_set0, tl_at, tl_at', tl_atM, tl_set, tl_set', List.length_cons, List.length_nil, List.length_append, List.length_map, List.cons_append, List.nil_append, List.append_assoc, at_nat, at_zero, at_one, at_two, cut_to, cut_from, Nat.zero_add, Nat.add_zero, Nat.reduceAdd, decide_eq_true_eq, decide_eq_false_iff_not, Bool.not_eq_true', Bool.not_eq_false', Bool.not_true, Bool.not_false, forall_const, Bool.false_eq_true, Bool.true_eq_false, false_implies, eq_self, true_and, and_true, true_implies])
    refine wp_roll hd (by omega) (by omega) fun z a b _ _ => ?_
    (try simp only [wps_seq, wps_nil, wps_ret, wps_retN, wps_expr, wps_asg, wps_setIx, wps_for, wp_eC, wp_eV, wp_e2, wp_eB, wp_bNot, wp_vNot, wp_eNeg, wp_aNil, wp_aCons, wp_eTup, wp_eLst, wp_eCall, wp_pN, wp_pS, wp_eSl, wp_sl_tup, wp_sl_loc, wp_eApp, wp_eRev, wp_add, wp_sub, wp_lt, wp_le, wp_gt, wp_ge, wp_mod, wp_eqI, wp_neI, wp_catT, wp_catL, wp_rep, wp_ixT, wp_ixF, wp_ixL, wp_lenT, wp_lenF, wp_lenL, wp_listT, wp_listL, wp_tupleT, wp_tupleL, wp_intB, wp_intI, wp_wkQT, wp_wkR, wp_eLc, wipeW, ov_some, tb_bl, tl_loc, ti_int, vw_some, wp_gN, wp_ok, List.getElem?_cons_zero, List.getElem?_cons_succ, List.set_cons_zero, List.set_cons_succ, fr_len, fr_app, fr_at, fr_at0, fr_set, fr_set0, fo_len, fo_app, fo_at, fo_at0, fo_set, fo_set0, tl_at, tl_at', tl_atM, tl_set, tl_set', List.length_cons, List.length_nil, List.length_append, List.length_map, List.cons_append, List.nil_append, List.append_assoc, at_nat, at_zero, at_one, at_two, cut_to, cut_from, Nat.zero_add, Nat.add_zero, Nat.reduceAdd, decide_eq_true_eq, decide_eq_false_iff_not, Bool.not_eq_true', Bool.not_eq_false', Bool.not_true, Bool.not_false, forall_const, Bool.false_eq_true, Bool.true_eq_false, false_implies, eq_self, true_and, and_true, true_implies, hj])
    exact ⟨by omega, by omega, out ++ [(x, y, z)], _, _, _, _, _, _, rfl, rfl, by rw [set_at hjl, List.map_append]; rfl, by simp; omega⟩
  obtain ⟨out, G, a, b, s3, s4, s5, rfl, rfl, hj, hl⟩ := hI
  have hjl : j < G.length := (List.getElem?_eq_some_iff.mp hj).1
  (try simp only [wps_seq, wps_nil, wps_ret, wps_retN, wps_expr, wps_asg, wps_setIx, wps_for, wp_eC, wp_eV, wp_e2, wp_eB, wp_bNot, wp_vNot, wp_eNeg, wp_aNil, wp_aCons, wp_eTup, wp_eLst, wp_eCall, wp_pN, wp_pS, wp_eSl, wp_sl_tup, wp_sl_loc, wp_eApp, wp_eRev, wp_add, wp_sub, wp_lt, wp_le, wp_gt, wp_ge, wp_mod, wp_eqI, wp_neI, wp_catT, wp_catL, wp_rep, wp_ixT, wp_ixF, wp_ixL, wp_lenT, wp_lenF, wp_lenL, wp_listT, wp_listL, wp_tupleT, wp_tupleL, wp_intB, wp_intI, wp_wkQT, wp_wkR, wp_eLc, wipeW, ov_some, tb_bl, tl_loc, ti_int, vw_some, wp_gN, wp_ok, List.getElem?_cons_zero, List.getElem?_cons_succ, List.set_cons_zero, List.set_cons_succ, fr_len, fr_app, fr_at, fr_at0, fr_set, fr_set0, fo_len, fo_app, fo_at, fo_at0, fo_set, fo_set0, tl_at, tl_at', tl_atM, tl_set, tl_set', List.length_cons, List.length_nil, List.length_append, List.length_map, List.cons_append, List.nil_append, List.append_assoc, at_nat, at_zero, at_one, at_two, cut_to, cut_from, Nat.zero_add, Nat.add_zero, Nat.reduceAdd, decide_eq_true_eq, decide_eq_false_iff_not, Bool.not_eq_true', Bool.not_eq_false', Bool.not_true, Bool.not_false, forall_const, Bool.false_eq_true, Bool.true_eq_false, false_implies, eq_self, true_and, and_true, true_implies])
  refine WpS.cut (N := fun sl st' => ∃ (out : List (Int × Int × Int)) (G : Store) (a b : Int), sl = [some (W.loc dz), some (W.tup (plan.map letsW)), some (W.loc (st.length + j)), s3, s4, s5] ∧ st' = fr st dz a b G ∧ G[j]? = some (out.map tripW) ∧ out.length ≤ 3300) ?_ ?_
  · refine wps_ifc (P := fun _ s => ∃ a b, s = fr st dz a b G) ?_ ?_ ?_
    · (try simp only [wps_seq, wps_nil, wps_ret, wps_retN, wps_expr, wps_asg, wps_setIx, wps_for, wp_eC, wp_eV, wp_e2, wp_eB, wp_bNot, wp_vNot, wp_eNeg, wp_aNil, wp_aCons, wp_eTup, wp_eLst, wp_eCall, wp_pN, wp_pS, wp_eSl, wp_sl_tup, wp_sl_loc, wp_eApp, wp_eRev, wp_add, wp_sub, wp_lt, wp_le, wp_gt, wp_ge, wp_mod, wp_eqI, wp_neI, wp_catT, wp_catL, wp_rep, wp_ixT, wp_ixF, wp_ixL, wp_lenT, wp_lenF, wp_lenL, wp_listT, wp_listL, wp_tupleT, wp_tupleL, wp_intB, wp_intI, wp_wkQT, wp_wkR, wp_eLc, wipeW, ov_some, tb_bl, tl_loc, ti_int, vw_some, wp_gN, wp_ok, List.getElem?_cons_zero, List.getElem?_cons_succ, List.set_cons_zero, List.set_cons_succ, fr_len, fr_app, fr_at, fr_at0, fr_set, fr_set0, fo_len, fo_app, fo_at, fo_at0, fo_set, fo_set0, tl_at, tl_at', tl_atM, tl_set, tl_set', List.length_cons, List.length_nil, List.length_append, List.length_map, List.cons_append, List.nil_append, List.append_assoc, at_nat, at_zero, at_one, at_two, cut_to, cut_from, Nat.zero_add, Nat.add_zero, Nat.reduceAdd, decide_eq_true_eq, decide_eq_false_iff_not, Bool.not_eq_true', Bool.not_eq_false', Bool.not_true, Bool.not_false, forall_const, Bool.false_eq_true, Bool.true_eq_false, false_implies, eq_self, true_and, and_true, true_implies])
      refine wp_roll hd (by omega) (by omega) fun r a b r0 r1 => ?_
      (try simp only [wps_seq, wps_nil, wps_ret, wps_retN, wps_expr, wps_asg, wps_setIx, wps_for, wp_eC, wp_eV, wp_e2, wp_eB, wp_bNot, wp_vNot, wp_eNeg, wp_aNil, wp_aCons, wp_eTup, wp_eLst, wp_eCall, wp_pN, wp_pS, wp_eSl, wp_sl_tup, wp_sl_loc, wp_eApp, wp_eRev, wp_add, wp_sub, wp_lt, wp_le, wp_gt, wp_ge, wp_mod, wp_eqI, wp_neI, wp_catT, wp_catL, wp_rep, wp_ixT, wp_ixF, wp_ixL, wp_lenT, wp_lenF, wp_lenL, wp_listT, wp_listL, wp_tupleT, wp_tupleL, wp_intB, wp_intI, wp_wkQT, wp_wkR, wp_eLc, wipeW, ov_some, tb_bl, tl_loc, ti_int, vw_some, wp_gN, wp_ok, List.getElem?_cons_zero, List.getElem?_cons_succ, List.set_cons_zero, List.set_cons_succ, fr_len, fr_app, fr_at, fr_at0, fr_set, fr_set0, fo_len, fo_app, fo_at, fo_at0, fo_set, fo_set0, tl_at, tl_at', tl_atM, tl_set, tl_set', List.length_cons, List.length_nil, List.length_append, List.length_map, List.cons_append, List.nil_append, List.append_assoc, at_nat, at_zero, at_one, at_two, cut_to, cut_from, Nat.zero_add, Nat.add_zero, Nat.reduceAdd, decide_eq_true_eq, decide_eq_false_iff_not, Bool.not_eq_true', Bool.not_eq_false', Bool.not_true, Bool.not_false, forall_const, Bool.false_eq_true, Bool.true_eq_false, false_implies, eq_self, true_and, and_true, true_implies])
      exact ⟨a, b, rfl⟩
    · rintro s ⟨a, b, rfl⟩
      (try simp only [wps_seq, wps_nil, wps_ret, wps_retN, wps_expr, wps_asg, wps_setIx, wps_for, wp_eC, wp_eV, wp_e2, wp_eB, wp_bNot, wp_vNot, wp_eNeg, wp_aNil, wp_aCons, wp_eTup, wp_eLst, wp_eCall, wp_pN, wp_pS, wp_eSl, wp_sl_tup, wp_sl_loc, wp_eApp, wp_eRev, wp_add, wp_sub, wp_lt, wp_le, wp_gt, wp_ge, wp_mod, wp_eqI, wp_neI, wp_catT, wp_catL, wp_rep, wp_ixT, wp_ixF, wp_ixL, wp_lenT, wp_lenF, wp_lenL, wp_listT, wp_listL, wp_tupleT, wp_tupleL, wp_intB, wp_intI, wp_wkQT, wp_wkR, wp_eLc, wipeW, ov_some, tb_bl, tl_loc, ti_int, vw_some, wp_gN, wp_ok, List.getElem?_cons_zero, List.getElem?_cons_succ, List.set_cons_zero, List.set_cons_succ, fr_len, fr_app, fr_at, fr_at0, fr_set, fr_set0, fo_len, fo_app, fo_at, fo_at0, fo_set, fo_set0, tl_at, tl_at', tl_atM, tl_set, tl_set', List.length_cons, List.length_nil, List.length_append, List.length_map, List.cons_append, List.nil_append, List.append_assoc, at_nat, at_zero, at_one, at_two, cut_to, cut_from, Nat.zero_add, Nat.add_zero, Nat.reduceAdd, decide_eq_true_eq, decide_eq_false_iff_not, Bool.not_eq_true', Bool.not_eq_false', Bool.not_true, Bool.not_false, forall_const, Bool.false_eq_true, Bool.true_eq_false, false_implies, eq_self, true_and, and_true, true_implies, hj])
      exact ⟨out.reverse, _, _, _, rfl, by rw [set_at hjl, List.map_reverse], by simp; omega⟩
    · rintro s ⟨a, b, rfl⟩
      exact ⟨out, _, _, _, rfl, rfl, hj, by omega⟩
  clear hl hj hjl G out
  rintro sl st' ⟨out, G, a, b, rfl, rfl, hj, hl⟩
  have hjl : j < G.length := (List.getElem?_eq_some_iff.mp hj).1
  have hG : ∀ U : Store, (G ++ U)[j]? = some (out.map tripW) := fun U => by rw [List.getElem?_append_left hjl, hj]
  (try simp only [wps_seq, wps_nil, wps_ret, wps_retN, wps_expr, wps_asg, wps_setIx, wps_for, wp_eC, wp_eV, wp_e2, wp_eB, wp_bNot, wp_vNot, wp_eNeg, wp_aNil, wp_aCons, wp_eTup, wp_eLst, wp_eCall, wp_pN, wp_pS, wp_eSl, wp_sl_tup, wp_sl_loc, wp_eApp, wp_eRev, wp_add, wp_sub, wp_lt, wp_le, wp_gt, wp_ge, wp_mod, wp_eqI, wp_neI, wp_catT, wp_catL, wp_rep, wp_ixT, wp_ixF, wp_ixL, wp_lenT, wp_lenF, wp_lenL, wp_listT, wp_listL, wp_tupleT, wp_tupleL, wp_intB, wp_intI, wp_wkQT, wp_wkR, wp_eLc, wipeW, ov_some, tb_bl, tl_loc, ti_int, vw_some, wp_gN, wp_ok, List.getElem?_cons_zero, List.getElem?_cons_succ, List.set_cons_zero, List.set_cons_succ, fr_len, fr_app, fr_at, fr_at0, fr_set, fr_set0, fo_len, fo_app, fo_at, fo_at0, fo_set, fo_set0, tl_at, tl_at', tl_atM, tl_set, tl_set', List.length_cons, List.length_nil, List.length_append, List.length_map, List.cons_append, List.nil_append, List.append_assoc, at_nat, at_zero, at_one, at_two, cut_to, cut_from, Nat.zero_add, Nat.add_zero, Nat.reduceAdd, decide_eq_true_eq, decide_eq_false_iff_not, Bool.not_eq_true', Bool.not_eq_false', Bool.not_true, Bool.not_false, forall_const, Bool.false_eq_true, Bool.true_eq_false, false_implies, eq_self, true_and, and_true, true_implies])
  refine wp_roll hd (by omega) (by omega) fun r a b r0 r1 => ?_
  (try simp only [wps_seq, wps_nil, wps_ret, wps_retN, wps_expr, wps_asg, wps_setIx, wps_for, wp_eC, wp_eV, wp_e2, wp_eB, wp_bNot, wp_vNot, wp_eNeg, wp_aNil, wp_aCons, wp_eTup, wp_eLst, wp_eCall, wp_pN, wp_pS, wp_eSl, wp_sl_tup, wp_sl_loc, wp_eApp, wp_eRev, wp_add, wp_sub, wp_lt, wp_le, wp_gt, wp_ge, wp_mod, wp_eqI, wp_neI, wp_catT, wp_catL, wp_rep, wp_ixT, wp_ixF, wp_ixL, wp_lenT, wp_lenF, wp_lenL, wp_listT, wp_listL, wp_tupleT, wp_tupleL, wp_intB, wp_intI, wp_wkQT, wp_wkR, wp_eLc, wipeW, ov_some, tb_bl, tl_loc, ti_int, vw_some, wp_gN, wp_ok, List.getElem?_cons_zero, List.getElem?_cons_succ, List.set_cons_zero, List.set_cons_succ, fr_len, fr_app, fr_at, fr_at0, fr_set, fr_set0, fo_len, fo_app, fo_at, fo_at0, fo_set, fo_set0, tl_at, tl_at', tl_atM, tl_set, tl_set', List.length_cons, List.length_nil, List.length_append, List.length_map, List.cons_append, List.nil_append, List.append_assoc, at_nat, at_zero, at_one, at_two, cut_to, cut_from, Nat.zero_add, Nat.add_zero, Nat.reduceAdd, decide_eq_true_eq, decide_eq_false_iff_not, Bool.not_eq_true', Bool.not_eq_false', Bool.not_true, Bool.not_false, forall_const, Bool.false_eq_true, Bool.true_eq_false, false_implies, eq_self, true_and, and_true, true_implies, hj, hG])
  rw [cut_toI r0, ← List.map_take]
  refine ⟨by simp; omega, ?_⟩
  rw [← List.map_append]
  exact wp_trimF ok (below_lost (l := out ++ out.take r.toNat)) (hq _ _ _)
theorem wp_lostS {X : Er → Store → Prop} {Q : W → Store → Prop} {S : Store} {dz : Nat} {a b : Int} {plan : List (List (Int × Int))} (hd : S[dz]? = some [.int a, .int b]) (ok : okPl S) (few : plan.length ≤ 100) (hp : ∀ ls ∈ plan, ls.length ≤ 32)
    (hq : ∀ (lost : List (Int × Int × Int)) (a' b' : Int), Q (lostW lost) (S.set dz [.int a', .int b'])) : Wp (f__law_lost [.loc dz, .tup (plan.map letsW)] S) X Q := by
  have := wp_lost (X := X) (Q := Q) (a := a) (b := b) (List.getElem?_eq_some_iff.mp hd).1 ok few hp fun lost a' b' => by rw [fr_nil]; exact hq lost a' b'
  rw [← fr_start hd] at this
  exact this
end Pd

set_option Elab.async false
set_option linter.all false
set_option maxRecDepth 100000
set_option maxHeartbeats 1000000
/-! Hv: rounds that can't be; cells that point to none but older ones. -/
namespace Pd
open PySem PySem.Spec PyProof.Rows L2 Dn
open Classical
/-- never a round of this deal -/
def OddF (D odd : W) : Prop := ∀ S : Store, f_has_form [D, odd] S = some (.ok (.bl false) S)
theorem odd_loc {D : W} {n : Nat} : OddF D (.loc n) := fun S => f_has_form_loc
theorem odd_int {D : W} {n : Int} : OddF D (.int n) := fun S => f_has_form_int
theorem odd_three {h m : Int} {ts : List (Int × Int × Int)} {a b c : W} : OddF (dealW h m ts) (.tup [.tup [a, b, c]]) := fun S => f_has_form_three
theorem odd_one {h m x y : Int} {ts : List (Int × Int × Int)} (g : GD h m ts) (hb : ¬ (0 ≤ x ∧ x < ts.length ∧ 0 ≤ y ∧ y < m)) : OddF (dealW h m ts) (.tup [.tup [.int x, .int y]]) := fun S => by
  have := f_has_form_ok (ls := [(x, y)]) (st := S) g (by simp)
  simp only [List.map_cons, List.map_nil, pairW] at this
  rw [this]
  have : letB ts m (x, y) = false := decide_eq_false hb
  simp [this]
theorem odd_twice {h m : Int} {ts : List (Int × Int × Int)} (g : GD h m ts) : OddF (dealW h m ts) (.tup [.tup [.int 0, .int 0], .tup [.int 0, .int 0]]) := fun S => by
  have := f_has_form_ok (ls := [(0, 0), (0, 0)]) (st := S) g (by simp)
  simp only [List.map_cons, List.map_nil, pairW] at this
  rw [this]
  have : ¬ ([(0, 0), (0, 0)] : List (Int × Int)) = sortP [(0, 0), (0, 0)] := by decide +kernel
  simp [this]
/-- the law's word on a plan with a round put in -/
theorem word_put {h m : Int} {ts : List (Int × Int × Int)} {hs : List (List Int)} {pre : List (List (Int × Int))} {bad : W} {post : List W} {why : Str} {st : Store} (g : GD h m ts) (gh : GH h m hs) (hp : ∀ ls ∈ pre, GR ts m ls) (few : pre.length < 100)
    (hbad : ∀ S : Store, f_check_round [dealW h m ts, .int (pre.length : Nat), bad] S = some (.er (badRound (pre.length : Nat) why) S)) : f__law_word [dealW h m ts, holdW hs, .tup (pre.map letsW ++ bad :: post)] st = some (.ok (.tup [.int (pre.length : Nat), .str why]) st) :=
  law_word_bad (f_lossy_bad (lost := []) g gh hp (by omega) hbad)
theorem word_form {h m : Int} {ts : List (Int × Int × Int)} {hs : List (List Int)} {pre : List (List (Int × Int))} {bad : W} {post : List W} {st : Store} (g : GD h m ts) (gh : GH h m hs) (hp : ∀ ls ∈ pre, GR ts m ls) (few : pre.length < 100) (hbad : OddF (dealW h m ts) bad) :
    f__law_word [dealW h m ts, holdW hs, .tup (pre.map letsW ++ bad :: post)] st = some (.ok (.tup [.int (pre.length : Nat), .str "form"]) st) :=
  word_put g gh hp few fun S => check_form (hbad S) (by omega) (by omega)
theorem wp_put {X : Er → Store → Prop} {Q : W → Store → Prop} {h m i : Int} {ts : List (Int × Int × Int)} {hs : List (List Int)} {plan : List (List (Int × Int))} {bad : W} {why : Str} {st : Store} (g : GD h m ts) (gh : GH h m hs) (hp : ∀ ls ∈ plan, GR ts m ls) (few : plan.length < 100) (h0 : 0 ≤ i) (h1 : i ≤ plan.length)
    (hbad : ∀ S : Store, f_check_round [dealW h m ts, .int i, bad] S = some (.er (badRound i why) S)) : Wp (f__law_word [dealW h m ts, holdW hs, .tup ((plan.map letsW).take i.toNat ++ bad :: (plan.map letsW).drop i.toNat)] st) X Q = Q (.tup [.int i, .str why]) st := by
  have e : ((plan.take i.toNat).length : Int) = i := by rw [List.length_take]; omega
  rw [← List.map_take, word_put (why := why) g gh (fun ls hls => hp ls (List.mem_of_mem_take hls)) (by rw [List.length_take]; omega) (by rw [e]; exact hbad), wp_ok, e]
theorem odd_bad {D odd : W} {i : Int} (h : OddF D odd) (h0 : 0 ≤ i) (h1 : i < 100) : ∀ S : Store, f_check_round [D, .int i, odd] S = some (.er (badRound i "form") S) := fun S => check_form (h S) h0 h1
/-- one letter more than a tie bears -/
def slimL (k L : Nat) : List (Int × Int) := (List.range L).map fun (i : Nat) => ((k : Int), (i : Int))
theorem slim_bad {h m : Int} {ts : List (Int × Int × Int)} {k : Nat} {S : Store} {n : Int} (g : GD h m ts) (hk : k < ts.length) (hl : (tieAt ts (k : Nat)).2.2 < m) (h0 : 0 ≤ n) (h1 : n < 100) :
    f_check_round [dealW h m ts, .int n, letsW (slimL k ((tieAt ts (k : Nat)).2.2 + 1).toNat)] S = some (.er (badRound n "many") S) := by
  have tb := tieAt_ok g (i := (k : Nat)) (by omega) (by omega)
  have t1 : 1 ≤ (tieAt ts (k : Nat)).2.2 ∧ (tieAt ts (k : Nat)).2.2 ≤ 4 := tb.2.2.2.2.2
  obtain ⟨L, hL⟩ : ∃ L : Nat, (tieAt ts (k : Nat)).2.2 = L := ⟨(tieAt ts (k : Nat)).2.2.toNat, by omega⟩
  have eL : ((tieAt ts (k : Nat)).2.2 + 1).toNat = L + 1 := by omega
  rw [eL]
  have hlet : ∀ x ∈ slimL k (L + 1), letP ts m x := fun x hx => by
    obtain ⟨i, hi, rfl⟩ := List.mem_map.mp hx
    have := List.mem_range.mp hi
    unfold letP
    simp only
    omega
  have rise : (slimL k (L + 1)).Pairwise (fun a b => Dn.ltP a b = true) := by
    unfold slimL
    refine List.pairwise_map.mpr (List.pairwise_lt_range.imp fun {a b} hab => ?_)
    unfold Dn.ltP
    exact decide_eq_true (by simp; exact hab)
  have few : (slimL k (L + 1)).length < 64 := by unfold slimL; simp; omega
  refine check_many (D := dealW h m ts) ?_ ?_ h0 h1
  · unfold letsW
    rw [f_has_form_ok g few, List.all_eq_true.mpr fun x hx => letB_iff.mpr (hlet x hx), sortP_id rise]
    simp
  · unfold letsW
    rw [f_is_borne_ok g hlet (by omega)]
    have : bornB ts (slimL k (L + 1)) = false := by
      unfold bornB
      refine List.all_eq_false.mpr ⟨((k : Int), 0), List.mem_map.mpr ⟨0, List.mem_range.mpr (by omega), rfl⟩, ?_⟩
      simp only [decide_eq_true_eq]
      have e : ((slimL k (L + 1)).map (·.1)).count (k : Int) = L + 1 := by
        unfold slimL
        rw [List.map_map, List.count_eq_length.mpr (by simp)]
        simp
      rw [e, hL]
      omega
    rw [this]
theorem nb_hold {n : Nat} {hs : List (List Int)} : nb (n + 2) (holdW hs) := fun r hr => by
  obtain ⟨r', _, rfl⟩ := List.mem_map.mp hr
  exact nb_ints
theorem nb_holds {n : Nat} {l : List (List (List Int))} : ∀ x ∈ l.map holdW, nb (n + 2) x := nb_map fun _ => nb_hold
theorem belows_pure {n : Nat} {l : List (List (List Int))} : belows n (l.map holdW) = true := belows_map (fun _ => below_hold) l
/-- cells that point to none but those that there are -/
def okT (n : Nat) (T : Store) : Prop := ∀ l ∈ T, belows (n + T.length) l = true
theorem okT_app {n : Nat} {T U : Store} (h : okT n T) (hu : ∀ l ∈ U, belows (n + T.length) l = true) : okT n (T ++ U) := fun l hl => by
  rw [List.length_append]
  rcases List.mem_append.mp hl with hl | hl
  · exact belows_le (by omega) (h l hl)
  · exact belows_le (by omega) (hu l hl)
theorem okT_set {n : Nat} {T : Store} {j : Nat} {l : List W} (h : okT n T) (hl : belows (n + T.length) l = true) : okT n (T.set j l) := fun x hx => by
  rw [List.length_set]
  rcases List.mem_or_eq_of_mem_set hx with q | q
  · exact h x q
  · rw [q]; exact hl
theorem okPl_T {st T : Store} (h : okPl st) (ht : okT st.length T) : okPl (fo st T) := okPl_fo h ht
theorem dl0 {X : Er → Store → Prop} {Q : W → Store → Prop} {h m : Int} {ts : List (Int × Int × Int)} {st : Store} : Wp (oIx (dealW h m ts) (.int 0) st) X Q = Q (.int h) st := rfl
theorem dl1 {X : Er → Store → Prop} {Q : W → Store → Prop} {h m : Int} {ts : List (Int × Int × Int)} {st : Store} : Wp (oIx (dealW h m ts) (.int 1) st) X Q = Q (.int m) st := rfl
theorem dl2 {X : Er → Store → Prop} {Q : W → Store → Prop} {h m : Int} {ts : List (Int × Int × Int)} {st : Store} : Wp (oIx (dealW h m ts) (.int 2) st) X Q = Q (.tup (ts.map tieW)) st := rfl
theorem ti0 {X : Er → Store → Prop} {Q : W → Store → Prop} {t : Int × Int × Int} {st : Store} : Wp (oIx (tieW t) (.int 0) st) X Q = Q (.int t.1) st := rfl
theorem ti1 {X : Er → Store → Prop} {Q : W → Store → Prop} {t : Int × Int × Int} {st : Store} : Wp (oIx (tieW t) (.int 1) st) X Q = Q (.int t.2.1) st := rfl
theorem ti2 {X : Er → Store → Prop} {Q : W → Store → Prop} {t : Int × Int × Int} {st : Store} : Wp (oIx (tieW t) (.int 2) st) X Q = Q (.int t.2.2) st := rfl
theorem isi_ll {X : Er → Store → Prop} {Q : W → Store → Prop} {n : Nat} {st : Store} : Wp (oIsi [.loc n, .ty "list"] st) X Q = Q (.bl true) st := by rw [is_loc_list]; rfl
theorem tie_at {ts : List (Int × Int × Int)} {k : Nat} (h : k < ts.length) : (ts.map tieW)[k]? = some (tieW (tieAt ts (k : Nat))) := by
  have := atI_tie (ts := ts) (i := (k : Nat)) (by omega) (by omega)
  rw [at_nat] at this
  exact this
theorem lossL_len {ts lost : List (Int × Int × Int)} : ∀ {plan : List (List (Int × Int))} {k : Nat} {cur : List (List Int)}, (lossL ts lost k cur plan).length = plan.length
  | [], _, _ => rfl
  | ls :: plan, k, cur => by simp [lossL, lossL_len (plan := plan)]
theorem belows_slots {n : Nat} {a b : Int} : belows n [.int a, .int b] = true := rfl
end Pd

set_option Elab.async false
set_option linter.all false
set_option maxRecDepth 100000
set_option maxHeartbeats 1000000
/-! the functions of the law's own defs. -/
namespace K07b
open PySem PySem.Spec PyProof.Rows L2 Dn Pd
open Classical
noncomputable def F_law : SD :=
  (sSeq (sAsg (eCall f__law_some (aCons (eV 0) (aCons (eLst (aCons (eTup (aCons (eC (.int 4)) (aCons (eC (.int 4)) aNil))) (aCons (eTup (aCons (eC (.int 3)) (aCons (eC (.int 3)) aNil))) aNil))) aNil))) (gT 2 (gsC (gN 1) (gsC (gN 2) gsN))))
  (sSeq (sAsg (eCall f__law_dice (aCons (eCall f__law_cell_at (aCons (eV 0) (aCons (eC (.int 2)) aNil))) aNil)) (gN 3))
  (sSeq (sFor (wkR (eC (.int 3))) (gN 4)
  (sSeq (sAsg (eCall f__law_plan (aCons (eV 3) (aCons (eV 1) (aCons (eV 2) (aCons (eC (.int 5)) aNil))))) (gN 5))
  (sSeq (sAsg (eCall f__law_lost (aCons (eV 3) (aCons (eV 5) aNil))) (gN 6))
  (sSeq (sAsg (eCall f__law_lossy (aCons (eV 1) (aCons (eV 2) (aCons (eV 5) (aCons (eV 6) aNil))))) (gN 7))
  (sSeq (sFor (wkR (eC (.int 2))) (gN 8)
  (sSeq (sAsg (eCall f_lossy (aCons (eV 1) (aCons (eV 2) (aCons (eV 5) (aCons (eV 6) aNil))))) (gN 13))
  (sSeq (sIf (bOr (bNot (eB (eCall oIsi (aCons (eV 13) (aCons (eC (.ty "list")) aNil))))) (eB (e2 oNeD (eV 13) (eV 7)))) (sRet (eC (.bl false))) sNil)
  (sExpr (eApp (eV 13) (eTup aNil))))))
  (sSeq (sIf (eB (e2 oNeD (eCall f_lossy (aCons (eV 1) (aCons (eV 2) (aCons (eV 5) (aCons (eTup aNil) aNil))))) (eCall f_played (aCons (eV 1) (aCons (eV 2) (aCons (eV 5) aNil)))))) (sRet (eC (.bl false))) sNil)
  (sSeq (sAsg (eCall f__law_roll (aCons (eV 3) (aCons (e2 oPlus (eCall oLen (aCons (eV 5) aNil)) (eC (.int 1))) aNil))) (gN 9))
  (sSeq (sAsg (eCall f__law_roll (aCons (eV 3) (aCons (eC (.int 9)) aNil))) (gN 10))
  (sSeq (sAsg (e2 oIx (eLst (aCons (eTup (aCons (eTup (aCons (eV 10) (aCons (e2 oIx (eV 1) (eC (.int 1))) aNil))) aNil)) (aCons (eLst (aCons (eTup (aCons (eC (.int 0)) (aCons (eC (.int 0)) aNil))) aNil)) (aCons (eTup (aCons (eTup (aCons (eC (.int 0)) (aCons (eC (.int 0)) aNil))) (aCons (eTup (aCons (eC (.int 0)) (aCons (eC (.int 0)) aNil))) aNil))) (aCons (eTup (aCons (eTup (aCons (eCall oLen (aCons (e2 oIx (eV 1) (eC (.int 2))) aNil)) (aCons (eC (.int 0)) aNil))) aNil)) (aCons (eC (.int 5)) (aCons (eTup (aCons (eTup (aCons (eC (.int 0)) (aCons (eC (.int 0)) (aCons (eC (.int 0)) aNil)))) aNil)) aNil))))))) (eCall f__law_roll (aCons (eV 3) (aCons (eC (.int 6)) aNil)))) (gN 11))
  (sSeq (sIf (eB (e2 oNeD (eCall f__law_word (aCons (eV 1) (aCons (eV 2) (aCons (e2 oPlus (e2 oPlus (eSl (eV 5) pN (pS (eV 9))) (eTup (aCons (eV 11) aNil))) (eSl (eV 5) (pS (eV 9)) pN)) aNil)))) (eTup (aCons (eV 9) (aCons (eC (.str ("form" : PySem.Str))) aNil))))) (sRet (eC (.bl false))) sNil)
  (sSeq (sAsg (eLc (wkR (eCall oLen (aCons (e2 oIx (eV 1) (eC (.int 2))) aNil))) [14] (gN 14) (eB (e2 oLt (e2 oIx (e2 oIx (e2 oIx (eV 1) (eC (.int 2))) (eV 14)) (eC (.int 2))) (e2 oIx (eV 1) (eC (.int 1))))) (eV 14)) (gN 12))
  (sIf (eB (e2 oNeD (eV 12) (eLst aNil))) (sSeq (sAsg (e2 oIx (eV 12) (eCall f__law_roll (aCons (eV 3) (aCons (eCall oLen (aCons (eV 12) aNil)) aNil)))) (gN 14))
  (sSeq (sAsg (eCall oTuple (aCons (eLc (wkR (e2 oPlus (e2 oIx (e2 oIx (e2 oIx (eV 1) (eC (.int 2))) (eV 14)) (eC (.int 2))) (eC (.int 1)))) [15] (gN 15) bYes (eTup (aCons (eV 14) (aCons (eV 15) aNil)))) aNil)) (gN 11))
  (sIf (eB (e2 oNeD (eCall f__law_word (aCons (eV 1) (aCons (eV 2) (aCons (e2 oPlus (e2 oPlus (eSl (eV 5) pN (pS (eV 9))) (eTup (aCons (eV 11) aNil))) (eSl (eV 5) (pS (eV 9)) pN)) aNil)))) (eTup (aCons (eV 9) (aCons (eC (.str ("many" : PySem.Str))) aNil))))) (sRet (eC (.bl false))) sNil))) sNil))))))))))))
  (sRet (e2 oEqD (eCall f__law_word (aCons (eV 1) (aCons (eV 2) (aCons (eC (.int 5)) aNil)))) (eTup (aCons (eC (.int 0)) (aCons (eC (.str ("form" : PySem.Str))) aNil))))))))
noncomputable def f_law : FD := fnD 1 16 F_law
end K07b

set_option Elab.async false
set_option linter.all false
set_option maxRecDepth 100000
set_option maxHeartbeats 1000000
/-! K07m: the law of lost letters. -/
namespace K07b
open PySem PySem.Spec PyProof.Rows L2 Dn Pd
open Classical
theorem math {w : W} {ns : List Int} {st : Store} (hw : Scr w ns st) (ok : okPl st) : Wp (f_law [w] st) nX fun v _ => v = .bl true := by
  unfold f_law F_law
  refine wp_fn rfl ?_
  (try simp only [wps_seq, wps_nil, wps_ret, wps_retN, wps_expr, wps_asg, wps_setIx, wps_for, wp_eC, wp_eV, wp_e2, wp_eB, wp_bNot, wp_vNot, wp_eNeg, wp_aNil, wp_aCons, wp_eTup, wp_eLst, wp_eCall, wp_pN, wp_pS, wp_eSl, wp_sl_tup, wp_sl_loc, wp_eApp, wp_eRev, wp_add, wp_sub, wp_lt, wp_le, wp_gt, wp_ge, wp_mod, wp_eqI, wp_neI, wp_catT, wp_catL, wp_rep, wp_ixT, wp_ixF, wp_ixL, wp_lenT, wp_lenF, wp_lenL, wp_listT, wp_listL, wp_tupleT, wp_tupleL, wp_intB, wp_intI, wp_wkQT, wp_wkR, wp_eLc, wipeW, ov_some, tb_bl, tl_loc, ti_int, vw_some, wp_gN, wp_ok, List.getElem?_cons_zero, List.getElem?_cons_succ, List.set_cons_zero, List.set_cons_succ, fr_len, fr_app, fr_at, fr_at0, fr_set, fr_set0, fo_len, fo_app, fo_at, fo_at0, fo_set, fo_set0, tl_at, tl_at', tl_atM, tl_set, tl_set', List.length_cons, List.length_nil, List.length_append, List.length_map, List.cons_append, List.nil_append, List.append_assoc, at_nat, at_zero, at_one, at_two, cut_to, cut_from, Nat.zero_add, Nat.add_zero, Nat.reduceAdd, decide_eq_true_eq, decide_eq_false_iff_not, Bool.not_eq_true', Bool.not_eq_false', Bool.not_true, Bool.not_false, forall_const, Bool.false_eq_true, Bool.true_eq_false, false_implies, eq_self, true_and, and_true, true_implies, List.map_cons, List.map_nil, List.cons_append, List.nil_append, List.replicate_succ, List.replicate_zero, Nat.reduceSub])
  refine ⟨by omega, by omega, by omega, ?_⟩
  rw [show st ++ [[W.tup [W.int 4, W.int 4], W.tup [W.int 3, W.int 3]]] = fo st [[W.tup [W.int 4, W.int 4], W.tup [W.int 3, W.int 3]]] from rfl]
  refine wp_some (P := fun _ _ => True) hw.fo (okPl_T ok (by simp [okT, belows, below])) (by rw [fo_at0]; rfl) (by simp) (fun x hx => ?_) fun _ _ h m ts hs _ _ _ g gh => ?_
  · simp at hx
    rcases hx with rfl | rfl
    · exact ⟨4, 4, rfl, by omega, by omega, by omega, by omega, trivial⟩
    · exact ⟨3, 3, rfl, by omega, by omega, by omega, by omega, trivial⟩
  (try simp only [wps_seq, wps_nil, wps_ret, wps_retN, wps_expr, wps_asg, wps_setIx, wps_for, wp_eC, wp_eV, wp_e2, wp_eB, wp_bNot, wp_vNot, wp_eNeg, wp_aNil, wp_aCons, wp_eTup, wp_eLst, wp_eCall, wp_pN, wp_pS, wp_eSl, wp_sl_tup, wp_sl_loc, wp_eApp, wp_eRev, wp_add, wp_sub, wp_lt, wp_le, wp_gt, wp_ge, wp_mod, wp_eqI, wp_neI, wp_catT, wp_catL, wp_rep, wp_ixT, wp_ixF, wp_ixL, wp_lenT, wp_lenF, wp_lenL, wp_listT, wp_listL, wp_tupleT, wp_tupleL, wp_intB, wp_intI, wp_wkQT, wp_wkR, wp_eLc, wipeW, ov_some, tb_bl, tl_loc, ti_int, vw_some, wp_gN, wp_ok, List.getElem?_cons_zero, List.getElem?_cons_succ, List.set_cons_zero, List.set_cons_succ, fr_len, fr_app, fr_at, fr_at0, fr_set, fr_set0, fo_len, fo_app, fo_at, fo_at0, fo_set, fo_set0, tl_at, tl_at', tl_atM, tl_set, tl_set', List.length_cons, List.length_nil, List.length_append, List.length_map, List.cons_append, List.nil_append, List.append_assoc, at_nat, at_zero, at_one, at_two, cut_to, cut_from, Nat.zero_add, Nat.add_zero, Nat.reduceAdd, decide_eq_true_eq, decide_eq_false_iff_not, Bool.not_eq_true', Bool.not_eq_false', Bool.not_true, Bool.not_false, forall_const, Bool.false_eq_true, Bool.true_eq_false, false_implies, eq_self, true_and, and_true, true_implies, gT, gsC, gN, gsN, if_true])
  refine wp_cell hw.fo (by omega) fun v => ?_
  (try simp only [wps_seq, wps_nil, wps_ret, wps_retN, wps_expr, wps_asg, wps_setIx, wps_for, wp_eC, wp_eV, wp_e2, wp_eB, wp_bNot, wp_vNot, wp_eNeg, wp_aNil, wp_aCons, wp_eTup, wp_eLst, wp_eCall, wp_pN, wp_pS, wp_eSl, wp_sl_tup, wp_sl_loc, wp_eApp, wp_eRev, wp_add, wp_sub, wp_lt, wp_le, wp_gt, wp_ge, wp_mod, wp_eqI, wp_neI, wp_catT, wp_catL, wp_rep, wp_ixT, wp_ixF, wp_ixL, wp_lenT, wp_lenF, wp_lenL, wp_listT, wp_listL, wp_tupleT, wp_tupleL, wp_intB, wp_intI, wp_wkQT, wp_wkR, wp_eLc, wipeW, ov_some, tb_bl, tl_loc, ti_int, vw_some, wp_gN, wp_ok, List.getElem?_cons_zero, List.getElem?_cons_succ, List.set_cons_zero, List.set_cons_succ, fr_len, fr_app, fr_at, fr_at0, fr_set, fr_set0, fo_len, fo_app, fo_at, fo_at0, fo_set, fo_set0, tl_at, tl_at', tl_atM, tl_set, tl_set', List.length_cons, List.length_nil, List.length_append, List.length_map, List.cons_append, List.nil_append, List.append_assoc, at_nat, at_zero, at_one, at_two, cut_to, cut_from, Nat.zero_add, Nat.add_zero, Nat.reduceAdd, decide_eq_true_eq, decide_eq_false_iff_not, Bool.not_eq_true', Bool.not_eq_false', Bool.not_true, Bool.not_false, forall_const, Bool.false_eq_true, Bool.true_eq_false, false_implies, eq_self, true_and, and_true, true_implies])
  refine wp_dice fun a b => ?_
  (try simp only [wps_seq, wps_nil, wps_ret, wps_retN, wps_expr, wps_asg, wps_setIx, wps_for, wp_eC, wp_eV, wp_e2, wp_eB, wp_bNot, wp_vNot, wp_eNeg, wp_aNil, wp_aCons, wp_eTup, wp_eLst, wp_eCall, wp_pN, wp_pS, wp_eSl, wp_sl_tup, wp_sl_loc, wp_eApp, wp_eRev, wp_add, wp_sub, wp_lt, wp_le, wp_gt, wp_ge, wp_mod, wp_eqI, wp_neI, wp_catT, wp_catL, wp_rep, wp_ixT, wp_ixF, wp_ixL, wp_lenT, wp_lenF, wp_lenL, wp_listT, wp_listL, wp_tupleT, wp_tupleL, wp_intB, wp_intI, wp_wkQT, wp_wkR, wp_eLc, wipeW, ov_some, tb_bl, tl_loc, ti_int, vw_some, wp_gN, wp_ok, List.getElem?_cons_zero, List.getElem?_cons_succ, List.set_cons_zero, List.set_cons_succ, fr_len, fr_app, fr_at, fr_at0, fr_set, fr_set0, fo_len, fo_app, fo_at, fo_at0, fo_set, fo_set0, tl_at, tl_at', tl_atM, tl_set, tl_set', List.length_cons, List.length_nil, List.length_append, List.length_map, List.cons_append, List.nil_append, List.append_assoc, at_nat, at_zero, at_one, at_two, cut_to, cut_from, Nat.zero_add, Nat.add_zero, Nat.reduceAdd, decide_eq_true_eq, decide_eq_false_iff_not, Bool.not_eq_true', Bool.not_eq_false', Bool.not_true, Bool.not_false, forall_const, Bool.false_eq_true, Bool.true_eq_false, false_implies, eq_self, true_and, and_true, true_implies])
  refine ⟨by omega, ?_⟩
  rw [show (3 : Int).toNat = 3 from rfl]
  generalize hc0 : [W.tup [W.int 4, W.int 4], W.tup [W.int 3, W.int 3]] = c0
  have b0 : ∀ n, belows n c0 = true := fun n => by rw [← hc0]; rfl
  refine wps_forR (I := fun k sl st' => ∃ (G : Store) (a b : Int) (s4 s5 s6 s7 s8 s9 s10 s11 s12 s13 s14 s15 : Option W), sl = [some w, some (dealW h m ts), some (holdW hs), some (W.loc (st.length + 1)), s4, s5, s6, s7, s8, s9, s10, s11, s12, s13, s14, s15] ∧
    st' = fo st (c0 :: [.int a, .int b] :: G) ∧ okT st.length (c0 :: [.int a, .int b] :: G)) ⟨[], a, b, _, _, _, _, _, _, _, _, _, _, _, _, rfl, rfl, by simp [okT, b0, belows_slots]⟩ (fun k sl st' hk hI => ?_) fun sl st' hI => ?_
  · obtain ⟨G, a, b, s4, s5, s6, s7, s8, s9, s10, s11, s12, s13, s14, s15, rfl, rfl, okt⟩ := hI
    (try simp only [wps_seq, wps_nil, wps_ret, wps_retN, wps_expr, wps_asg, wps_setIx, wps_for, wp_eC, wp_eV, wp_e2, wp_eB, wp_bNot, wp_vNot, wp_eNeg, wp_aNil, wp_aCons, wp_eTup, wp_eLst, wp_eCall, wp_pN, wp_pS, wp_eSl, wp_sl_tup, wp_sl_loc, wp_eApp, wp_eRev, wp_add, wp_sub, wp_lt, wp_le, wp_gt, wp_ge, wp_mod, wp_eqI, wp_neI, wp_catT, wp_catL, wp_rep, wp_ixT, wp_ixF, wp_ixL, wp_lenT, wp_lenF, wp_lenL, wp_listT, wp_listL, wp_tupleT, wp_tupleL, wp_intB, wp_intI, wp_wkQT, wp_wkR, wp_eLc, wipeW, ov_some, tb_bl, tl_loc, ti_int, vw_some, wp_gN, wp_ok, List.getElem?_cons_zero, List.getElem?_cons_succ, List.set_cons_zero, List.set_cons_succ, fr_len, fr_app, fr_at, fr_at0, fr_set, fr_set0, fo_len, fo_app, fo_at, fo_at0, fo_set, fo_set0, tl_at, tl_at', tl_atM, tl_set, tl_set', List.length_cons, List.length_nil, List.length_append, List.length_map, List.cons_append, List.nil_append, List.append_assoc, at_nat, at_zero, at_one, at_two, cut_to, cut_from, Nat.zero_add, Nat.add_zero, Nat.reduceAdd, decide_eq_true_eq, decide_eq_false_iff_not, Bool.not_eq_true', Bool.not_eq_false', Bool.not_true, Bool.not_false, forall_const, Bool.false_eq_true, Bool.true_eq_false, false_implies, eq_self, true_and, and_true, true_implies])
    refine wp_planS (a := a) (b := b) (by rw [fo_at]; rfl) (okPl_T ok okt) g gh (by omega) (by omega) fun plan a b pl pg pok => ?_
    (try simp only [wps_seq, wps_nil, wps_ret, wps_retN, wps_expr, wps_asg, wps_setIx, wps_for, wp_eC, wp_eV, wp_e2, wp_eB, wp_bNot, wp_vNot, wp_eNeg, wp_aNil, wp_aCons, wp_eTup, wp_eLst, wp_eCall, wp_pN, wp_pS, wp_eSl, wp_sl_tup, wp_sl_loc, wp_eApp, wp_eRev, wp_add, wp_sub, wp_lt, wp_le, wp_gt, wp_ge, wp_mod, wp_eqI, wp_neI, wp_catT, wp_catL, wp_rep, wp_ixT, wp_ixF, wp_ixL, wp_lenT, wp_lenF, wp_lenL, wp_listT, wp_listL, wp_tupleT, wp_tupleL, wp_intB, wp_intI, wp_wkQT, wp_wkR, wp_eLc, wipeW, ov_some, tb_bl, tl_loc, ti_int, vw_some, wp_gN, wp_ok, List.getElem?_cons_zero, List.getElem?_cons_succ, List.set_cons_zero, List.set_cons_succ, fr_len, fr_app, fr_at, fr_at0, fr_set, fr_set0, fo_len, fo_app, fo_at, fo_at0, fo_set, fo_set0, tl_at, tl_at', tl_atM, tl_set, tl_set', List.length_cons, List.length_nil, List.length_append, List.length_map, List.cons_append, List.nil_append, List.append_assoc, at_nat, at_zero, at_one, at_two, cut_to, cut_from, Nat.zero_add, Nat.add_zero, Nat.reduceAdd, decide_eq_true_eq, decide_eq_false_iff_not, Bool.not_eq_true', Bool.not_eq_false', Bool.not_true, Bool.not_false, forall_const, Bool.false_eq_true, Bool.true_eq_false, false_implies, eq_self, true_and, and_true, true_implies])
    have okt : okT st.length (c0 :: [.int a, .int b] :: G) := okT_set (j := 1) okt belows_slots
    refine wp_lostS (a := a) (b := b) (by rw [fo_at]; rfl) (okPl_T ok okt) (by omega) (fun ls hls => (pg ls hls).few) fun lost a b => ?_
    (try simp only [wps_seq, wps_nil, wps_ret, wps_retN, wps_expr, wps_asg, wps_setIx, wps_for, wp_eC, wp_eV, wp_e2, wp_eB, wp_bNot, wp_vNot, wp_eNeg, wp_aNil, wp_aCons, wp_eTup, wp_eLst, wp_eCall, wp_pN, wp_pS, wp_eSl, wp_sl_tup, wp_sl_loc, wp_eApp, wp_eRev, wp_add, wp_sub, wp_lt, wp_le, wp_gt, wp_ge, wp_mod, wp_eqI, wp_neI, wp_catT, wp_catL, wp_rep, wp_ixT, wp_ixF, wp_ixL, wp_lenT, wp_lenF, wp_lenL, wp_listT, wp_listL, wp_tupleT, wp_tupleL, wp_intB, wp_intI, wp_wkQT, wp_wkR, wp_eLc, wipeW, ov_some, tb_bl, tl_loc, ti_int, vw_some, wp_gN, wp_ok, List.getElem?_cons_zero, List.getElem?_cons_succ, List.set_cons_zero, List.set_cons_succ, fr_len, fr_app, fr_at, fr_at0, fr_set, fr_set0, fo_len, fo_app, fo_at, fo_at0, fo_set, fo_set0, tl_at, tl_at', tl_atM, tl_set, tl_set', List.length_cons, List.length_nil, List.length_append, List.length_map, List.cons_append, List.nil_append, List.append_assoc, at_nat, at_zero, at_one, at_two, cut_to, cut_from, Nat.zero_add, Nat.add_zero, Nat.reduceAdd, decide_eq_true_eq, decide_eq_false_iff_not, Bool.not_eq_true', Bool.not_eq_false', Bool.not_true, Bool.not_false, forall_const, Bool.false_eq_true, Bool.true_eq_false, false_implies, eq_self, true_and, and_true, true_implies])
    have okt : okT st.length (c0 :: [.int a, .int b] :: G) := okT_set (j := 1) okt belows_slots
    rw [f_law_lossy_ok g gh pg (by omega)]
    (try simp only [wps_seq, wps_nil, wps_ret, wps_retN, wps_expr, wps_asg, wps_setIx, wps_for, wp_eC, wp_eV, wp_e2, wp_eB, wp_bNot, wp_vNot, wp_eNeg, wp_aNil, wp_aCons, wp_eTup, wp_eLst, wp_eCall, wp_pN, wp_pS, wp_eSl, wp_sl_tup, wp_sl_loc, wp_eApp, wp_eRev, wp_add, wp_sub, wp_lt, wp_le, wp_gt, wp_ge, wp_mod, wp_eqI, wp_neI, wp_catT, wp_catL, wp_rep, wp_ixT, wp_ixF, wp_ixL, wp_lenT, wp_lenF, wp_lenL, wp_listT, wp_listL, wp_tupleT, wp_tupleL, wp_intB, wp_intI, wp_wkQT, wp_wkR, wp_eLc, wipeW, ov_some, tb_bl, tl_loc, ti_int, vw_some, wp_gN, wp_ok, List.getElem?_cons_zero, List.getElem?_cons_succ, List.set_cons_zero, List.set_cons_succ, fr_len, fr_app, fr_at, fr_at0, fr_set, fr_set0, fo_len, fo_app, fo_at, fo_at0, fo_set, fo_set0, tl_at, tl_at', tl_atM, tl_set, tl_set', List.length_cons, List.length_nil, List.length_append, List.length_map, List.cons_append, List.nil_append, List.append_assoc, at_nat, at_zero, at_one, at_two, cut_to, cut_from, Nat.zero_add, Nat.add_zero, Nat.reduceAdd, decide_eq_true_eq, decide_eq_false_iff_not, Bool.not_eq_true', Bool.not_eq_false', Bool.not_true, Bool.not_false, forall_const, Bool.false_eq_true, Bool.true_eq_false, false_implies, eq_self, true_and, and_true, true_implies])
    have okt := okT_app (U := [(hs :: lossL ts lost 0 hs plan).map holdW]) okt (by simp only [List.mem_singleton]; rintro l rfl; exact belows_pure)
    generalize hdue : hs :: lossL ts lost 0 hs plan = due at okt ⊢
    refine ⟨by omega, ?_⟩
    rw [show (2 : Int).toNat = 2 from rfl]
    refine wps_forR (I := fun _ sl st' => ∃ (G' : Store) (s8 s13 : Option W), sl = [some w, some (dealW h m ts), some (holdW hs), some (W.loc (st.length + 1)), some (.int k), some (.tup (plan.map letsW)), some (lostW lost), some (.loc (st.length + (G.length + 1 + 1))), s8, s9, s10, s11, s12, s13, s14, s15] ∧
      st' = fo st (c0 :: [.int a, .int b] :: (G ++ due.map holdW :: G')) ∧ okT st.length (c0 :: [.int a, .int b] :: (G ++ due.map holdW :: G'))) ⟨[], _, _, rfl, rfl, okt⟩ (fun i sl st' hi hI => ?_) fun sl st' hI => ?_
    · obtain ⟨G', s8, s13, rfl, rfl, okt⟩ := hI
      (try simp only [wps_seq, wps_nil, wps_ret, wps_retN, wps_expr, wps_asg, wps_setIx, wps_for, wp_eC, wp_eV, wp_e2, wp_eB, wp_bNot, wp_vNot, wp_eNeg, wp_aNil, wp_aCons, wp_eTup, wp_eLst, wp_eCall, wp_pN, wp_pS, wp_eSl, wp_sl_tup, wp_sl_loc, wp_eApp, wp_eRev, wp_add, wp_sub, wp_lt, wp_le, wp_gt, wp_ge, wp_mod, wp_eqI, wp_neI, wp_catT, wp_catL, wp_rep, wp_ixT, wp_ixF, wp_ixL, wp_lenT, wp_lenF, wp_lenL, wp_listT, wp_listL, wp_tupleT, wp_tupleL, wp_intB, wp_intI, wp_wkQT, wp_wkR, wp_eLc, wipeW, ov_some, tb_bl, tl_loc, ti_int, vw_some, wp_gN, wp_ok, List.getElem?_cons_zero, List.getElem?_cons_succ, List.set_cons_zero, List.set_cons_succ, fr_len, fr_app, fr_at, fr_at0, fr_set, fr_set0, fo_len, fo_app, fo_at, fo_at0, fo_set, fo_set0, tl_at, tl_at', tl_atM, tl_set, tl_set', List.length_cons, List.length_nil, List.length_append, List.length_map, List.cons_append, List.nil_append, List.append_assoc, at_nat, at_zero, at_one, at_two, cut_to, cut_from, Nat.zero_add, Nat.add_zero, Nat.reduceAdd, decide_eq_true_eq, decide_eq_false_iff_not, Bool.not_eq_true', Bool.not_eq_false', Bool.not_true, Bool.not_false, forall_const, Bool.false_eq_true, Bool.true_eq_false, false_implies, eq_self, true_and, and_true, true_implies])
      rw [f_lossy_ok g gh pg (by omega)]
      (try simp only [wps_seq, wps_nil, wps_ret, wps_retN, wps_expr, wps_asg, wps_setIx, wps_for, wp_eC, wp_eV, wp_e2, wp_eB, wp_bNot, wp_vNot, wp_eNeg, wp_aNil, wp_aCons, wp_eTup, wp_eLst, wp_eCall, wp_pN, wp_pS, wp_eSl, wp_sl_tup, wp_sl_loc, wp_eApp, wp_eRev, wp_add, wp_sub, wp_lt, wp_le, wp_gt, wp_ge, wp_mod, wp_eqI, wp_neI, wp_catT, wp_catL, wp_rep, wp_ixT, wp_ixF, wp_ixL, wp_lenT, wp_lenF, wp_lenL, wp_listT, wp_listL, wp_tupleT, wp_tupleL, wp_intB, wp_intI, wp_wkQT, wp_wkR, wp_eLc, wipeW, ov_some, tb_bl, tl_loc, ti_int, vw_some, wp_gN, wp_ok, List.getElem?_cons_zero, List.getElem?_cons_succ, List.set_cons_zero, List.set_cons_succ, fr_len, fr_app, fr_at, fr_at0, fr_set, fr_set0, fo_len, fo_app, fo_at, fo_at0, fo_set, fo_set0, tl_at, tl_at', tl_atM, tl_set, tl_set', List.length_cons, List.length_nil, List.length_append, List.length_map, List.cons_append, List.nil_append, List.append_assoc, at_nat, at_zero, at_one, at_two, cut_to, cut_from, Nat.zero_add, Nat.add_zero, Nat.reduceAdd, decide_eq_true_eq, decide_eq_false_iff_not, Bool.not_eq_true', Bool.not_eq_false', Bool.not_true, Bool.not_false, forall_const, Bool.false_eq_true, Bool.true_eq_false, false_implies, eq_self, true_and, and_true, true_implies])
      rw [hdue]
      ((rw [wps_if]; (try simp only [wps_seq, wps_nil, wps_ret, wps_retN, wps_expr, wps_asg, wps_setIx, wps_for, wp_eC, wp_eV, wp_e2, wp_eB, wp_bNot, wp_vNot, wp_eNeg, wp_aNil, wp_aCons, wp_eTup, wp_eLst, wp_eCall, wp_pN, wp_pS, wp_eSl, wp_sl_tup, wp_sl_loc, wp_eApp, wp_eRev, wp_add, wp_sub, wp_lt, wp_le, wp_gt, wp_ge, wp_mod, wp_eqI, wp_neI, wp_catT, wp_catL, wp_rep, wp_ixT, wp_ixF, wp_ixL, wp_lenT, wp_lenF, wp_lenL, wp_listT, wp_listL, wp_tupleT, wp_tupleL, wp_intB, wp_intI, wp_wkQT, wp_wkR, wp_eLc, wipeW, ov_some, tb_bl, tl_loc, ti_int, vw_some, wp_gN, wp_ok, List.getElem?_cons_zero, List.getElem?_cons_succ, List.set_cons_zero, List.set_cons_succ, fr_len, fr_app, fr_at, fr_at0, fr_set, fr_set0, fo_len, fo_app, fo_at, fo_at0, fo_set, fo_set0, tl_at, tl_at', tl_atM, tl_set, tl_set', List.length_cons, List.length_nil, List.length_append, List.length_map, List.cons_append, List.nil_append, List.append_assoc, at_nat, at_zero, at_one, at_two, cut_to, cut_from, Nat.zero_add, Nat.add_zero, Nat.reduceAdd, decide_eq_true_eq, decide_eq_false_iff_not, Bool.not_eq_true', Bool.not_eq_false', Bool.not_true, Bool.not_false, forall_const, Bool.false_eq_true, Bool.true_eq_false, false_implies, eq_self, true_and, and_true, true_implies, wp_bAnd, wp_bOr, isi_ll])))
      rw [wp_neL (l := due.map holdW) (l' := due.map holdW) (by (try simp only [wps_seq, wps_nil, wps_ret, wps_retN, wps_expr, wps_asg, wps_setIx, wps_for, wp_eC, wp_eV, wp_e2, wp_eB, wp_bNot, wp_vNot, wp_eNeg, wp_aNil, wp_aCons, wp_eTup, wp_eLst, wp_eCall, wp_pN, wp_pS, wp_eSl, wp_sl_tup, wp_sl_loc, wp_eApp, wp_eRev, wp_add, wp_sub, wp_lt, wp_le, wp_gt, wp_ge, wp_mod, wp_eqI, wp_neI, wp_catT, wp_catL, wp_rep, wp_ixT, wp_ixF, wp_ixL, wp_lenT, wp_lenF, wp_lenL, wp_listT, wp_listL, wp_tupleT, wp_tupleL, wp_intB, wp_intI, wp_wkQT, wp_wkR, wp_eLc, wipeW, ov_some, tb_bl, tl_loc, ti_int, vw_some, wp_gN, wp_ok, List.getElem?_cons_zero, List.getElem?_cons_succ, List.set_cons_zero, List.set_cons_succ, fr_len, fr_app, fr_at, fr_at0, fr_set, fr_set0, fo_len, fo_app, fo_at, fo_at0, fo_set, fo_set0, tl_at, tl_at', tl_atM, tl_set, tl_set', List.length_cons, List.length_nil, List.length_append, List.length_map, List.cons_append, List.nil_append, List.append_assoc, at_nat, at_zero, at_one, at_two, cut_to, cut_from, Nat.zero_add, Nat.add_zero, Nat.reduceAdd, decide_eq_true_eq, decide_eq_false_iff_not, Bool.not_eq_true', Bool.not_eq_false', Bool.not_true, Bool.not_false, forall_const, Bool.false_eq_true, Bool.true_eq_false, false_implies, eq_self, true_and, and_true, true_implies])) (by (try simp only [wps_seq, wps_nil, wps_ret, wps_retN, wps_expr, wps_asg, wps_setIx, wps_for, wp_eC, wp_eV, wp_e2, wp_eB, wp_bNot, wp_vNot, wp_eNeg, wp_aNil, wp_aCons, wp_eTup, wp_eLst, wp_eCall, wp_pN, wp_pS, wp_eSl, wp_sl_tup, wp_sl_loc, wp_eApp, wp_eRev, wp_add, wp_sub, wp_lt, wp_le, wp_gt, wp_ge, wp_mod, wp_eqI, wp_neI, wp_catT, wp_catL, wp_rep, wp_ixT, wp_ixF, wp_ixL, wp_lenT, wp_lenF, wp_lenL, wp_listT, wp_listL, wp_tupleT, wp_tupleL, wp_intB, wp_intI, wp_wkQT, wp_wkR, wp_eLc, wipeW, ov_some, tb_bl, tl_loc, ti_int, vw_some, wp_gN, wp_ok, List.getElem?_cons_zero, List.getElem?_cons_succ, List.set_cons_zero, List.set_cons_succ, fr_len, fr_app, fr_at, fr_at0, fr_set, fr_set0, fo_len, fo_app, fo_at, fo_at0, fo_set, fo_set0, tl_at, tl_at', tl_atM, tl_set, tl_set', List.length_cons, List.length_nil, List.length_append, List.length_map, List.cons_append, List.nil_append, List.append_assoc, at_nat, at_zero, at_one, at_two, cut_to, cut_from, Nat.zero_add, Nat.add_zero, Nat.reduceAdd, decide_eq_true_eq, decide_eq_false_iff_not, Bool.not_eq_true', Bool.not_eq_false', Bool.not_true, Bool.not_false, forall_const, Bool.false_eq_true, Bool.true_eq_false, false_implies, eq_self, true_and, and_true, true_implies])) nb_holds nb_holds]
      (try simp only [wps_seq, wps_nil, wps_ret, wps_retN, wps_expr, wps_asg, wps_setIx, wps_for, wp_eC, wp_eV, wp_e2, wp_eB, wp_bNot, wp_vNot, wp_eNeg, wp_aNil, wp_aCons, wp_eTup, wp_eLst, wp_eCall, wp_pN, wp_pS, wp_eSl, wp_sl_tup, wp_sl_loc, wp_eApp, wp_eRev, wp_add, wp_sub, wp_lt, wp_le, wp_gt, wp_ge, wp_mod, wp_eqI, wp_neI, wp_catT, wp_catL, wp_rep, wp_ixT, wp_ixF, wp_ixL, wp_lenT, wp_lenF, wp_lenL, wp_listT, wp_listL, wp_tupleT, wp_tupleL, wp_intB, wp_intI, wp_wkQT, wp_wkR, wp_eLc, wipeW, ov_some, tb_bl, tl_loc, ti_int, vw_some, wp_gN, wp_ok, List.getElem?_cons_zero, List.getElem?_cons_succ, List.set_cons_zero, List.set_cons_succ, fr_len, fr_app, fr_at, fr_at0, fr_set, fr_set0, fo_len, fo_app, fo_at, fo_at0, fo_set, fo_set0, tl_at, tl_at', tl_atM, tl_set, tl_set', List.length_cons, List.length_nil, List.length_append, List.length_map, List.cons_append, List.nil_append, List.append_assoc, at_nat, at_zero, at_one, at_two, cut_to, cut_from, Nat.zero_add, Nat.add_zero, Nat.reduceAdd, decide_eq_true_eq, decide_eq_false_iff_not, Bool.not_eq_true', Bool.not_eq_false', Bool.not_true, Bool.not_false, forall_const, Bool.false_eq_true, Bool.true_eq_false, false_implies, eq_self, true_and, and_true, true_implies, decide_true])
      have hdl : due.length = plan.length + 1 := by rw [← hdue]; simp [lossL_len]
      refine ⟨by omega, by omega, G' ++ [due.map holdW ++ [.tup []]], _, _, rfl, rfl, ?_⟩
      have := okT_app (U := [due.map holdW ++ [.tup []]]) okt (by simp only [List.mem_singleton]; rintro l rfl; exact belows_app belows_pure rfl)
      simpa using this
    obtain ⟨G', s8, s13, rfl, rfl, okt⟩ := hI
    (try simp only [wps_seq, wps_nil, wps_ret, wps_retN, wps_expr, wps_asg, wps_setIx, wps_for, wp_eC, wp_eV, wp_e2, wp_eB, wp_bNot, wp_vNot, wp_eNeg, wp_aNil, wp_aCons, wp_eTup, wp_eLst, wp_eCall, wp_pN, wp_pS, wp_eSl, wp_sl_tup, wp_sl_loc, wp_eApp, wp_eRev, wp_add, wp_sub, wp_lt, wp_le, wp_gt, wp_ge, wp_mod, wp_eqI, wp_neI, wp_catT, wp_catL, wp_rep, wp_ixT, wp_ixF, wp_ixL, wp_lenT, wp_lenF, wp_lenL, wp_listT, wp_listL, wp_tupleT, wp_tupleL, wp_intB, wp_intI, wp_wkQT, wp_wkR, wp_eLc, wipeW, ov_some, tb_bl, tl_loc, ti_int, vw_some, wp_gN, wp_ok, List.getElem?_cons_zero, List.getElem?_cons_succ, List.set_cons_zero, List.set_cons_succ, fr_len, fr_app, fr_at, fr_at0, fr_set, fr_set0, fo_len, fo_app, fo_at, fo_at0, fo_set, fo_set0, tl_at, tl_at', tl_atM, tl_set, tl_set', List.length_cons, List.length_nil, List.length_append, List.length_map, List.cons_append, List.nil_append, List.append_assoc, at_nat, at_zero, at_one, at_two, cut_to, cut_from, Nat.zero_add, Nat.add_zero, Nat.reduceAdd, decide_eq_true_eq, decide_eq_false_iff_not, Bool.not_eq_true', Bool.not_eq_false', Bool.not_true, Bool.not_false, forall_const, Bool.false_eq_true, Bool.true_eq_false, false_implies, eq_self, true_and, and_true, true_implies])
    have l1 := f_lossy_ok (lost := []) (st := fo st (c0 :: [W.int a, W.int b] :: (G ++ due.map holdW :: G'))) g gh pg (by omega)
    refine wps_ifc (P := fun q s => q = false ∧ ∃ A B, s = fo st (c0 :: [.int a, .int b] :: (G ++ due.map holdW :: (G' ++ [A, B]))) ∧ (∀ n, belows n A = true) ∧ (∀ n, belows n B = true)) ?_ (fun s hP => nomatch hP.1) ?_
    · (try simp only [wps_seq, wps_nil, wps_ret, wps_retN, wps_expr, wps_asg, wps_setIx, wps_for, wp_eC, wp_eV, wp_e2, wp_eB, wp_bNot, wp_vNot, wp_eNeg, wp_aNil, wp_aCons, wp_eTup, wp_eLst, wp_eCall, wp_pN, wp_pS, wp_eSl, wp_sl_tup, wp_sl_loc, wp_eApp, wp_eRev, wp_add, wp_sub, wp_lt, wp_le, wp_gt, wp_ge, wp_mod, wp_eqI, wp_neI, wp_catT, wp_catL, wp_rep, wp_ixT, wp_ixF, wp_ixL, wp_lenT, wp_lenF, wp_lenL, wp_listT, wp_listL, wp_tupleT, wp_tupleL, wp_intB, wp_intI, wp_wkQT, wp_wkR, wp_eLc, wipeW, ov_some, tb_bl, tl_loc, ti_int, vw_some, wp_gN, wp_ok, List.getElem?_cons_zero, List.getElem?_cons_succ, List.set_cons_zero, List.set_cons_succ, fr_len, fr_app, fr_at, fr_at0, fr_set, fr_set0, fo_len, fo_app, fo_at, fo_at0, fo_set, fo_set0, tl_at, tl_at', tl_atM, tl_set, tl_set', List.length_cons, List.length_nil, List.length_append, List.length_map, List.cons_append, List.nil_append, List.append_assoc, at_nat, at_zero, at_one, at_two, cut_to, cut_from, Nat.zero_add, Nat.add_zero, Nat.reduceAdd, decide_eq_true_eq, decide_eq_false_iff_not, Bool.not_eq_true', Bool.not_eq_false', Bool.not_true, Bool.not_false, forall_const, Bool.false_eq_true, Bool.true_eq_false, false_implies, eq_self, true_and, and_true, true_implies])
      refine ⟨by omega, ?_⟩
      rw [show W.tup [] = lostW [] from rfl, l1]
      (try simp only [wps_seq, wps_nil, wps_ret, wps_retN, wps_expr, wps_asg, wps_setIx, wps_for, wp_eC, wp_eV, wp_e2, wp_eB, wp_bNot, wp_vNot, wp_eNeg, wp_aNil, wp_aCons, wp_eTup, wp_eLst, wp_eCall, wp_pN, wp_pS, wp_eSl, wp_sl_tup, wp_sl_loc, wp_eApp, wp_eRev, wp_add, wp_sub, wp_lt, wp_le, wp_gt, wp_ge, wp_mod, wp_eqI, wp_neI, wp_catT, wp_catL, wp_rep, wp_ixT, wp_ixF, wp_ixL, wp_lenT, wp_lenF, wp_lenL, wp_listT, wp_listL, wp_tupleT, wp_tupleL, wp_intB, wp_intI, wp_wkQT, wp_wkR, wp_eLc, wipeW, ov_some, tb_bl, tl_loc, ti_int, vw_some, wp_gN, wp_ok, List.getElem?_cons_zero, List.getElem?_cons_succ, List.set_cons_zero, List.set_cons_succ, fr_len, fr_app, fr_at, fr_at0, fr_set, fr_set0, fo_len, fo_app, fo_at, fo_at0, fo_set, fo_set0, tl_at, tl_at', tl_atM, tl_set, tl_set', List.length_cons, List.length_nil, List.length_append, List.length_map, List.cons_append, List.nil_append, List.append_assoc, at_nat, at_zero, at_one, at_two, cut_to, cut_from, Nat.zero_add, Nat.add_zero, Nat.reduceAdd, decide_eq_true_eq, decide_eq_false_iff_not, Bool.not_eq_true', Bool.not_eq_false', Bool.not_true, Bool.not_false, forall_const, Bool.false_eq_true, Bool.true_eq_false, false_implies, eq_self, true_and, and_true, true_implies])
      rw [f_played_ok g gh pg (by omega) pok]
      (try simp only [wps_seq, wps_nil, wps_ret, wps_retN, wps_expr, wps_asg, wps_setIx, wps_for, wp_eC, wp_eV, wp_e2, wp_eB, wp_bNot, wp_vNot, wp_eNeg, wp_aNil, wp_aCons, wp_eTup, wp_eLst, wp_eCall, wp_pN, wp_pS, wp_eSl, wp_sl_tup, wp_sl_loc, wp_eApp, wp_eRev, wp_add, wp_sub, wp_lt, wp_le, wp_gt, wp_ge, wp_mod, wp_eqI, wp_neI, wp_catT, wp_catL, wp_rep, wp_ixT, wp_ixF, wp_ixL, wp_lenT, wp_lenF, wp_lenL, wp_listT, wp_listL, wp_tupleT, wp_tupleL, wp_intB, wp_intI, wp_wkQT, wp_wkR, wp_eLc, wipeW, ov_some, tb_bl, tl_loc, ti_int, vw_some, wp_gN, wp_ok, List.getElem?_cons_zero, List.getElem?_cons_succ, List.set_cons_zero, List.set_cons_succ, fr_len, fr_app, fr_at, fr_at0, fr_set, fr_set0, fo_len, fo_app, fo_at, fo_at0, fo_set, fo_set0, tl_at, tl_at', tl_atM, tl_set, tl_set', List.length_cons, List.length_nil, List.length_append, List.length_map, List.cons_append, List.nil_append, List.append_assoc, at_nat, at_zero, at_one, at_two, cut_to, cut_from, Nat.zero_add, Nat.add_zero, Nat.reduceAdd, decide_eq_true_eq, decide_eq_false_iff_not, Bool.not_eq_true', Bool.not_eq_false', Bool.not_true, Bool.not_false, forall_const, Bool.false_eq_true, Bool.true_eq_false, false_implies, eq_self, true_and, and_true, true_implies])
      rw [wp_neL (l := (hs :: lossL ts [] 0 hs plan).map holdW) (l' := (hs :: lossL ts [] 0 hs plan).map holdW) (by (try simp only [wps_seq, wps_nil, wps_ret, wps_retN, wps_expr, wps_asg, wps_setIx, wps_for, wp_eC, wp_eV, wp_e2, wp_eB, wp_bNot, wp_vNot, wp_eNeg, wp_aNil, wp_aCons, wp_eTup, wp_eLst, wp_eCall, wp_pN, wp_pS, wp_eSl, wp_sl_tup, wp_sl_loc, wp_eApp, wp_eRev, wp_add, wp_sub, wp_lt, wp_le, wp_gt, wp_ge, wp_mod, wp_eqI, wp_neI, wp_catT, wp_catL, wp_rep, wp_ixT, wp_ixF, wp_ixL, wp_lenT, wp_lenF, wp_lenL, wp_listT, wp_listL, wp_tupleT, wp_tupleL, wp_intB, wp_intI, wp_wkQT, wp_wkR, wp_eLc, wipeW, ov_some, tb_bl, tl_loc, ti_int, vw_some, wp_gN, wp_ok, List.getElem?_cons_zero, List.getElem?_cons_succ, List.set_cons_zero, List.set_cons_succ, fr_len, fr_app, fr_at, fr_at0, fr_set, fr_set0, fo_len, fo_app, fo_at, fo_at0, fo_set, fo_set0, tl_at, tl_at', tl_atM, tl_set, tl_set', List.length_cons, List.length_nil, List.length_append, List.length_map, List.cons_append, List.nil_append, List.append_assoc, at_nat, at_zero, at_one, at_two, cut_to, cut_from, Nat.zero_add, Nat.add_zero, Nat.reduceAdd, decide_eq_true_eq, decide_eq_false_iff_not, Bool.not_eq_true', Bool.not_eq_false', Bool.not_true, Bool.not_false, forall_const, Bool.false_eq_true, Bool.true_eq_false, false_implies, eq_self, true_and, and_true, true_implies])) (by (try simp only [wps_seq, wps_nil, wps_ret, wps_retN, wps_expr, wps_asg, wps_setIx, wps_for, wp_eC, wp_eV, wp_e2, wp_eB, wp_bNot, wp_vNot, wp_eNeg, wp_aNil, wp_aCons, wp_eTup, wp_eLst, wp_eCall, wp_pN, wp_pS, wp_eSl, wp_sl_tup, wp_sl_loc, wp_eApp, wp_eRev, wp_add, wp_sub, wp_lt, wp_le, wp_gt, wp_ge, wp_mod, wp_eqI, wp_neI, wp_catT, wp_catL, wp_rep, wp_ixT, wp_ixF, wp_ixL, wp_lenT, wp_lenF, wp_lenL, wp_listT, wp_listL, wp_tupleT, wp_tupleL, wp_intB, wp_intI, wp_wkQT, wp_wkR, wp_eLc, wipeW, ov_some, tb_bl, tl_loc, ti_int, vw_some, wp_gN, wp_ok, List.getElem?_cons_zero, List.getElem?_cons_succ, List.set_cons_zero, List.set_cons_succ, fr_len, fr_app, fr_at, fr_at0, fr_set, fr_set0, fo_len, fo_app, fo_at, fo_at0, fo_set, fo_set0, tl_at, tl_at', tl_atM, tl_set, tl_set', List.length_cons, List.length_nil, List.length_append, List.length_map, List.cons_append, List.nil_append, List.append_assoc, at_nat, at_zero, at_one, at_two, cut_to, cut_from, Nat.zero_add, Nat.add_zero, Nat.reduceAdd, decide_eq_true_eq, decide_eq_false_iff_not, Bool.not_eq_true', Bool.not_eq_false', Bool.not_true, Bool.not_false, forall_const, Bool.false_eq_true, Bool.true_eq_false, false_implies, eq_self, true_and, and_true, true_implies])) nb_holds nb_holds]
      (try simp only [wps_seq, wps_nil, wps_ret, wps_retN, wps_expr, wps_asg, wps_setIx, wps_for, wp_eC, wp_eV, wp_e2, wp_eB, wp_bNot, wp_vNot, wp_eNeg, wp_aNil, wp_aCons, wp_eTup, wp_eLst, wp_eCall, wp_pN, wp_pS, wp_eSl, wp_sl_tup, wp_sl_loc, wp_eApp, wp_eRev, wp_add, wp_sub, wp_lt, wp_le, wp_gt, wp_ge, wp_mod, wp_eqI, wp_neI, wp_catT, wp_catL, wp_rep, wp_ixT, wp_ixF, wp_ixL, wp_lenT, wp_lenF, wp_lenL, wp_listT, wp_listL, wp_tupleT, wp_tupleL, wp_intB, wp_intI, wp_wkQT, wp_wkR, wp_eLc, wipeW, ov_some, tb_bl, tl_loc, ti_int, vw_some, wp_gN, wp_ok, List.getElem?_cons_zero, List.getElem?_cons_succ, List.set_cons_zero, List.set_cons_succ, fr_len, fr_app, fr_at, fr_at0, fr_set, fr_set0, fo_len, fo_app, fo_at, fo_at0, fo_set, fo_set0, tl_at, tl_at', tl_atM, tl_set, tl_set', List.length_cons, List.length_nil, List.length_append, List.length_map, List.cons_append, List.nil_append, List.append_assoc, at_nat, at_zero, at_one, at_two, cut_to, cut_from, Nat.zero_add, Nat.add_zero, Nat.reduceAdd, decide_eq_true_eq, decide_eq_false_iff_not, Bool.not_eq_true', Bool.not_eq_false', Bool.not_true, Bool.not_false, forall_const, Bool.false_eq_true, Bool.true_eq_false, false_implies, eq_self, true_and, and_true, true_implies, decide_true])
      exact ⟨_, _, rfl, fun _ => belows_pure, fun _ => belows_pure⟩
    rintro s ⟨-, A, B, rfl, bA, bB⟩
    have okt := okT_app (U := [A, B]) okt (by simp only [List.mem_cons, List.not_mem_nil, or_false]; rintro l (rfl | rfl) <;> first | exact bA _ | exact bB _)
    (try simp only [wps_seq, wps_nil, wps_ret, wps_retN, wps_expr, wps_asg, wps_setIx, wps_for, wp_eC, wp_eV, wp_e2, wp_eB, wp_bNot, wp_vNot, wp_eNeg, wp_aNil, wp_aCons, wp_eTup, wp_eLst, wp_eCall, wp_pN, wp_pS, wp_eSl, wp_sl_tup, wp_sl_loc, wp_eApp, wp_eRev, wp_add, wp_sub, wp_lt, wp_le, wp_gt, wp_ge, wp_mod, wp_eqI, wp_neI, wp_catT, wp_catL, wp_rep, wp_ixT, wp_ixF, wp_ixL, wp_lenT, wp_lenF, wp_lenL, wp_listT, wp_listL, wp_tupleT, wp_tupleL, wp_intB, wp_intI, wp_wkQT, wp_wkR, wp_eLc, wipeW, ov_some, tb_bl, tl_loc, ti_int, vw_some, wp_gN, wp_ok, List.getElem?_cons_zero, List.getElem?_cons_succ, List.set_cons_zero, List.set_cons_succ, fr_len, fr_app, fr_at, fr_at0, fr_set, fr_set0, fo_len, fo_app, fo_at, fo_at0, fo_set, fo_set0, tl_at, tl_at', tl_atM, tl_set, tl_set', List.length_cons, List.length_nil, List.length_append, List.length_map, List.cons_append, List.nil_append, List.append_assoc, at_nat, at_zero, at_one, at_two, cut_to, cut_from, Nat.zero_add, Nat.add_zero, Nat.reduceAdd, decide_eq_true_eq, decide_eq_false_iff_not, Bool.not_eq_true', Bool.not_eq_false', Bool.not_true, Bool.not_false, forall_const, Bool.false_eq_true, Bool.true_eq_false, false_implies, eq_self, true_and, and_true, true_implies, wps_nil])
    refine wp_rollS (a := a) (b := b) (by (try simp only [wps_seq, wps_nil, wps_ret, wps_retN, wps_expr, wps_asg, wps_setIx, wps_for, wp_eC, wp_eV, wp_e2, wp_eB, wp_bNot, wp_vNot, wp_eNeg, wp_aNil, wp_aCons, wp_eTup, wp_eLst, wp_eCall, wp_pN, wp_pS, wp_eSl, wp_sl_tup, wp_sl_loc, wp_eApp, wp_eRev, wp_add, wp_sub, wp_lt, wp_le, wp_gt, wp_ge, wp_mod, wp_eqI, wp_neI, wp_catT, wp_catL, wp_rep, wp_ixT, wp_ixF, wp_ixL, wp_lenT, wp_lenF, wp_lenL, wp_listT, wp_listL, wp_tupleT, wp_tupleL, wp_intB, wp_intI, wp_wkQT, wp_wkR, wp_eLc, wipeW, ov_some, tb_bl, tl_loc, ti_int, vw_some, wp_gN, wp_ok, List.getElem?_cons_zero, List.getElem?_cons_succ, List.set_cons_zero, List.set_cons_succ, fr_len, fr_app, fr_at, fr_at0, fr_set, fr_set0, fo_len, fo_app, fo_at, fo_at0, fo_set, fo_set0, tl_at, tl_at', tl_atM, tl_set, tl_set', List.length_cons, List.length_nil, List.length_append, List.length_map, List.cons_append, List.nil_append, List.append_assoc, at_nat, at_zero, at_one, at_two, cut_to, cut_from, Nat.zero_add, Nat.add_zero, Nat.reduceAdd, decide_eq_true_eq, decide_eq_false_iff_not, Bool.not_eq_true', Bool.not_eq_false', Bool.not_true, Bool.not_false, forall_const, Bool.false_eq_true, Bool.true_eq_false, false_implies, eq_self, true_and, and_true, true_implies])) (by omega) (by omega) fun at_ a b at0 at1 => ?_
    (try simp only [wps_seq, wps_nil, wps_ret, wps_retN, wps_expr, wps_asg, wps_setIx, wps_for, wp_eC, wp_eV, wp_e2, wp_eB, wp_bNot, wp_vNot, wp_eNeg, wp_aNil, wp_aCons, wp_eTup, wp_eLst, wp_eCall, wp_pN, wp_pS, wp_eSl, wp_sl_tup, wp_sl_loc, wp_eApp, wp_eRev, wp_add, wp_sub, wp_lt, wp_le, wp_gt, wp_ge, wp_mod, wp_eqI, wp_neI, wp_catT, wp_catL, wp_rep, wp_ixT, wp_ixF, wp_ixL, wp_lenT, wp_lenF, wp_lenL, wp_listT, wp_listL, wp_tupleT, wp_tupleL, wp_intB, wp_intI, wp_wkQT, wp_wkR, wp_eLc, wipeW, ov_some, tb_bl, tl_loc, ti_int, vw_some, wp_gN, wp_ok, List.getElem?_cons_zero, List.getElem?_cons_succ, List.set_cons_zero, List.set_cons_succ, fr_len, fr_app, fr_at, fr_at0, fr_set, fr_set0, fo_len, fo_app, fo_at, fo_at0, fo_set, fo_set0, tl_at, tl_at', tl_atM, tl_set, tl_set', List.length_cons, List.length_nil, List.length_append, List.length_map, List.cons_append, List.nil_append, List.append_assoc, at_nat, at_zero, at_one, at_two, cut_to, cut_from, Nat.zero_add, Nat.add_zero, Nat.reduceAdd, decide_eq_true_eq, decide_eq_false_iff_not, Bool.not_eq_true', Bool.not_eq_false', Bool.not_true, Bool.not_false, forall_const, Bool.false_eq_true, Bool.true_eq_false, false_implies, eq_self, true_and, and_true, true_implies, dl1, dl2, Nat.reduceLeDiff])
    refine wp_rollS (a := a) (b := b) (by (try simp only [wps_seq, wps_nil, wps_ret, wps_retN, wps_expr, wps_asg, wps_setIx, wps_for, wp_eC, wp_eV, wp_e2, wp_eB, wp_bNot, wp_vNot, wp_eNeg, wp_aNil, wp_aCons, wp_eTup, wp_eLst, wp_eCall, wp_pN, wp_pS, wp_eSl, wp_sl_tup, wp_sl_loc, wp_eApp, wp_eRev, wp_add, wp_sub, wp_lt, wp_le, wp_gt, wp_ge, wp_mod, wp_eqI, wp_neI, wp_catT, wp_catL, wp_rep, wp_ixT, wp_ixF, wp_ixL, wp_lenT, wp_lenF, wp_lenL, wp_listT, wp_listL, wp_tupleT, wp_tupleL, wp_intB, wp_intI, wp_wkQT, wp_wkR, wp_eLc, wipeW, ov_some, tb_bl, tl_loc, ti_int, vw_some, wp_gN, wp_ok, List.getElem?_cons_zero, List.getElem?_cons_succ, List.set_cons_zero, List.set_cons_succ, fr_len, fr_app, fr_at, fr_at0, fr_set, fr_set0, fo_len, fo_app, fo_at, fo_at0, fo_set, fo_set0, tl_at, tl_at', tl_atM, tl_set, tl_set', List.length_cons, List.length_nil, List.length_append, List.length_map, List.cons_append, List.nil_append, List.append_assoc, at_nat, at_zero, at_one, at_two, cut_to, cut_from, Nat.zero_add, Nat.add_zero, Nat.reduceAdd, decide_eq_true_eq, decide_eq_false_iff_not, Bool.not_eq_true', Bool.not_eq_false', Bool.not_true, Bool.not_false, forall_const, Bool.false_eq_true, Bool.true_eq_false, false_implies, eq_self, true_and, and_true, true_implies])) (by omega) (by omega) fun tie a b tie0 tie1 => ?_
    (try simp only [wps_seq, wps_nil, wps_ret, wps_retN, wps_expr, wps_asg, wps_setIx, wps_for, wp_eC, wp_eV, wp_e2, wp_eB, wp_bNot, wp_vNot, wp_eNeg, wp_aNil, wp_aCons, wp_eTup, wp_eLst, wp_eCall, wp_pN, wp_pS, wp_eSl, wp_sl_tup, wp_sl_loc, wp_eApp, wp_eRev, wp_add, wp_sub, wp_lt, wp_le, wp_gt, wp_ge, wp_mod, wp_eqI, wp_neI, wp_catT, wp_catL, wp_rep, wp_ixT, wp_ixF, wp_ixL, wp_lenT, wp_lenF, wp_lenL, wp_listT, wp_listL, wp_tupleT, wp_tupleL, wp_intB, wp_intI, wp_wkQT, wp_wkR, wp_eLc, wipeW, ov_some, tb_bl, tl_loc, ti_int, vw_some, wp_gN, wp_ok, List.getElem?_cons_zero, List.getElem?_cons_succ, List.set_cons_zero, List.set_cons_succ, fr_len, fr_app, fr_at, fr_at0, fr_set, fr_set0, fo_len, fo_app, fo_at, fo_at0, fo_set, fo_set0, tl_at, tl_at', tl_atM, tl_set, tl_set', List.length_cons, List.length_nil, List.length_append, List.length_map, List.cons_append, List.nil_append, List.append_assoc, at_nat, at_zero, at_one, at_two, cut_to, cut_from, Nat.zero_add, Nat.add_zero, Nat.reduceAdd, decide_eq_true_eq, decide_eq_false_iff_not, Bool.not_eq_true', Bool.not_eq_false', Bool.not_true, Bool.not_false, forall_const, Bool.false_eq_true, Bool.true_eq_false, false_implies, eq_self, true_and, and_true, true_implies, dl1, dl2, Nat.reduceLeDiff])
    refine wp_rollS (a := a) (b := b) (by (try simp only [wps_seq, wps_nil, wps_ret, wps_retN, wps_expr, wps_asg, wps_setIx, wps_for, wp_eC, wp_eV, wp_e2, wp_eB, wp_bNot, wp_vNot, wp_eNeg, wp_aNil, wp_aCons, wp_eTup, wp_eLst, wp_eCall, wp_pN, wp_pS, wp_eSl, wp_sl_tup, wp_sl_loc, wp_eApp, wp_eRev, wp_add, wp_sub, wp_lt, wp_le, wp_gt, wp_ge, wp_mod, wp_eqI, wp_neI, wp_catT, wp_catL, wp_rep, wp_ixT, wp_ixF, wp_ixL, wp_lenT, wp_lenF, wp_lenL, wp_listT, wp_listL, wp_tupleT, wp_tupleL, wp_intB, wp_intI, wp_wkQT, wp_wkR, wp_eLc, wipeW, ov_some, tb_bl, tl_loc, ti_int, vw_some, wp_gN, wp_ok, List.getElem?_cons_zero, List.getElem?_cons_succ, List.set_cons_zero, List.set_cons_succ, fr_len, fr_app, fr_at, fr_at0, fr_set, fr_set0, fo_len, fo_app, fo_at, fo_at0, fo_set, fo_set0, tl_at, tl_at', tl_atM, tl_set, tl_set', List.length_cons, List.length_nil, List.length_append, List.length_map, List.cons_append, List.nil_append, List.append_assoc, at_nat, at_zero, at_one, at_two, cut_to, cut_from, Nat.zero_add, Nat.add_zero, Nat.reduceAdd, decide_eq_true_eq, decide_eq_false_iff_not, Bool.not_eq_true', Bool.not_eq_false', Bool.not_true, Bool.not_false, forall_const, Bool.false_eq_true, Bool.true_eq_false, false_implies, eq_self, true_and, and_true, true_implies])) (by omega) (by omega) fun od a b od0 od1 => ?_
    (try simp only [wps_seq, wps_nil, wps_ret, wps_retN, wps_expr, wps_asg, wps_setIx, wps_for, wp_eC, wp_eV, wp_e2, wp_eB, wp_bNot, wp_vNot, wp_eNeg, wp_aNil, wp_aCons, wp_eTup, wp_eLst, wp_eCall, wp_pN, wp_pS, wp_eSl, wp_sl_tup, wp_sl_loc, wp_eApp, wp_eRev, wp_add, wp_sub, wp_lt, wp_le, wp_gt, wp_ge, wp_mod, wp_eqI, wp_neI, wp_catT, wp_catL, wp_rep, wp_ixT, wp_ixF, wp_ixL, wp_lenT, wp_lenF, wp_lenL, wp_listT, wp_listL, wp_tupleT, wp_tupleL, wp_intB, wp_intI, wp_wkQT, wp_wkR, wp_eLc, wipeW, ov_some, tb_bl, tl_loc, ti_int, vw_some, wp_gN, wp_ok, List.getElem?_cons_zero, List.getElem?_cons_succ, List.set_cons_zero, List.set_cons_succ, fr_len, fr_app, fr_at, fr_at0, fr_set, fr_set0, fo_len, fo_app, fo_at, fo_at0, fo_set, fo_set0, tl_at, tl_at', tl_atM, tl_set, tl_set', List.length_cons, List.length_nil, List.length_append, List.length_map, List.cons_append, List.nil_append, List.append_assoc, at_nat, at_zero, at_one, at_two, cut_to, cut_from, Nat.zero_add, Nat.add_zero, Nat.reduceAdd, decide_eq_true_eq, decide_eq_false_iff_not, Bool.not_eq_true', Bool.not_eq_false', Bool.not_true, Bool.not_false, forall_const, Bool.false_eq_true, Bool.true_eq_false, false_implies, eq_self, true_and, and_true, true_implies, dl1, dl2, Nat.reduceLeDiff, len_assoc, tl_c1, tl_c2, tl_c1', tl_c2'])
    generalize hN : st.length + (G.length + (G'.length + 5)) = N
    obtain ⟨odd, hodd, hO⟩ : ∃ odd, atI [W.tup [W.tup [W.int tie, W.int m]], W.loc N, W.tup [W.tup [W.int 0, W.int 0], W.tup [W.int 0, W.int 0]], W.tup [W.tup [W.int ts.length, W.int 0]], W.int 5, W.tup [W.tup [W.int 0, W.int 0, W.int 0]]] od = some odd ∧ OddF (dealW h m ts) odd := by
      rw [at_int od0]
      have : od = 0 ∨ od = 1 ∨ od = 2 ∨ od = 3 ∨ od = 4 ∨ od = 5 := by omega
      rcases this with rfl | rfl | rfl | rfl | rfl | rfl
      · exact ⟨_, rfl, odd_one g (by omega)⟩
      · exact ⟨_, rfl, odd_loc⟩
      · exact ⟨_, rfl, odd_twice g⟩
      · exact ⟨_, rfl, odd_one g (by omega)⟩
      · exact ⟨_, rfl, odd_int⟩
      · exact ⟨_, rfl, odd_three⟩
    have lo : belows (st.length + (G.length + (G'.length + 6))) [W.tup [W.tup [W.int tie, W.int m]], W.loc N, W.tup [W.tup [W.int 0, W.int 0], W.tup [W.int 0, W.int 0]], W.tup [W.tup [W.int ts.length, W.int 0]], W.int 5, W.tup [W.tup [W.int 0, W.int 0, W.int 0]]] = true := by
      rw [← hN]
      simp [belows, below]
    generalize [W.tup [W.tup [W.int tie, W.int m]], W.loc N, W.tup [W.tup [W.int 0, W.int 0], W.tup [W.int 0, W.int 0]], W.tup [W.tup [W.int ts.length, W.int 0]], W.int 5, W.tup [W.tup [W.int 0, W.int 0, W.int 0]]] = O at hodd lo
    (try simp only [wps_seq, wps_nil, wps_ret, wps_retN, wps_expr, wps_asg, wps_setIx, wps_for, wp_eC, wp_eV, wp_e2, wp_eB, wp_bNot, wp_vNot, wp_eNeg, wp_aNil, wp_aCons, wp_eTup, wp_eLst, wp_eCall, wp_pN, wp_pS, wp_eSl, wp_sl_tup, wp_sl_loc, wp_eApp, wp_eRev, wp_add, wp_sub, wp_lt, wp_le, wp_gt, wp_ge, wp_mod, wp_eqI, wp_neI, wp_catT, wp_catL, wp_rep, wp_ixT, wp_ixF, wp_ixL, wp_lenT, wp_lenF, wp_lenL, wp_listT, wp_listL, wp_tupleT, wp_tupleL, wp_intB, wp_intI, wp_wkQT, wp_wkR, wp_eLc, wipeW, ov_some, tb_bl, tl_loc, ti_int, vw_some, wp_gN, wp_ok, List.getElem?_cons_zero, List.getElem?_cons_succ, List.set_cons_zero, List.set_cons_succ, fr_len, fr_app, fr_at, fr_at0, fr_set, fr_set0, fo_len, fo_app, fo_at, fo_at0, fo_set, fo_set0, tl_at, tl_at', tl_atM, tl_set, tl_set', List.length_cons, List.length_nil, List.length_append, List.length_map, List.cons_append, List.nil_append, List.append_assoc, at_nat, at_zero, at_one, at_two, cut_to, cut_from, Nat.zero_add, Nat.add_zero, Nat.reduceAdd, decide_eq_true_eq, decide_eq_false_iff_not, Bool.not_eq_true', Bool.not_eq_false', Bool.not_true, Bool.not_false, forall_const, Bool.false_eq_true, Bool.true_eq_false, false_implies, eq_self, true_and, and_true, true_implies, hodd, len_assoc, tl_c1, tl_c2, tl_c1', tl_c2'])
    have okt : okT st.length (c0 :: [.int a, .int b] :: (G ++ due.map holdW :: (G' ++ [A, B, [W.tup [W.int 0, W.int 0]], O]))) := by
      have q := okT_app (U := [O]) (okT_app (U := [[W.tup [W.int 0, W.int 0]]]) (okT_set (j := 1) (l := [.int a, .int b]) okt belows_slots) (by simp only [List.mem_singleton]; rintro l rfl; rfl)) (by
        simp only [List.mem_singleton]
        rintro l rfl
        refine belows_le ?_ lo
        simp
        omega)
      simpa using q
    have hf := odd_bad hO at0 (by omega)
    refine wps_ifc (P := fun q s => q = false ∧ s = fo st (c0 :: [W.int a, W.int b] :: (G ++ List.map holdW due :: (G' ++ [A, B, [W.tup [W.int 0, W.int 0]], O])))) ?_ (fun s hP => nomatch hP.1) ?_
    · (try simp only [wps_seq, wps_nil, wps_ret, wps_retN, wps_expr, wps_asg, wps_setIx, wps_for, wp_eC, wp_eV, wp_e2, wp_eB, wp_bNot, wp_vNot, wp_eNeg, wp_aNil, wp_aCons, wp_eTup, wp_eLst, wp_eCall, wp_pN, wp_pS, wp_eSl, wp_sl_tup, wp_sl_loc, wp_eApp, wp_eRev, wp_add, wp_sub, wp_lt, wp_le, wp_gt, wp_ge, wp_mod, wp_eqI, wp_neI, wp_catT, wp_catL, wp_rep, wp_ixT, wp_ixF, wp_ixL, wp_lenT, wp_lenF, wp_lenL, wp_listT, wp_listL, wp_tupleT, wp_tupleL, wp_intB, wp_intI, wp_wkQT, wp_wkR, wp_eLc, wipeW, ov_some, tb_bl, tl_loc, ti_int, vw_some, wp_gN, wp_ok, List.getElem?_cons_zero, List.getElem?_cons_succ, List.set_cons_zero, List.set_cons_succ, fr_len, fr_app, fr_at, fr_at0, fr_set, fr_set0, fo_len, fo_app, fo_at, fo_at0, fo_set, fo_set0, tl_at, tl_at', tl_atM, tl_set, tl_set', List.length_cons, List.length_nil, List.length_append, List.length_map, List.cons_append, List.nil_append, List.append_assoc, at_nat, at_zero, at_one, at_two, cut_to, cut_from, Nat.zero_add, Nat.add_zero, Nat.reduceAdd, decide_eq_true_eq, decide_eq_false_iff_not, Bool.not_eq_true', Bool.not_eq_false', Bool.not_true, Bool.not_false, forall_const, Bool.false_eq_true, Bool.true_eq_false, false_implies, eq_self, true_and, and_true, true_implies, cut_toI at0, cut_fromI at0, Nat.reduceLeDiff])
      refine ⟨by simp; omega, by simp; omega, ?_⟩
      rw [wp_put g gh pg (by omega) at0 (by omega) hf]
      rw [wp_neN (by simp [nb_tup, nb_int, nb_str]; decide +kernel) (by simp [nb_tup, nb_int, nb_str]; decide +kernel)]
      simp [Tb]
    rintro s ⟨-, rfl⟩
    have g8 := g.few
    generalize G ++ List.map holdW due :: (G' ++ [A, B, [W.tup [W.int 0, W.int 0]], O]) = G2 at okt ⊢
    (try simp only [wps_seq, wps_nil, wps_ret, wps_retN, wps_expr, wps_asg, wps_setIx, wps_for, wp_eC, wp_eV, wp_e2, wp_eB, wp_bNot, wp_vNot, wp_eNeg, wp_aNil, wp_aCons, wp_eTup, wp_eLst, wp_eCall, wp_pN, wp_pS, wp_eSl, wp_sl_tup, wp_sl_loc, wp_eApp, wp_eRev, wp_add, wp_sub, wp_lt, wp_le, wp_gt, wp_ge, wp_mod, wp_eqI, wp_neI, wp_catT, wp_catL, wp_rep, wp_ixT, wp_ixF, wp_ixL, wp_lenT, wp_lenF, wp_lenL, wp_listT, wp_listL, wp_tupleT, wp_tupleL, wp_intB, wp_intI, wp_wkQT, wp_wkR, wp_eLc, wipeW, ov_some, tb_bl, tl_loc, ti_int, vw_some, wp_gN, wp_ok, List.getElem?_cons_zero, List.getElem?_cons_succ, List.set_cons_zero, List.set_cons_succ, fr_len, fr_app, fr_at, fr_at0, fr_set, fr_set0, fo_len, fo_app, fo_at, fo_at0, fo_set, fo_set0, tl_at, tl_at', tl_atM, tl_set, tl_set', List.length_cons, List.length_nil, List.length_append, List.length_map, List.cons_append, List.nil_append, List.append_assoc, at_nat, at_zero, at_one, at_two, cut_to, cut_from, Nat.zero_add, Nat.add_zero, Nat.reduceAdd, decide_eq_true_eq, decide_eq_false_iff_not, Bool.not_eq_true', Bool.not_eq_false', Bool.not_true, Bool.not_false, forall_const, Bool.false_eq_true, Bool.true_eq_false, false_implies, eq_self, true_and, and_true, true_implies, dl2, dl1, ti2])
    refine ⟨by omega, ?_⟩
    rw [Int.toNat_natCast, rng_map]
    rw [show (c0 :: [W.int a, W.int b] :: (G2 ++ [[]])) = (c0 :: [W.int a, W.int b] :: G2) ++ [[]] by simp, show st.length + (G2.length + 1 + 1) = st.length + (c0 :: [W.int a, W.int b] :: G2).length from rfl]
    refine wp_lcO (T := c0 :: [W.int a, W.int b] :: G2) (fun i => W.int (i : Nat)) (fun i => decide ((tieAt ts (i : Nat)).2.2 < m)) (fun acc => True.intro) (by simp; omega) (fun i hi acc => ?_) ?_
    · have hi := List.mem_range.mp hi
      (try simp only [wps_seq, wps_nil, wps_ret, wps_retN, wps_expr, wps_asg, wps_setIx, wps_for, wp_eC, wp_eV, wp_e2, wp_eB, wp_bNot, wp_vNot, wp_eNeg, wp_aNil, wp_aCons, wp_eTup, wp_eLst, wp_eCall, wp_pN, wp_pS, wp_eSl, wp_sl_tup, wp_sl_loc, wp_eApp, wp_eRev, wp_add, wp_sub, wp_lt, wp_le, wp_gt, wp_ge, wp_mod, wp_eqI, wp_neI, wp_catT, wp_catL, wp_rep, wp_ixT, wp_ixF, wp_ixL, wp_lenT, wp_lenF, wp_lenL, wp_listT, wp_listL, wp_tupleT, wp_tupleL, wp_intB, wp_intI, wp_wkQT, wp_wkR, wp_eLc, wipeW, ov_some, tb_bl, tl_loc, ti_int, vw_some, wp_gN, wp_ok, List.getElem?_cons_zero, List.getElem?_cons_succ, List.set_cons_zero, List.set_cons_succ, fr_len, fr_app, fr_at, fr_at0, fr_set, fr_set0, fo_len, fo_app, fo_at, fo_at0, fo_set, fo_set0, tl_at, tl_at', tl_atM, tl_set, tl_set', List.length_cons, List.length_nil, List.length_append, List.length_map, List.cons_append, List.nil_append, List.append_assoc, at_nat, at_zero, at_one, at_two, cut_to, cut_from, Nat.zero_add, Nat.add_zero, Nat.reduceAdd, decide_eq_true_eq, decide_eq_false_iff_not, Bool.not_eq_true', Bool.not_eq_false', Bool.not_true, Bool.not_false, forall_const, Bool.false_eq_true, Bool.true_eq_false, false_implies, eq_self, true_and, and_true, true_implies, dl2, dl1, tie_at hi, ti2])
      exact fun _ => trivial
    generalize hsl : (List.range ts.length).filter (fun i => decide ((tieAt ts (i : Nat)).2.2 < m)) = slim
    have hsm : ∀ i ∈ slim, i < ts.length ∧ (tieAt ts (i : Nat)).2.2 < m := fun i hi => by
      rw [← hsl] at hi
      have := List.mem_filter.mp hi
      exact ⟨List.mem_range.mp this.1, of_decide_eq_true this.2⟩
    have hsn : slim.length ≤ 8 := by rw [← hsl]; refine Nat.le_trans (List.length_filter_le _ _) ?_; simpa using g8
    have okt := okT_app (U := [slim.map fun i => W.int (i : Nat)]) okt (by simp only [List.mem_singleton]; rintro l rfl; exact belows_map (fun _ => rfl) _)
    (try simp only [wps_seq, wps_nil, wps_ret, wps_retN, wps_expr, wps_asg, wps_setIx, wps_for, wp_eC, wp_eV, wp_e2, wp_eB, wp_bNot, wp_vNot, wp_eNeg, wp_aNil, wp_aCons, wp_eTup, wp_eLst, wp_eCall, wp_pN, wp_pS, wp_eSl, wp_sl_tup, wp_sl_loc, wp_eApp, wp_eRev, wp_add, wp_sub, wp_lt, wp_le, wp_gt, wp_ge, wp_mod, wp_eqI, wp_neI, wp_catT, wp_catL, wp_rep, wp_ixT, wp_ixF, wp_ixL, wp_lenT, wp_lenF, wp_lenL, wp_listT, wp_listL, wp_tupleT, wp_tupleL, wp_intB, wp_intI, wp_wkQT, wp_wkR, wp_eLc, wipeW, ov_some, tb_bl, tl_loc, ti_int, vw_some, wp_gN, wp_ok, List.getElem?_cons_zero, List.getElem?_cons_succ, List.set_cons_zero, List.set_cons_succ, fr_len, fr_app, fr_at, fr_at0, fr_set, fr_set0, fo_len, fo_app, fo_at, fo_at0, fo_set, fo_set0, tl_at, tl_at', tl_atM, tl_set, tl_set', List.length_cons, List.length_nil, List.length_append, List.length_map, List.cons_append, List.nil_append, List.append_assoc, at_nat, at_zero, at_one, at_two, cut_to, cut_from, Nat.zero_add, Nat.add_zero, Nat.reduceAdd, decide_eq_true_eq, decide_eq_false_iff_not, Bool.not_eq_true', Bool.not_eq_false', Bool.not_true, Bool.not_false, forall_const, Bool.false_eq_true, Bool.true_eq_false, false_implies, eq_self, true_and, and_true, true_implies])
    refine wps_ifc (P := fun q s => q = decide (slim ≠ []) ∧ s = fo st (c0 :: [W.int a, W.int b] :: (G2 ++ [slim.map fun i => W.int (i : Nat), []]))) ?_ ?_ ?_
    · (try simp only [wps_seq, wps_nil, wps_ret, wps_retN, wps_expr, wps_asg, wps_setIx, wps_for, wp_eC, wp_eV, wp_e2, wp_eB, wp_bNot, wp_vNot, wp_eNeg, wp_aNil, wp_aCons, wp_eTup, wp_eLst, wp_eCall, wp_pN, wp_pS, wp_eSl, wp_sl_tup, wp_sl_loc, wp_eApp, wp_eRev, wp_add, wp_sub, wp_lt, wp_le, wp_gt, wp_ge, wp_mod, wp_eqI, wp_neI, wp_catT, wp_catL, wp_rep, wp_ixT, wp_ixF, wp_ixL, wp_lenT, wp_lenF, wp_lenL, wp_listT, wp_listL, wp_tupleT, wp_tupleL, wp_intB, wp_intI, wp_wkQT, wp_wkR, wp_eLc, wipeW, ov_some, tb_bl, tl_loc, ti_int, vw_some, wp_gN, wp_ok, List.getElem?_cons_zero, List.getElem?_cons_succ, List.set_cons_zero, List.set_cons_succ, fr_len, fr_app, fr_at, fr_at0, fr_set, fr_set0, fo_len, fo_app, fo_at, fo_at0, fo_set, fo_set0, tl_at, tl_at', tl_atM, tl_set, tl_set', List.length_cons, List.length_nil, List.length_append, List.length_map, List.cons_append, List.nil_append, List.append_assoc, at_nat, at_zero, at_one, at_two, cut_to, cut_from, Nat.zero_add, Nat.add_zero, Nat.reduceAdd, decide_eq_true_eq, decide_eq_false_iff_not, Bool.not_eq_true', Bool.not_eq_false', Bool.not_true, Bool.not_false, forall_const, Bool.false_eq_true, Bool.true_eq_false, false_implies, eq_self, true_and, and_true, true_implies, Nat.reduceLeDiff, Nat.zero_le])
      rw [wp_neL (l := slim.map fun i => W.int (i : Nat)) (l' := []) (by (try simp only [wps_seq, wps_nil, wps_ret, wps_retN, wps_expr, wps_asg, wps_setIx, wps_for, wp_eC, wp_eV, wp_e2, wp_eB, wp_bNot, wp_vNot, wp_eNeg, wp_aNil, wp_aCons, wp_eTup, wp_eLst, wp_eCall, wp_pN, wp_pS, wp_eSl, wp_sl_tup, wp_sl_loc, wp_eApp, wp_eRev, wp_add, wp_sub, wp_lt, wp_le, wp_gt, wp_ge, wp_mod, wp_eqI, wp_neI, wp_catT, wp_catL, wp_rep, wp_ixT, wp_ixF, wp_ixL, wp_lenT, wp_lenF, wp_lenL, wp_listT, wp_listL, wp_tupleT, wp_tupleL, wp_intB, wp_intI, wp_wkQT, wp_wkR, wp_eLc, wipeW, ov_some, tb_bl, tl_loc, ti_int, vw_some, wp_gN, wp_ok, List.getElem?_cons_zero, List.getElem?_cons_succ, List.set_cons_zero, List.set_cons_succ, fr_len, fr_app, fr_at, fr_at0, fr_set, fr_set0, fo_len, fo_app, fo_at, fo_at0, fo_set, fo_set0, tl_at, tl_at', tl_atM, tl_set, tl_set', List.length_cons, List.length_nil, List.length_append, List.length_map, List.cons_append, List.nil_append, List.append_assoc, at_nat, at_zero, at_one, at_two, cut_to, cut_from, Nat.zero_add, Nat.add_zero, Nat.reduceAdd, decide_eq_true_eq, decide_eq_false_iff_not, Bool.not_eq_true', Bool.not_eq_false', Bool.not_true, Bool.not_false, forall_const, Bool.false_eq_true, Bool.true_eq_false, false_implies, eq_self, true_and, and_true, true_implies])) (by (try simp only [wps_seq, wps_nil, wps_ret, wps_retN, wps_expr, wps_asg, wps_setIx, wps_for, wp_eC, wp_eV, wp_e2, wp_eB, wp_bNot, wp_vNot, wp_eNeg, wp_aNil, wp_aCons, wp_eTup, wp_eLst, wp_eCall, wp_pN, wp_pS, wp_eSl, wp_sl_tup, wp_sl_loc, wp_eApp, wp_eRev, wp_add, wp_sub, wp_lt, wp_le, wp_gt, wp_ge, wp_mod, wp_eqI, wp_neI, wp_catT, wp_catL, wp_rep, wp_ixT, wp_ixF, wp_ixL, wp_lenT, wp_lenF, wp_lenL, wp_listT, wp_listL, wp_tupleT, wp_tupleL, wp_intB, wp_intI, wp_wkQT, wp_wkR, wp_eLc, wipeW, ov_some, tb_bl, tl_loc, ti_int, vw_some, wp_gN, wp_ok, List.getElem?_cons_zero, List.getElem?_cons_succ, List.set_cons_zero, List.set_cons_succ, fr_len, fr_app, fr_at, fr_at0, fr_set, fr_set0, fo_len, fo_app, fo_at, fo_at0, fo_set, fo_set0, tl_at, tl_at', tl_atM, tl_set, tl_set', List.length_cons, List.length_nil, List.length_append, List.length_map, List.cons_append, List.nil_append, List.append_assoc, at_nat, at_zero, at_one, at_two, cut_to, cut_from, Nat.zero_add, Nat.add_zero, Nat.reduceAdd, decide_eq_true_eq, decide_eq_false_iff_not, Bool.not_eq_true', Bool.not_eq_false', Bool.not_true, Bool.not_false, forall_const, Bool.false_eq_true, Bool.true_eq_false, false_implies, eq_self, true_and, and_true, true_implies])) (nb_map fun _ => by rw [nb_int]; trivial) (fun _ h => nomatch h)]
      simp [Tb]
    · rintro s ⟨hne, rfl⟩
      have hne : slim ≠ [] := of_decide_eq_true hne.symm
      have hpos := List.length_pos_iff.mpr hne
      (try simp only [wps_seq, wps_nil, wps_ret, wps_retN, wps_expr, wps_asg, wps_setIx, wps_for, wp_eC, wp_eV, wp_e2, wp_eB, wp_bNot, wp_vNot, wp_eNeg, wp_aNil, wp_aCons, wp_eTup, wp_eLst, wp_eCall, wp_pN, wp_pS, wp_eSl, wp_sl_tup, wp_sl_loc, wp_eApp, wp_eRev, wp_add, wp_sub, wp_lt, wp_le, wp_gt, wp_ge, wp_mod, wp_eqI, wp_neI, wp_catT, wp_catL, wp_rep, wp_ixT, wp_ixF, wp_ixL, wp_lenT, wp_lenF, wp_lenL, wp_listT, wp_listL, wp_tupleT, wp_tupleL, wp_intB, wp_intI, wp_wkQT, wp_wkR, wp_eLc, wipeW, ov_some, tb_bl, tl_loc, ti_int, vw_some, wp_gN, wp_ok, List.getElem?_cons_zero, List.getElem?_cons_succ, List.set_cons_zero, List.set_cons_succ, fr_len, fr_app, fr_at, fr_at0, fr_set, fr_set0, fo_len, fo_app, fo_at, fo_at0, fo_set, fo_set0, tl_at, tl_at', tl_atM, tl_set, tl_set', List.length_cons, List.length_nil, List.length_append, List.length_map, List.cons_append, List.nil_append, List.append_assoc, at_nat, at_zero, at_one, at_two, cut_to, cut_from, Nat.zero_add, Nat.add_zero, Nat.reduceAdd, decide_eq_true_eq, decide_eq_false_iff_not, Bool.not_eq_true', Bool.not_eq_false', Bool.not_true, Bool.not_false, forall_const, Bool.false_eq_true, Bool.true_eq_false, false_implies, eq_self, true_and, and_true, true_implies])
      refine wp_rollS (a := a) (b := b) (by (try simp only [wps_seq, wps_nil, wps_ret, wps_retN, wps_expr, wps_asg, wps_setIx, wps_for, wp_eC, wp_eV, wp_e2, wp_eB, wp_bNot, wp_vNot, wp_eNeg, wp_aNil, wp_aCons, wp_eTup, wp_eLst, wp_eCall, wp_pN, wp_pS, wp_eSl, wp_sl_tup, wp_sl_loc, wp_eApp, wp_eRev, wp_add, wp_sub, wp_lt, wp_le, wp_gt, wp_ge, wp_mod, wp_eqI, wp_neI, wp_catT, wp_catL, wp_rep, wp_ixT, wp_ixF, wp_ixL, wp_lenT, wp_lenF, wp_lenL, wp_listT, wp_listL, wp_tupleT, wp_tupleL, wp_intB, wp_intI, wp_wkQT, wp_wkR, wp_eLc, wipeW, ov_some, tb_bl, tl_loc, ti_int, vw_some, wp_gN, wp_ok, List.getElem?_cons_zero, List.getElem?_cons_succ, List.set_cons_zero, List.set_cons_succ, fr_len, fr_app, fr_at, fr_at0, fr_set, fr_set0, fo_len, fo_app, fo_at, fo_at0, fo_set, fo_set0, tl_at, tl_at', tl_atM, tl_set, tl_set', List.length_cons, List.length_nil, List.length_append, List.length_map, List.cons_append, List.nil_append, List.append_assoc, at_nat, at_zero, at_one, at_two, cut_to, cut_from, Nat.zero_add, Nat.add_zero, Nat.reduceAdd, decide_eq_true_eq, decide_eq_false_iff_not, Bool.not_eq_true', Bool.not_eq_false', Bool.not_true, Bool.not_false, forall_const, Bool.false_eq_true, Bool.true_eq_false, false_implies, eq_self, true_and, and_true, true_implies])) (by omega) (by omega) fun r a b r0 r1 => ?_
      obtain ⟨j, rfl⟩ : ∃ j : Nat, r = j := ⟨r.toNat, by omega⟩
      have hj : j < slim.length := by omega
      have ej : (slim.map fun i => W.int (i : Nat))[j]? = some (.int (slim[j] : Nat)) := by simp [hj]
      obtain ⟨k1, k2⟩ := hsm slim[j] (List.getElem_mem hj)
      generalize slim[j] = kk at ej k1 k2
      (try simp only [wps_seq, wps_nil, wps_ret, wps_retN, wps_expr, wps_asg, wps_setIx, wps_for, wp_eC, wp_eV, wp_e2, wp_eB, wp_bNot, wp_vNot, wp_eNeg, wp_aNil, wp_aCons, wp_eTup, wp_eLst, wp_eCall, wp_pN, wp_pS, wp_eSl, wp_sl_tup, wp_sl_loc, wp_eApp, wp_eRev, wp_add, wp_sub, wp_lt, wp_le, wp_gt, wp_ge, wp_mod, wp_eqI, wp_neI, wp_catT, wp_catL, wp_rep, wp_ixT, wp_ixF, wp_ixL, wp_lenT, wp_lenF, wp_lenL, wp_listT, wp_listL, wp_tupleT, wp_tupleL, wp_intB, wp_intI, wp_wkQT, wp_wkR, wp_eLc, wipeW, ov_some, tb_bl, tl_loc, ti_int, vw_some, wp_gN, wp_ok, List.getElem?_cons_zero, List.getElem?_cons_succ, List.set_cons_zero, List.set_cons_succ, fr_len, fr_app, fr_at, fr_at0, fr_set, fr_set0, fo_len, fo_app, fo_at, fo_at0, fo_set, fo_set0, tl_at, tl_at', tl_atM, tl_set, tl_set', List.length_cons, List.length_nil, List.length_append, List.length_map, List.cons_append, List.nil_append, List.append_assoc, at_nat, at_zero, at_one, at_two, cut_to, cut_from, Nat.zero_add, Nat.add_zero, Nat.reduceAdd, decide_eq_true_eq, decide_eq_false_iff_not, Bool.not_eq_true', Bool.not_eq_false', Bool.not_true, Bool.not_false, forall_const, Bool.false_eq_true, Bool.true_eq_false, false_implies, eq_self, true_and, and_true, true_implies, ej, dl2, tie_at k1, ti2])
      have tbk := tieAt_ok g (i := (kk : Nat)) (by omega) (by omega)
      have t1 : 1 ≤ (tieAt ts (kk : Nat)).2.2 ∧ (tieAt ts (kk : Nat)).2.2 ≤ 4 := tbk.2.2.2.2.2
      have hbad : ∀ S : Store, f_check_round [dealW h m ts, .int at_, letsW (slimL kk ((tieAt ts (kk : Nat)).2.2 + 1).toNat)] S = some (.er (badRound at_ "many") S) := fun S => slim_bad g k1 k2 at0 (by omega)
      refine ⟨by omega, ?_⟩
      have okt : okT st.length (c0 :: [W.int a, W.int b] :: (G2 ++ [slim.map fun i => W.int (i : Nat), []])) := by
        have q := okT_app (U := [[]]) (okT_set (j := 1) (l := [.int a, .int b]) okt belows_slots) (by simp only [List.mem_singleton]; rintro l rfl; rfl)
        simpa using q
      have e3 : (c0 :: [W.int a, W.int b] :: (G2 ++ [slim.map fun i => W.int (i : Nat), [], []])) = (c0 :: [W.int a, W.int b] :: (G2 ++ [slim.map fun i => W.int (i : Nat), []])) ++ [[]] := by simp
      have e4 : st.length + (G2.length + 2 + 1 + 1) = st.length + (c0 :: [W.int a, W.int b] :: (G2 ++ [slim.map fun i => W.int (i : Nat), []])).length := by simp
      rw [e3, e4, rng_map]
      generalize G2 ++ [slim.map fun i => W.int (i : Nat), []] = G3 at okt ⊢
      have hL : ((tieAt ts (kk : Nat)).2.2 + 1).toNat ≤ 5 := by omega
      generalize ((tieAt ts (kk : Nat)).2.2 + 1).toNat = L at hbad hL ⊢
      refine wp_lcO (T := c0 :: [W.int a, W.int b] :: G3) (fun i => pairW ((kk : Nat), (i : Nat))) (fun _ => true) (fun acc => True.intro) (by simp; omega) (fun i hi acc => ?_) ?_
      · simp only [bYes]
        (try simp only [wps_seq, wps_nil, wps_ret, wps_retN, wps_expr, wps_asg, wps_setIx, wps_for, wp_eC, wp_eV, wp_e2, wp_eB, wp_bNot, wp_vNot, wp_eNeg, wp_aNil, wp_aCons, wp_eTup, wp_eLst, wp_eCall, wp_pN, wp_pS, wp_eSl, wp_sl_tup, wp_sl_loc, wp_eApp, wp_eRev, wp_add, wp_sub, wp_lt, wp_le, wp_gt, wp_ge, wp_mod, wp_eqI, wp_neI, wp_catT, wp_catL, wp_rep, wp_ixT, wp_ixF, wp_ixL, wp_lenT, wp_lenF, wp_lenL, wp_listT, wp_listL, wp_tupleT, wp_tupleL, wp_intB, wp_intI, wp_wkQT, wp_wkR, wp_eLc, wipeW, ov_some, tb_bl, tl_loc, ti_int, vw_some, wp_gN, wp_ok, List.getElem?_cons_zero, List.getElem?_cons_succ, List.set_cons_zero, List.set_cons_succ, fr_len, fr_app, fr_at, fr_at0, fr_set, fr_set0, fo_len, fo_app, fo_at, fo_at0, fo_set, fo_set0, tl_at, tl_at', tl_atM, tl_set, tl_set', List.length_cons, List.length_nil, List.length_append, List.length_map, List.cons_append, List.nil_append, List.append_assoc, at_nat, at_zero, at_one, at_two, cut_to, cut_from, Nat.zero_add, Nat.add_zero, Nat.reduceAdd, decide_eq_true_eq, decide_eq_false_iff_not, Bool.not_eq_true', Bool.not_eq_false', Bool.not_true, Bool.not_false, forall_const, Bool.false_eq_true, Bool.true_eq_false, false_implies, eq_self, true_and, and_true, true_implies, wp_okW])
        exact ⟨by omega, rfl⟩
      have ef : (List.range L).filter (fun _ => true) = List.range L := by simp
      have em : (List.range L).map (fun (i : Nat) => pairW (((kk : Nat) : Int), ((i : Nat) : Int))) = (slimL kk L).map pairW := by unfold slimL; rw [List.map_map]; rfl
      rw [ef, em]
      have okt := okT_app (U := [(slimL kk L).map pairW]) okt (by simp only [List.mem_singleton]; rintro l rfl; exact belows_pairs _)
      (try simp only [wps_seq, wps_nil, wps_ret, wps_retN, wps_expr, wps_asg, wps_setIx, wps_for, wp_eC, wp_eV, wp_e2, wp_eB, wp_bNot, wp_vNot, wp_eNeg, wp_aNil, wp_aCons, wp_eTup, wp_eLst, wp_eCall, wp_pN, wp_pS, wp_eSl, wp_sl_tup, wp_sl_loc, wp_eApp, wp_eRev, wp_add, wp_sub, wp_lt, wp_le, wp_gt, wp_ge, wp_mod, wp_eqI, wp_neI, wp_catT, wp_catL, wp_rep, wp_ixT, wp_ixF, wp_ixL, wp_lenT, wp_lenF, wp_lenL, wp_listT, wp_listL, wp_tupleT, wp_tupleL, wp_intB, wp_intI, wp_wkQT, wp_wkR, wp_eLc, wipeW, ov_some, tb_bl, tl_loc, ti_int, vw_some, wp_gN, wp_ok, List.getElem?_cons_zero, List.getElem?_cons_succ, List.set_cons_zero, List.set_cons_succ, fr_len, fr_app, fr_at, fr_at0, fr_set, fr_set0, fo_len, fo_app, fo_at, fo_at0, fo_set, fo_set0, tl_at, tl_at', tl_atM, tl_set, tl_set', List.length_cons, List.length_nil, List.length_append, List.length_map, List.cons_append, List.nil_append, List.append_assoc, at_nat, at_zero, at_one, at_two, cut_to, cut_from, Nat.zero_add, Nat.add_zero, Nat.reduceAdd, decide_eq_true_eq, decide_eq_false_iff_not, Bool.not_eq_true', Bool.not_eq_false', Bool.not_true, Bool.not_false, forall_const, Bool.false_eq_true, Bool.true_eq_false, false_implies, eq_self, true_and, and_true, true_implies])
      refine wps_ifc (P := fun q s => q = false ∧ s = fo st (c0 :: [W.int a, W.int b] :: (G3 ++ [(slimL kk L).map pairW]))) ?_ (fun s hP => nomatch hP.1) ?_
      · (try simp only [wps_seq, wps_nil, wps_ret, wps_retN, wps_expr, wps_asg, wps_setIx, wps_for, wp_eC, wp_eV, wp_e2, wp_eB, wp_bNot, wp_vNot, wp_eNeg, wp_aNil, wp_aCons, wp_eTup, wp_eLst, wp_eCall, wp_pN, wp_pS, wp_eSl, wp_sl_tup, wp_sl_loc, wp_eApp, wp_eRev, wp_add, wp_sub, wp_lt, wp_le, wp_gt, wp_ge, wp_mod, wp_eqI, wp_neI, wp_catT, wp_catL, wp_rep, wp_ixT, wp_ixF, wp_ixL, wp_lenT, wp_lenF, wp_lenL, wp_listT, wp_listL, wp_tupleT, wp_tupleL, wp_intB, wp_intI, wp_wkQT, wp_wkR, wp_eLc, wipeW, ov_some, tb_bl, tl_loc, ti_int, vw_some, wp_gN, wp_ok, List.getElem?_cons_zero, List.getElem?_cons_succ, List.set_cons_zero, List.set_cons_succ, fr_len, fr_app, fr_at, fr_at0, fr_set, fr_set0, fo_len, fo_app, fo_at, fo_at0, fo_set, fo_set0, tl_at, tl_at', tl_atM, tl_set, tl_set', List.length_cons, List.length_nil, List.length_append, List.length_map, List.cons_append, List.nil_append, List.append_assoc, at_nat, at_zero, at_one, at_two, cut_to, cut_from, Nat.zero_add, Nat.add_zero, Nat.reduceAdd, decide_eq_true_eq, decide_eq_false_iff_not, Bool.not_eq_true', Bool.not_eq_false', Bool.not_true, Bool.not_false, forall_const, Bool.false_eq_true, Bool.true_eq_false, false_implies, eq_self, true_and, and_true, true_implies, cut_toI at0, cut_fromI at0, Nat.reduceLeDiff])
        refine ⟨by simp; omega, by simp; omega, ?_⟩
        rw [show W.tup ((slimL kk L).map pairW) = letsW (slimL kk L) from rfl, wp_put g gh pg (by omega) at0 (by omega) hbad]
        rw [wp_neN (by simp [nb_tup, nb_int, nb_str]; decide +kernel) (by simp [nb_tup, nb_int, nb_str]; decide +kernel)]
        simp [Tb]
      rintro s ⟨-, rfl⟩
      (try simp only [wps_seq, wps_nil, wps_ret, wps_retN, wps_expr, wps_asg, wps_setIx, wps_for, wp_eC, wp_eV, wp_e2, wp_eB, wp_bNot, wp_vNot, wp_eNeg, wp_aNil, wp_aCons, wp_eTup, wp_eLst, wp_eCall, wp_pN, wp_pS, wp_eSl, wp_sl_tup, wp_sl_loc, wp_eApp, wp_eRev, wp_add, wp_sub, wp_lt, wp_le, wp_gt, wp_ge, wp_mod, wp_eqI, wp_neI, wp_catT, wp_catL, wp_rep, wp_ixT, wp_ixF, wp_ixL, wp_lenT, wp_lenF, wp_lenL, wp_listT, wp_listL, wp_tupleT, wp_tupleL, wp_intB, wp_intI, wp_wkQT, wp_wkR, wp_eLc, wipeW, ov_some, tb_bl, tl_loc, ti_int, vw_some, wp_gN, wp_ok, List.getElem?_cons_zero, List.getElem?_cons_succ, List.set_cons_zero, List.set_cons_succ, fr_len, fr_app, fr_at, fr_at0, fr_set, fr_set0, fo_len, fo_app, fo_at, fo_at0, fo_set, fo_set0, tl_at, tl_at', tl_atM, tl_set, tl_set', List.length_cons, List.length_nil, List.length_append, List.length_map, List.cons_append, List.nil_append, List.append_assoc, at_nat, at_zero, at_one, at_two, cut_to, cut_from, Nat.zero_add, Nat.add_zero, Nat.reduceAdd, decide_eq_true_eq, decide_eq_false_iff_not, Bool.not_eq_true', Bool.not_eq_false', Bool.not_true, Bool.not_false, forall_const, Bool.false_eq_true, Bool.true_eq_false, false_implies, eq_self, true_and, and_true, true_implies, wps_nil])
      exact ⟨_, _, _, _, _, _, _, _, _, _, _, _, _, _, _, rfl, rfl, okt⟩
    · rintro s ⟨-, rfl⟩
      (try simp only [wps_seq, wps_nil, wps_ret, wps_retN, wps_expr, wps_asg, wps_setIx, wps_for, wp_eC, wp_eV, wp_e2, wp_eB, wp_bNot, wp_vNot, wp_eNeg, wp_aNil, wp_aCons, wp_eTup, wp_eLst, wp_eCall, wp_pN, wp_pS, wp_eSl, wp_sl_tup, wp_sl_loc, wp_eApp, wp_eRev, wp_add, wp_sub, wp_lt, wp_le, wp_gt, wp_ge, wp_mod, wp_eqI, wp_neI, wp_catT, wp_catL, wp_rep, wp_ixT, wp_ixF, wp_ixL, wp_lenT, wp_lenF, wp_lenL, wp_listT, wp_listL, wp_tupleT, wp_tupleL, wp_intB, wp_intI, wp_wkQT, wp_wkR, wp_eLc, wipeW, ov_some, tb_bl, tl_loc, ti_int, vw_some, wp_gN, wp_ok, List.getElem?_cons_zero, List.getElem?_cons_succ, List.set_cons_zero, List.set_cons_succ, fr_len, fr_app, fr_at, fr_at0, fr_set, fr_set0, fo_len, fo_app, fo_at, fo_at0, fo_set, fo_set0, tl_at, tl_at', tl_atM, tl_set, tl_set', List.length_cons, List.length_nil, List.length_append, List.length_map, List.cons_append, List.nil_append, List.append_assoc, at_nat, at_zero, at_one, at_two, cut_to, cut_from, Nat.zero_add, Nat.add_zero, Nat.reduceAdd, decide_eq_true_eq, decide_eq_false_iff_not, Bool.not_eq_true', Bool.not_eq_false', Bool.not_true, Bool.not_false, forall_const, Bool.false_eq_true, Bool.true_eq_false, false_implies, eq_self, true_and, and_true, true_implies, wps_nil])
      refine ⟨_, _, _, _, _, _, _, _, _, _, _, _, _, _, _, rfl, rfl, ?_⟩
      have q := okT_app (U := [[]]) okt (by simp only [List.mem_singleton]; rintro l rfl; rfl)
      simpa using q
  obtain ⟨G, a, b, s4, s5, s6, s7, s8, s9, s10, s11, s12, s13, s14, s15, rfl, rfl, okt⟩ := hI
  (try simp only [wps_seq, wps_nil, wps_ret, wps_retN, wps_expr, wps_asg, wps_setIx, wps_for, wp_eC, wp_eV, wp_e2, wp_eB, wp_bNot, wp_vNot, wp_eNeg, wp_aNil, wp_aCons, wp_eTup, wp_eLst, wp_eCall, wp_pN, wp_pS, wp_eSl, wp_sl_tup, wp_sl_loc, wp_eApp, wp_eRev, wp_add, wp_sub, wp_lt, wp_le, wp_gt, wp_ge, wp_mod, wp_eqI, wp_neI, wp_catT, wp_catL, wp_rep, wp_ixT, wp_ixF, wp_ixL, wp_lenT, wp_lenF, wp_lenL, wp_listT, wp_listL, wp_tupleT, wp_tupleL, wp_intB, wp_intI, wp_wkQT, wp_wkR, wp_eLc, wipeW, ov_some, tb_bl, tl_loc, ti_int, vw_some, wp_gN, wp_ok, List.getElem?_cons_zero, List.getElem?_cons_succ, List.set_cons_zero, List.set_cons_succ, fr_len, fr_app, fr_at, fr_at0, fr_set, fr_set0, fo_len, fo_app, fo_at, fo_at0, fo_set, fo_set0, tl_at, tl_at', tl_atM, tl_set, tl_set', List.length_cons, List.length_nil, List.length_append, List.length_map, List.cons_append, List.nil_append, List.append_assoc, at_nat, at_zero, at_one, at_two, cut_to, cut_from, Nat.zero_add, Nat.add_zero, Nat.reduceAdd, decide_eq_true_eq, decide_eq_false_iff_not, Bool.not_eq_true', Bool.not_eq_false', Bool.not_true, Bool.not_false, forall_const, Bool.false_eq_true, Bool.true_eq_false, false_implies, eq_self, true_and, and_true, true_implies])
  have e5 : f__law_word [dealW h m ts, holdW hs, .int 5] (fo st (c0 :: [.int a, .int b] :: G)) = some (.ok (.tup [.int 0, .str "form"]) (fo st (c0 :: [.int a, .int b] :: G))) := law_word_bad (f_lossy_int (lw := .tup []) g gh)
  rw [e5]
  (try simp only [wps_seq, wps_nil, wps_ret, wps_retN, wps_expr, wps_asg, wps_setIx, wps_for, wp_eC, wp_eV, wp_e2, wp_eB, wp_bNot, wp_vNot, wp_eNeg, wp_aNil, wp_aCons, wp_eTup, wp_eLst, wp_eCall, wp_pN, wp_pS, wp_eSl, wp_sl_tup, wp_sl_loc, wp_eApp, wp_eRev, wp_add, wp_sub, wp_lt, wp_le, wp_gt, wp_ge, wp_mod, wp_eqI, wp_neI, wp_catT, wp_catL, wp_rep, wp_ixT, wp_ixF, wp_ixL, wp_lenT, wp_lenF, wp_lenL, wp_listT, wp_listL, wp_tupleT, wp_tupleL, wp_intB, wp_intI, wp_wkQT, wp_wkR, wp_eLc, wipeW, ov_some, tb_bl, tl_loc, ti_int, vw_some, wp_gN, wp_ok, List.getElem?_cons_zero, List.getElem?_cons_succ, List.set_cons_zero, List.set_cons_succ, fr_len, fr_app, fr_at, fr_at0, fr_set, fr_set0, fo_len, fo_app, fo_at, fo_at0, fo_set, fo_set0, tl_at, tl_at', tl_atM, tl_set, tl_set', List.length_cons, List.length_nil, List.length_append, List.length_map, List.cons_append, List.nil_append, List.append_assoc, at_nat, at_zero, at_one, at_two, cut_to, cut_from, Nat.zero_add, Nat.add_zero, Nat.reduceAdd, decide_eq_true_eq, decide_eq_false_iff_not, Bool.not_eq_true', Bool.not_eq_false', Bool.not_true, Bool.not_false, forall_const, Bool.false_eq_true, Bool.true_eq_false, false_implies, eq_self, true_and, and_true, true_implies, Nat.reduceLeDiff])
  rw [wp_eqN (by simp [nb_tup, nb_int, nb_str]; decide +kernel) (by simp [nb_tup, nb_int, nb_str]; decide +kernel)]
  exact wp_trimO rfl (by simp)
end K07b

set_option Elab.async false
set_option linter.all false
set_option maxRecDepth 100000
set_option maxHeartbeats 4000000
namespace K07b
open PySem PySem.Spec PyProof.Rows L2 Dn Pd
open Classical
/-! ### the text -/
def topS (i : Nat) : Stmt := PySem.Challenge.pw_piecedeal_k07_letters_lost.main.body.getD i (.Pass ⟨0, 0, 0, 0⟩)
structure Gs (mg : Str → Option Value) : Prop where
  MOST_HANDS : ∃ t, mg "MOST_HANDS" = some (.int 4 t)
  MOST_PIECES : ∃ t, mg "MOST_PIECES" = some (.int 4 t)
  MOST_TIES : ∃ t, mg "MOST_TIES" = some (.int 8 t)
  MOST_LETTERS : ∃ t, mg "MOST_LETTERS" = some (.int 4 t)
section
variable {P : Program} {w : World} {K : PySem.W.Frag} {mg : Str → Option Value} {base : Heap} {T : List Addr}

abbrev s_is_whole : Stmt := topS 12
abbrev N_is_whole : List PySem.Str := ["value"]
theorem sc_is_whole : FnScope ["value"] ["value"] (defScope s_is_whole) := ⟨rfl, rfl, rfl, by decide +kernel, rfl, by decide +kernel, by decide +kernel⟩
theorem ok_is_whole {fa : Addr} {cdv : Value} (tx : Tx K mg "is_whole" s_is_whole fa cdv) (z : Zs mg) (g : Gs mg) : Cal P w K mg base T "is_whole" 1 1 f_is_whole :=
  cal_of (ps := ["value"]) tx sc_is_whole (fun _ _ _ _ _ _ us hl => match us, hl with | [_], _ => rfl) fun A outer s H E hr =>
  (ds_one (ds_ret (d_and (d_callB b_isi rfl z.isinstance (by decide +kernel) (a_cons (d_v 0) (a_cons (d_ty rfl z.int (by decide +kernel)) a_nil))) (d_one (d_not (d_callB b_isi rfl z.isinstance (by decide +kernel) (a_cons (d_v 0) (a_cons (d_ty rfl z.bool (by decide +kernel)) a_nil))))))))
abbrev s_is_number : Stmt := topS 13
abbrev N_is_number : List PySem.Str := ["value", "low", "high"]
theorem sc_is_number : FnScope ["value", "low", "high"] ["value", "low", "high"] (defScope s_is_number) := ⟨rfl, rfl, rfl, by decide +kernel, rfl, by decide +kernel, by decide +kernel⟩
theorem ok_is_number {fa : Addr} {cdv : Value} (tx : Tx K mg "is_number" s_is_number fa cdv) (z : Zs mg) (g : Gs mg) (c_is_whole : Cal P w K mg base T "is_whole" 1 1 f_is_whole) : Cal P w K mg base T "is_number" 2 3 f_is_number :=
  cal_of (ps := ["value", "low", "high"]) tx sc_is_number (fun _ _ _ _ _ _ us hl => match us, hl with | [_, _, _], _ => rfl) fun A outer s H E hr =>
  (ds_one (ds_ret (d_and (d_callN c_is_whole (hr.mono (by decide)) rfl (passes_call (takes_of rfl rfl rfl rfl) fun _ _ _ _ h => h) (a_cons (d_v 0) a_nil) (al_cons al_nil)) (d_one (d_chain c_le c_le (d_v 1) (d_v 0) (d_v 2))))))
abbrev s_is_rising : Stmt := topS 14
abbrev N_is_rising : List PySem.Str := ["values"]
theorem sc_is_rising : FnScope ["values"] ["values"] (defScope s_is_rising) := ⟨rfl, rfl, rfl, by decide +kernel, rfl, by decide +kernel, by decide +kernel⟩
theorem ok_is_rising {fa : Addr} {cdv : Value} (tx : Tx K mg "is_rising" s_is_rising fa cdv) (z : Zs mg) (g : Gs mg) : Cal P w K mg base T "is_rising" 1 1 f_is_rising :=
  cal_of (ps := ["values"]) tx sc_is_rising (fun _ _ _ _ _ _ us hl => match us, hl with | [_], _ => rfl) fun A outer s H E hr =>
  (ds_one (ds_ret (d_cmp (c_eq hr.units) (d_callT b_list rfl z.list (by decide +kernel) (a_cons (d_v 0) a_nil)) (d_sortSet rfl hr.units z.sorted z.set rfl rfl (d_v 0)))))
abbrev s_is_tie : Stmt := topS 15
abbrev N_is_tie : List PySem.Str := ["hands", "tie", "one", "other", "letters"]
theorem sc_is_tie : FnScope ["hands", "tie", "one", "other", "letters"] ["hands", "tie"] (defScope s_is_tie) := ⟨rfl, rfl, rfl, by decide +kernel, rfl, by decide +kernel, by decide +kernel⟩
theorem ok_is_tie {fa : Addr} {cdv : Value} (tx : Tx K mg "is_tie" s_is_tie fa cdv) (z : Zs mg) (g : Gs mg) (c_is_number : Cal P w K mg base T "is_number" 2 3 f_is_number) : Cal P w K mg base T "is_tie" 3 2 f_is_tie :=
  cal_of (ps := ["hands", "tie"]) tx sc_is_tie (fun _ _ _ _ _ _ us hl => match us, hl with | [_, _], _ => rfl) fun A outer s H E hr =>
  (ds_cons (ds_if (t_w (w_or (t_not (t_val (d_callB b_isi rfl z.isinstance (by decide +kernel) (a_cons (d_v 1) (a_cons (d_ty rfl z.tuple (by decide +kernel)) a_nil))))) (w_or1 (t_cmp (c_ne hr.units) (d_callB b_len rfl z.len (by decide +kernel) (a_cons (d_v 1) a_nil)) d_int)))) (ds_one (ds_ret d_bl)) ds_nil)
  (ds_cons (ds_asg (d_v 1) (g_tup rfl (gs_cons (g_name 2 sc_is_tie.nd) (gs_cons (g_name 3 sc_is_tie.nd) (gs_cons (g_name 4 sc_is_tie.nd) gs_nil)))))
  (ds_cons (ds_if (t_w (w_or (t_not (t_val (d_callN c_is_number (hr.mono (by decide)) rfl (passes_call (takes_of rfl rfl rfl rfl) fun _ _ _ _ h => h) (a_cons (d_v 2) (a_cons d_int (a_cons (d_sub (d_v 0) d_int) a_nil))) (al_cons (al_cons (al_cons al_nil)))))) (w_or1 (t_not (t_val (d_callN c_is_number (hr.mono (by decide)) rfl (passes_call (takes_of rfl rfl rfl rfl) fun _ _ _ _ h => h) (a_cons (d_v 3) (a_cons d_int (a_cons (d_sub (d_v 0) d_int) a_nil))) (al_cons (al_cons (al_cons al_nil))))))))) (ds_one (ds_ret d_bl)) ds_nil)
  (ds_one (ds_ret (d_and (d_cmp (c_ne hr.units) (d_v 2) (d_v 3)) (d_one (d_callN c_is_number (hr.mono (by decide)) rfl (passes_call (takes_of rfl rfl rfl rfl) fun _ _ _ _ h => h) (a_cons (d_v 4) (a_cons d_int (a_cons (d_const rfl g.MOST_LETTERS) a_nil))) (al_cons (al_cons (al_cons al_nil)))))))))))
abbrev s_are_ties : Stmt := topS 16
abbrev N_are_ties : List PySem.Str := ["hands", "ties", "tie"]
theorem sc_are_ties : FnScope ["hands", "ties", "tie"] ["hands", "ties"] (defScope s_are_ties) := ⟨rfl, rfl, rfl, by decide +kernel, rfl, by decide +kernel, by decide +kernel⟩
theorem ok_are_ties {fa cc PT : Addr} (tx : Tx K mg "are_ties" s_are_ties fa (.ref cc)) (tb : GxR.TabB base mg cc PT) (tP : PT ∈ T) (z : Zs mg) (g : Gs mg) (c_is_tie : Cal P w K mg base T "is_tie" 3 2 f_is_tie) : Cal P w K mg base T "are_ties" 7 2 f_are_ties :=
  cal_of (ps := ["hands", "ties"]) tx sc_are_ties (fun _ _ _ _ _ _ us hl => match us, hl with | [_, _], _ => rfl) fun A outer s H E hr =>
  (ds_cons (ds_if (t_w (w_or (t_not (t_val (d_callB b_isi rfl z.isinstance (by decide +kernel) (a_cons (d_v 1) (a_cons (d_ty rfl z.tuple (by decide +kernel)) a_nil))))) (w_or1 (t_cmp c_gt (d_callB b_len rfl z.len (by decide +kernel) (a_cons (d_v 1) a_nil)) (d_const rfl g.MOST_TIES))))) (ds_one (ds_ret d_bl)) ds_nil)
  (ds_cons (ds_if (t_not (t_val (d_allG (k := 3) ["hands"] [0] hr rfl rfl z.all tb rfl tP (GA.gsc_by (sc := defScope s_are_ties) (by decide +kernel)) (by intro k y h; rcases k with _ | _ | _ | k <;> simp at h <;> subst h <;> exact ⟨_, rfl, rfl⟩) rfl (i_seq (d_v 1)) (fun A2 cl C code s2 H2 fp pn r => (d_callN c_is_tie (r.mono (by decide)) rfl passL (a_cons (d_v 1) (a_cons (d_v 0) a_nil)) (al_cons (al_cons al_nil))))))) (ds_one (ds_ret d_bl)) ds_nil)
  (ds_one (ds_ret (d_cmp (c_eq hr.units) (d_lenSC (own := [("tie", 2)]) rfl hr.units sc_are_ties.nd z.len rfl (i_seq (d_v 1)) (blkOk_by (N := N_are_ties) (sc := defScope s_are_ties) (by decide +kernel)) (fun _ _ _ _ _ => (g_name 2 sc_are_ties.nd)) (fun _ _ _ _ _ => (d_sl (d_v 2) o_none (o_some d_int)))) (d_callB b_len rfl z.len (by decide +kernel) (a_cons (d_v 1) a_nil)))))))
abbrev s_is_deal : Stmt := topS 17
abbrev N_is_deal : List PySem.Str := ["deal", "hands", "pieces", "ties"]
theorem sc_is_deal : FnScope ["deal", "hands", "pieces", "ties"] ["deal"] (defScope s_is_deal) := ⟨rfl, rfl, rfl, by decide +kernel, rfl, by decide +kernel, by decide +kernel⟩
theorem ok_is_deal {fa : Addr} {cdv : Value} (tx : Tx K mg "is_deal" s_is_deal fa cdv) (z : Zs mg) (g : Gs mg) (c_are_ties : Cal P w K mg base T "are_ties" 7 2 f_are_ties) (c_is_number : Cal P w K mg base T "is_number" 2 3 f_is_number) : Cal P w K mg base T "is_deal" 8 1 f_is_deal :=
  cal_of (ps := ["deal"]) tx sc_is_deal (fun _ _ _ _ _ _ us hl => match us, hl with | [_], _ => rfl) fun A outer s H E hr =>
  (ds_cons (ds_if (t_w (w_or (t_not (t_val (d_callB b_isi rfl z.isinstance (by decide +kernel) (a_cons (d_v 0) (a_cons (d_ty rfl z.tuple (by decide +kernel)) a_nil))))) (w_or1 (t_cmp (c_ne hr.units) (d_callB b_len rfl z.len (by decide +kernel) (a_cons (d_v 0) a_nil)) d_int)))) (ds_one (ds_ret d_bl)) ds_nil)
  (ds_cons (ds_asg (d_v 0) (g_tup rfl (gs_cons (g_name 1 sc_is_deal.nd) (gs_cons (g_name 2 sc_is_deal.nd) (gs_cons (g_name 3 sc_is_deal.nd) gs_nil)))))
  (ds_cons (ds_if (t_w (w_or (t_not (t_val (d_callN c_is_number (hr.mono (by decide)) rfl (passes_call (takes_of rfl rfl rfl rfl) fun _ _ _ _ h => h) (a_cons (d_v 1) (a_cons d_int (a_cons (d_const rfl g.MOST_HANDS) a_nil))) (al_cons (al_cons (al_cons al_nil)))))) (w_or1 (t_not (t_val (d_callN c_is_number (hr.mono (by decide)) rfl (passes_call (takes_of rfl rfl rfl rfl) fun _ _ _ _ h => h) (a_cons (d_v 2) (a_cons d_int (a_cons (d_const rfl g.MOST_PIECES) a_nil))) (al_cons (al_cons (al_cons al_nil))))))))) (ds_one (ds_ret d_bl)) ds_nil)
  (ds_one (ds_ret (d_callN c_are_ties (hr.mono (by decide)) rfl (passes_call (takes_of rfl rfl rfl rfl) fun _ _ _ _ h => h) (a_cons (d_v 1) (a_cons (d_v 3) a_nil)) (al_cons (al_cons al_nil))))))))
abbrev s_is_choice : Stmt := topS 18
abbrev N_is_choice : List PySem.Str := ["many", "chosen"]
theorem sc_is_choice : FnScope ["many", "chosen"] ["many", "chosen"] (defScope s_is_choice) := ⟨rfl, rfl, rfl, by decide +kernel, rfl, by decide +kernel, by decide +kernel⟩
theorem ok_is_choice {fa cc PT : Addr} (tx : Tx K mg "is_choice" s_is_choice fa (.ref cc)) (tb : GxR.TabB base mg cc PT) (tP : PT ∈ T) (z : Zs mg) (g : Gs mg) (c_is_number : Cal P w K mg base T "is_number" 2 3 f_is_number) (c_is_rising : Cal P w K mg base T "is_rising" 1 1 f_is_rising) : Cal P w K mg base T "is_choice" 6 2 f_is_choice :=
  cal_of (ps := ["many", "chosen"]) tx sc_is_choice (fun _ _ _ _ _ _ us hl => match us, hl with | [_, _], _ => rfl) fun A outer s H E hr =>
  (ds_cons (ds_if (t_not (t_val (d_callB b_isi rfl z.isinstance (by decide +kernel) (a_cons (d_v 1) (a_cons (d_ty rfl z.tuple (by decide +kernel)) a_nil))))) (ds_one (ds_ret d_bl)) ds_nil)
  (ds_one (ds_ret (d_and (d_allG (k := 2) ["many"] [0] hr rfl rfl z.all tb rfl tP (GA.gsc_by (sc := defScope s_is_choice) (by decide +kernel)) (by intro k y h; rcases k with _ | _ | _ | k <;> simp at h <;> subst h <;> exact ⟨_, rfl, rfl⟩) rfl (i_seq (d_v 1)) (fun A2 cl C code s2 H2 fp pn r => (d_callN c_is_number (r.mono (by decide)) rfl passL (a_cons (d_v 0) (a_cons d_int (a_cons (d_sub (d_v 1) d_int) a_nil))) (al_cons (al_cons (al_cons al_nil)))))) (d_one (d_callN c_is_rising (hr.mono (by decide)) rfl (passes_call (takes_of rfl rfl rfl rfl) fun _ _ _ _ h => h) (a_cons (d_v 1) a_nil) (al_cons al_nil)))))))
abbrev s_is_holding : Stmt := topS 19
abbrev N_is_holding : List PySem.Str := ["deal", "holding", "hands", "pieces", "_"]
theorem sc_is_holding : FnScope ["deal", "holding", "hands", "pieces", "_"] ["deal", "holding"] (defScope s_is_holding) := ⟨rfl, rfl, rfl, by decide +kernel, rfl, by decide +kernel, by decide +kernel⟩
theorem ok_is_holding {fa cc PT : Addr} (tx : Tx K mg "is_holding" s_is_holding fa (.ref cc)) (tb : GxR.TabB base mg cc PT) (tP : PT ∈ T) (z : Zs mg) (g : Gs mg) (c_is_choice : Cal P w K mg base T "is_choice" 6 2 f_is_choice) : Cal P w K mg base T "is_holding" 10 2 f_is_holding :=
  cal_of (ps := ["deal", "holding"]) tx sc_is_holding (fun _ _ _ _ _ _ us hl => match us, hl with | [_, _], _ => rfl) fun A outer s H E hr =>
  (ds_cons (ds_asg (d_v 0) (g_tup rfl (gs_cons (g_name 2 sc_is_holding.nd) (gs_cons (g_name 3 sc_is_holding.nd) (gs_cons (g_name 4 sc_is_holding.nd) gs_nil)))))
  (ds_cons (ds_if (t_w (w_or (t_not (t_val (d_callB b_isi rfl z.isinstance (by decide +kernel) (a_cons (d_v 1) (a_cons (d_ty rfl z.tuple (by decide +kernel)) a_nil))))) (w_or1 (t_cmp (c_ne hr.units) (d_callB b_len rfl z.len (by decide +kernel) (a_cons (d_v 1) a_nil)) (d_v 2))))) (ds_one (ds_ret d_bl)) ds_nil)
  (ds_one (ds_ret (d_allG (k := 6) ["pieces"] [3] hr rfl rfl z.all tb rfl tP (GA.gsc_by (sc := defScope s_is_holding) (by decide +kernel)) (by intro k y h; rcases k with _ | _ | _ | k <;> simp at h <;> subst h <;> exact ⟨_, rfl, rfl⟩) rfl (i_seq (d_v 1)) (fun A2 cl C code s2 H2 fp pn r => (d_callN c_is_choice (r.mono (by decide)) rfl passL (a_cons (d_v 1) (a_cons (d_v 0) a_nil)) (al_cons (al_cons al_nil)))))))))
abbrev s_check_deal : Stmt := topS 20
abbrev N_check_deal : List PySem.Str := ["deal"]
theorem sc_check_deal : FnScope ["deal"] ["deal"] (defScope s_check_deal) := ⟨rfl, rfl, rfl, by decide +kernel, rfl, by decide +kernel, by decide +kernel⟩
theorem ok_check_deal {fa : Addr} {cdv : Value} (tx : Tx K mg "check_deal" s_check_deal fa cdv) (z : Zs mg) (g : Gs mg) (c_is_deal : Cal P w K mg base T "is_deal" 8 1 f_is_deal) : Cal P w K mg base T "check_deal" 9 1 f_check_deal :=
  cal_of (ps := ["deal"]) tx sc_check_deal (fun _ _ _ _ _ _ us hl => match us, hl with | [_], _ => rfl) fun A outer s H E hr =>
  (ds_one (ds_if (t_not (t_val (d_callN c_is_deal (hr.mono (by decide)) rfl (passes_call (takes_of rfl rfl rfl rfl) fun _ _ _ _ h => h) (a_cons (d_v 0) a_nil) (al_cons al_nil)))) (ds_one ds_stuck) ds_nil))
abbrev s_check_holding : Stmt := topS 21
abbrev N_check_holding : List PySem.Str := ["deal", "holding"]
theorem sc_check_holding : FnScope ["deal", "holding"] ["deal", "holding"] (defScope s_check_holding) := ⟨rfl, rfl, rfl, by decide +kernel, rfl, by decide +kernel, by decide +kernel⟩
theorem ok_check_holding {fa : Addr} {cdv : Value} (tx : Tx K mg "check_holding" s_check_holding fa cdv) (z : Zs mg) (g : Gs mg) (c_is_holding : Cal P w K mg base T "is_holding" 10 2 f_is_holding) : Cal P w K mg base T "check_holding" 11 2 f_check_holding :=
  cal_of (ps := ["deal", "holding"]) tx sc_check_holding (fun _ _ _ _ _ _ us hl => match us, hl with | [_, _], _ => rfl) fun A outer s H E hr =>
  (ds_one (ds_if (t_not (t_val (d_callN c_is_holding (hr.mono (by decide)) rfl (passes_call (takes_of rfl rfl rfl rfl) fun _ _ _ _ h => h) (a_cons (d_v 0) (a_cons (d_v 1) a_nil)) (al_cons (al_cons al_nil))))) (ds_one ds_stuck) ds_nil))
abbrev s_check : Stmt := topS 22
abbrev N_check : List PySem.Str := ["deal", "holding"]
theorem sc_check : FnScope ["deal", "holding"] ["deal", "holding"] (defScope s_check) := ⟨rfl, rfl, rfl, by decide +kernel, rfl, by decide +kernel, by decide +kernel⟩
theorem ok_check {fa : Addr} {cdv : Value} (tx : Tx K mg "check" s_check fa cdv) (z : Zs mg) (g : Gs mg) (c_check_deal : Cal P w K mg base T "check_deal" 9 1 f_check_deal) (c_check_holding : Cal P w K mg base T "check_holding" 11 2 f_check_holding) : Cal P w K mg base T "check" 12 2 f_check :=
  cal_of (ps := ["deal", "holding"]) tx sc_check (fun _ _ _ _ _ _ us hl => match us, hl with | [_, _], _ => rfl) fun A outer s H E hr =>
  (ds_cons (ds_expr (d_callN c_check_deal (hr.mono (by decide)) rfl (passes_call (takes_of rfl rfl rfl rfl) fun _ _ _ _ h => h) (a_cons (d_v 0) a_nil) (al_cons al_nil)))
  (ds_one (ds_expr (d_callN c_check_holding (hr.mono (by decide)) rfl (passes_call (takes_of rfl rfl rfl rfl) fun _ _ _ _ h => h) (a_cons (d_v 0) (a_cons (d_v 1) a_nil)) (al_cons (al_cons al_nil))))))
abbrev s_is_letter : Stmt := topS 24
abbrev N_is_letter : List PySem.Str := ["deal", "letter", "_", "pieces", "ties", "tie", "piece"]
theorem sc_is_letter : FnScope ["deal", "letter", "_", "pieces", "ties", "tie", "piece"] ["deal", "letter"] (defScope s_is_letter) := ⟨rfl, rfl, rfl, by decide +kernel, rfl, by decide +kernel, by decide +kernel⟩
theorem ok_is_letter {fa : Addr} {cdv : Value} (tx : Tx K mg "is_letter" s_is_letter fa cdv) (z : Zs mg) (g : Gs mg) (c_is_number : Cal P w K mg base T "is_number" 2 3 f_is_number) : Cal P w K mg base T "is_letter" 3 2 f_is_letter :=
  cal_of (ps := ["deal", "letter"]) tx sc_is_letter (fun _ _ _ _ _ _ us hl => match us, hl with | [_, _], _ => rfl) fun A outer s H E hr =>
  (ds_cons (ds_if (t_w (w_or (t_not (t_val (d_callB b_isi rfl z.isinstance (by decide +kernel) (a_cons (d_v 1) (a_cons (d_ty rfl z.tuple (by decide +kernel)) a_nil))))) (w_or1 (t_cmp (c_ne hr.units) (d_callB b_len rfl z.len (by decide +kernel) (a_cons (d_v 1) a_nil)) d_int)))) (ds_one (ds_ret d_bl)) ds_nil)
  (ds_cons (ds_asg (d_v 0) (g_tup rfl (gs_cons (g_name 2 sc_is_letter.nd) (gs_cons (g_name 3 sc_is_letter.nd) (gs_cons (g_name 4 sc_is_letter.nd) gs_nil)))))
  (ds_cons (ds_asg (d_v 1) (g_tup rfl (gs_cons (g_name 5 sc_is_letter.nd) (gs_cons (g_name 6 sc_is_letter.nd) gs_nil))))
  (ds_one (ds_ret (d_and (d_callN c_is_number (hr.mono (by decide)) rfl (passes_call (takes_of rfl rfl rfl rfl) fun _ _ _ _ h => h) (a_cons (d_v 5) (a_cons d_int (a_cons (d_sub (d_callB b_len rfl z.len (by decide +kernel) (a_cons (d_v 4) a_nil)) d_int) a_nil))) (al_cons (al_cons (al_cons al_nil)))) (d_one (d_callN c_is_number (hr.mono (by decide)) rfl (passes_call (takes_of rfl rfl rfl rfl) fun _ _ _ _ h => h) (a_cons (d_v 6) (a_cons d_int (a_cons (d_sub (d_v 3) d_int) a_nil))) (al_cons (al_cons (al_cons al_nil)))))))))))
abbrev s_has_form : Stmt := topS 25
abbrev N_has_form : List PySem.Str := ["deal", "letters"]
theorem sc_has_form : FnScope ["deal", "letters"] ["deal", "letters"] (defScope s_has_form) := ⟨rfl, rfl, rfl, by decide +kernel, rfl, by decide +kernel, by decide +kernel⟩
theorem ok_has_form {fa cc PT : Addr} (tx : Tx K mg "has_form" s_has_form fa (.ref cc)) (tb : GxR.TabB base mg cc PT) (tP : PT ∈ T) (z : Zs mg) (g : Gs mg) (c_is_letter : Cal P w K mg base T "is_letter" 3 2 f_is_letter) (c_is_rising : Cal P w K mg base T "is_rising" 1 1 f_is_rising) : Cal P w K mg base T "has_form" 7 2 f_has_form :=
  cal_of (ps := ["deal", "letters"]) tx sc_has_form (fun _ _ _ _ _ _ us hl => match us, hl with | [_, _], _ => rfl) fun A outer s H E hr =>
  (ds_cons (ds_if (t_not (t_val (d_callB b_isi rfl z.isinstance (by decide +kernel) (a_cons (d_v 1) (a_cons (d_ty rfl z.tuple (by decide +kernel)) a_nil))))) (ds_one (ds_ret d_bl)) ds_nil)
  (ds_one (ds_ret (d_and (d_allG (k := 3) ["deal"] [0] hr rfl rfl z.all tb rfl tP (GA.gsc_by (sc := defScope s_has_form) (by decide +kernel)) (by intro k y h; rcases k with _ | _ | _ | k <;> simp at h <;> subst h <;> exact ⟨_, rfl, rfl⟩) rfl (i_seq (d_v 1)) (fun A2 cl C code s2 H2 fp pn r => (d_callN c_is_letter (r.mono (by decide)) rfl passL (a_cons (d_v 1) (a_cons (d_v 0) a_nil)) (al_cons (al_cons al_nil))))) (d_one (d_callN c_is_rising (hr.mono (by decide)) rfl (passes_call (takes_of rfl rfl rfl rfl) fun _ _ _ _ h => h) (a_cons (d_v 1) a_nil) (al_cons al_nil)))))))
abbrev s_is_borne : Stmt := topS 26
abbrev N_is_borne : List PySem.Str := ["deal", "letters", "_", "ties", "used", "tie"]
theorem sc_is_borne : FnScope ["deal", "letters", "_", "ties", "used", "tie"] ["deal", "letters"] (defScope s_is_borne) := ⟨rfl, rfl, rfl, by decide +kernel, rfl, by decide +kernel, by decide +kernel⟩
theorem ok_is_borne {fa cc PT : Addr} (tx : Tx K mg "is_borne" s_is_borne fa (.ref cc)) (tb : GxR.TabB base mg cc PT) (tP : PT ∈ T) (z : Zs mg) (g : Gs mg) : Cal P w K mg base T "is_borne" 4 2 f_is_borne :=
  cal_of (ps := ["deal", "letters"]) tx sc_is_borne (fun _ _ _ _ _ _ us hl => match us, hl with | [_, _], _ => rfl) fun A outer s H E hr =>
  (ds_cons (ds_asg (d_v 0) (g_tup rfl (gs_cons (g_name 2 sc_is_borne.nd) (gs_cons (g_name 2 sc_is_borne.nd) (gs_cons (g_name 3 sc_is_borne.nd) gs_nil)))))
  (ds_cons (ds_set 4 sc_is_borne.nd (d_lc (own := [("tie", 5), ("_", 2)]) rfl sc_is_borne.nd (i_seq (d_v 1)) (blkOk_by (N := N_is_borne) (sc := defScope s_is_borne) (by decide +kernel)) (fun _ _ _ _ _ => (g_tup rfl (gs_cons (g_name 5 sc_is_borne.nd) (gs_cons (g_name 2 sc_is_borne.nd) gs_nil)))) (fun _ _ _ _ _ => ts_nil) (fun _ _ _ _ _ => (d_v 5))))
  (ds_one (ds_ret (d_allG (k := 0) ["used", "ties"] [4, 3] hr rfl rfl z.all tb rfl tP (GA.gsc_by (sc := defScope s_is_borne) (by decide +kernel)) (by intro k y h; rcases k with _ | _ | _ | k <;> simp at h <;> subst h <;> exact ⟨_, rfl, rfl⟩) rfl (i_seq (d_v 4)) (fun A2 cl C code s2 H2 fp pn r => (d_cmp c_le (d_count (d_v 1) (d_v 0)) (d_ix (d_ix (d_v 2) (d_v 0)) d_int))))))))
abbrev s_check_plan : Stmt := topS 27
abbrev N_check_plan : List PySem.Str := ["plan"]
theorem sc_check_plan : FnScope ["plan"] ["plan"] (defScope s_check_plan) := ⟨rfl, rfl, rfl, by decide +kernel, rfl, by decide +kernel, by decide +kernel⟩
theorem ok_check_plan {fa : Addr} {cdv : Value} (tx : Tx K mg "check_plan" s_check_plan fa cdv) (z : Zs mg) (g : Gs mg) (xb : XB P w K mg base) : Cal P w K mg base T "check_plan" 5 1 f_check_plan :=
  cal_of (ps := ["plan"]) tx sc_check_plan (fun _ _ _ _ _ _ us hl => match us, hl with | [_], _ => rfl) fun A outer s H E hr =>
  (ds_one (ds_if (t_not (t_val (d_callB b_isi rfl z.isinstance (by decide +kernel) (a_cons (d_v 0) (a_cons (d_ty rfl z.tuple (by decide +kernel)) a_nil))))) (ds_one (ds_raise_BadRound xb (hr.mono (by decide)) rfl rfl (takes_of rfl rfl rfl rfl) (a_cons d_int (a_cons d_str a_nil)))) ds_nil))
abbrev s_check_round : Stmt := topS 28
abbrev N_check_round : List PySem.Str := ["deal", "number", "letters"]
theorem sc_check_round : FnScope ["deal", "number", "letters"] ["deal", "number", "letters"] (defScope s_check_round) := ⟨rfl, rfl, rfl, by decide +kernel, rfl, by decide +kernel, by decide +kernel⟩
theorem ok_check_round {fa : Addr} {cdv : Value} (tx : Tx K mg "check_round" s_check_round fa cdv) (z : Zs mg) (g : Gs mg) (xb : XB P w K mg base) (c_has_form : Cal P w K mg base T "has_form" 7 2 f_has_form) (c_is_borne : Cal P w K mg base T "is_borne" 4 2 f_is_borne) : Cal P w K mg base T "check_round" 8 3 f_check_round :=
  cal_of (ps := ["deal", "number", "letters"]) tx sc_check_round (fun _ _ _ _ _ _ us hl => match us, hl with | [_, _, _], _ => rfl) fun A outer s H E hr =>
  (ds_cons (ds_if (t_not (t_val (d_callN c_has_form (hr.mono (by decide)) rfl (passes_call (takes_of rfl rfl rfl rfl) fun _ _ _ _ h => h) (a_cons (d_v 0) (a_cons (d_v 2) a_nil)) (al_cons (al_cons al_nil))))) (ds_one (ds_raise_BadRound xb (hr.mono (by decide)) rfl rfl (takes_of rfl rfl rfl rfl) (a_cons (d_v 1) (a_cons d_str a_nil)))) ds_nil)
  (ds_one (ds_if (t_not (t_val (d_callN c_is_borne (hr.mono (by decide)) rfl (passes_call (takes_of rfl rfl rfl rfl) fun _ _ _ _ h => h) (a_cons (d_v 0) (a_cons (d_v 2) a_nil)) (al_cons (al_cons al_nil))))) (ds_one (ds_raise_BadRound xb (hr.mono (by decide)) rfl rfl (takes_of rfl rfl rfl rfl) (a_cons (d_v 1) (a_cons d_str a_nil)))) ds_nil)))
abbrev s_sendable : Stmt := topS 29
abbrev N_sendable : List PySem.Str := ["deal", "holding", "letters", "_", "ties", "tie", "piece"]
theorem sc_sendable : FnScope ["deal", "holding", "letters", "_", "ties", "tie", "piece"] ["deal", "holding", "letters"] (defScope s_sendable) := ⟨rfl, rfl, rfl, by decide +kernel, rfl, by decide +kernel, by decide +kernel⟩
theorem ok_sendable {fa : Addr} {cdv : Value} (tx : Tx K mg "sendable" s_sendable fa cdv) (z : Zs mg) (g : Gs mg) : Cal P w K mg base T "sendable" 1 3 f_sendable :=
  cal_of (ps := ["deal", "holding", "letters"]) tx sc_sendable (fun _ _ _ _ _ _ us hl => match us, hl with | [_, _, _], _ => rfl) fun A outer s H E hr =>
  (ds_cons (ds_asg (d_v 0) (g_tup rfl (gs_cons (g_name 3 sc_sendable.nd) (gs_cons (g_name 3 sc_sendable.nd) (gs_cons (g_name 4 sc_sendable.nd) gs_nil)))))
  (ds_one (ds_ret (d_lc (own := [("tie", 5), ("piece", 6)]) rfl sc_sendable.nd (i_seq (d_v 2)) (blkOk_by (N := N_sendable) (sc := defScope s_sendable) (by decide +kernel)) (fun _ _ _ _ _ => (g_tup rfl (gs_cons (g_name 5 sc_sendable.nd) (gs_cons (g_name 6 sc_sendable.nd) gs_nil)))) (fun _ _ _ _ _ => (ts_one (t_cmp (c_in (units65 hr)) (d_v 6) (d_ix (d_v 1) (d_ix (d_ix (d_v 4) (d_v 5)) d_int))))) (fun _ _ _ _ _ => (d_tup (a_cons (d_v 5) (a_cons (d_v 6) a_nil))))))))
abbrev s_brought : Stmt := topS 30
abbrev N_brought : List PySem.Str := ["deal", "holding", "letters", "_", "ties", "hands", "tie", "piece", "held"]
theorem sc_brought : FnScope ["deal", "holding", "letters", "_", "ties", "hands", "tie", "piece", "held"] ["deal", "holding", "letters"] (defScope s_brought) := ⟨rfl, rfl, rfl, by decide +kernel, rfl, by decide +kernel, by decide +kernel⟩
theorem ok_brought {fa : Addr} {cdv : Value} (tx : Tx K mg "brought" s_brought fa cdv) (z : Zs mg) (g : Gs mg) : Cal P w K mg base T "brought" 1 3 f_brought :=
  cal_of (ps := ["deal", "holding", "letters"]) tx sc_brought (fun _ _ _ _ _ _ us hl => match us, hl with | [_, _, _], _ => rfl) fun A outer s H E hr =>
  (ds_cons (ds_asg (d_v 0) (g_tup rfl (gs_cons (g_name 3 sc_brought.nd) (gs_cons (g_name 3 sc_brought.nd) (gs_cons (g_name 4 sc_brought.nd) gs_nil)))))
  (ds_cons (ds_setLc 5 (own := [("held", 8)]) rfl sc_brought.nd (i_seq (d_v 1)) (blkOk_by (N := N_brought) (sc := defScope s_brought) (by decide +kernel)) (fun _ _ _ _ _ => (g_name 8 sc_brought.nd)) (fun _ _ _ _ _ => ts_nil) (fun _ _ _ _ _ => (d_callT b_list rfl z.list (by decide +kernel) (a_cons (d_v 8) a_nil))))
  (ds_cons (ds_for (passes_of rfl) rfl (i_seq (d_v 2)) (g_tup rfl (gs_cons (g_name 6 sc_brought.nd) (gs_cons (g_name 7 sc_brought.nd) gs_nil)))
  (ds_one (ds_expr (d_app (d_ix (d_v 5) (d_ix (d_ix (d_v 4) (d_v 6)) d_int)) (d_v 7)))))
  (ds_one (ds_ret (d_callT b_tuple rfl z.tuple (by decide +kernel) (a_cons (d_lc (own := [("held", 8)]) rfl sc_brought.nd (i_seq (d_v 5)) (blkOk_by (N := N_brought) (sc := defScope s_brought) (by decide +kernel)) (fun _ _ _ _ _ => (g_name 8 sc_brought.nd)) (fun _ _ _ _ _ => ts_nil) (fun _ _ _ _ _ => (d_callT b_tuple rfl z.tuple (by decide +kernel) (a_cons (d_sortSet rfl hr.units z.sorted z.set rfl rfl (d_v 8)) a_nil)))) a_nil)))))))
abbrev s_played : Stmt := topS 31
abbrev N_played : List PySem.Str := ["deal", "holding", "plan", "holdings", "number", "letters"]
theorem sc_played : FnScope ["deal", "holding", "plan", "holdings", "number", "letters"] ["deal", "holding", "plan"] (defScope s_played) := ⟨rfl, rfl, rfl, by decide +kernel, rfl, by decide +kernel, by decide +kernel⟩
theorem ok_played {fa : Addr} {cdv : Value} (tx : Tx K mg "played" s_played fa cdv) (z : Zs mg) (g : Gs mg) (xb : XB P w K mg base) (c_brought : Cal P w K mg base T "brought" 1 3 f_brought) (c_check : Cal P w K mg base T "check" 12 2 f_check) (c_check_plan : Cal P w K mg base T "check_plan" 5 1 f_check_plan) (c_check_round : Cal P w K mg base T "check_round" 8 3 f_check_round) (c_sendable : Cal P w K mg base T "sendable" 1 3 f_sendable) : Cal P w K mg base T "played" 13 3 f_played :=
  cal_of (ps := ["deal", "holding", "plan"]) tx sc_played (fun _ _ _ _ _ _ us hl => match us, hl with | [_, _, _], _ => rfl) fun A outer s H E hr =>
  (ds_cons (ds_expr (d_callN c_check (hr.mono (by decide)) rfl (passes_call (takes_of rfl rfl rfl rfl) fun _ _ _ _ h => h) (a_cons (d_v 0) (a_cons (d_v 1) a_nil)) (al_cons (al_cons al_nil))))
  (ds_cons (ds_expr (d_callN c_check_plan (hr.mono (by decide)) rfl (passes_call (takes_of rfl rfl rfl rfl) fun _ _ _ _ h => h) (a_cons (d_v 2) a_nil) (al_cons al_nil)))
  (ds_cons (ds_set 3 sc_played.nd (d_lst (a_cons (d_v 1) a_nil)))
  (ds_cons (ds_for (passes_of rfl) rfl (i_enumT rfl z.enumerate (d_v 2)) (g_tup rfl (gs_cons (g_name 4 sc_played.nd) (gs_cons (g_name 5 sc_played.nd) gs_nil)))
  (ds_cons (ds_expr (d_callN c_check_round (hr.mono (by decide)) rfl (passes_call (takes_of rfl rfl rfl rfl) fun _ _ _ _ h => h) (a_cons (d_v 0) (a_cons (d_v 4) (a_cons (d_v 5) a_nil))) (al_cons (al_cons (al_cons al_nil)))))
  (ds_cons (ds_if (t_cmp c_lt (d_callB b_len rfl z.len (by decide +kernel) (a_cons (d_callN c_sendable (hr.mono (by decide)) rfl (passes_call (takes_of rfl rfl rfl rfl) fun _ _ _ _ h => h) (a_cons (d_v 0) (a_cons (d_ix (d_v 3) (d_neg d_int)) (a_cons (d_v 5) a_nil))) (al_cons (al_cons (al_cons al_nil)))) a_nil)) (d_callB b_len rfl z.len (by decide +kernel) (a_cons (d_v 5) a_nil))) (ds_one (ds_raise_BadRound xb (hr.mono (by decide)) rfl rfl (takes_of rfl rfl rfl rfl) (a_cons (d_v 4) (a_cons d_str a_nil)))) ds_nil)
  (ds_one (ds_expr (d_app (d_v 3) (d_callN c_brought (hr.mono (by decide)) rfl (passes_call (takes_of rfl rfl rfl rfl) fun _ _ _ _ h => h) (a_cons (d_v 0) (a_cons (d_ix (d_v 3) (d_neg d_int)) (a_cons (d_v 5) a_nil))) (al_cons (al_cons (al_cons al_nil))))))))))
  (ds_one (ds_ret (d_v 3)))))))
abbrev s_lossy : Stmt := topS 32
abbrev N_lossy : List PySem.Str := ["deal", "holding", "plan", "lost", "holdings", "number", "letters", "sent", "come", "tie", "piece"]
theorem sc_lossy : FnScope ["deal", "holding", "plan", "lost", "holdings", "number", "letters", "sent", "come", "tie", "piece"] ["deal", "holding", "plan", "lost"] (defScope s_lossy) := ⟨rfl, rfl, rfl, by decide +kernel, rfl, by decide +kernel, by decide +kernel⟩
theorem ok_lossy {fa : Addr} {cdv : Value} (tx : Tx K mg "lossy" s_lossy fa cdv) (z : Zs mg) (g : Gs mg) (c_brought : Cal P w K mg base T "brought" 1 3 f_brought) (c_check : Cal P w K mg base T "check" 12 2 f_check) (c_check_plan : Cal P w K mg base T "check_plan" 5 1 f_check_plan) (c_check_round : Cal P w K mg base T "check_round" 8 3 f_check_round) (c_sendable : Cal P w K mg base T "sendable" 1 3 f_sendable) : Cal P w K mg base T "lossy" 13 4 f_lossy :=
  cal_of (ps := ["deal", "holding", "plan", "lost"]) tx sc_lossy (fun _ _ _ _ _ _ us hl => match us, hl with | [_, _, _, _], _ => rfl) fun A outer s H E hr =>
  (ds_cons (ds_expr (d_callN c_check (hr.mono (by decide)) rfl (passes_call (takes_of rfl rfl rfl rfl) fun _ _ _ _ h => h) (a_cons (d_v 0) (a_cons (d_v 1) a_nil)) (al_cons (al_cons al_nil))))
  (ds_cons (ds_expr (d_callN c_check_plan (hr.mono (by decide)) rfl (passes_call (takes_of rfl rfl rfl rfl) fun _ _ _ _ h => h) (a_cons (d_v 2) a_nil) (al_cons al_nil)))
  (ds_cons (ds_set 4 sc_lossy.nd (d_lst (a_cons (d_v 1) a_nil)))
  (ds_cons (ds_for (passes_of rfl) rfl (i_enumT rfl z.enumerate (d_v 2)) (g_tup rfl (gs_cons (g_name 5 sc_lossy.nd) (gs_cons (g_name 6 sc_lossy.nd) gs_nil)))
  (ds_cons (ds_expr (d_callN c_check_round (hr.mono (by decide)) rfl (passes_call (takes_of rfl rfl rfl rfl) fun _ _ _ _ h => h) (a_cons (d_v 0) (a_cons (d_v 5) (a_cons (d_v 6) a_nil))) (al_cons (al_cons (al_cons al_nil)))))
  (ds_cons (ds_set 7 sc_lossy.nd (d_callN c_sendable (hr.mono (by decide)) rfl (passes_call (takes_of rfl rfl rfl rfl) fun _ _ _ _ h => h) (a_cons (d_v 0) (a_cons (d_ix (d_v 4) (d_neg d_int)) (a_cons (d_v 6) a_nil))) (al_cons (al_cons (al_cons al_nil)))))
  (ds_cons (ds_setLc 8 (own := [("tie", 9), ("piece", 10)]) rfl sc_lossy.nd (i_seq (d_v 7)) (blkOk_by (N := N_lossy) (sc := defScope s_lossy) (by decide +kernel)) (fun _ _ _ _ _ => (g_tup rfl (gs_cons (g_name 9 sc_lossy.nd) (gs_cons (g_name 10 sc_lossy.nd) gs_nil)))) (fun _ _ _ _ _ => (ts_one (t_cmp (c_ni (units65 hr)) (d_tup (a_cons (d_v 5) (a_cons (d_v 9) (a_cons (d_v 10) a_nil)))) (d_v 3)))) (fun _ _ _ _ _ => (d_tup (a_cons (d_v 9) (a_cons (d_v 10) a_nil)))))
  (ds_one (ds_expr (d_app (d_v 4) (d_callN c_brought (hr.mono (by decide)) rfl (passes_call (takes_of rfl rfl rfl rfl) fun _ _ _ _ h => h) (a_cons (d_v 0) (a_cons (d_ix (d_v 4) (d_neg d_int)) (a_cons (d_v 8) a_nil))) (al_cons (al_cons (al_cons al_nil)))))))))))
  (ds_one (ds_ret (d_v 4)))))))
abbrev s__law_cell_at : Stmt := topS 34
abbrev N__law_cell_at : List PySem.Str := ["_law_script", "_law_k"]
theorem sc__law_cell_at : FnScope ["_law_script", "_law_k"] ["_law_script", "_law_k"] (defScope s__law_cell_at) := ⟨rfl, rfl, rfl, by decide +kernel, rfl, by decide +kernel, by decide +kernel⟩
theorem ok__law_cell_at {fa : Addr} {cdv : Value} (tx : Tx K mg "_law_cell_at" s__law_cell_at fa cdv) (z : Zs mg) (g : Gs mg) : Cal P w K mg base T "_law_cell_at" 1 2 f__law_cell_at :=
  cal_of (ps := ["_law_script", "_law_k"]) tx sc__law_cell_at (fun _ _ _ _ _ _ us hl => match us, hl with | [_, _], _ => rfl) fun A outer s H E hr =>
  (ds_cons (ds_if (t_cmp c_lt (d_v 1) (d_callB b_len rfl z.len (by decide +kernel) (a_cons (d_v 0) a_nil))) (ds_one (ds_ret (d_ix (d_v 0) (d_v 1)))) ds_nil)
  (ds_one (ds_ret d_int)))
abbrev s__law_dice : Stmt := topS 35
abbrev N__law_dice : List PySem.Str := ["_law_cell"]
theorem sc__law_dice : FnScope ["_law_cell"] ["_law_cell"] (defScope s__law_dice) := ⟨rfl, rfl, rfl, by decide +kernel, rfl, by decide +kernel, by decide +kernel⟩
theorem ok__law_dice {fa : Addr} {cdv : Value} (tx : Tx K mg "_law_dice" s__law_dice fa cdv) (z : Zs mg) (g : Gs mg) : Cal P w K mg base T "_law_dice" 1 1 f__law_dice :=
  cal_of (ps := ["_law_cell"]) tx sc__law_dice (fun _ _ _ _ _ _ us hl => match us, hl with | [_], _ => rfl) fun A outer s H E hr =>
  (ds_one (ds_ret (d_lst (a_cons (d_mod (d_v 0) d_int) (a_cons (d_times (d_div (d_v 0) d_int) (d_callT b_int rfl z.int (by decide +kernel) (a_cons (d_cmp c_ge (d_v 0) (d_pow d_int d_int)) a_nil))) a_nil)))))
abbrev s__law_roll : Stmt := topS 36
abbrev N__law_roll : List PySem.Str := ["_law_dice_here", "_law_most", "_law_found"]
theorem sc__law_roll : FnScope ["_law_dice_here", "_law_most", "_law_found"] ["_law_dice_here", "_law_most"] (defScope s__law_roll) := ⟨rfl, rfl, rfl, by decide +kernel, rfl, by decide +kernel, by decide +kernel⟩
theorem ok__law_roll {fa : Addr} {cdv : Value} (tx : Tx K mg "_law_roll" s__law_roll fa cdv) (z : Zs mg) (g : Gs mg) : Cal P w K mg base T "_law_roll" 1 2 f__law_roll :=
  cal_of (ps := ["_law_dice_here", "_law_most"]) tx sc__law_roll (fun _ _ _ _ _ _ us hl => match us, hl with | [_, _], _ => rfl) fun A outer s H E hr =>
  (ds_cons (ds_if (t_cmp c_gt (d_ix (d_v 0) d_int) d_int) (ds_cons (ds_set 2 sc__law_roll.nd (d_mod (d_ix (d_v 0) d_int) (d_v 1)))
  (ds_cons (ds_setIx (d_v 0) d_int (d_div (d_ix (d_v 0) d_int) (d_v 1)))
  (ds_one (ds_ret (d_v 2))))) ds_nil)
  (ds_cons (ds_setIx (d_v 0) d_int (d_mod (d_plus (d_times (d_ix (d_v 0) d_int) d_int) d_int) d_int))
  (ds_one (ds_ret (d_mod (d_div (d_ix (d_v 0) d_int) d_int) (d_v 1))))))
abbrev s__law_whole : Stmt := topS 37
abbrev N__law_whole : List PySem.Str := ["_law_found"]
theorem sc__law_whole : FnScope ["_law_found"] ["_law_found"] (defScope s__law_whole) := ⟨rfl, rfl, rfl, by decide +kernel, rfl, by decide +kernel, by decide +kernel⟩
theorem ok__law_whole {fa : Addr} {cdv : Value} (tx : Tx K mg "_law_whole" s__law_whole fa cdv) (z : Zs mg) (g : Gs mg) : Cal P w K mg base T "_law_whole" 1 1 f__law_whole :=
  cal_of (ps := ["_law_found"]) tx sc__law_whole (fun _ _ _ _ _ _ us hl => match us, hl with | [_], _ => rfl) fun A outer s H E hr =>
  (ds_one (ds_ret (d_and (d_callB b_isi rfl z.isinstance (by decide +kernel) (a_cons (d_v 0) (a_cons (d_ty rfl z.int (by decide +kernel)) a_nil))) (d_one (d_not (d_callB b_isi rfl z.isinstance (by decide +kernel) (a_cons (d_v 0) (a_cons (d_ty rfl z.bool (by decide +kernel)) a_nil))))))))
abbrev s__law_deal : Stmt := topS 38
abbrev N__law_deal : List PySem.Str := ["_law_dice_here", "_law_most", "_law_pieces", "_law_hands", "_law_many", "_law_ties", "_law_sort", "_law_pairs", "_law_k", "_law_one", "_law_other", "_law_letters"]
theorem sc__law_deal : FnScope ["_law_dice_here", "_law_most", "_law_pieces", "_law_hands", "_law_many", "_law_ties", "_law_sort", "_law_pairs", "_law_k", "_law_one", "_law_other", "_law_letters"] ["_law_dice_here", "_law_most", "_law_pieces"] (defScope s__law_deal) := ⟨rfl, rfl, rfl, by decide +kernel, rfl, by decide +kernel, by decide +kernel⟩
theorem ok__law_deal {fa : Addr} {cdv : Value} (tx : Tx K mg "_law_deal" s__law_deal fa cdv) (z : Zs mg) (g : Gs mg) (c__law_roll : Cal P w K mg base T "_law_roll" 1 2 f__law_roll) : Cal P w K mg base T "_law_deal" 2 3 f__law_deal :=
  cal_of (ps := ["_law_dice_here", "_law_most", "_law_pieces"]) tx sc__law_deal (fun _ _ _ _ _ _ us hl => match us, hl with | [_, _, _], _ => rfl) fun A outer s H E hr =>
  (ds_cons (ds_set 3 sc__law_deal.nd (d_plus d_int (d_callN c__law_roll (hr.mono (by decide)) rfl (passes_call (takes_of rfl rfl rfl rfl) fun _ _ _ _ h => h) (a_cons (d_v 0) (a_cons (d_v 1) a_nil)) (al_cons (al_cons al_nil)))))
  (ds_cons (ds_set 4 sc__law_deal.nd (d_plus d_int (d_callN c__law_roll (hr.mono (by decide)) rfl (passes_call (takes_of rfl rfl rfl rfl) fun _ _ _ _ h => h) (a_cons (d_v 0) (a_cons (d_v 2) a_nil)) (al_cons (al_cons al_nil)))))
  (ds_cons (ds_set 5 sc__law_deal.nd (d_lst a_nil))
  (ds_cons (ds_set 6 sc__law_deal.nd (d_callN c__law_roll (hr.mono (by decide)) rfl (passes_call (takes_of rfl rfl rfl rfl) fun _ _ _ _ h => h) (a_cons (d_v 0) (a_cons d_int a_nil)) (al_cons (al_cons al_nil))))
  (ds_cons (ds_set 7 sc__law_deal.nd (d_times (d_lc (own := [("_law_k", 8)]) rfl sc__law_deal.nd (i_range rfl z.range (d_v 3)) (blkOk_by (N := N__law_deal) (sc := defScope s__law_deal) (by decide +kernel)) (fun _ _ _ _ _ => (g_name 8 sc__law_deal.nd)) (fun _ _ _ _ _ => ts_nil) (fun _ _ _ _ _ => (d_tup (a_cons (d_v 8) (a_cons (d_mod (d_plus (d_v 8) d_int) (d_v 3)) a_nil))))) (d_callT b_int rfl z.int (by decide +kernel) (a_cons (d_and (d_cmp (c_eq hr.units) (d_v 6) d_int) (d_one (d_cmp c_gt (d_v 3) d_int))) a_nil))))
  (ds_cons (ds_for (passes_of rfl) rfl (i_range rfl z.range (d_callN c__law_roll (hr.mono (by decide)) rfl (passes_call (takes_of rfl rfl rfl rfl) fun _ _ _ _ h => h) (a_cons (d_v 0) (a_cons d_int a_nil)) (al_cons (al_cons al_nil)))) (g_name 8 sc__law_deal.nd)
  (ds_cons (ds_set 9 sc__law_deal.nd (d_callN c__law_roll (hr.mono (by decide)) rfl (passes_call (takes_of rfl rfl rfl rfl) fun _ _ _ _ h => h) (a_cons (d_v 0) (a_cons (d_v 3) a_nil)) (al_cons (al_cons al_nil))))
  (ds_cons (ds_set 10 sc__law_deal.nd (d_callN c__law_roll (hr.mono (by decide)) rfl (passes_call (takes_of rfl rfl rfl rfl) fun _ _ _ _ h => h) (a_cons (d_v 0) (a_cons (d_v 3) a_nil)) (al_cons (al_cons al_nil))))
  (ds_one (ds_if (t_cmp (c_ne hr.units) (d_v 9) (d_v 10)) (ds_one (ds_expr (d_app (d_v 7) (d_tup (a_cons (d_v 9) (a_cons (d_v 10) a_nil)))))) ds_nil)))))
  (ds_cons (ds_for (passes_of rfl) rfl (i_range rfl z.range (d_callB b_len rfl z.len (by decide +kernel) (a_cons (d_v 7) a_nil))) (g_name 8 sc__law_deal.nd)
  (ds_cons (ds_set 11 sc__law_deal.nd (d_plus d_int (d_ix (d_lst (a_cons d_int (a_cons (d_callN c__law_roll (hr.mono (by decide)) rfl (passes_call (takes_of rfl rfl rfl rfl) fun _ _ _ _ h => h) (a_cons (d_v 0) (a_cons d_int a_nil)) (al_cons (al_cons al_nil))) (a_cons (d_callN c__law_roll (hr.mono (by decide)) rfl (passes_call (takes_of rfl rfl rfl rfl) fun _ _ _ _ h => h) (a_cons (d_v 0) (a_cons d_int a_nil)) (al_cons (al_cons al_nil))) a_nil)))) (d_callN c__law_roll (hr.mono (by decide)) rfl (passes_call (takes_of rfl rfl rfl rfl) fun _ _ _ _ h => h) (a_cons (d_v 0) (a_cons d_int a_nil)) (al_cons (al_cons al_nil))))))
  (ds_one (ds_if (t_w (w_and (t_cmp (c_ni (units65 hr)) (d_ix (d_v 7) (d_v 8)) (d_sl (d_v 7) o_none (o_some (d_v 8)))) (w_and1 (t_cmp c_lt (d_callB b_len rfl z.len (by decide +kernel) (a_cons (d_v 5) a_nil)) d_int)))) (ds_one (ds_expr (d_app (d_v 5) (d_plus (d_ix (d_v 7) (d_v 8)) (d_tup (a_cons (d_v 11) a_nil)))))) ds_nil))))
  (ds_one (ds_ret (d_tup (a_cons (d_v 3) (a_cons (d_v 4) (a_cons (d_callT b_tuple rfl z.tuple (by decide +kernel) (a_cons (d_v 5) a_nil)) a_nil)))))))))))))
abbrev s__law_holding : Stmt := topS 39
abbrev N__law_holding : List PySem.Str := ["_law_dice_here", "_law_deal_here", "_law_rows", "_law_sort", "_law_home", "_law_piece", "_law_row", "_law_hand"]
theorem sc__law_holding : FnScope ["_law_dice_here", "_law_deal_here", "_law_rows", "_law_sort", "_law_home", "_law_piece", "_law_row", "_law_hand"] ["_law_dice_here", "_law_deal_here"] (defScope s__law_holding) := ⟨rfl, rfl, rfl, by decide +kernel, rfl, by decide +kernel, by decide +kernel⟩
theorem ok__law_holding {fa : Addr} {cdv : Value} (tx : Tx K mg "_law_holding" s__law_holding fa cdv) (z : Zs mg) (g : Gs mg) (c__law_roll : Cal P w K mg base T "_law_roll" 1 2 f__law_roll) : Cal P w K mg base T "_law_holding" 2 2 f__law_holding :=
  cal_of (ps := ["_law_dice_here", "_law_deal_here"]) tx sc__law_holding (fun _ _ _ _ _ _ us hl => match us, hl with | [_, _], _ => rfl) fun A outer s H E hr =>
  (ds_cons (ds_setLc 2 (own := [("_law_hand", 7)]) rfl sc__law_holding.nd (i_range rfl z.range (d_ix (d_v 1) d_int)) (blkOk_by (N := N__law_holding) (sc := defScope s__law_holding) (by decide +kernel)) (fun _ _ _ _ _ => (g_name 7 sc__law_holding.nd)) (fun _ _ _ _ _ => ts_nil) (fun _ _ _ _ _ => (d_lst a_nil)))
  (ds_cons (ds_set 3 sc__law_holding.nd (d_callN c__law_roll (hr.mono (by decide)) rfl (passes_call (takes_of rfl rfl rfl rfl) fun _ _ _ _ h => h) (a_cons (d_v 0) (a_cons d_int a_nil)) (al_cons (al_cons al_nil))))
  (ds_cons (ds_set 4 sc__law_holding.nd (d_callN c__law_roll (hr.mono (by decide)) rfl (passes_call (takes_of rfl rfl rfl rfl) fun _ _ _ _ h => h) (a_cons (d_v 0) (a_cons (d_ix (d_v 1) d_int) a_nil)) (al_cons (al_cons al_nil))))
  (ds_cons (ds_for (passes_of rfl) rfl (i_range rfl z.range (d_ix (d_v 1) d_int)) (g_name 5 sc__law_holding.nd)
  (ds_cons (ds_if (t_w (w_or (t_cmp (c_eq hr.units) (d_v 3) d_int) (w_or1 (t_cmp c_gt (d_callN c__law_roll (hr.mono (by decide)) rfl (passes_call (takes_of rfl rfl rfl rfl) fun _ _ _ _ h => h) (a_cons (d_v 0) (a_cons d_int a_nil)) (al_cons (al_cons al_nil))) d_int)))) (ds_one (ds_expr (d_app (d_ix (d_v 2) (d_ix (d_lst (a_cons (d_v 4) (a_cons (d_callN c__law_roll (hr.mono (by decide)) rfl (passes_call (takes_of rfl rfl rfl rfl) fun _ _ _ _ h => h) (a_cons (d_v 0) (a_cons (d_ix (d_v 1) d_int) a_nil)) (al_cons (al_cons al_nil))) a_nil))) (d_callT b_int rfl z.int (by decide +kernel) (a_cons (d_cmp c_gt (d_v 3) d_int) a_nil)))) (d_v 5)))) ds_nil)
  (ds_one (ds_for (passes_of rfl) rfl (i_seq (d_v 2)) (g_name 6 sc__law_holding.nd)
  (ds_one (ds_if (t_w (w_and (t_cmp (c_eq hr.units) (d_v 3) d_int) (w_and (t_cmp (c_ni (units65 hr)) (d_v 5) (d_v 6)) (w_and1 (t_cmp (c_eq hr.units) (d_callN c__law_roll (hr.mono (by decide)) rfl (passes_call (takes_of rfl rfl rfl rfl) fun _ _ _ _ h => h) (a_cons (d_v 0) (a_cons d_int a_nil)) (al_cons (al_cons al_nil))) d_int))))) (ds_one (ds_expr (d_app (d_v 6) (d_v 5)))) ds_nil))))))
  (ds_one (ds_ret (d_callT b_tuple rfl z.tuple (by decide +kernel) (a_cons (d_lc (own := [("_law_row", 6)]) rfl sc__law_holding.nd (i_seq (d_v 2)) (blkOk_by (N := N__law_holding) (sc := defScope s__law_holding) (by decide +kernel)) (fun _ _ _ _ _ => (g_name 6 sc__law_holding.nd)) (fun _ _ _ _ _ => ts_nil) (fun _ _ _ _ _ => (d_callT b_tuple rfl z.tuple (by decide +kernel) (a_cons (d_callB b_sorted rfl z.sorted (by decide +kernel) (a_cons (d_v 6) a_nil)) a_nil)))) a_nil))))))))
abbrev s__law_some : Stmt := topS 40
abbrev N__law_some : List PySem.Str := ["_law_script", "_law_sizes", "_law_dice_here", "_law_most", "_law_pieces", "_law_deal_here"]
theorem sc__law_some : FnScope ["_law_script", "_law_sizes", "_law_dice_here", "_law_most", "_law_pieces", "_law_deal_here"] ["_law_script", "_law_sizes"] (defScope s__law_some) := ⟨rfl, rfl, rfl, by decide +kernel, rfl, by decide +kernel, by decide +kernel⟩
theorem ok__law_some {fa : Addr} {cdv : Value} (tx : Tx K mg "_law_some" s__law_some fa cdv) (z : Zs mg) (g : Gs mg) (c__law_cell_at : Cal P w K mg base T "_law_cell_at" 1 2 f__law_cell_at) (c__law_deal : Cal P w K mg base T "_law_deal" 2 3 f__law_deal) (c__law_dice : Cal P w K mg base T "_law_dice" 1 1 f__law_dice) (c__law_holding : Cal P w K mg base T "_law_holding" 2 2 f__law_holding) : Cal P w K mg base T "_law_some" 3 2 f__law_some :=
  cal_of (ps := ["_law_script", "_law_sizes"]) tx sc__law_some (fun _ _ _ _ _ _ us hl => match us, hl with | [_, _], _ => rfl) fun A outer s H E hr =>
  (ds_cons (ds_set 2 sc__law_some.nd (d_callN c__law_dice (hr.mono (by decide)) rfl (passes_call (takes_of rfl rfl rfl rfl) fun _ _ _ _ h => h) (a_cons (d_callN c__law_cell_at (hr.mono (by decide)) rfl (passes_call (takes_of rfl rfl rfl rfl) fun _ _ _ _ h => h) (a_cons (d_v 0) (a_cons d_int a_nil)) (al_cons (al_cons al_nil))) a_nil) (al_cons al_nil)))
  (ds_cons (ds_asg (d_ix (d_v 1) (d_mod (d_callN c__law_cell_at (hr.mono (by decide)) rfl (passes_call (takes_of rfl rfl rfl rfl) fun _ _ _ _ h => h) (a_cons (d_v 0) (a_cons d_int a_nil)) (al_cons (al_cons al_nil))) (d_callB b_len rfl z.len (by decide +kernel) (a_cons (d_v 1) a_nil)))) (g_tup rfl (gs_cons (g_name 3 sc__law_some.nd) (gs_cons (g_name 4 sc__law_some.nd) gs_nil))))
  (ds_cons (ds_set 5 sc__law_some.nd (d_callN c__law_deal (hr.mono (by decide)) rfl (passes_call (takes_of rfl rfl rfl rfl) fun _ _ _ _ h => h) (a_cons (d_v 2) (a_cons (d_v 3) (a_cons (d_v 4) a_nil))) (al_cons (al_cons (al_cons al_nil)))))
  (ds_one (ds_ret (d_tup (a_cons (d_v 5) (a_cons (d_callN c__law_holding (hr.mono (by decide)) rfl (passes_call (takes_of rfl rfl rfl rfl) fun _ _ _ _ h => h) (a_cons (d_v 2) (a_cons (d_v 5) a_nil)) (al_cons (al_cons al_nil))) a_nil))))))))
abbrev s__law_fault : Stmt := topS 41
abbrev N__law_fault : List PySem.Str := ["_law_deal_here", "_law_holding_here", "_law_letters", "_law_letter", "_law_tie", "_law_number"]
theorem sc__law_fault : FnScope ["_law_deal_here", "_law_holding_here", "_law_letters", "_law_letter", "_law_tie", "_law_number"] ["_law_deal_here", "_law_holding_here", "_law_letters"] (defScope s__law_fault) := ⟨rfl, rfl, rfl, by decide +kernel, rfl, by decide +kernel, by decide +kernel⟩
theorem ok__law_fault {fa : Addr} {cdv : Value} (tx : Tx K mg "_law_fault" s__law_fault fa cdv) (z : Zs mg) (g : Gs mg) (c__law_whole : Cal P w K mg base T "_law_whole" 1 1 f__law_whole) : Cal P w K mg base T "_law_fault" 2 3 f__law_fault :=
  cal_of (ps := ["_law_deal_here", "_law_holding_here", "_law_letters"]) tx sc__law_fault (fun _ _ _ _ _ _ us hl => match us, hl with | [_, _, _], _ => rfl) fun A outer s H E hr =>
  (ds_cons (ds_if (t_not (t_val (d_callB b_isi rfl z.isinstance (by decide +kernel) (a_cons (d_v 2) (a_cons (d_ty rfl z.tuple (by decide +kernel)) a_nil))))) (ds_one (ds_ret d_str)) ds_nil)
  (ds_cons (ds_for (passes_of rfl) rfl (i_seq (d_v 2)) (g_name 3 sc__law_fault.nd)
  (ds_cons (ds_if (t_w (w_or (t_not (t_val (d_callB b_isi rfl z.isinstance (by decide +kernel) (a_cons (d_v 3) (a_cons (d_ty rfl z.tuple (by decide +kernel)) a_nil))))) (w_or1 (t_cmp (c_ne hr.units) (d_callB b_len rfl z.len (by decide +kernel) (a_cons (d_v 3) a_nil)) d_int)))) (ds_one (ds_ret d_str)) ds_nil)
  (ds_cons (ds_if (t_cmp (c_ne hr.units) (d_lc (own := [("_law_number", 5)]) rfl sc__law_fault.nd (i_seq (d_v 3)) (blkOk_by (N := N__law_fault) (sc := defScope s__law_fault) (by decide +kernel)) (fun _ _ _ _ _ => (g_name 5 sc__law_fault.nd)) (fun _ _ _ _ _ => (ts_one (t_not (t_val (d_callN c__law_whole (hr.mono (by decide)) rfl passL (a_cons (d_v 5) a_nil) (al_cons al_nil)))))) (fun _ _ _ _ _ => (d_v 5))) (d_lst a_nil)) (ds_one (ds_ret d_str)) ds_nil)
  (ds_one (ds_if (t_w (w_or (t_not (t_chain c_le c_lt d_int (d_ix (d_v 3) d_int) (d_callB b_len rfl z.len (by decide +kernel) (a_cons (d_ix (d_v 0) d_int) a_nil)))) (w_or1 (t_not (t_chain c_le c_lt d_int (d_ix (d_v 3) d_int) (d_ix (d_v 0) d_int)))))) (ds_one (ds_ret d_str)) ds_nil)))))
  (ds_cons (ds_if (t_cmp (c_ne hr.units) (d_callT b_list rfl z.list (by decide +kernel) (a_cons (d_v 2) a_nil)) (d_sortSet rfl hr.units z.sorted z.set rfl rfl (d_v 2))) (ds_one (ds_ret d_str)) ds_nil)
  (ds_cons (ds_for (passes_of rfl) rfl (i_range rfl z.range (d_callB b_len rfl z.len (by decide +kernel) (a_cons (d_ix (d_v 0) d_int) a_nil))) (g_name 4 sc__law_fault.nd)
  (ds_one (ds_if (t_cmp c_gt (d_callB b_len rfl z.len (by decide +kernel) (a_cons (d_lc (own := [("_law_letter", 3)]) rfl sc__law_fault.nd (i_seq (d_v 2)) (blkOk_by (N := N__law_fault) (sc := defScope s__law_fault) (by decide +kernel)) (fun _ _ _ _ _ => (g_name 3 sc__law_fault.nd)) (fun _ _ _ _ _ => (ts_one (t_cmp (c_eq hr.units) (d_ix (d_v 3) d_int) (d_v 4)))) (fun _ _ _ _ _ => (d_v 3))) a_nil)) (d_ix (d_ix (d_ix (d_v 0) d_int) (d_v 4)) d_int)) (ds_one (ds_ret d_str)) ds_nil)))
  (ds_cons (ds_if (t_cmp (c_ne hr.units) (d_lc (own := [("_law_letter", 3)]) rfl sc__law_fault.nd (i_seq (d_v 2)) (blkOk_by (N := N__law_fault) (sc := defScope s__law_fault) (by decide +kernel)) (fun _ _ _ _ _ => (g_name 3 sc__law_fault.nd)) (fun _ _ _ _ _ => (ts_one (t_cmp (c_ni (units65 hr)) (d_ix (d_v 3) d_int) (d_ix (d_v 1) (d_ix (d_ix (d_ix (d_v 0) d_int) (d_ix (d_v 3) d_int)) d_int))))) (fun _ _ _ _ _ => (d_v 3))) (d_lst a_nil)) (ds_one (ds_ret d_str)) ds_nil)
  (ds_one (ds_ret d_str)))))))
abbrev s__law_come : Stmt := topS 42
abbrev N__law_come : List PySem.Str := ["_law_deal_here", "_law_holding_here", "_law_letters", "_law_rows", "_law_tie", "_law_piece", "_law_row"]
theorem sc__law_come : FnScope ["_law_deal_here", "_law_holding_here", "_law_letters", "_law_rows", "_law_tie", "_law_piece", "_law_row"] ["_law_deal_here", "_law_holding_here", "_law_letters"] (defScope s__law_come) := ⟨rfl, rfl, rfl, by decide +kernel, rfl, by decide +kernel, by decide +kernel⟩
theorem ok__law_come {fa : Addr} {cdv : Value} (tx : Tx K mg "_law_come" s__law_come fa cdv) (z : Zs mg) (g : Gs mg) : Cal P w K mg base T "_law_come" 1 3 f__law_come :=
  cal_of (ps := ["_law_deal_here", "_law_holding_here", "_law_letters"]) tx sc__law_come (fun _ _ _ _ _ _ us hl => match us, hl with | [_, _, _], _ => rfl) fun A outer s H E hr =>
  (ds_cons (ds_setLc 3 (own := [("_law_row", 6)]) rfl sc__law_come.nd (i_seq (d_v 1)) (blkOk_by (N := N__law_come) (sc := defScope s__law_come) (by decide +kernel)) (fun _ _ _ _ _ => (g_name 6 sc__law_come.nd)) (fun _ _ _ _ _ => ts_nil) (fun _ _ _ _ _ => (d_callT b_list rfl z.list (by decide +kernel) (a_cons (d_v 6) a_nil))))
  (ds_cons (ds_for (passes_of rfl) rfl (i_seq (d_v 2)) (g_tup rfl (gs_cons (g_name 4 sc__law_come.nd) (gs_cons (g_name 5 sc__law_come.nd) gs_nil)))
  (ds_cons (ds_set 6 sc__law_come.nd (d_ix (d_v 3) (d_ix (d_ix (d_ix (d_v 0) d_int) (d_v 4)) d_int)))
  (ds_one (ds_if (t_cmp (c_ni (units65 hr)) (d_v 5) (d_v 6)) (ds_one (ds_expr (d_app (d_v 6) (d_v 5)))) ds_nil))))
  (ds_one (ds_ret (d_callT b_tuple rfl z.tuple (by decide +kernel) (a_cons (d_lc (own := [("_law_row", 6)]) rfl sc__law_come.nd (i_seq (d_v 3)) (blkOk_by (N := N__law_come) (sc := defScope s__law_come) (by decide +kernel)) (fun _ _ _ _ _ => (g_name 6 sc__law_come.nd)) (fun _ _ _ _ _ => ts_nil) (fun _ _ _ _ _ => (d_callT b_tuple rfl z.tuple (by decide +kernel) (a_cons (d_callB b_sorted rfl z.sorted (by decide +kernel) (a_cons (d_v 6) a_nil)) a_nil)))) a_nil))))))
abbrev s__law_plan : Stmt := topS 43
abbrev N__law_plan : List PySem.Str := ["_law_dice_here", "_law_deal_here", "_law_holding_here", "_law_most", "_law_out", "_law_k", "_law_letters", "_law_tie", "_law_some_here", "_law_piece"]
theorem sc__law_plan : FnScope ["_law_dice_here", "_law_deal_here", "_law_holding_here", "_law_most", "_law_out", "_law_k", "_law_letters", "_law_tie", "_law_some_here", "_law_piece"] ["_law_dice_here", "_law_deal_here", "_law_holding_here", "_law_most"] (defScope s__law_plan) := ⟨rfl, rfl, rfl, by decide +kernel, rfl, by decide +kernel, by decide +kernel⟩
theorem ok__law_plan {fa : Addr} {cdv : Value} (tx : Tx K mg "_law_plan" s__law_plan fa cdv) (z : Zs mg) (g : Gs mg) (c__law_come : Cal P w K mg base T "_law_come" 1 3 f__law_come) (c__law_roll : Cal P w K mg base T "_law_roll" 1 2 f__law_roll) : Cal P w K mg base T "_law_plan" 2 4 f__law_plan :=
  cal_of (ps := ["_law_dice_here", "_law_deal_here", "_law_holding_here", "_law_most"]) tx sc__law_plan (fun _ _ _ _ _ _ us hl => match us, hl with | [_, _, _, _], _ => rfl) fun A outer s H E hr =>
  (ds_cons (ds_set 4 sc__law_plan.nd (d_lst a_nil))
  (ds_cons (ds_for (passes_of rfl) rfl (i_range rfl z.range (d_callN c__law_roll (hr.mono (by decide)) rfl (passes_call (takes_of rfl rfl rfl rfl) fun _ _ _ _ h => h) (a_cons (d_v 0) (a_cons (d_plus (d_v 3) d_int) a_nil)) (al_cons (al_cons al_nil)))) (g_name 5 sc__law_plan.nd)
  (ds_cons (ds_set 6 sc__law_plan.nd (d_lst a_nil))
  (ds_cons (ds_for (passes_of rfl) rfl (i_range rfl z.range (d_callB b_len rfl z.len (by decide +kernel) (a_cons (d_ix (d_v 1) d_int) a_nil))) (g_name 7 sc__law_plan.nd)
  (ds_cons (ds_setLc 8 (own := [("_law_piece", 9)]) rfl sc__law_plan.nd (i_seq (d_ix (d_v 2) (d_ix (d_ix (d_ix (d_v 1) d_int) (d_v 7)) d_int))) (blkOk_by (N := N__law_plan) (sc := defScope s__law_plan) (by decide +kernel)) (fun _ _ _ _ _ => (g_name 9 sc__law_plan.nd)) (fun _ _ _ _ _ => (ts_one (t_cmp c_gt (d_callN c__law_roll (hr.mono (by decide)) rfl passL (a_cons (d_v 0) (a_cons d_int a_nil)) (al_cons (al_cons al_nil))) d_int))) (fun _ _ _ _ _ => (d_v 9)))
  (ds_one (ds_set 6 sc__law_plan.nd (d_plus (d_v 6) (d_lc (own := [("_law_piece", 9)]) rfl sc__law_plan.nd (i_seq (d_sl (d_v 8) o_none (o_some (d_ix (d_ix (d_ix (d_v 1) d_int) (d_v 7)) d_int)))) (blkOk_by (N := N__law_plan) (sc := defScope s__law_plan) (by decide +kernel)) (fun _ _ _ _ _ => (g_name 9 sc__law_plan.nd)) (fun _ _ _ _ _ => ts_nil) (fun _ _ _ _ _ => (d_tup (a_cons (d_v 7) (a_cons (d_v 9) a_nil))))))))))
  (ds_cons (ds_expr (d_app (d_v 4) (d_callT b_tuple rfl z.tuple (by decide +kernel) (a_cons (d_v 6) a_nil))))
  (ds_one (ds_set 2 sc__law_plan.nd (d_callN c__law_come (hr.mono (by decide)) rfl (passes_call (takes_of rfl rfl rfl rfl) fun _ _ _ _ h => h) (a_cons (d_v 1) (a_cons (d_v 2) (a_cons (d_v 6) a_nil))) (al_cons (al_cons (al_cons al_nil))))))))))
  (ds_one (ds_ret (d_callT b_tuple rfl z.tuple (by decide +kernel) (a_cons (d_v 4) a_nil))))))
abbrev s__law_played : Stmt := topS 44
abbrev N__law_played : List PySem.Str := ["_law_deal_here", "_law_holding_here", "_law_plan_here", "_law_out", "_law_number", "_law_word_here"]
theorem sc__law_played : FnScope ["_law_deal_here", "_law_holding_here", "_law_plan_here", "_law_out", "_law_number", "_law_word_here"] ["_law_deal_here", "_law_holding_here", "_law_plan_here"] (defScope s__law_played) := ⟨rfl, rfl, rfl, by decide +kernel, rfl, by decide +kernel, by decide +kernel⟩
theorem ok__law_played {fa : Addr} {cdv : Value} (tx : Tx K mg "_law_played" s__law_played fa cdv) (z : Zs mg) (g : Gs mg) (c__law_come : Cal P w K mg base T "_law_come" 1 3 f__law_come) (c__law_fault : Cal P w K mg base T "_law_fault" 2 3 f__law_fault) : Cal P w K mg base T "_law_played" 3 3 f__law_played :=
  cal_of (ps := ["_law_deal_here", "_law_holding_here", "_law_plan_here"]) tx sc__law_played (fun _ _ _ _ _ _ us hl => match us, hl with | [_, _, _], _ => rfl) fun A outer s H E hr =>
  (ds_cons (ds_set 3 sc__law_played.nd (d_lst (a_cons (d_v 1) a_nil)))
  (ds_cons (ds_for (passes_of rfl) rfl (i_range rfl z.range (d_callB b_len rfl z.len (by decide +kernel) (a_cons (d_v 2) a_nil))) (g_name 4 sc__law_played.nd)
  (ds_cons (ds_set 5 sc__law_played.nd (d_callN c__law_fault (hr.mono (by decide)) rfl (passes_call (takes_of rfl rfl rfl rfl) fun _ _ _ _ h => h) (a_cons (d_v 0) (a_cons (d_ix (d_v 3) (d_neg d_int)) (a_cons (d_ix (d_v 2) (d_v 4)) a_nil))) (al_cons (al_cons (al_cons al_nil)))))
  (ds_cons (ds_if (t_cmp (c_ne hr.units) (d_v 5) d_str) (ds_one (ds_ret (d_tup (a_cons (d_v 4) (a_cons (d_v 5) a_nil))))) ds_nil)
  (ds_one (ds_expr (d_app (d_v 3) (d_callN c__law_come (hr.mono (by decide)) rfl (passes_call (takes_of rfl rfl rfl rfl) fun _ _ _ _ h => h) (a_cons (d_v 0) (a_cons (d_ix (d_v 3) (d_neg d_int)) (a_cons (d_ix (d_v 2) (d_v 4)) a_nil))) (al_cons (al_cons (al_cons al_nil))))))))))
  (ds_one (ds_ret (d_v 3)))))
abbrev s__law_lossy : Stmt := topS 45
abbrev N__law_lossy : List PySem.Str := ["_law_deal_here", "_law_holding_here", "_law_plan_here", "_law_lost_here", "_law_out", "_law_number", "_law_there", "_law_letter"]
theorem sc__law_lossy : FnScope ["_law_deal_here", "_law_holding_here", "_law_plan_here", "_law_lost_here", "_law_out", "_law_number", "_law_there", "_law_letter"] ["_law_deal_here", "_law_holding_here", "_law_plan_here", "_law_lost_here"] (defScope s__law_lossy) := ⟨rfl, rfl, rfl, by decide +kernel, rfl, by decide +kernel, by decide +kernel⟩
theorem ok__law_lossy {fa : Addr} {cdv : Value} (tx : Tx K mg "_law_lossy" s__law_lossy fa cdv) (z : Zs mg) (g : Gs mg) (c__law_come : Cal P w K mg base T "_law_come" 1 3 f__law_come) : Cal P w K mg base T "_law_lossy" 2 4 f__law_lossy :=
  cal_of (ps := ["_law_deal_here", "_law_holding_here", "_law_plan_here", "_law_lost_here"]) tx sc__law_lossy (fun _ _ _ _ _ _ us hl => match us, hl with | [_, _, _, _], _ => rfl) fun A outer s H E hr =>
  (ds_cons (ds_set 4 sc__law_lossy.nd (d_lst (a_cons (d_v 1) a_nil)))
  (ds_cons (ds_for (passes_of rfl) rfl (i_range rfl z.range (d_callB b_len rfl z.len (by decide +kernel) (a_cons (d_v 2) a_nil))) (g_name 5 sc__law_lossy.nd)
  (ds_cons (ds_setLc 6 (own := [("_law_letter", 7)]) rfl sc__law_lossy.nd (i_seq (d_ix (d_v 2) (d_v 5))) (blkOk_by (N := N__law_lossy) (sc := defScope s__law_lossy) (by decide +kernel)) (fun _ _ _ _ _ => (g_name 7 sc__law_lossy.nd)) (fun _ _ _ _ _ => (ts_one (t_cmp (c_in (units65 hr)) (d_ix (d_v 7) d_int) (d_ix (d_ix (d_v 4) (d_neg d_int)) (d_ix (d_ix (d_ix (d_v 0) d_int) (d_ix (d_v 7) d_int)) d_int))))) (fun _ _ _ _ _ => (d_v 7)))
  (ds_cons (ds_setLc 6 (own := [("_law_letter", 7)]) rfl sc__law_lossy.nd (i_seq (d_v 6)) (blkOk_by (N := N__law_lossy) (sc := defScope s__law_lossy) (by decide +kernel)) (fun _ _ _ _ _ => (g_name 7 sc__law_lossy.nd)) (fun _ _ _ _ _ => (ts_one (t_cmp (c_ni (units65 hr)) (d_tup (a_cons (d_v 5) (a_cons (d_ix (d_v 7) d_int) (a_cons (d_ix (d_v 7) d_int) a_nil)))) (d_v 3)))) (fun _ _ _ _ _ => (d_v 7)))
  (ds_one (ds_expr (d_app (d_v 4) (d_callN c__law_come (hr.mono (by decide)) rfl (passes_call (takes_of rfl rfl rfl rfl) fun _ _ _ _ h => h) (a_cons (d_v 0) (a_cons (d_ix (d_v 4) (d_neg d_int)) (a_cons (d_v 6) a_nil))) (al_cons (al_cons (al_cons al_nil))))))))))
  (ds_one (ds_ret (d_v 4)))))
abbrev s__law_lost : Stmt := topS 46
abbrev N__law_lost : List PySem.Str := ["_law_dice_here", "_law_plan_here", "_law_out", "_law_number", "_law_k", "_law_letter"]
theorem sc__law_lost : FnScope ["_law_dice_here", "_law_plan_here", "_law_out", "_law_number", "_law_k", "_law_letter"] ["_law_dice_here", "_law_plan_here"] (defScope s__law_lost) := ⟨rfl, rfl, rfl, by decide +kernel, rfl, by decide +kernel, by decide +kernel⟩
theorem ok__law_lost {fa : Addr} {cdv : Value} (tx : Tx K mg "_law_lost" s__law_lost fa cdv) (z : Zs mg) (g : Gs mg) (c__law_roll : Cal P w K mg base T "_law_roll" 1 2 f__law_roll) : Cal P w K mg base T "_law_lost" 2 2 f__law_lost :=
  cal_of (ps := ["_law_dice_here", "_law_plan_here"]) tx sc__law_lost (fun _ _ _ _ _ _ us hl => match us, hl with | [_, _], _ => rfl) fun A outer s H E hr =>
  (ds_cons (ds_set 2 sc__law_lost.nd (d_lst a_nil))
  (ds_cons (ds_for (passes_of rfl) rfl (i_range rfl z.range (d_callB b_len rfl z.len (by decide +kernel) (a_cons (d_v 1) a_nil))) (g_name 3 sc__law_lost.nd)
  (ds_one (ds_set 2 sc__law_lost.nd (d_plus (d_v 2) (d_lc (own := [("_law_letter", 5)]) rfl sc__law_lost.nd (i_seq (d_ix (d_v 1) (d_v 3))) (blkOk_by (N := N__law_lost) (sc := defScope s__law_lost) (by decide +kernel)) (fun _ _ _ _ _ => (g_name 5 sc__law_lost.nd)) (fun _ _ _ _ _ => (ts_one (t_cmp (c_eq hr.units) (d_callN c__law_roll (hr.mono (by decide)) rfl passL (a_cons (d_v 0) (a_cons d_int a_nil)) (al_cons (al_cons al_nil))) d_int))) (fun _ _ _ _ _ => (d_plus (d_tup (a_cons (d_v 3) a_nil)) (d_v 5))))))))
  (ds_cons (ds_for (passes_of rfl) rfl (i_range rfl z.range (d_callN c__law_roll (hr.mono (by decide)) rfl (passes_call (takes_of rfl rfl rfl rfl) fun _ _ _ _ h => h) (a_cons (d_v 0) (a_cons d_int a_nil)) (al_cons (al_cons al_nil)))) (g_name 4 sc__law_lost.nd)
  (ds_one (ds_expr (d_app (d_v 2) (d_tup (a_cons (d_callN c__law_roll (hr.mono (by decide)) rfl (passes_call (takes_of rfl rfl rfl rfl) fun _ _ _ _ h => h) (a_cons (d_v 0) (a_cons d_int a_nil)) (al_cons (al_cons al_nil))) (a_cons (d_callN c__law_roll (hr.mono (by decide)) rfl (passes_call (takes_of rfl rfl rfl rfl) fun _ _ _ _ h => h) (a_cons (d_v 0) (a_cons d_int a_nil)) (al_cons (al_cons al_nil))) (a_cons (d_callN c__law_roll (hr.mono (by decide)) rfl (passes_call (takes_of rfl rfl rfl rfl) fun _ _ _ _ h => h) (a_cons (d_v 0) (a_cons d_int a_nil)) (al_cons (al_cons al_nil))) a_nil))))))))
  (ds_cons (ds_if (t_cmp (c_eq hr.units) (d_callN c__law_roll (hr.mono (by decide)) rfl (passes_call (takes_of rfl rfl rfl rfl) fun _ _ _ _ h => h) (a_cons (d_v 0) (a_cons d_int a_nil)) (al_cons (al_cons al_nil))) d_int) (ds_one (ds_expr (d_reverse (d_v 2)))) ds_nil)
  (ds_one (ds_ret (d_callT b_tuple rfl z.tuple (by decide +kernel) (a_cons (d_plus (d_v 2) (d_sl (d_v 2) o_none (o_some (d_callN c__law_roll (hr.mono (by decide)) rfl (passes_call (takes_of rfl rfl rfl rfl) fun _ _ _ _ h => h) (a_cons (d_v 0) (a_cons d_int a_nil)) (al_cons (al_cons al_nil)))))) a_nil))))))))
abbrev s__law_word : Stmt := topS 47
abbrev N__law_word : List PySem.Str := ["_law_deal_here", "_law_holding_here", "_law_plan_here", "e"]
theorem sc__law_word : FnScope ["_law_deal_here", "_law_holding_here", "_law_plan_here", "e"] ["_law_deal_here", "_law_holding_here", "_law_plan_here"] (defScope s__law_word) := ⟨rfl, rfl, rfl, by decide +kernel, rfl, by decide +kernel, by decide +kernel⟩
theorem ok__law_word {fa : Addr} {cdv : Value} (tx : Tx K mg "_law_word" s__law_word fa cdv) (z : Zs mg) (g : Gs mg) (xh : XH K mg) (c_lossy : Cal P w K mg base T "lossy" 13 4 f_lossy) : Cal P w K mg base T "_law_word" 14 3 f__law_word :=
  cal_of (ps := ["_law_deal_here", "_law_holding_here", "_law_plan_here"]) tx sc__law_word (fun _ _ _ _ _ _ us hl => match us, hl with | [_, _, _], _ => rfl) fun A outer s H E hr =>
  (ds_cons (ds_try_BR (i := 3) xh rfl rfl sc__law_word.nd rfl rfl rfl takes0 rfl rfl rfl rfl rfl rfl rfl rfl (fun W pn xe k2 tk2 po hW => (ds_one (ds_expr (d_callN c_lossy (hr.mono (by decide)) rfl (passes_call tk2 hW) (a_cons (d_v 0) (a_cons (d_v 1) (a_cons (d_v 2) (a_cons (d_tup a_nil) a_nil)))) (al_cons (al_cons (al_cons (al_cons al_nil)))))))))
  (ds_one (ds_ret d_str)))
abbrev s_law : Stmt := topS 48
abbrev N_law : List PySem.Str := ["_law_script", "_law_deal_here", "_law_holding_here", "_law_dice_here", "_law_turn", "_law_plan_here", "_law_lost_here", "_law_due", "_law_again", "_law_at", "_law_tie", "_law_odd", "_law_slim", "_law_found", "_law_k", "_law_piece"]
theorem sc_law : FnScope ["_law_script", "_law_deal_here", "_law_holding_here", "_law_dice_here", "_law_turn", "_law_plan_here", "_law_lost_here", "_law_due", "_law_again", "_law_at", "_law_tie", "_law_odd", "_law_slim", "_law_found", "_law_k", "_law_piece"] ["_law_script"] (defScope s_law) := ⟨rfl, rfl, rfl, by decide +kernel, rfl, by decide +kernel, by decide +kernel⟩
theorem body_law {fa : Addr} {cdv : Value} (z : Zs mg) (g : Gs mg) (c__law_cell_at : Cal P w K mg base T "_law_cell_at" 1 2 f__law_cell_at) (c__law_dice : Cal P w K mg base T "_law_dice" 1 1 f__law_dice) (c__law_lossy : Cal P w K mg base T "_law_lossy" 2 4 f__law_lossy) (c__law_lost : Cal P w K mg base T "_law_lost" 2 2 f__law_lost) (c__law_plan : Cal P w K mg base T "_law_plan" 2 4 f__law_plan) (c__law_roll : Cal P w K mg base T "_law_roll" 1 2 f__law_roll) (c__law_some : Cal P w K mg base T "_law_some" 3 2 f__law_some) (c__law_word : Cal P w K mg base T "_law_word" 14 3 f__law_word) (c_lossy : Cal P w K mg base T "lossy" 13 4 f_lossy) (c_played : Cal P w K mg base T "played" 13 3 f_played) (A : Around) (outer : List Env) (s : Shared) (H : Hp) (E : XK) (hr : Room 14 (A.deeper (envOfC "law" (defScope s_law) s.heap.objs.size fa cdv))) :
  DSs (cxOf (L2.CX P w) P w K mg base N_law "law" (defScope s_law) fa cdv A outer s H E) ⟨E, T⟩ (defBody s_law) F_law :=
  (ds_cons (ds_asg (d_callN c__law_some (hr.mono (by decide)) rfl (passes_call (takes_of rfl rfl rfl rfl) fun _ _ _ _ h => h) (a_cons (d_v 0) (a_cons (d_lst (a_cons (d_tup (a_cons d_int (a_cons d_int a_nil))) (a_cons (d_tup (a_cons d_int (a_cons d_int a_nil))) a_nil))) a_nil)) (al_cons (al_cons al_nil))) (g_tup rfl (gs_cons (g_name 1 sc_law.nd) (gs_cons (g_name 2 sc_law.nd) gs_nil))))
  (ds_cons (ds_set 3 sc_law.nd (d_callN c__law_dice (hr.mono (by decide)) rfl (passes_call (takes_of rfl rfl rfl rfl) fun _ _ _ _ h => h) (a_cons (d_callN c__law_cell_at (hr.mono (by decide)) rfl (passes_call (takes_of rfl rfl rfl rfl) fun _ _ _ _ h => h) (a_cons (d_v 0) (a_cons d_int a_nil)) (al_cons (al_cons al_nil))) a_nil) (al_cons al_nil)))
  (ds_cons (ds_for (passes_of rfl) rfl (i_range rfl z.range d_int) (g_name 4 sc_law.nd)
  (ds_cons (ds_set 5 sc_law.nd (d_callN c__law_plan (hr.mono (by decide)) rfl (passes_call (takes_of rfl rfl rfl rfl) fun _ _ _ _ h => h) (a_cons (d_v 3) (a_cons (d_v 1) (a_cons (d_v 2) (a_cons d_int a_nil)))) (al_cons (al_cons (al_cons (al_cons al_nil))))))
  (ds_cons (ds_set 6 sc_law.nd (d_callN c__law_lost (hr.mono (by decide)) rfl (passes_call (takes_of rfl rfl rfl rfl) fun _ _ _ _ h => h) (a_cons (d_v 3) (a_cons (d_v 5) a_nil)) (al_cons (al_cons al_nil))))
  (ds_cons (ds_set 7 sc_law.nd (d_callN c__law_lossy (hr.mono (by decide)) rfl (passes_call (takes_of rfl rfl rfl rfl) fun _ _ _ _ h => h) (a_cons (d_v 1) (a_cons (d_v 2) (a_cons (d_v 5) (a_cons (d_v 6) a_nil)))) (al_cons (al_cons (al_cons (al_cons al_nil))))))
  (ds_cons (ds_for (passes_of rfl) rfl (i_range rfl z.range d_int) (g_name 8 sc_law.nd)
  (ds_cons (ds_set 13 sc_law.nd (d_callN c_lossy (hr.mono (by decide)) rfl (passes_call (takes_of rfl rfl rfl rfl) fun _ _ _ _ h => h) (a_cons (d_v 1) (a_cons (d_v 2) (a_cons (d_v 5) (a_cons (d_v 6) a_nil)))) (al_cons (al_cons (al_cons (al_cons al_nil))))))
  (ds_cons (ds_if (t_w (w_or (t_not (t_val (d_callB b_isi rfl z.isinstance (by decide +kernel) (a_cons (d_v 13) (a_cons (d_ty rfl z.list (by decide +kernel)) a_nil))))) (w_or1 (t_cmp (c_ne hr.units) (d_v 13) (d_v 7))))) (ds_one (ds_ret d_bl)) ds_nil)
  (ds_one (ds_expr (d_app (d_v 13) (d_tup a_nil)))))))
  (ds_cons (ds_if (t_cmp (c_ne hr.units) (d_callN c_lossy (hr.mono (by decide)) rfl (passes_call (takes_of rfl rfl rfl rfl) fun _ _ _ _ h => h) (a_cons (d_v 1) (a_cons (d_v 2) (a_cons (d_v 5) (a_cons (d_tup a_nil) a_nil)))) (al_cons (al_cons (al_cons (al_cons al_nil))))) (d_callN c_played (hr.mono (by decide)) rfl (passes_call (takes_of rfl rfl rfl rfl) fun _ _ _ _ h => h) (a_cons (d_v 1) (a_cons (d_v 2) (a_cons (d_v 5) a_nil))) (al_cons (al_cons (al_cons al_nil))))) (ds_one (ds_ret d_bl)) ds_nil)
  (ds_cons (ds_set 9 sc_law.nd (d_callN c__law_roll (hr.mono (by decide)) rfl (passes_call (takes_of rfl rfl rfl rfl) fun _ _ _ _ h => h) (a_cons (d_v 3) (a_cons (d_plus (d_callB b_len rfl z.len (by decide +kernel) (a_cons (d_v 5) a_nil)) d_int) a_nil)) (al_cons (al_cons al_nil))))
  (ds_cons (ds_set 10 sc_law.nd (d_callN c__law_roll (hr.mono (by decide)) rfl (passes_call (takes_of rfl rfl rfl rfl) fun _ _ _ _ h => h) (a_cons (d_v 3) (a_cons d_int a_nil)) (al_cons (al_cons al_nil))))
  (ds_cons (ds_set 11 sc_law.nd (d_ix (d_lst (a_cons (d_tup (a_cons (d_tup (a_cons (d_v 10) (a_cons (d_ix (d_v 1) d_int) a_nil))) a_nil)) (a_cons (d_lst (a_cons (d_tup (a_cons d_int (a_cons d_int a_nil))) a_nil)) (a_cons (d_tup (a_cons (d_tup (a_cons d_int (a_cons d_int a_nil))) (a_cons (d_tup (a_cons d_int (a_cons d_int a_nil))) a_nil))) (a_cons (d_tup (a_cons (d_tup (a_cons (d_callB b_len rfl z.len (by decide +kernel) (a_cons (d_ix (d_v 1) d_int) a_nil)) (a_cons d_int a_nil))) a_nil)) (a_cons d_int (a_cons (d_tup (a_cons (d_tup (a_cons d_int (a_cons d_int (a_cons d_int a_nil)))) a_nil)) a_nil))))))) (d_callN c__law_roll (hr.mono (by decide)) rfl (passes_call (takes_of rfl rfl rfl rfl) fun _ _ _ _ h => h) (a_cons (d_v 3) (a_cons d_int a_nil)) (al_cons (al_cons al_nil)))))
  (ds_cons (ds_if (t_cmp (c_ne hr.units) (d_callN c__law_word (hr.mono (by decide)) rfl (passes_call (takes_of rfl rfl rfl rfl) fun _ _ _ _ h => h) (a_cons (d_v 1) (a_cons (d_v 2) (a_cons (d_plus (d_plus (d_sl (d_v 5) o_none (o_some (d_v 9))) (d_tup (a_cons (d_v 11) a_nil))) (d_sl (d_v 5) (o_some (d_v 9)) o_none)) a_nil))) (al_cons (al_cons (al_cons al_nil)))) (d_tup (a_cons (d_v 9) (a_cons d_str a_nil)))) (ds_one (ds_ret d_bl)) ds_nil)
  (ds_cons (ds_setLc 12 (own := [("_law_k", 14)]) rfl sc_law.nd (i_range rfl z.range (d_callB b_len rfl z.len (by decide +kernel) (a_cons (d_ix (d_v 1) d_int) a_nil))) (blkOk_by (N := N_law) (sc := defScope s_law) (by decide +kernel)) (fun _ _ _ _ _ => (g_name 14 sc_law.nd)) (fun _ _ _ _ _ => (ts_one (t_cmp c_lt (d_ix (d_ix (d_ix (d_v 1) d_int) (d_v 14)) d_int) (d_ix (d_v 1) d_int)))) (fun _ _ _ _ _ => (d_v 14)))
  (ds_one (ds_if (t_cmp (c_ne hr.units) (d_v 12) (d_lst a_nil)) (ds_cons (ds_set 14 sc_law.nd (d_ix (d_v 12) (d_callN c__law_roll (hr.mono (by decide)) rfl (passes_call (takes_of rfl rfl rfl rfl) fun _ _ _ _ h => h) (a_cons (d_v 3) (a_cons (d_callB b_len rfl z.len (by decide +kernel) (a_cons (d_v 12) a_nil)) a_nil)) (al_cons (al_cons al_nil)))))
  (ds_cons (ds_set 11 sc_law.nd (d_callT b_tuple rfl z.tuple (by decide +kernel) (a_cons (d_lc (own := [("_law_piece", 15)]) rfl sc_law.nd (i_range rfl z.range (d_plus (d_ix (d_ix (d_ix (d_v 1) d_int) (d_v 14)) d_int) d_int)) (blkOk_by (N := N_law) (sc := defScope s_law) (by decide +kernel)) (fun _ _ _ _ _ => (g_name 15 sc_law.nd)) (fun _ _ _ _ _ => ts_nil) (fun _ _ _ _ _ => (d_tup (a_cons (d_v 14) (a_cons (d_v 15) a_nil))))) a_nil)))
  (ds_one (ds_if (t_cmp (c_ne hr.units) (d_callN c__law_word (hr.mono (by decide)) rfl (passes_call (takes_of rfl rfl rfl rfl) fun _ _ _ _ h => h) (a_cons (d_v 1) (a_cons (d_v 2) (a_cons (d_plus (d_plus (d_sl (d_v 5) o_none (o_some (d_v 9))) (d_tup (a_cons (d_v 11) a_nil))) (d_sl (d_v 5) (o_some (d_v 9)) o_none)) a_nil))) (al_cons (al_cons (al_cons al_nil)))) (d_tup (a_cons (d_v 9) (a_cons d_str a_nil)))) (ds_one (ds_ret d_bl)) ds_nil)))) ds_nil)))))))))))))
  (ds_one (ds_ret (d_cmp (c_eq hr.units) (d_callN c__law_word (hr.mono (by decide)) rfl (passes_call (takes_of rfl rfl rfl rfl) fun _ _ _ _ h => h) (a_cons (d_v 1) (a_cons (d_v 2) (a_cons d_int a_nil))) (al_cons (al_cons (al_cons al_nil)))) (d_tup (a_cons d_int (a_cons d_str a_nil)))))))))
end
end K07b

set_option Elab.async false
set_option linter.all false
set_option maxRecDepth 100000
set_option maxHeartbeats 4000000
namespace K07b
open PySem PySem.Spec PyProof.Rows L2 Dn Pd
open Classical
/-! ### the head: the facts by names, the run -/
section
open HandSHeadRun
def sBR : Stmt := topS 4
def sIni : Stmt := match sBR with
  | .ClassDef _ _ _ (s :: _) _ _ _ _ _ _ _ => s
  | _ => .Pass ⟨0, 0, 0, 0⟩
def mIni : MW := some ("__init__", "BadRound.__init__", defArgs sIni, .stmts (defBody sIni), defScope sIni, mainGlobals, ["__class__"], builtinsNs)
def D_is_whole : He.DefD := ⟨("is_whole", none), "is_whole", "is_whole", defArgs s_is_whole, defBody s_is_whole, defScope s_is_whole, [], []⟩
def D_is_number : He.DefD := ⟨("is_number", none), "is_number", "is_number", defArgs s_is_number, defBody s_is_number, defScope s_is_number, [], []⟩
def D_is_rising : He.DefD := ⟨("is_rising", none), "is_rising", "is_rising", defArgs s_is_rising, defBody s_is_rising, defScope s_is_rising, [], []⟩
def D_is_tie : He.DefD := ⟨("is_tie", none), "is_tie", "is_tie", defArgs s_is_tie, defBody s_is_tie, defScope s_is_tie, [], []⟩
def D_are_ties : He.DefD := ⟨("are_ties", none), "are_ties", "are_ties", defArgs s_are_ties, defBody s_are_ties, defScope s_are_ties, [], []⟩
def D_is_deal : He.DefD := ⟨("is_deal", none), "is_deal", "is_deal", defArgs s_is_deal, defBody s_is_deal, defScope s_is_deal, [], []⟩
def D_is_choice : He.DefD := ⟨("is_choice", none), "is_choice", "is_choice", defArgs s_is_choice, defBody s_is_choice, defScope s_is_choice, [], []⟩
def D_is_holding : He.DefD := ⟨("is_holding", none), "is_holding", "is_holding", defArgs s_is_holding, defBody s_is_holding, defScope s_is_holding, [], []⟩
def D_check_deal : He.DefD := ⟨("check_deal", none), "check_deal", "check_deal", defArgs s_check_deal, defBody s_check_deal, defScope s_check_deal, [], []⟩
def D_check_holding : He.DefD := ⟨("check_holding", none), "check_holding", "check_holding", defArgs s_check_holding, defBody s_check_holding, defScope s_check_holding, [], []⟩
def D_check : He.DefD := ⟨("check", none), "check", "check", defArgs s_check, defBody s_check, defScope s_check, [], []⟩
def D_is_letter : He.DefD := ⟨("is_letter", none), "is_letter", "is_letter", defArgs s_is_letter, defBody s_is_letter, defScope s_is_letter, [], []⟩
def D_has_form : He.DefD := ⟨("has_form", none), "has_form", "has_form", defArgs s_has_form, defBody s_has_form, defScope s_has_form, [], []⟩
def D_is_borne : He.DefD := ⟨("is_borne", none), "is_borne", "is_borne", defArgs s_is_borne, defBody s_is_borne, defScope s_is_borne, [], []⟩
def D_check_plan : He.DefD := ⟨("check_plan", none), "check_plan", "check_plan", defArgs s_check_plan, defBody s_check_plan, defScope s_check_plan, [], []⟩
def D_check_round : He.DefD := ⟨("check_round", none), "check_round", "check_round", defArgs s_check_round, defBody s_check_round, defScope s_check_round, [], []⟩
def D_sendable : He.DefD := ⟨("sendable", none), "sendable", "sendable", defArgs s_sendable, defBody s_sendable, defScope s_sendable, [], []⟩
def D_brought : He.DefD := ⟨("brought", none), "brought", "brought", defArgs s_brought, defBody s_brought, defScope s_brought, [], []⟩
def D_played : He.DefD := ⟨("played", none), "played", "played", defArgs s_played, defBody s_played, defScope s_played, [], []⟩
def D_lossy : He.DefD := ⟨("lossy", none), "lossy", "lossy", defArgs s_lossy, defBody s_lossy, defScope s_lossy, [], []⟩
def D__law_cell_at : He.DefD := ⟨("_law_cell_at", none), "_law_cell_at", "_law_cell_at", defArgs s__law_cell_at, defBody s__law_cell_at, defScope s__law_cell_at, [], []⟩
def D__law_dice : He.DefD := ⟨("_law_dice", none), "_law_dice", "_law_dice", defArgs s__law_dice, defBody s__law_dice, defScope s__law_dice, [], []⟩
def D__law_roll : He.DefD := ⟨("_law_roll", none), "_law_roll", "_law_roll", defArgs s__law_roll, defBody s__law_roll, defScope s__law_roll, [], []⟩
def D__law_whole : He.DefD := ⟨("_law_whole", none), "_law_whole", "_law_whole", defArgs s__law_whole, defBody s__law_whole, defScope s__law_whole, [], []⟩
def D__law_deal : He.DefD := ⟨("_law_deal", none), "_law_deal", "_law_deal", defArgs s__law_deal, defBody s__law_deal, defScope s__law_deal, [], []⟩
def D__law_holding : He.DefD := ⟨("_law_holding", none), "_law_holding", "_law_holding", defArgs s__law_holding, defBody s__law_holding, defScope s__law_holding, [], []⟩
def D__law_some : He.DefD := ⟨("_law_some", none), "_law_some", "_law_some", defArgs s__law_some, defBody s__law_some, defScope s__law_some, [], []⟩
def D__law_fault : He.DefD := ⟨("_law_fault", none), "_law_fault", "_law_fault", defArgs s__law_fault, defBody s__law_fault, defScope s__law_fault, [], []⟩
def D__law_come : He.DefD := ⟨("_law_come", none), "_law_come", "_law_come", defArgs s__law_come, defBody s__law_come, defScope s__law_come, [], []⟩
def D__law_plan : He.DefD := ⟨("_law_plan", none), "_law_plan", "_law_plan", defArgs s__law_plan, defBody s__law_plan, defScope s__law_plan, [], []⟩
def D__law_played : He.DefD := ⟨("_law_played", none), "_law_played", "_law_played", defArgs s__law_played, defBody s__law_played, defScope s__law_played, [], []⟩
def D__law_lossy : He.DefD := ⟨("_law_lossy", none), "_law_lossy", "_law_lossy", defArgs s__law_lossy, defBody s__law_lossy, defScope s__law_lossy, [], []⟩
def D__law_lost : He.DefD := ⟨("_law_lost", none), "_law_lost", "_law_lost", defArgs s__law_lost, defBody s__law_lost, defScope s__law_lost, [], []⟩
def D__law_word : He.DefD := ⟨("_law_word", none), "_law_word", "_law_word", defArgs s__law_word, defBody s__law_word, defScope s__law_word, [], []⟩
def D_law : He.DefD := ⟨("law", none), "law", "law", defArgs s_law, defBody s_law, defScope s_law, [], []⟩
def fnL : List He.DefD := [D_is_whole, D_is_number, D_is_rising, D_is_tie, D_are_ties, D_is_deal, D_is_choice, D_is_holding, D_check_deal, D_check_holding, D_check, D_is_letter, D_has_form, D_is_borne, D_check_plan, D_check_round, D_sendable, D_brought, D_played, D_lossy, D__law_cell_at, D__law_dice, D__law_roll, D__law_whole, D__law_deal, D__law_holding, D__law_some, D__law_fault, D__law_come, D__law_plan, D__law_played, D__law_lossy, D__law_lost, D__law_word, D_law]
def faL : List He.Fa := [.glo "is_whole", .glo "is_number", .glo "is_rising", .glo "is_tie", .glo "are_ties", .glo "is_deal", .glo "is_choice", .glo "is_holding", .glo "check_deal", .glo "check_holding", .glo "check", .glo "is_letter", .glo "has_form", .glo "is_borne", .glo "check_plan", .glo "check_round", .glo "sendable", .glo "brought", .glo "played", .glo "lossy", .glo "_law_cell_at", .glo "_law_dice", .glo "_law_roll", .glo "_law_whole", .glo "_law_deal", .glo "_law_holding", .glo "_law_some", .glo "_law_fault", .glo "_law_come", .glo "_law_plan", .glo "_law_played", .glo "_law_lossy", .glo "_law_lost", .glo "_law_word", .glo "law", .glo "DealError", .glo "BadDeal", .glo "BadHolding", .glo "BadRound", .glo "NoDeal", .glo "BadText", .free "isinstance", .free "int", .free "bool", .free "tuple", .free "list", .free "len", .free "set", .free "sorted", .free "all", .free "range", .free "enumerate", .free "zip", .free "ValueError", .free "super", .int "MOST_HANDS" 4, .int "MOST_PIECES" 4, .int "MOST_TIES" 8, .int "MOST_LETTERS" 4]
def tfL : List He.Defn := [("are_ties", none), ("is_choice", none), ("is_holding", none), ("has_form", none), ("is_borne", none)]
def lo0 : List PySem.Str := ["DealError", "BadDeal", "BadHolding", "BadRound", "NoDeal", "BadText", "MOST_HANDS", "MOST_PIECES", "MOST_TIES", "MOST_LETTERS", "is_whole", "is_number", "is_rising", "is_tie", "are_ties", "is_deal", "is_choice", "is_holding", "check_deal", "check_holding", "check", "is_letter", "has_form", "is_borne", "check_plan", "check_round", "sendable", "brought", "played", "lossy"]
def lo1 : List PySem.Str := ["_law_cell_at", "_law_dice", "_law_roll", "_law_whole", "_law_deal", "_law_holding", "_law_some", "_law_fault", "_law_come", "_law_plan", "_law_played", "_law_lossy", "_law_lost", "_law_word"]
def looseL : List PySem.Str := lo0 ++ lo1
abbrev R : PySem.W.OpenRow := PySem.W.OpenLaw.row PySem.Challenge.rw_piecedeal_k07_letters_lost
def exL (K : PySem.W.Frag) : Bool := excB "/claim/cut.py" K
abbrev hk : PySem.W.Hook := hookY 5 faL fnL tfL exL ini mIni
def ob (s : PySem.W.SharedT) : AlY := obsY 5 faL fnL tfL exL ini (HandSHeadRun.getT s)
theorem ob_eq (s : PySem.W.SharedT) : ob s = hk.obs s.abs := obsY_eq (HandSHeadRun.getT_eq s)
theorem run (w : World) : HandSHeadRun.RunEq R (PySem.W.view R.prog [48]) hk ob 4000 looseL w := by
  intro os
  kernel_rfl
end
/-! ### the end -/
theorem sp_law {K : PySem.W.Frag} {mg : Str → Option Value} {T : List Addr} {f : FD} {H : Hp} {a : Addr} {ns : List Int} (hT : ∀ p ∈ T, H p = some (.tbl #[])) (hS : SqL K H a (ns.map V.int))
    (h1 : ∃ st', f [.loc 0] [ns.map W.int] = some (.ok (.bl true) st')) (h2 : ∃ st', f [.frz (ns.map W.int)] [] = some (.ok (.bl true) st')) : spD K mg T 1 f [.ref a] H (fun v _ => v = .bl true) fun _ _ _ => False := by
  refine ⟨rfl, fun P hP => ⟨#[], hT P hP, True.intro⟩, ?_⟩
  have fin : ∀ {α : List Addr} {st' : Store}, Post K mg (Rep K) α H (fun v _ => v = V.bl true) ⟨fun _ _ _ => False, T⟩ (.ok (.bl true) st' : Res W) := fun {α st'} α' v H' _ _ r _ => by cases r; rfl
  have frz : FzL K H a (ns.map V.int) → ∃ (α : List Addr) (ws : List W) (st : Store) (r : Res W), Reps K α H [.ref a] ws ∧ StR K α H st ∧ f ws st = some r ∧ Post K mg (Rep K) α H (fun v _ => v = V.bl true) ⟨fun _ _ _ => False, T⟩ r := fun hf => by
    obtain ⟨st', e⟩ := h2
    exact ⟨[], _, _, _, .cons (.frz hf (reps_of_ints ns)) .nil, ⟨.nil, rfl, fun n b ws e1 _ => nomatch e1⟩, e, fin⟩
  rcases hS with (h | h) | h
  · obtain ⟨st', e⟩ := h1
    refine ⟨[a], _, _, _, .cons (.loc (n := 0) rfl) .nil, ⟨by simp, rfl, fun n b ws e1 e2 => ?_⟩, e, fin⟩
    cases n with
    | zero =>
      cases e1
      cases e2
      exact ⟨_, h, reps_of_ints ns⟩
    | succ n => cases e1
  · exact frz (.inl h)
  · exact frz (.inr h)
theorem head_ok {P : Program} (hP : P = PySem.Challenge.pw_piecedeal_k07_letters_lost) {w : World} {K : PySem.W.Frag} {h : Heap} {mg : Str → Option Value} {fa : Addr} {l : PySem.W.OpenLaw} (hl : l.prog = P) (X : K.In h) (G : h.Ns mainGlobals mg) (hfa : mg "law" = some (.ref fa)) (c : Says faL fnL tfL exL ini mIni w h K)
    (math : ∀ ns : List Int, ns.length ≤ 63 → (∃ st', f_law [.loc 0] [ns.map W.int] = some (.ok (.bl true) st')) ∧ ∃ st', f_law [.frz (ns.map W.int)] [] = some (.ok (.bl true) st')) :
    LamX.LawAtS l w K (L2.CX P w) 15 63 "_law_script" mg fa h := by
  have D : He.SaysD faL fnL K := He.SaysT.d c.x.t
  have z : Zs mg := ⟨He.free_ok X G (D.fact 41 (f := .free "isinstance") rfl), He.free_ok X G (D.fact 42 (f := .free "int") rfl), He.free_ok X G (D.fact 43 (f := .free "bool") rfl), He.free_ok X G (D.fact 44 (f := .free "tuple") rfl), He.free_ok X G (D.fact 45 (f := .free "list") rfl), He.free_ok X G (D.fact 46 (f := .free "len") rfl), He.free_ok X G (D.fact 47 (f := .free "set") rfl), He.free_ok X G (D.fact 48 (f := .free "sorted") rfl), He.free_ok X G (D.fact 49 (f := .free "all") rfl), He.free_ok X G (D.fact 50 (f := .free "range") rfl), He.free_ok X G (D.fact 51 (f := .free "enumerate") rfl), He.free_ok X G (D.fact 52 (f := .free "zip") rfl)⟩
  have g : Gs mg := ⟨He.int_ok X G (D.fact 55 (f := .int "MOST_HANDS" 4) rfl), He.int_ok X G (D.fact 56 (f := .int "MOST_PIECES" 4) rfl), He.int_ok X G (D.fact 57 (f := .int "MOST_TIES" 8) rfl), He.int_ok X G (D.fact 58 (f := .int "MOST_LETTERS" 4) rfl)⟩
  have m_DealError : mg "DealError" = some (.ref (He.ga K "DealError")) := He.glo_ok X G (D.fact 35 (f := .glo "DealError") rfl)
  have m_BadDeal : mg "BadDeal" = some (.ref (He.ga K "BadDeal")) := He.glo_ok X G (D.fact 36 (f := .glo "BadDeal") rfl)
  have m_BadHolding : mg "BadHolding" = some (.ref (He.ga K "BadHolding")) := He.glo_ok X G (D.fact 37 (f := .glo "BadHolding") rfl)
  have m_BadRound : mg "BadRound" = some (.ref (He.ga K "BadRound")) := He.glo_ok X G (D.fact 38 (f := .glo "BadRound") rfl)
  have m_NoDeal : mg "NoDeal" = some (.ref (He.ga K "NoDeal")) := He.glo_ok X G (D.fact 39 (f := .glo "NoDeal") rfl)
  have m_BadText : mg "BadText" = some (.ref (He.ga K "BadText")) := He.glo_ok X G (D.fact 40 (f := .glo "BadText") rfl)
  have m_is_whole : mg "is_whole" = some (.ref (He.ga K "is_whole")) := He.glo_ok X G (D.fact 0 (f := .glo "is_whole") rfl)
  obtain ⟨d_is_whole, F_is_whole⟩ : ∃ fd, FunD K "is_whole" "is_whole" (defArgs s_is_whole) (defBody s_is_whole) (defScope s_is_whole) [] [] (He.ga K "is_whole") fd := D.def_ 0 (d := D_is_whole) rfl
  have t_is_whole := tx_of (st := s_is_whole) F_is_whole m_is_whole
  have m_is_number : mg "is_number" = some (.ref (He.ga K "is_number")) := He.glo_ok X G (D.fact 1 (f := .glo "is_number") rfl)
  obtain ⟨d_is_number, F_is_number⟩ : ∃ fd, FunD K "is_number" "is_number" (defArgs s_is_number) (defBody s_is_number) (defScope s_is_number) [] [] (He.ga K "is_number") fd := D.def_ 1 (d := D_is_number) rfl
  have t_is_number := tx_of (st := s_is_number) F_is_number m_is_number
  have m_is_rising : mg "is_rising" = some (.ref (He.ga K "is_rising")) := He.glo_ok X G (D.fact 2 (f := .glo "is_rising") rfl)
  obtain ⟨d_is_rising, F_is_rising⟩ : ∃ fd, FunD K "is_rising" "is_rising" (defArgs s_is_rising) (defBody s_is_rising) (defScope s_is_rising) [] [] (He.ga K "is_rising") fd := D.def_ 2 (d := D_is_rising) rfl
  have t_is_rising := tx_of (st := s_is_rising) F_is_rising m_is_rising
  have m_is_tie : mg "is_tie" = some (.ref (He.ga K "is_tie")) := He.glo_ok X G (D.fact 3 (f := .glo "is_tie") rfl)
  obtain ⟨d_is_tie, F_is_tie⟩ : ∃ fd, FunD K "is_tie" "is_tie" (defArgs s_is_tie) (defBody s_is_tie) (defScope s_is_tie) [] [] (He.ga K "is_tie") fd := D.def_ 3 (d := D_is_tie) rfl
  have t_is_tie := tx_of (st := s_is_tie) F_is_tie m_is_tie
  have m_are_ties : mg "are_ties" = some (.ref (He.ga K "are_ties")) := He.glo_ok X G (D.fact 4 (f := .glo "are_ties") rfl)
  obtain ⟨d_are_ties, F_are_ties⟩ : ∃ fd, FunD K "are_ties" "are_ties" (defArgs s_are_ties) (defBody s_are_ties) (defScope s_are_ties) [] [] (He.ga K "are_ties") fd := D.def_ 4 (d := D_are_ties) rfl
  have t_are_ties := tx_of (st := s_are_ties) F_are_ties m_are_ties
  rw [code_of (st := s_are_ties) F_are_ties] at t_are_ties
  have m_is_deal : mg "is_deal" = some (.ref (He.ga K "is_deal")) := He.glo_ok X G (D.fact 5 (f := .glo "is_deal") rfl)
  obtain ⟨d_is_deal, F_is_deal⟩ : ∃ fd, FunD K "is_deal" "is_deal" (defArgs s_is_deal) (defBody s_is_deal) (defScope s_is_deal) [] [] (He.ga K "is_deal") fd := D.def_ 5 (d := D_is_deal) rfl
  have t_is_deal := tx_of (st := s_is_deal) F_is_deal m_is_deal
  have m_is_choice : mg "is_choice" = some (.ref (He.ga K "is_choice")) := He.glo_ok X G (D.fact 6 (f := .glo "is_choice") rfl)
  obtain ⟨d_is_choice, F_is_choice⟩ : ∃ fd, FunD K "is_choice" "is_choice" (defArgs s_is_choice) (defBody s_is_choice) (defScope s_is_choice) [] [] (He.ga K "is_choice") fd := D.def_ 6 (d := D_is_choice) rfl
  have t_is_choice := tx_of (st := s_is_choice) F_is_choice m_is_choice
  rw [code_of (st := s_is_choice) F_is_choice] at t_is_choice
  have m_is_holding : mg "is_holding" = some (.ref (He.ga K "is_holding")) := He.glo_ok X G (D.fact 7 (f := .glo "is_holding") rfl)
  obtain ⟨d_is_holding, F_is_holding⟩ : ∃ fd, FunD K "is_holding" "is_holding" (defArgs s_is_holding) (defBody s_is_holding) (defScope s_is_holding) [] [] (He.ga K "is_holding") fd := D.def_ 7 (d := D_is_holding) rfl
  have t_is_holding := tx_of (st := s_is_holding) F_is_holding m_is_holding
  rw [code_of (st := s_is_holding) F_is_holding] at t_is_holding
  have m_check_deal : mg "check_deal" = some (.ref (He.ga K "check_deal")) := He.glo_ok X G (D.fact 8 (f := .glo "check_deal") rfl)
  obtain ⟨d_check_deal, F_check_deal⟩ : ∃ fd, FunD K "check_deal" "check_deal" (defArgs s_check_deal) (defBody s_check_deal) (defScope s_check_deal) [] [] (He.ga K "check_deal") fd := D.def_ 8 (d := D_check_deal) rfl
  have t_check_deal := tx_of (st := s_check_deal) F_check_deal m_check_deal
  have m_check_holding : mg "check_holding" = some (.ref (He.ga K "check_holding")) := He.glo_ok X G (D.fact 9 (f := .glo "check_holding") rfl)
  obtain ⟨d_check_holding, F_check_holding⟩ : ∃ fd, FunD K "check_holding" "check_holding" (defArgs s_check_holding) (defBody s_check_holding) (defScope s_check_holding) [] [] (He.ga K "check_holding") fd := D.def_ 9 (d := D_check_holding) rfl
  have t_check_holding := tx_of (st := s_check_holding) F_check_holding m_check_holding
  have m_check : mg "check" = some (.ref (He.ga K "check")) := He.glo_ok X G (D.fact 10 (f := .glo "check") rfl)
  obtain ⟨d_check, F_check⟩ : ∃ fd, FunD K "check" "check" (defArgs s_check) (defBody s_check) (defScope s_check) [] [] (He.ga K "check") fd := D.def_ 10 (d := D_check) rfl
  have t_check := tx_of (st := s_check) F_check m_check
  have m_is_letter : mg "is_letter" = some (.ref (He.ga K "is_letter")) := He.glo_ok X G (D.fact 11 (f := .glo "is_letter") rfl)
  obtain ⟨d_is_letter, F_is_letter⟩ : ∃ fd, FunD K "is_letter" "is_letter" (defArgs s_is_letter) (defBody s_is_letter) (defScope s_is_letter) [] [] (He.ga K "is_letter") fd := D.def_ 11 (d := D_is_letter) rfl
  have t_is_letter := tx_of (st := s_is_letter) F_is_letter m_is_letter
  have m_has_form : mg "has_form" = some (.ref (He.ga K "has_form")) := He.glo_ok X G (D.fact 12 (f := .glo "has_form") rfl)
  obtain ⟨d_has_form, F_has_form⟩ : ∃ fd, FunD K "has_form" "has_form" (defArgs s_has_form) (defBody s_has_form) (defScope s_has_form) [] [] (He.ga K "has_form") fd := D.def_ 12 (d := D_has_form) rfl
  have t_has_form := tx_of (st := s_has_form) F_has_form m_has_form
  rw [code_of (st := s_has_form) F_has_form] at t_has_form
  have m_is_borne : mg "is_borne" = some (.ref (He.ga K "is_borne")) := He.glo_ok X G (D.fact 13 (f := .glo "is_borne") rfl)
  obtain ⟨d_is_borne, F_is_borne⟩ : ∃ fd, FunD K "is_borne" "is_borne" (defArgs s_is_borne) (defBody s_is_borne) (defScope s_is_borne) [] [] (He.ga K "is_borne") fd := D.def_ 13 (d := D_is_borne) rfl
  have t_is_borne := tx_of (st := s_is_borne) F_is_borne m_is_borne
  rw [code_of (st := s_is_borne) F_is_borne] at t_is_borne
  have m_check_plan : mg "check_plan" = some (.ref (He.ga K "check_plan")) := He.glo_ok X G (D.fact 14 (f := .glo "check_plan") rfl)
  obtain ⟨d_check_plan, F_check_plan⟩ : ∃ fd, FunD K "check_plan" "check_plan" (defArgs s_check_plan) (defBody s_check_plan) (defScope s_check_plan) [] [] (He.ga K "check_plan") fd := D.def_ 14 (d := D_check_plan) rfl
  have t_check_plan := tx_of (st := s_check_plan) F_check_plan m_check_plan
  have m_check_round : mg "check_round" = some (.ref (He.ga K "check_round")) := He.glo_ok X G (D.fact 15 (f := .glo "check_round") rfl)
  obtain ⟨d_check_round, F_check_round⟩ : ∃ fd, FunD K "check_round" "check_round" (defArgs s_check_round) (defBody s_check_round) (defScope s_check_round) [] [] (He.ga K "check_round") fd := D.def_ 15 (d := D_check_round) rfl
  have t_check_round := tx_of (st := s_check_round) F_check_round m_check_round
  have m_sendable : mg "sendable" = some (.ref (He.ga K "sendable")) := He.glo_ok X G (D.fact 16 (f := .glo "sendable") rfl)
  obtain ⟨d_sendable, F_sendable⟩ : ∃ fd, FunD K "sendable" "sendable" (defArgs s_sendable) (defBody s_sendable) (defScope s_sendable) [] [] (He.ga K "sendable") fd := D.def_ 16 (d := D_sendable) rfl
  have t_sendable := tx_of (st := s_sendable) F_sendable m_sendable
  have m_brought : mg "brought" = some (.ref (He.ga K "brought")) := He.glo_ok X G (D.fact 17 (f := .glo "brought") rfl)
  obtain ⟨d_brought, F_brought⟩ : ∃ fd, FunD K "brought" "brought" (defArgs s_brought) (defBody s_brought) (defScope s_brought) [] [] (He.ga K "brought") fd := D.def_ 17 (d := D_brought) rfl
  have t_brought := tx_of (st := s_brought) F_brought m_brought
  have m_played : mg "played" = some (.ref (He.ga K "played")) := He.glo_ok X G (D.fact 18 (f := .glo "played") rfl)
  obtain ⟨d_played, F_played⟩ : ∃ fd, FunD K "played" "played" (defArgs s_played) (defBody s_played) (defScope s_played) [] [] (He.ga K "played") fd := D.def_ 18 (d := D_played) rfl
  have t_played := tx_of (st := s_played) F_played m_played
  have m_lossy : mg "lossy" = some (.ref (He.ga K "lossy")) := He.glo_ok X G (D.fact 19 (f := .glo "lossy") rfl)
  obtain ⟨d_lossy, F_lossy⟩ : ∃ fd, FunD K "lossy" "lossy" (defArgs s_lossy) (defBody s_lossy) (defScope s_lossy) [] [] (He.ga K "lossy") fd := D.def_ 19 (d := D_lossy) rfl
  have t_lossy := tx_of (st := s_lossy) F_lossy m_lossy
  have m__law_cell_at : mg "_law_cell_at" = some (.ref (He.ga K "_law_cell_at")) := He.glo_ok X G (D.fact 20 (f := .glo "_law_cell_at") rfl)
  obtain ⟨d__law_cell_at, F__law_cell_at⟩ : ∃ fd, FunD K "_law_cell_at" "_law_cell_at" (defArgs s__law_cell_at) (defBody s__law_cell_at) (defScope s__law_cell_at) [] [] (He.ga K "_law_cell_at") fd := D.def_ 20 (d := D__law_cell_at) rfl
  have t__law_cell_at := tx_of (st := s__law_cell_at) F__law_cell_at m__law_cell_at
  have m__law_dice : mg "_law_dice" = some (.ref (He.ga K "_law_dice")) := He.glo_ok X G (D.fact 21 (f := .glo "_law_dice") rfl)
  obtain ⟨d__law_dice, F__law_dice⟩ : ∃ fd, FunD K "_law_dice" "_law_dice" (defArgs s__law_dice) (defBody s__law_dice) (defScope s__law_dice) [] [] (He.ga K "_law_dice") fd := D.def_ 21 (d := D__law_dice) rfl
  have t__law_dice := tx_of (st := s__law_dice) F__law_dice m__law_dice
  have m__law_roll : mg "_law_roll" = some (.ref (He.ga K "_law_roll")) := He.glo_ok X G (D.fact 22 (f := .glo "_law_roll") rfl)
  obtain ⟨d__law_roll, F__law_roll⟩ : ∃ fd, FunD K "_law_roll" "_law_roll" (defArgs s__law_roll) (defBody s__law_roll) (defScope s__law_roll) [] [] (He.ga K "_law_roll") fd := D.def_ 22 (d := D__law_roll) rfl
  have t__law_roll := tx_of (st := s__law_roll) F__law_roll m__law_roll
  have m__law_whole : mg "_law_whole" = some (.ref (He.ga K "_law_whole")) := He.glo_ok X G (D.fact 23 (f := .glo "_law_whole") rfl)
  obtain ⟨d__law_whole, F__law_whole⟩ : ∃ fd, FunD K "_law_whole" "_law_whole" (defArgs s__law_whole) (defBody s__law_whole) (defScope s__law_whole) [] [] (He.ga K "_law_whole") fd := D.def_ 23 (d := D__law_whole) rfl
  have t__law_whole := tx_of (st := s__law_whole) F__law_whole m__law_whole
  have m__law_deal : mg "_law_deal" = some (.ref (He.ga K "_law_deal")) := He.glo_ok X G (D.fact 24 (f := .glo "_law_deal") rfl)
  obtain ⟨d__law_deal, F__law_deal⟩ : ∃ fd, FunD K "_law_deal" "_law_deal" (defArgs s__law_deal) (defBody s__law_deal) (defScope s__law_deal) [] [] (He.ga K "_law_deal") fd := D.def_ 24 (d := D__law_deal) rfl
  have t__law_deal := tx_of (st := s__law_deal) F__law_deal m__law_deal
  have m__law_holding : mg "_law_holding" = some (.ref (He.ga K "_law_holding")) := He.glo_ok X G (D.fact 25 (f := .glo "_law_holding") rfl)
  obtain ⟨d__law_holding, F__law_holding⟩ : ∃ fd, FunD K "_law_holding" "_law_holding" (defArgs s__law_holding) (defBody s__law_holding) (defScope s__law_holding) [] [] (He.ga K "_law_holding") fd := D.def_ 25 (d := D__law_holding) rfl
  have t__law_holding := tx_of (st := s__law_holding) F__law_holding m__law_holding
  have m__law_some : mg "_law_some" = some (.ref (He.ga K "_law_some")) := He.glo_ok X G (D.fact 26 (f := .glo "_law_some") rfl)
  obtain ⟨d__law_some, F__law_some⟩ : ∃ fd, FunD K "_law_some" "_law_some" (defArgs s__law_some) (defBody s__law_some) (defScope s__law_some) [] [] (He.ga K "_law_some") fd := D.def_ 26 (d := D__law_some) rfl
  have t__law_some := tx_of (st := s__law_some) F__law_some m__law_some
  have m__law_fault : mg "_law_fault" = some (.ref (He.ga K "_law_fault")) := He.glo_ok X G (D.fact 27 (f := .glo "_law_fault") rfl)
  obtain ⟨d__law_fault, F__law_fault⟩ : ∃ fd, FunD K "_law_fault" "_law_fault" (defArgs s__law_fault) (defBody s__law_fault) (defScope s__law_fault) [] [] (He.ga K "_law_fault") fd := D.def_ 27 (d := D__law_fault) rfl
  have t__law_fault := tx_of (st := s__law_fault) F__law_fault m__law_fault
  have m__law_come : mg "_law_come" = some (.ref (He.ga K "_law_come")) := He.glo_ok X G (D.fact 28 (f := .glo "_law_come") rfl)
  obtain ⟨d__law_come, F__law_come⟩ : ∃ fd, FunD K "_law_come" "_law_come" (defArgs s__law_come) (defBody s__law_come) (defScope s__law_come) [] [] (He.ga K "_law_come") fd := D.def_ 28 (d := D__law_come) rfl
  have t__law_come := tx_of (st := s__law_come) F__law_come m__law_come
  have m__law_plan : mg "_law_plan" = some (.ref (He.ga K "_law_plan")) := He.glo_ok X G (D.fact 29 (f := .glo "_law_plan") rfl)
  obtain ⟨d__law_plan, F__law_plan⟩ : ∃ fd, FunD K "_law_plan" "_law_plan" (defArgs s__law_plan) (defBody s__law_plan) (defScope s__law_plan) [] [] (He.ga K "_law_plan") fd := D.def_ 29 (d := D__law_plan) rfl
  have t__law_plan := tx_of (st := s__law_plan) F__law_plan m__law_plan
  have m__law_played : mg "_law_played" = some (.ref (He.ga K "_law_played")) := He.glo_ok X G (D.fact 30 (f := .glo "_law_played") rfl)
  obtain ⟨d__law_played, F__law_played⟩ : ∃ fd, FunD K "_law_played" "_law_played" (defArgs s__law_played) (defBody s__law_played) (defScope s__law_played) [] [] (He.ga K "_law_played") fd := D.def_ 30 (d := D__law_played) rfl
  have t__law_played := tx_of (st := s__law_played) F__law_played m__law_played
  have m__law_lossy : mg "_law_lossy" = some (.ref (He.ga K "_law_lossy")) := He.glo_ok X G (D.fact 31 (f := .glo "_law_lossy") rfl)
  obtain ⟨d__law_lossy, F__law_lossy⟩ : ∃ fd, FunD K "_law_lossy" "_law_lossy" (defArgs s__law_lossy) (defBody s__law_lossy) (defScope s__law_lossy) [] [] (He.ga K "_law_lossy") fd := D.def_ 31 (d := D__law_lossy) rfl
  have t__law_lossy := tx_of (st := s__law_lossy) F__law_lossy m__law_lossy
  have m__law_lost : mg "_law_lost" = some (.ref (He.ga K "_law_lost")) := He.glo_ok X G (D.fact 32 (f := .glo "_law_lost") rfl)
  obtain ⟨d__law_lost, F__law_lost⟩ : ∃ fd, FunD K "_law_lost" "_law_lost" (defArgs s__law_lost) (defBody s__law_lost) (defScope s__law_lost) [] [] (He.ga K "_law_lost") fd := D.def_ 32 (d := D__law_lost) rfl
  have t__law_lost := tx_of (st := s__law_lost) F__law_lost m__law_lost
  have m__law_word : mg "_law_word" = some (.ref (He.ga K "_law_word")) := He.glo_ok X G (D.fact 33 (f := .glo "_law_word") rfl)
  obtain ⟨d__law_word, F__law_word⟩ : ∃ fd, FunD K "_law_word" "_law_word" (defArgs s__law_word) (defBody s__law_word) (defScope s__law_word) [] [] (He.ga K "_law_word") fd := D.def_ 33 (d := D__law_word) rfl
  have t__law_word := tx_of (st := s__law_word) F__law_word m__law_word
  have m_law : mg "law" = some (.ref (He.ga K "law")) := He.glo_ok X G (D.fact 34 (f := .glo "law") rfl)
  obtain ⟨d_law, F_law⟩ : ∃ fd, FunD K "law" "law" (defArgs s_law) (defBody s_law) (defScope s_law) [] [] (He.ga K "law") fd := D.def_ 34 (d := D_law) rfl
  have ec : ExcF "/claim/cut.py" K (He.ga K "BadRound") := excB_ok c.x.more
  have xh : XH K mg := xh_of ec m_BadRound m_DealError m_BadDeal m_BadHolding m_BadText m_NoDeal (He.free_ok X G (D.fact 53 (f := .free "ValueError") rfl)) (He.free_ok X G (D.fact 41 (f := .free "isinstance") rfl))
  have hsu : mg "super" = none := He.free_ok X G (D.fact 54 (f := .free "super") rfl)
  have e := hfa.symm.trans m_law
  cases e
  refine ⟨d_law, tfL.map (He.cT K), spD K mg ((tfL.map (He.cT K)).map (·.2)) 1 f_law, fun p hp => ?_, fun p hp => ?_, fun p hp => ?_, fun s v => ?_, fun H a ns hl hb hT hS => ?_, fun base KB GB TB => ?_⟩
  · obtain ⟨p', hp', e⟩ := List.mem_map.mp hp
    subst e
    exact c.x.empty p' hp'
  · obtain ⟨p', hp', e⟩ := List.mem_map.mp hp
    subst e
    exact c.x.out p' hp'
  · obtain ⟨p', hp', e⟩ := List.mem_map.mp hp
    subst e
    exact PySem.W.codeHd_of_K X (c.x.hd p' hp')
  · exact FunD.bindsA (ps := ["_law_script"]) F_law (fun _ _ _ _ _ _ us hl => match us, hl with | [_], _ => rfl) s [v] rfl
  · refine sp_law (fun p hp => ?_) hS (math ns hl).1 (math ns hl).2
    obtain ⟨p', hp', e⟩ := List.mem_map.mp hp
    subst e
    exact hT p' hp'
  · rw [hl]
    have xb : XB P w K mg base := xb_of (sI := sIni) ec c.m (by rw [hP]; rfl) (by rw [hP]; decide +kernel) m_BadRound hsu rfl (NdefX.nscope_by (by decide +kernel)) rfl ⟨_, rfl, rfl⟩ (fun _ _ _ _ _ _ _ us hl => match us, hl with | [_, _, _], _ => rfl)
    have c_is_whole := ok_is_whole (P := P) (w := w) (base := base) (T := (tfL.map (He.cT K)).map (·.2)) t_is_whole z g
    have c_is_number := ok_is_number (P := P) (w := w) (base := base) (T := (tfL.map (He.cT K)).map (·.2)) t_is_number z g c_is_whole
    have c_is_rising := ok_is_rising (P := P) (w := w) (base := base) (T := (tfL.map (He.cT K)).map (·.2)) t_is_rising z g
    have c_is_tie := ok_is_tie (P := P) (w := w) (base := base) (T := (tfL.map (He.cT K)).map (·.2)) t_is_tie z g c_is_number
    have b_are_ties := TB (He.cT K ("are_ties", none)) (List.mem_map.mpr ⟨("are_ties", none), by simp [tfL], rfl⟩)
    have c_are_ties := ok_are_ties (P := P) (w := w) (base := base) (T := (tfL.map (He.cT K)).map (·.2)) t_are_ties ⟨b_are_ties.code, b_are_ties.bm, b_are_ties.gP⟩ (List.mem_map.mpr ⟨He.cT K ("are_ties", none), List.mem_map.mpr ⟨("are_ties", none), by simp [tfL], rfl⟩, rfl⟩) z g c_is_tie
    have c_is_deal := ok_is_deal (P := P) (w := w) (base := base) (T := (tfL.map (He.cT K)).map (·.2)) t_is_deal z g c_are_ties c_is_number
    have b_is_choice := TB (He.cT K ("is_choice", none)) (List.mem_map.mpr ⟨("is_choice", none), by simp [tfL], rfl⟩)
    have c_is_choice := ok_is_choice (P := P) (w := w) (base := base) (T := (tfL.map (He.cT K)).map (·.2)) t_is_choice ⟨b_is_choice.code, b_is_choice.bm, b_is_choice.gP⟩ (List.mem_map.mpr ⟨He.cT K ("is_choice", none), List.mem_map.mpr ⟨("is_choice", none), by simp [tfL], rfl⟩, rfl⟩) z g c_is_number c_is_rising
    have b_is_holding := TB (He.cT K ("is_holding", none)) (List.mem_map.mpr ⟨("is_holding", none), by simp [tfL], rfl⟩)
    have c_is_holding := ok_is_holding (P := P) (w := w) (base := base) (T := (tfL.map (He.cT K)).map (·.2)) t_is_holding ⟨b_is_holding.code, b_is_holding.bm, b_is_holding.gP⟩ (List.mem_map.mpr ⟨He.cT K ("is_holding", none), List.mem_map.mpr ⟨("is_holding", none), by simp [tfL], rfl⟩, rfl⟩) z g c_is_choice
    have c_check_deal := ok_check_deal (P := P) (w := w) (base := base) (T := (tfL.map (He.cT K)).map (·.2)) t_check_deal z g c_is_deal
    have c_check_holding := ok_check_holding (P := P) (w := w) (base := base) (T := (tfL.map (He.cT K)).map (·.2)) t_check_holding z g c_is_holding
    have c_check := ok_check (P := P) (w := w) (base := base) (T := (tfL.map (He.cT K)).map (·.2)) t_check z g c_check_deal c_check_holding
    have c_is_letter := ok_is_letter (P := P) (w := w) (base := base) (T := (tfL.map (He.cT K)).map (·.2)) t_is_letter z g c_is_number
    have b_has_form := TB (He.cT K ("has_form", none)) (List.mem_map.mpr ⟨("has_form", none), by simp [tfL], rfl⟩)
    have c_has_form := ok_has_form (P := P) (w := w) (base := base) (T := (tfL.map (He.cT K)).map (·.2)) t_has_form ⟨b_has_form.code, b_has_form.bm, b_has_form.gP⟩ (List.mem_map.mpr ⟨He.cT K ("has_form", none), List.mem_map.mpr ⟨("has_form", none), by simp [tfL], rfl⟩, rfl⟩) z g c_is_letter c_is_rising
    have b_is_borne := TB (He.cT K ("is_borne", none)) (List.mem_map.mpr ⟨("is_borne", none), by simp [tfL], rfl⟩)
    have c_is_borne := ok_is_borne (P := P) (w := w) (base := base) (T := (tfL.map (He.cT K)).map (·.2)) t_is_borne ⟨b_is_borne.code, b_is_borne.bm, b_is_borne.gP⟩ (List.mem_map.mpr ⟨He.cT K ("is_borne", none), List.mem_map.mpr ⟨("is_borne", none), by simp [tfL], rfl⟩, rfl⟩) z g
    have c_check_plan := ok_check_plan (P := P) (w := w) (base := base) (T := (tfL.map (He.cT K)).map (·.2)) t_check_plan z g xb
    have c_check_round := ok_check_round (P := P) (w := w) (base := base) (T := (tfL.map (He.cT K)).map (·.2)) t_check_round z g xb c_has_form c_is_borne
    have c_sendable := ok_sendable (P := P) (w := w) (base := base) (T := (tfL.map (He.cT K)).map (·.2)) t_sendable z g
    have c_brought := ok_brought (P := P) (w := w) (base := base) (T := (tfL.map (He.cT K)).map (·.2)) t_brought z g
    have c_played := ok_played (P := P) (w := w) (base := base) (T := (tfL.map (He.cT K)).map (·.2)) t_played z g xb c_brought c_check c_check_plan c_check_round c_sendable
    have c_lossy := ok_lossy (P := P) (w := w) (base := base) (T := (tfL.map (He.cT K)).map (·.2)) t_lossy z g c_brought c_check c_check_plan c_check_round c_sendable
    have c__law_cell_at := ok__law_cell_at (P := P) (w := w) (base := base) (T := (tfL.map (He.cT K)).map (·.2)) t__law_cell_at z g
    have c__law_dice := ok__law_dice (P := P) (w := w) (base := base) (T := (tfL.map (He.cT K)).map (·.2)) t__law_dice z g
    have c__law_roll := ok__law_roll (P := P) (w := w) (base := base) (T := (tfL.map (He.cT K)).map (·.2)) t__law_roll z g
    have c__law_whole := ok__law_whole (P := P) (w := w) (base := base) (T := (tfL.map (He.cT K)).map (·.2)) t__law_whole z g
    have c__law_deal := ok__law_deal (P := P) (w := w) (base := base) (T := (tfL.map (He.cT K)).map (·.2)) t__law_deal z g c__law_roll
    have c__law_holding := ok__law_holding (P := P) (w := w) (base := base) (T := (tfL.map (He.cT K)).map (·.2)) t__law_holding z g c__law_roll
    have c__law_some := ok__law_some (P := P) (w := w) (base := base) (T := (tfL.map (He.cT K)).map (·.2)) t__law_some z g c__law_cell_at c__law_deal c__law_dice c__law_holding
    have c__law_fault := ok__law_fault (P := P) (w := w) (base := base) (T := (tfL.map (He.cT K)).map (·.2)) t__law_fault z g c__law_whole
    have c__law_come := ok__law_come (P := P) (w := w) (base := base) (T := (tfL.map (He.cT K)).map (·.2)) t__law_come z g
    have c__law_plan := ok__law_plan (P := P) (w := w) (base := base) (T := (tfL.map (He.cT K)).map (·.2)) t__law_plan z g c__law_come c__law_roll
    have c__law_played := ok__law_played (P := P) (w := w) (base := base) (T := (tfL.map (He.cT K)).map (·.2)) t__law_played z g c__law_come c__law_fault
    have c__law_lossy := ok__law_lossy (P := P) (w := w) (base := base) (T := (tfL.map (He.cT K)).map (·.2)) t__law_lossy z g c__law_come
    have c__law_lost := ok__law_lost (P := P) (w := w) (base := base) (T := (tfL.map (He.cT K)).map (·.2)) t__law_lost z g c__law_roll
    have c__law_word := ok__law_word (P := P) (w := w) (base := base) (T := (tfL.map (He.cT K)).map (·.2)) t__law_word z g xh c_lossy
    obtain ⟨oc, od, dV, kV, doc, pm, an, cdv, ct, osl, rfl, lk, hcd, hD, hK⟩ := F_law.ex
    exact fn_ok lk hcd sc_law fun A outer s H E hr => body_law z g c__law_cell_at c__law_dice c__law_lossy c__law_lost c__law_plan c__law_roll c__law_some c__law_word c_lossy c_played A outer s H E hr
open PySem.W PySem.Calls in
theorem holds_of (math : ∀ ns : List Int, ns.length ≤ 63 → (∃ st', f_law [.loc 0] [ns.map W.int] = some (.ok (.bl true) st')) ∧ ∃ st', f_law [.frz (ns.map W.int)] [] = some (.ok (.bl true) st')) : PySem.Challenge.rw_piecedeal_k07_letters_lost.Holds := by
  w_on; o_law
  refine HandSHeadRun.head_any (r := R) (q := PySem.W.view R.prog [48]) (H := hk) (ob := ob) (M := 4000) (loose := looseL) (d := HandSHeadRun.topDef R.prog 48) (kwd := []) ob_eq
    (by kernel_rfl) (fun s => by kernel_rfl) run (by kernel_rfl) (by kernel_rfl) (by kernel_rfl) (by rfl) (by first | assumption | decide +kernel) (by decide +kernel) ⟨rfl, rfl, rfl, rfl, rfl, by decide +kernel⟩ ?hw ?hc
  case hw => w_witness2
  case hc =>
    refine LamX.walk_ofTsE (l := PySem.Challenge.rw_piecedeal_k07_letters_lost) (n := 63) (k := 15) (x := "_law_script") (CX := L2.CX PySem.Challenge.pw_piecedeal_k07_letters_lost) rfl (by decide) (by kernel_rfl) ⟨rfl, by decide, by decide⟩ ?F (fun _ _ _ _ _ z => by
      obtain ⟨_, _, _, _, _, _, _, _, _, _, _, _, z⟩ := z
      exact z.elim)
    intro w mg fa h Y G hmg0
    obtain ⟨K, KX, c⟩ := Y
    have hmg : mg ("law" : PySem.Str) = some (.ref fa) := by
      have e : (HandSHeadRun.topDef R.prog 48).name = ("law" : PySem.Str) := by kernel_rfl
      rw [← e]
      exact hmg0
    exact ⟨K, KX, head_ok rfl rfl KX G hmg c math⟩
end K07b

namespace K07b
open PySem PySem.Spec PyProof.Rows L2 Dn Pd
open Classical
theorem math_both (ns : List Int) (hl : ns.length ≤ 63) : (∃ st', f_law [.loc 0] [ns.map W.int] = some (.ok (.bl true) st')) ∧ ∃ st', f_law [.frz (ns.map W.int)] [] = some (.ok (.bl true) st') := by
  have hb : ∀ n, belows n (ns.map W.int) = true := fun n => belows_map (fun _ => rfl) ns
  refine ⟨?_, ?_⟩
  · obtain ⟨v, s, e, rfl⟩ := (math (w := .loc 0) (ns := ns) (st := [ns.map W.int]) (.inr ⟨0, rfl, rfl⟩) (fun l hm => by rw [List.mem_singleton.mp hm]; exact hb _)).get
    exact ⟨s, e⟩
  · obtain ⟨v, s, e, rfl⟩ := (math (w := .frz (ns.map W.int)) (ns := ns) (st := []) (.inl rfl) (fun l hm => nomatch hm)).get
    exact ⟨s, e⟩
end K07b
set_option maxRecDepth 100000 in
set_option maxHeartbeats 8000000 in
theorem PySem.Challenge.cw_piecedeal_k07_letters_lost_holds : PySem.Challenge.rw_piecedeal_k07_letters_lost.Holds := by
  exact K07b.holds_of K07b.math_both
