import PyProof.Rows.All
import Wide.All
import OpenK.AllK
import Wide.FinOn
import HandS.ForMost
import HandS.AnyAll
import HandS.Nested
import HandS.GenOver
import HandS.HeadHook4
import HandS.Style
import HandS.TupLen
import KE.SortData
import HandS.NoneIn
import HandS.HeadWalk
import HandS.EndTab
import HandS.IsInst
import HandS.TupAny
import HandS.Zip
import PyProof.ReprLen
import HandS.Head2
import HandS.Deep
import PySem.Challenge.RW_ownwords_k05_places_and_ties
set_option Elab.async false
set_option linter.all false
set_option maxRecDepth 100000
set_option maxHeartbeats 2000000
/-! all(f(x) for x in t) where the element calls defs: the generator's own frame as a context, one turn at a time -/
namespace GA
open PySem PySem.Spec PyProof.Rows L2

/-- the generator expression's code between two turns -/
abbrev gLoop (elt iter : Expr) (x : Str) (px : Pos) (scope : Scope) (gpos : Pos) (it : Value) (cenv : Env) : Code :=
  .compLoop (.GeneratorExp elt [⟨.Name x px, iter, [], 0⟩] scope gpos) 0 it .none cenv
abbrev gStart (elt iter : Expr) (x : Str) (px : Pos) (scope : Scope) (gpos : Pos) (it : Value) (cenv : Env) : Code :=
  .compStart (.GeneratorExp elt [⟨.Name x px, iter, [], 0⟩] scope gpos) 0 it .none cenv
/-- what runs around the element -/
abbrev gA (A : Around) (elt iter : Expr) (x : Str) (px : Pos) (scope : Scope) (gpos : Pos) (it : Value) (cenv : Env) : Around :=
  A.in1.in1.over (gLoop elt iter x px scope gpos it cenv) []
/-- the generator's frame as a context: entered from the state s1 and the abstract heap H1 -/
def gcx (X : Cx) (s1 : Shared) (H1 : Hp) (N : List Str) (cenv : Env) (A' : Around) : Cx where
  prog := X.prog
  w := X.w
  K := X.K
  mg := X.mg
  base := X.base
  A := A'
  N := N
  s_0 := s1
  H_0 := H1
  env := cenv
  outer := X.stack
  stack := cenv :: X.stack
  ex := []
  fn := fun _ => false
  calm := true
  pn := []
  xe := fun _ _ => False
section
variable {A : Around} {elt iter : Expr} {x : Str} {px : Pos} {scope : Scope} {gpos : Pos} {it : Value} {cenv : Env}
theorem gA_handled (h : A.handled = none) : (gA A elt iter x px scope gpos it cenv).handled = none := h
theorem gA_depth : (gA A elt iter x px scope gpos it cenv).depth = A.depth + 1 := rfl
theorem gA_units : (gA A elt iter x px scope gpos it cenv).units = A.units + 5 := rfl
theorem gA_frames {l : List Env} (h : A.frames = some l) : (gA A elt iter x px scope gpos it cenv).frames = some (cenv :: l) := by
  show pushEnvs [cenv] (pushEnvs [] A.frames) = _
  rw [h] <;> rfl
theorem gRoom {k : Nat} (r : Room (k + 1) A) : Room k (gA A elt iter x px scope gpos it cenv) := by
  refine ⟨gA_handled r.hd, ?_, ?_⟩
  · have := r.dp
    rw [gA_depth]
    omega
  · have := r.un
    rw [gA_units]
    omega
end
/-- the state with other generators and tokens -/
theorem inv_gens {X : Cx} {pins : List (Addr × Obj)} {σ : L2.St} {H : Hp} {s s' : Shared} (I : Inv X pins σ H s) (hh : s'.heap = s.heap) (ho : s'.os = s.os) (hb : AllBare s'.gens) : Inv X pins σ H s' := by
  obtain ⟨h, g, d, t, o⟩ := s'
  obtain rfl : h = s.heap := hh
  exact ⟨I.ok, ho.trans I.os, hb, I.base, I.loc, I.cell, I.free, I.freeC, I.pin, I.hok, I.len⟩
/-- an untracked record of the generator's has turned into o' -/
theorem inv_turn {X : Cx} {pins : List (Addr × Obj)} {σ : L2.St} {H : Hp} {s : Shared} {it : Addr} {o o' : Obj} {h' : Heap} {t' : Nat} (I : Inv X ((it, o) :: pins) σ H s) (k : ∀ b ob, b ≠ it → s.heap.get? b = some ob → h'.get? b = some ob)
    (ho' : h'.get? it = some o') (hd : ∀ v, o'.data ≠ .cell v) (h1 : X.s_0.heap.objs.size ≤ it) (h2 : ∀ x c, X.env.cells.lookup x = some c → c ≠ it) (h3 : ∀ p ∈ X.pn ++ pins, p.1 ≠ it) :
    Inv X ((it, o') :: pins) σ H { s with heap := h', toks := t' } := by
  obtain ⟨e0, n0, l0, f0, _⟩ := I.pin (it, o) (List.mem_append_right _ List.mem_cons_self)
  have I0 : Inv X pins σ H s := I.pins_of fun p hp => I.pin p (List.mem_append_right _ (List.mem_cons_of_mem _ hp))
  have J := I0.turned (h' := h') (t' := t') k n0 l0 (.inr h1) h2 h3
  refine J.pins_of fun p hp => ?_
  rcases List.mem_cons.mp hp with rfl | hp
  · exact ⟨ho', n0, l0, f0, hd⟩
  · exact J.pin p (List.mem_append_right _ hp)
theorem inv_drop {X : Cx} {pins : List (Addr × Obj)} {σ : L2.St} {H : Hp} {s : Shared} {it : Addr} {o : Obj} {h' : Heap} {t' : Nat} (I : Inv X ((it, o) :: pins) σ H s) (k : ∀ b ob, b ≠ it → s.heap.get? b = some ob → h'.get? b = some ob)
    (h1 : X.s_0.heap.objs.size ≤ it) (h2 : ∀ x c, X.env.cells.lookup x = some c → c ≠ it) (h3 : ∀ p ∈ X.pn ++ pins, p.1 ≠ it) :
    Inv X pins σ H { s with heap := h', toks := t' } := by
  obtain ⟨e0, n0, l0, f0, _⟩ := I.pin (it, o) (List.mem_append_right _ List.mem_cons_self)
  have I0 : Inv X pins σ H s := I.pins_of fun p hp => I.pin p (List.mem_append_right _ (List.mem_cons_of_mem _ hp))
  exact I0.turned (h' := h') (t' := t') k n0 l0 (.inr h1) h2 h3
end GA

set_option Elab.async false
set_option linter.all false
set_option maxRecDepth 100000
set_option maxHeartbeats 2000000
namespace GA
open PySem PySem.Spec PyProof.Rows L2

/-- an iterator at it that gives n items; Jx i: its record ahead of turn i; Ok: what of the heap it leans on -/
structure Src (X : Cx) (it : Addr) (n : Nat) (item : Nat → V → Prop) (Jx : Nat → Obj → Prop) (Ok : Hp → Prop) : Prop where
  nocell : ∀ i o v, Jx i o → o.data ≠ .cell v
  next : ∀ (A : Around) (E : Value → Shared → Prop) (pins : List (Addr × Obj)) (σ : L2.St) (H : Hp) (s : Shared) (i : Nat) (o : Obj) (Q : Option Value → Shared → Prop), A.handled = none → i < n → Jx i o → Ok H → Inv X ((it, o) :: pins) σ H s →
    (∀ v y o' h' tk, RelV y v → item i y → Jx (i + 1) o' → h'.get? it = some o' → (∀ b ob, b ≠ it → s.heap.get? b = some ob → h'.get? b = some ob) → Q (some v) { s with heap := h', toks := tk }) →
    wpAny (model X.prog X.w) A (pyNext (.ref it)) Q E s
  done : ∀ (A : Around) (E : Value → Shared → Prop) (pins : List (Addr × Obj)) (σ : L2.St) (H : Hp) (s : Shared) (o : Obj) (Q : Option Value → Shared → Prop), A.handled = none → Jx n o → Ok H → Inv X ((it, o) :: pins) σ H s →
    (∀ h' tk, (∀ b ob, b ≠ it → s.heap.get? b = some ob → h'.get? b = some ob) → Q none { s with heap := h', toks := tk }) → wpAny (model X.prog X.w) A (pyNext (.ref it)) Q E s
  self : ∀ (A : Around) (E : Value → Shared → Prop) (pins : List (Addr × Obj)) (σ : L2.St) (H : Hp) (s : Shared) (i : Nat) (o : Obj) (Q : Value → Shared → Prop), Jx i o → Inv X ((it, o) :: pins) σ H s → Q (.ref it) s →
    wpAny (model X.prog X.w) A (pyIter (.ref it)) Q E s

def Jtup (t : Addr) (i : Nat) (o : Obj) : Prop := o.cls = .type "tuple_iterator" ∧ o.data = .fields #[.ref t, .int i 0]
theorem src_tup {X : Cx} {it t : Addr} {xs : List V} : Src X it xs.length (fun i y => xs[i]? = some y) (Jtup t) (fun H => SqT X.K H t xs) where
  nocell := fun i o v h q => by
    rw [h.2] at q
    cases q
  next := fun A E pins σ H s i o Q hh hi hJ hS I hQ => by
    obtain ⟨its, rv, ht, _⟩ := I.tuple hS
    obtain ⟨e, _⟩ := I.pin (it, o) (List.mem_append_right _ List.mem_cons_self)
    have hit : s.heap.IsTupleIter it t i := ⟨o, e, hJ.1, hJ.2⟩
    have hl : its.length = xs.length := rv.length.symm
    obtain ⟨y, hy⟩ : ∃ y, xs[i]? = some y := ⟨xs[i], List.getElem?_eq_getElem hi⟩
    obtain ⟨u, hu, ru⟩ := rv.get hy
    refine wpAny_pyNext_tuple_item hit ht (x := u) (by simpa using hu) fun h' hit' hs' => ?_
    obtain ⟨o', eo, c1, c2⟩ := hit'
    exact hQ u y o' h' s.toks ru hy ⟨c1, c2⟩ eo fun b ob hb q => hs'.extBut b ob hb q
  done := fun A E pins σ H s o Q hh hJ hS I hQ => by
    obtain ⟨its, rv, ht, _⟩ := I.tuple hS
    obtain ⟨e, _⟩ := I.pin (it, o) (List.mem_append_right _ List.mem_cons_self)
    have hit : s.heap.IsTupleIter it t xs.length := ⟨o, e, hJ.1, hJ.2⟩
    have hl : its.length = xs.length := rv.length.symm
    exact wpAny_pyNext_tuple_end hh hit ht (by simp [hl]) fun h' he => hQ h' s.toks fun b ob hb q => he b ob hb q
  self := fun A E pins σ H s i o Q hJ I hQ => by
    obtain ⟨e, _⟩ := I.pin (it, o) (List.mem_append_right _ List.mem_cons_self)
    exact wpAny_pyIter_tupleiter (i := i) (t := t) ⟨o, e, hJ.1, hJ.2⟩ hQ

def Jstr (x : Str) (t : Tok) (i : Nat) (o : Obj) : Prop := o.cls = .type (strIterType x) ∧ o.data = .fields #[.str x t, .int i 0]
theorem src_str {X : Cx} {it : Addr} {x : Str} {t : Tok} : Src X it x.cps.size (fun i y => ∃ c, x.cps[i]? = some c ∧ y = .str ⟨#[c]⟩) (Jstr x t) (fun _ => True) where
  nocell := fun i o v h q => by
    rw [h.2] at q
    cases q
  next := fun A E pins σ H s i o Q hh hi hJ hS I hQ => by
    obtain ⟨e, _⟩ := I.pin (it, o) (List.mem_append_right _ List.mem_cons_self)
    have hit : s.heap.IsStrIter it (strIterType x) x t i := ⟨o, e, hJ.1, hJ.2⟩
    have go : ∀ h', h'.IsStrIter it (strIterType x) x t (i + 1) → Heap.SameBut it s.heap h' → ∀ u, Q (some (.str ⟨#[x.cps[i]]⟩ u)) { s with heap := h', toks := s.toks + 1 } := fun h' hit' hs' u => by
      obtain ⟨o', eo, c1, c2⟩ := hit'
      exact hQ _ (.str ⟨#[x.cps[i]]⟩) o' h' (s.toks + 1) ⟨u, rfl⟩ ⟨x.cps[i], by simp [hi], rfl⟩ ⟨c1, c2⟩ eo fun b ob hb q => hs'.extBut b ob hb q
    cases ha : x.cps.all (· < 128) with
    | true =>
      have et : strIterType x = "str_ascii_iterator" := by simp [strIterType, ha]
      rw [et] at hit go
      exact wpAny_pyNext_ascii_item hit (c := x.cps[i]) (by simp [hi]) fun h' hit' hs' => go h' hit' hs' _
    | false =>
      have et : strIterType x = "str_iterator" := by simp [strIterType, ha]
      rw [et] at hit go
      exact wpAny_pyNext_wide_item hit (c := x.cps[i]) (by simp [hi]) fun h' hit' hs' => go h' hit' hs' _
  done := fun A E pins σ H s o Q hh hJ hS I hQ => by
    obtain ⟨e, _⟩ := I.pin (it, o) (List.mem_append_right _ List.mem_cons_self)
    have hit : s.heap.IsStrIter it (strIterType x) x t x.cps.size := ⟨o, e, hJ.1, hJ.2⟩
    cases ha : x.cps.all (· < 128) with
    | true =>
      have et : strIterType x = "str_ascii_iterator" := by simp [strIterType, ha]
      rw [et] at hit
      exact wpAny_pyNext_ascii_end hh hit (by simp) fun h' he => hQ h' s.toks fun b ob hb q => he b ob hb q
    | false =>
      have et : strIterType x = "str_iterator" := by simp [strIterType, ha]
      rw [et] at hit
      exact wpAny_pyNext_wide_end hh hit (by simp) fun h' he => hQ h' s.toks fun b ob hb q => he b ob hb q
  self := fun A E pins σ H s i o Q hJ I hQ => by
    obtain ⟨e, _⟩ := I.pin (it, o) (List.mem_append_right _ List.mem_cons_self)
    have hit : s.heap.IsStrIter it (strIterType x) x t i := ⟨o, e, hJ.1, hJ.2⟩
    cases ha : x.cps.all (· < 128) with
    | true =>
      have et : strIterType x = "str_ascii_iterator" := by simp [strIterType, ha]
      rw [et] at hit
      exact wpAny_pyIter_striter_ascii hit hQ
    | false =>
      have et : strIterType x = "str_iterator" := by simp [strIterType, ha]
      rw [et] at hit
      exact wpAny_pyIter_striter_wide hit hQ
end GA

set_option Elab.async false
set_option linter.all false
set_option maxRecDepth 100000
set_option maxHeartbeats 2000000
namespace GA
open PySem PySem.Spec PyProof.Rows L2

/-- what is told of one generator expression: its context Xg, the iterator at it, the generator's object og at a, the captured names' values rest -/
structure Told where
  Xg : Cx
  it : Addr
  a : Addr
  og : Obj
  n : Nat
  item : Nat → V → Prop
  Jx : Nat → Obj → Prop
  Ok : Hp → Prop
  rest : List (Option V)
  bs : Nat → Bool
  G : Nat → Hp → Prop
/-- ahead of turn i -/
def Told.At (T : Told) (i : Nat) (s : Shared) : Prop := ∃ o v H, T.Jx i o ∧ Inv T.Xg [(T.it, o), (T.a, T.og)] (v :: T.rest) H s ∧ T.G i H
/-- behind the last -/
def Told.Out (T : Told) (s : Shared) : Prop := ∃ v H, Inv T.Xg [(T.a, T.og)] (v :: T.rest) H s ∧ T.G T.n H
def Told.Y (T : Told) : Protocol := fun m _ v s kap => ∃ i, i < T.n ∧ m = T.n - 1 - i ∧ (∀ j, j < i → T.bs j = true) ∧ v = .bool (T.bs i) ∧ T.At (i + 1) s ∧
  (T.bs i = true → ∀ s'' : Shared, s''.heap = s.heap → s''.os = s.os → AllBare s''.gens → kap (.send .none) s'')
def Told.P (T : Told) : Nat → Shared → Shared → Prop := fun m _ s₁ => m = 0 ∧ (∀ j, j < T.n → T.bs j = true) ∧ T.Out s₁
def Told.R (T : Told) : GenEnd := fun m s₀ r s₁ => r = .ok .next ∧ T.P m s₀ s₁
theorem Told.At.gens {T : Told} {i : Nat} {s s' : Shared} (h : T.At i s) (hh : s'.heap = s.heap) (ho : s'.os = s.os) (hb : AllBare s'.gens) : T.At i s' := by
  obtain ⟨o, v, H, h1, h2, h3⟩ := h
  exact ⟨o, v, H, h1, inv_gens h2 hh ho hb, h3⟩
/-- the facts that a generator expression's run leans on -/
structure Told.Good (T : Told) (elt : Expr) (te : TE) (x : Str) : Prop where
  src : Src T.Xg T.it T.n T.item T.Jx T.Ok
  names : T.Xg.N[0]? = some x
  loc : T.Xg.env.scope.names.lookup x = some .local
  co : T.Xg.env.scope.isCoroutine = false
  new : T.Xg.s_0.heap.objs.size ≤ T.it
  apart : T.it ≠ T.a
  cells : ∀ y c, T.Xg.env.cells.lookup y = some c → c ≠ T.it
  pn : T.Xg.pn = []
  nox : ∀ e s, T.Xg.xe e s → False
  nd : T.Xg.N.Nodup
  ok : ∀ i H, i ≤ T.n → T.G i H → T.Ok H
  he : PE T.Xg elt te
  turn : ∀ i y H, i < T.n → T.item i y → (∀ j, j < i → T.bs j = true) → T.G i H → te (some y :: T.rest) H fun b H' => b = .bl (T.bs i) ∧ T.G (i + 1) H'
theorem Told.Good.ne3 {T : Told} {elt : Expr} {te : TE} {x : Str} (g : T.Good elt te x) : ∀ p ∈ T.Xg.pn ++ [(T.a, T.og)], p.1 ≠ T.it := fun p hp => by
  rw [g.pn] at hp
  obtain rfl := List.mem_singleton.mp hp
  exact g.apart.symm
section
variable {T : Told} {elt iter : Expr} {te : TE} {x : Str} {px : Pos} {scope : Scope} {gpos : Pos} {A : Around} {cenv : Env}
theorem seg_turns (g : T.Good elt te x) (eA : T.Xg.A = gA A elt iter x px scope gpos (.ref T.it) cenv) (ec : T.Xg.env = cenv) (hh : A.handled = none) :
    ∀ (k i : Nat) (s₀ s : Shared), T.n - i = k → i ≤ T.n → (∀ j, j < i → T.bs j = true) → T.At i s →
      Seg (model T.Xg.prog T.Xg.w) A.in1.in1 T.R T.Y k s₀ (gLoop elt iter x px scope gpos (.ref T.it) cenv) ((model T.Xg.prog T.Xg.w).den (gLoop elt iter x px scope gpos (.ref T.it) cenv)) [] s := by
  have hh' : (gA A elt iter x px scope gpos (.ref T.it) cenv).handled = none := hh
  intro k
  induction k with
  | zero =>
    intro i s₀ s hk hi hb hat
    have hin : i = T.n := by omega
    subst hin
    obtain ⟨o, v, H, hJ, I, hG⟩ := hat
    show Seg _ _ _ _ _ s₀ _ ((compTurn (.GeneratorExp elt [⟨.Name x px, iter, [], 0⟩] scope gpos) 0 (.ref T.it) .none cenv).onRaise (leaving cenv)) [] s
    rw [compTurn_gen, Sem.onRaise_eq_wrap]
    refine seg_bind_wrap (wpAny_standAt ?_)
    refine seg_bind_wrap (g.src.done _ _ _ _ H s o _ hh' hJ (g.ok _ H (Nat.le_refl _) hG) I fun h' tk hk' => ?_)
    exact seg_end (.ok .next) ⟨rfl, rfl, hb, v, H, inv_drop I hk' g.new g.cells g.ne3, hG⟩
  | succ k ih =>
    intro i s₀ s hk hi hb hat
    have hlt : i < T.n := by omega
    obtain ⟨o, v0, H, hJ, I, hG⟩ := hat
    show Seg _ _ _ _ _ s₀ _ ((compTurn (.GeneratorExp elt [⟨.Name x px, iter, [], 0⟩] scope gpos) 0 (.ref T.it) .none cenv).onRaise (leaving cenv)) [] s
    rw [compTurn_gen, Sem.onRaise_eq_wrap]
    refine seg_bind_wrap (wpAny_standAt ?_)
    refine seg_bind_wrap (g.src.next _ _ _ _ H s i o _ hh' hlt hJ (g.ok _ H (Nat.le_of_lt hlt) hG) I fun v y o' h' tk rv hy hJ' ho' hk' => ?_)
    have I1 := inv_turn (t' := tk) I hk' ho' (fun v => g.src.nocell (i + 1) o' v hJ') g.new g.cells g.ne3
    refine seg_bind_wrap (wpAny_of_eq (rfl : letOwnedTupleGo (.Name x px) (.ref T.it) v = pure ()) ?_)
    refine seg_bind_wrap (wpAny_assign_Name ?_)
    rw [← ec]
    refine store_ok I1 g.nd g.names (.inl g.loc) rv (fun s2 I2 => ?_) (.inr g.loc)
    simp only [List.forIn_nil]
    refine seg_bind_wrap (wpAny_pure ?_)
    simp only [if_true]
    have hy2 : ∀ v, yieldOut T.Xg.env v = yieldValue v := fun v => by simp only [yieldOut, g.co, Bool.false_eq_true, if_false]
    simp only [hy2]
    rw [Sem.bind_eq_wrap', Sem.bind_eq_wrap', Sem.wrap_wrap, Sem.wrap_wrap]
    refine seg_wrap ?_
    have ht := g.turn i y H hlt hy hb hG
    have run := g.he.run [(T.it, o'), (T.a, T.og)] s2 (some y :: T.rest) H _ I2 ht
    rw [eA, ec] at run
    rw [ec]
    refine wpAny_mono run (fun u s3 h3 => ?_) fun e s3 h3 => (g.nox e s3 h3).elim
    obtain ⟨b, H3, I3, rb, eb, hG3⟩ := h3
    subst eb
    obtain rfl : u = .bool (T.bs i) := rb
    have at3 : T.At (i + 1) s3 := ⟨o', some y, H3, hJ', I3, hG3⟩
    refine seg_at (seg_yield rfl rfl rfl ⟨i, hlt, by omega, hb, rfl, at3, fun hbi s'' e1 e2 e3 => ?_⟩)
    refine seg_again rfl (ih (i + 1) s'' s'' (by omega) hlt (fun j hj => ?_) (at3.gens e1 e2 e3))
    by_cases hji : j = i
    · rw [hji]
      exact hbi
    · exact hb j (by omega)
theorem seg_first (g : T.Good elt te x) (eA : T.Xg.A = gA A elt iter x px scope gpos (.ref T.it) cenv) (ec : T.Xg.env = cenv) (hh : A.handled = none) (s₀ s : Shared) (hat : T.At 0 s) :
    Seg (model T.Xg.prog T.Xg.w) A.in1.in1 T.R T.Y T.n s₀ (gStart elt iter x px scope gpos (.ref T.it) cenv) ((model T.Xg.prog T.Xg.w).den (gStart elt iter x px scope gpos (.ref T.it) cenv)) [] s := by
  have loop : ∀ s', T.At 0 s' → Seg (model T.Xg.prog T.Xg.w) A.in1.in1 T.R T.Y T.n s₀ (gLoop elt iter x px scope gpos (.ref T.it) cenv) ((model T.Xg.prog T.Xg.w).den (gLoop elt iter x px scope gpos (.ref T.it) cenv)) [] s' :=
    fun s' h => seg_turns (iter := iter) (px := px) (scope := scope) (gpos := gpos) g eA ec hh T.n 0 s₀ s' (Nat.sub_zero _) (Nat.zero_le _) (fun j hj => absurd hj (Nat.not_lt_zero j)) h
  show Seg _ _ _ _ _ s₀ _ ((compStart (.GeneratorExp elt [⟨.Name x px, iter, [], 0⟩] scope gpos) 0 (.ref T.it) .none cenv).onRaise (leaving cenv)) [] s
  unfold compStart
  rw [Sem.onRaise_eq_wrap]
  show Seg _ _ _ _ _ s₀ _ ((ask >>= _).wrap _ _ _ _) [] s
  refine seg_bind_wrap (wpAny_askSetting ?_)
  obtain ⟨o, v, H, hJ, I, hG⟩ := id hat
  split
  · exact seg_again rfl (loop s hat)
  · first
      | exact seg_bind_wrap (wpAny_rule (seg_bind_wrap (wpAny_standAt (seg_bind_wrap (g.src.self _ _ _ _ H s 0 o _ hJ I (seg_again rfl (loop s hat)))))))
      | (refine seg_bind_wrap (wpAny_rule ?_); show Seg _ _ _ _ _ s₀ _ ((standAt iter.pos >>= _).wrap _ _ _ _) [] s; exact seg_bind_wrap (wpAny_standAt (seg_bind_wrap (g.src.self _ _ _ _ H s 0 o _ hJ I (seg_again rfl (loop s hat))))))
end
end GA

set_option Elab.async false
set_option linter.all false
set_option maxRecDepth 100000
set_option maxHeartbeats 2000000
namespace GA
open PySem PySem.Spec PyProof.Rows L2

theorem allBare_set {s : Shared} {g : Nat} {gs : GenState} (h : AllBare s.gens) (hb : gs.bare = true) : AllBare (s.setGen g gs).gens := fun y hy => by
  have hy2 : y ∈ s.gens.setIfInBounds g gs := hy
  rcases Array.mem_or_eq_of_mem_setIfInBounds hy2 with e | e
  · exact h _ e
  · rw [e]
    exact hb
theorem set_self {s : Shared} {g : Nat} {x : GenState} (h : g + 1 ≤ (s.setGen g x).gens.size) : (s.setGen g x).gens[g]? = some x := by
  have hl : g < s.gens.size := by
    have : g + 1 ≤ s.gens.size := by simpa [Shared.setGen] using h
    omega
  simp [Shared.setGen, hl]
/-- the generator's object names the generator gi -/
def OgAt (og : Obj) (gi : Nat) : Prop := ∃ nm qn : Value, og.cls = .type "generator" ∧ og.data = .fields #[.int gi 0, nm, qn]
section
variable {T : Told} {elt iter : Expr} {te : TE} {x : Str} {px : Pos} {scope : Scope} {gpos : Pos} {A : Around} {cenv : Env} {gi : Nat}
/-- asleep ahead of turn i -/
def Told.Sleeps (T : Told) (A : Around) (gi i : Nat) (s : Shared) : Prop := T.At i s ∧ ∃ gs, s.gens[gi]? = some gs ∧
  ∀ s'' : Shared, s''.heap = s.heap → s''.os = s.os → AllBare s''.gens → gs.Goes (model T.Xg.prog T.Xg.w) A.in1.in1 T.R T.Y (T.n - i) (.send .none) s''
theorem all_turns (g : T.Good elt te x) (og : ∀ s i, T.At i s → s.heap.IsGen T.a gi) (hh : A.handled = none) (hdep : A.depth < recursionLimit) {R' : Result → Shared → Prop}
    (hF : ∀ i s', i < T.n → (∀ j, j < i → T.bs j = true) → T.bs i = false → T.At (i + 1) s' → R' (.ok (.ret (.bool false))) s')
    (hT : ∀ s', (∀ j, j < T.n → T.bs j = true) → T.Out s' → R' (.ok (.ret (.bool true))) s') :
    ∀ (k i : Nat) (s : Shared), T.n - i = k → i ≤ T.n → (∀ j, j < i → T.bs j = true) → T.Sleeps A gi i s → codeAny (model T.Xg.prog T.Xg.w) A (.builtin "all.loop" ⟨[.ref T.a], []⟩) R' s := by
  intro k
  induction k with
  | zero =>
    intro i s hk hi hb hs
    have hin : i = T.n := by omega
    subst hin
    obtain ⟨hat, gs, hgs, hgo⟩ := hs
    obtain ⟨o, v, H, hJ, I, hG⟩ := id hat
    refine codeAny_builtin F.entry_all_loop ?_
    rw [Around.under_plainId F.plain_all_loop _]
    show wpAny _ A.in1 (pyNext (.ref T.a) >>= _) _ _ s
    rw [Nat.sub_self] at hgo
    refine wpAny_bind (wpAny_pyNext_genexpQ (P := T.P) hh I.nolimit hdep (og s _ hat) hgs (hgo _ rfl rfl (allBare_set I.bare rfl)) (fun v s₁ gs' hbb hv => ?_) (fun s₁ hp h' hk' => ?_))
    · obtain ⟨i', hi', hm, _, _, hat1, kap⟩ := hv
      have I1b : AllBare s₁.gens := by
        obtain ⟨_, _, _, _, I1, _⟩ := hat1
        exact I1.bare
      exact (kap (hb i' hi') s₁ rfl rfl I1b).elim
    · obtain ⟨_, hall, v1, H1, I1, hG1⟩ := hp
      refine wpAny_bind (wpAny_rule (wpAny_pure ?_))
      have J := inv_gens (s' := { s₁.setGen gi .finished with heap := s₁.heap }) I1 rfl rfl (allBare_set I1.bare rfl)
      exact hT _ hall ⟨v1, H1, J.kept (h' := h') (t' := s₁.toks) hk', hG1⟩
  | succ k ih =>
    intro i s hk hi hb hs
    have hlt : i < T.n := by omega
    obtain ⟨hat, gs, hgs, hgo⟩ := hs
    obtain ⟨o, v, H, hJ, I, hG⟩ := id hat
    refine codeAny_builtin F.entry_all_loop ?_
    rw [Around.under_plainId F.plain_all_loop _]
    show wpAny _ A.in1 (pyNext (.ref T.a) >>= _) _ _ s
    have hsz : gi + 1 ≤ s.gens.size := (Array.getElem?_eq_some_iff.mp hgs).1
    refine wpAny_bind (GenW.wpAny_gsz hsz ?_)
    refine wpAny_pyNext_genexpQ (P := T.P) hh I.nolimit hdep (og s _ hat) hgs (hgo _ rfl rfl (allBare_set I.bare rfl)) (fun v s₁ gs' hbb hv => ?_) (fun s₁ hp h' hk' => ?_)
    · intro hsz1
      obtain ⟨i', hi', hm, _, rfl, hat1, kap⟩ := hv
      have ei : i' = i := by omega
      subst ei
      have I1b : AllBare s₁.gens := by
        obtain ⟨_, _, _, _, I1, _⟩ := hat1
        exact I1.bare
      have hat2 : T.At (i' + 1) (s₁.setGen gi gs') := hat1.gens rfl rfl (allBare_set I1b hbb)
      refine wpAny_bind (wpAny_holding (wpAny_truthy_bool ?_))
      refine wpAny_bind (wpAny_letGo ?_)
      cases hbi : T.bs i' with
      | true =>
        simp only [if_true]
        refine wpAny_pure ⟨plainId_quiet F.plain_all_loop _, ih (i' + 1) _ (by omega) hlt (fun j hj => ?_) ⟨hat2, gs', set_self hsz1, fun s'' e1 e2 e3 => ?_⟩⟩
        · by_cases hji : j = i'
          · rw [hji]
            exact hbi
          · exact hb j (by omega)
        · have z := kap hbi s'' e1 e2 e3
          rw [hk] at z
          have e : T.n - (i' + 1) = k := by omega
          rw [e]
          exact z
      | false =>
        simp only [Bool.false_eq_true, if_false]
        refine wpAny_bind (wpAny_rule (wpAny_pure ?_))
        exact hF i' _ hlt hb hbi hat2
    · exact absurd hp.1 (by omega)
end
end GA

set_option Elab.async false
set_option linter.all false
set_option maxRecDepth 100000
set_option maxHeartbeats 2000000
namespace GA
open PySem PySem.Spec PyProof.Rows L2 NdefX
/-- the generator expression's own scope: its one name x; fr: the captured names, which stand at js in the running frame -/
structure GSc (X : Cx) (scope : Scope) (x : Str) (fr : List Str) (js : List Nat) : Prop where
  kind : scope.kind = .function
  co : scope.isCoroutine = false
  cell : ∀ y ∈ scope.names, y.2 ≠ .cell
  dot : scope.names.lookup (".0" : Str) = some NameKind.local
  loc : scope.names.lookup x = some .local
  free : ∀ y ∈ scope.names, y.2 = .free → X.env.scope.names.lookup y.1 = some .cell ∨ X.env.scope.names.lookup y.1 = some .free
  fre : ∀ y ∈ fr, scope.names.lookup y = some .free
  at_ : js.map (fun j => X.N[j]?) = fr.map some
  nd : (x :: fr).Nodup
abbrev gEnv (X : Cx) (scope : Scope) (C : Addr) (code : Value) (bi : Addr) : Env := genEnv scope (cloFrom X.env.cells scope.names []) C code bi X.env
section
variable {X : Cx} {pins : List (Addr × Obj)} {σ : L2.St} {H1 : Hp} {s1 s5 : Shared} {elt iter : Expr} {te : TE} {x : Str} {px gpos : Pos} {scope : Scope} {fr : List Str} {js : List Nat} {k : Nat} {P C a it : Addr} {code : Value} {ps more : Array Value} {og o0 : Obj}
  {n : Nat} {item : Nat → V → Prop} {Jx : Nat → Obj → Prop} {Ok : Hp → Prop} {bs : Nat → Bool} {G : Nat → Hp → Prop} {R : Value → Shared → Prop}
theorem told_ready (hr : Room k X.A) (S : GSc X scope x fr js) (I1 : Inv X pins σ H1 s1) (hP : H1 P = some (.tbl ps))
    (F1 : ∀ b o, b ≠ P → s1.heap.get? b = some o → s5.heap.get? b = some o) (F2 : s5.heap.get? P = some { cls := .none, data := .fields (ps ++ more) }) (ht : TriplesOk (ps ++ more).toList)
    (F3 : s5.heap.get? it = some o0) (J0 : Jx 0 o0) (lit : s1.heap.objs.size ≤ it) (F4 : ∃ m, s5.heap.Ns C m) (lC : s1.heap.objs.size ≤ C) (nCi : C ≠ it)
    (F5 : s5.heap.get? a = some og) (hog : ∃ nm qn : Value, og.cls = .type "generator" ∧ og.data = .fields #[.int (s1.gens.size : Nat) 0, nm, qn] ∧ og.slots = #[]) (la : s1.heap.objs.size ≤ a) (nai : a ≠ it) (naC : a ≠ C)
    (F6 : s5.gens = s1.gens.push (.fresh (gStart elt iter x px scope gpos (.ref it) (gEnv X scope C code builtinsNs)))) (F7 : s5.os = s1.os)
    (src : ∀ X' : Cx, X'.K = X.K → Src X' it n item Jx Ok)
    (hel : PE (gcx X s1 H1 (x :: fr) (gEnv X scope C code builtinsNs) (gA X.A elt iter x px scope gpos (.ref it) (gEnv X scope C code builtinsNs))) elt te)
    (G0 : ∀ H2, GxR.Tabbed P H1 H2 → G 0 H2) (ok : ∀ i H, i ≤ n → G i H → Ok H)
    (turn : ∀ i y H, i < n → item i y → (∀ j, j < i → bs j = true) → G i H → te (some y :: js.map (NdefX.slotAt σ)) H fun b H' => b = .bl (bs i) ∧ G (i + 1) H')
    (hF : ∀ i H s', i < n → (∀ j, j < i → bs j = true) → bs i = false → G (i + 1) H → Inv X pins σ H s' → R (.bool false) s')
    (hT : ∀ H s', (∀ j, j < n → bs j = true) → G n H → Inv X pins σ H s' → R (.bool true) s') :
    wpAny (model X.prog X.w) X.A (call (.builtin "all") [.ref a]) R X.xe s5 := by
  have b5 : AllBare s5.gens := by
    rw [F6]
    exact I1.bare.push rfl
  have J : Inv X pins σ (upd H1 P (.tbl (ps ++ more))) s5 := by
    have z := GxR.inv_tab (more := more) (h' := s5.heap) (g' := s5.gens) (d' := s5.drawn) (t' := s5.toks) I1 hP F1 F2 b5
    rw [GxR.sh_eta s1 s5 F7] at z
    exact z
  have cp : Caps X (cloFrom X.env.cells scope.names []) fr js := Caps.made I1.ok S.free (fun y hy => PySem.mem_of_lookup (S.fre y hy)) S.at_
  have CA := cells_of J cp
  have hfc : ∀ y ∈ scope.names, y.2 = .free → ∃ c, X.env.cells.lookup y.1 = some c := fun y hy e => (S.free y hy e).elim (fun z => I1.ok.has _ (.inl z)) fun z => I1.ok.has _ (.inr z)
  have nP : ∀ b u, H1 b = some u → (∀ q, u ≠ .tbl q) → b ≠ P := fun b u e q z => by
    rw [z, hP] at e
    exact q ps (Option.some.inj e).symm
  have nN : ∀ b, H1 b = none → b ≠ P := fun b e z => by
    rw [z, hP] at e
    cases e
  have fresh : ∀ b, s1.heap.objs.size ≤ b → upd H1 P (.tbl (ps ++ more)) b = none := fun b hb => by
    have e := I1.hok.fresh hb
    rw [upd_ne (nN b e)]
    exact e
  have nostk : ∀ b, s1.heap.objs.size ≤ b → b ∉ frs X.stack := fun b hb hm => by
    obtain ⟨_, o, ho, _⟩ := I1.stack.mem hm
    exact absurd (Nat.lt_of_lt_of_le (Heap.lt_size ho) hb) (Nat.lt_irrefl _)
  have un : Un (frs X.stack) [] H1 (upd H1 P (.tbl (ps ++ more))) s1.heap s5.heap := by
    refine ⟨fun b o e q _ _ => F1 b o (nN b q) e, fun b o e q _ _ => ⟨o.slots, F1 b o (nN b q) e⟩, fun b o e q _ => by rw [upd_ne (nN b q)]; exact q, fun b o e _ => ?_, fun b xs e => by rw [upd_ne (nP b _ e (fun q z => by cases z))]; exact e,
      fun b o u e => by rw [upd_ne (nP b _ e (fun q z => by cases z))]; exact e, fun b qs e => ?_⟩
    · by_cases hb : b = P
      · rw [hb]
        exact ⟨_, F2⟩
      · exact ⟨o, F1 b o hb e⟩
    · by_cases hb : b = P
      · rw [hb, hP] at e
        cases e
        rw [hb, upd_same]
        exact ⟨more, rfl⟩
      · rw [upd_ne hb, e]
        exact ⟨#[], by simp⟩
  have okG : (gcx X s1 H1 (x :: fr) (gEnv X scope C code builtinsNs) (gA X.A elt iter x px scope gpos (.ref it) (gEnv X scope C code builtinsNs))).Ok := by
    refine ⟨I1.ok.mod, S.kind, I1.ok.glob, rfl, lC, fun y z c e1 e2 => CA.inj y z c e1 e2, fun y hy => ?_, fun y c hf _ => (by cases hf), fun _ => hr.hd, gA_frames I1.ok.frames, .inr ⟨rfl, rfl⟩, fun b hb => absurd (show b ∈ ([] : List Addr) from hb) (by simp), I1.bs,
      Nat.le_trans I1.ok.bsz I1.sz, fun b _ _ hb => absurd (show b ∈ ([] : List Addr) from hb) (by simp), fun b hb => absurd (show b ∈ ([] : List Addr) from hb) (by simp), I1.stack, I1.stkFree⟩
    rcases hy with hy | hy
    · exact absurd rfl (S.cell _ (PySem.mem_of_lookup hy))
    · obtain ⟨c, hc⟩ := hfc _ (PySem.mem_of_lookup hy) rfl
      exact ⟨c, clo_has hfc (PySem.mem_of_lookup hy) hc⟩
  have nocell : ∀ (y : Str) (c : Addr), (cloFrom X.env.cells scope.names []).lookup y = some c → c < s1.heap.objs.size := fun y c e => by
    obtain ⟨v, o, ho, _⟩ := I1.cell y c (clo_cm hfc e)
    exact Heap.lt_size ho
  let T : Told := { Xg := gcx X s1 H1 (x :: fr) (gEnv X scope C code builtinsNs) (gA X.A elt iter x px scope gpos (.ref it) (gEnv X scope C code builtinsNs)), it := it, a := a, og := og, n := n, item := item, Jx := Jx, Ok := Ok, rest := js.map (NdefX.slotAt σ), bs := bs, G := G }
  have good : T.Good elt te x := by
    refine ⟨src _ rfl, rfl, S.loc, S.co, lit, nai.symm, fun y c e z => ?_, rfl, fun _ _ z => z, S.nd, ok, hel, turn⟩
    have l := nocell y c e
    rw [z] at l
    exact absurd (Nat.lt_of_lt_of_le l lit) (Nat.lt_irrefl _)
  have back : ∀ (pp : List (Addr × Obj)) (v : Option V) (H : Hp) (s : Shared), Inv T.Xg pp (v :: T.rest) H s → Inv X pins σ H s := fun pp v H s K => I1.call' (ch := []) K.os K.base K.hok K.bare fun b hb => absurd hb (by simp)
  have at0 : T.At 0 s5 := by
    obtain ⟨m, hm⟩ := F4
    refine ⟨o0, none, upd H1 P (.tbl (ps ++ more)), J0, ⟨okG, F7, b5, un, ⟨m, hm, fun i y v h1 h2 h3 => ?_⟩, fun y c e => (CA.all y c e).2, fresh C lC, fun y c e => (CA.all y c e).1, fun p hp => ?_, J.hok, ?_⟩, G0 _ ⟨⟨ps ++ more, upd_same, ht⟩, fun b hb => upd_ne hb⟩⟩
    · cases i with
      | zero =>
        have h2 : some (none : Option V) = some (some v) := h2
        cases h2
      | succ i =>
        have h1 : fr[i]? = some y := h1
        have h2 : (js.map (NdefX.slotAt σ))[i]? = some (some v) := h2
        obtain ⟨c, hc, hv⟩ := CA.has i y h1
        obtain ⟨u, r, z⟩ := hv v h2
        exact ⟨u, r, .inr ⟨.inr (S.fre y (List.mem_of_getElem? h1)), c, hc, z⟩⟩
    · have hp : p = (it, o0) ∨ p = (a, og) := by simpa [T, gcx] using hp
      rcases hp with rfl | rfl
      · exact ⟨F3, fresh it lit, nCi.symm, nostk it lit, fun v => (src X rfl).nocell 0 o0 v J0⟩
      · obtain ⟨nm, qn, h1, h2, _⟩ := hog
        exact ⟨F5, fresh a la, naC, nostk a la, fun v q => by rw [h2] at q; cases q⟩
    · show (none :: js.map (NdefX.slotAt σ)).length = (x :: fr).length
      have e := congrArg List.length S.at_
      rw [List.length_map, List.length_map] at e
      rw [List.length_cons, List.length_cons, List.length_map, e]
  have isg : ∀ s i, T.At i s → s.heap.IsGen T.a s1.gens.size := fun s i ⟨o, v, H, _, K, _⟩ => by
    obtain ⟨e, _⟩ := K.pin (a, og) (List.mem_append_right _ (List.mem_cons_of_mem _ List.mem_cons_self))
    obtain ⟨nm, qn, h1, h2, h3⟩ := hog
    exact ⟨og, nm, qn, e, h1, h2, h3⟩
  have sl : T.Sleeps X.A s1.gens.size 0 s5 := by
    refine ⟨at0, .fresh (gStart elt iter x px scope gpos (.ref it) (gEnv X scope C code builtinsNs)), by rw [F6]; exact Array.getElem?_push_size .., fun s'' e1 e2 e3 => ?_⟩
    show Resume.send Value.none = Resume.send Value.none ∧ _
    refine ⟨rfl, ?_⟩
    rw [Nat.sub_zero]
    exact seg_first (T := T) good rfl rfl hr.hd s'' s'' (at0.gens e1 e2 e3)
  refine call_function_tree F.kind_all F.plain_all F.entry_all (F.args_all1 _) ?_
  unfold Builtin.«all»
  refine wpAny_bind (m := oneArg "all" _) (wpAny_pure ?_)
  refine wpAny_bind (wpAny_pyIter_gen (isg s5 0 at0) ?_)
  refine wpAny_pure ⟨plainId_quiet F.plain_all_loop _, ?_⟩
  refine all_turns (T := T) good isg hr.hd hr.depth (fun i s' hi hb hbi hat => ?_) (fun s' hb hout => ?_) n 0 s5 (Nat.sub_zero _) (Nat.zero_le _) (fun j hj => absurd hj (Nat.not_lt_zero j)) sl
  · obtain ⟨o, v, H, _, K, hG⟩ := hat
    exact hF i H s' hi hb hbi hG (back _ v H s' K)
  · obtain ⟨v, H, K, hG⟩ := hout
    exact hT H s' hb hG (back _ v H s' K)
end
end GA

set_option Elab.async false
set_option linter.all false
set_option maxRecDepth 100000
set_option maxHeartbeats 2000000
namespace GA
open PySem PySem.Spec PyProof.Rows L2 NdefX
/-- what a walked thing's items ask: n items, item i y; G: the invariant, bs: the answers; E: the element's reading at the captured values -/
def tTurns (P : Addr) (js : List Nat) (te : TE) (n : Nat) (item : Nat → V → Prop) (Ok : Hp → Prop) (σ : L2.St) (H1 : Hp) (Q : VK) : Prop :=
  GxR.TabG H1 P ∧ ∃ (G : Nat → Hp → Prop) (bs : Nat → Bool), (∀ H2, GxR.Tabbed P H1 H2 → G 0 H2) ∧ (∀ i H, i ≤ n → G i H → Ok H) ∧
    (∀ i y H, i < n → item i y → (∀ j, j < i → bs j = true) → G i H → te (some y :: js.map (slotAt σ)) H fun b H' => b = .bl (bs i) ∧ G (i + 1) H') ∧
    (∀ i H, i < n → (∀ j, j < i → bs j = true) → bs i = false → G (i + 1) H → Q (.bl false) H) ∧ (∀ H, (∀ j, j < n → bs j = true) → G n H → Q (.bl true) H)
/-- all(elt for x in t), t a tuple -/
def tAllT (K : PySem.W.Frag) (P : Addr) (js : List Nat) (ti te : TE) : TE := fun σ H Q => ti σ H fun v H1 => ∃ (t : Addr) (xs : List V), v = .ref t ∧ SqT K H1 t xs ∧ tTurns P js te xs.length (fun i y => xs[i]? = some y) (fun H => SqT K H t xs) σ H1 Q
/-- .. a text -/
def tAllZ (P : Addr) (js : List Nat) (ti te : TE) : TE := fun σ H Q => ti σ H fun v H1 => ∃ z : Str, v = .str z ∧ tTurns P js te z.cps.size (fun i y => ∃ c, z.cps[i]? = some c ∧ y = .str ⟨#[c]⟩) (fun _ => True) σ H1 Q
section
variable {X : Cx} {pins : List (Addr × Obj)} {σ : L2.St} {H1 : Hp} {s1 : Shared} {elt iter : Expr} {te ti : TE} {x : Str} {px gpos p pos : Pos} {scope : Scope} {fr : List Str} {js : List Nat} {k : Nat} {c P : Addr} {o0 : Obj}
  {n : Nat} {item : Nat → V → Prop} {Jx : Nat → Obj → Prop} {Ok : Hp → Prop} {Q : VK}
/-- behind the iterator's making -/
theorem all_made (hr : Room k X.A) (TB : GxR.TabB X.base X.mg c P) (hcode : X.env.code = .ref c) (S : GSc X scope x fr js) (I1 : Inv X pins σ H1 s1) (J0 : Jx 0 o0) (hnf : o0.isFreed = false)
    (src : ∀ X' : Cx, X'.K = X.K → Src X' s1.heap.objs.size n item Jx Ok)
    (hel : ∀ (C it : Addr) (code : Value), PE (gcx X s1 H1 (x :: fr) (gEnv X scope C code builtinsNs) (gA X.A elt iter x px scope gpos (.ref it) (gEnv X scope C code builtinsNs))) elt te)
    (q : tTurns P js te n item Ok σ H1 Q) :
    ({ s1 with heap := s1.heap.push o0 } : Shared).heap.NoLimit ∧
    wpAny (model X.prog X.w) X.A (genexprCode X.env gpos (X.env.qual ++ "<genexpr>") scope) (fun code s₃ => wpAny (model X.prog X.w) X.A (builtinsFor X.env.globals X.env.builtins) (fun bi s₄ =>
        ∀ h', h'.Ns s₄.heap.objs.size (fun y => if y = ".0" then some (.ref s1.heap.objs.size) else none) → Heap.SameBut s₄.heap.objs.size (s₄.heap.push { cls := .type "frame", data := .dict #[] }) h' →
          wpAny (model X.prog X.w) X.A (call (.builtin "all") [.ref h'.objs.size]) (EP X pins σ Q) X.xe { s₄ with
            gens := s₄.gens.push (.fresh (gStart elt iter x px scope gpos (.ref s1.heap.objs.size) (genEnv scope (cloFrom X.env.cells scope.names []) s₄.heap.objs.size code bi X.env))),
            toks := s₄.toks + 1 + 1 + 1,
            heap := h'.push { cls := .type "generator", data := .fields #[.int s₄.gens.size 0, .str "<genexpr>" (s₄.toks + 1), .str (X.env.qual ++ "<genexpr>") (s₄.toks + 1 + 1)] } }) X.xe s₃) X.xe { s1 with heap := s1.heap.push o0 } := by
  obtain ⟨⟨ps, hP, ht⟩, G, bs, G0, ok, turn, qF, qT⟩ := q
  have hPs : s1.heap.get? P = some { cls := .none, data := .fields ps } := I1.hok P _ hP
  have hPlt : P < s1.heap.objs.size := Heap.lt_size hPs
  have hP2 : (s1.heap.push o0).get? P = some { cls := .none, data := .fields ps } := Heap.get?_push_of_some _ hPs
  have cd : PySem.W.CodeHd (s1.heap.push o0) c P := TB.code.keeps fun b u e => Heap.get?_push_of_some _ (I1.bk b u e)
  refine ⟨I1.nolimit.push o0, ?_⟩
  have sz2 : (s1.heap.push o0).objs.size = s1.heap.objs.size + 1 := Heap.size_push ..
  have cont : ∀ (code : Value) (h3 : Heap) (tk : Nat) (ps' : Array Value), Heap.ExtBut P (s1.heap.push o0) h3 → (s1.heap.push o0).objs.size ≤ h3.objs.size → h3.get? P = some { cls := .none, data := .fields ps' } → (∃ more, ps' = ps ++ more) → TriplesOk ps'.toList →
      wpAny (model X.prog X.w) X.A (builtinsFor X.env.globals X.env.builtins) (fun bi s₄ =>
        ∀ h', h'.Ns s₄.heap.objs.size (fun y => if y = ".0" then some (.ref s1.heap.objs.size) else none) → Heap.SameBut s₄.heap.objs.size (s₄.heap.push { cls := .type "frame", data := .dict #[] }) h' →
          wpAny (model X.prog X.w) X.A (call (.builtin "all") [.ref h'.objs.size]) (EP X pins σ Q) X.xe { s₄ with
            gens := s₄.gens.push (.fresh (gStart elt iter x px scope gpos (.ref s1.heap.objs.size) (genEnv scope (cloFrom X.env.cells scope.names []) s₄.heap.objs.size code bi X.env))),
            toks := s₄.toks + 1 + 1 + 1,
            heap := h'.push { cls := .type "generator", data := .fields #[.int s₄.gens.size 0, .str "<genexpr>" (s₄.toks + 1), .str (X.env.qual ++ "<genexpr>") (s₄.toks + 1 + 1)] } }) X.xe { s1 with heap := h3, toks := tk } := by
    intro code h3 tk ps' hx hsz hP3 hmore ht3
    obtain ⟨bm, ob, e1, e2, e3, e4, e5, e6, e7, e8⟩ := TB.bm
    have keep3 : ∀ b u, b ≠ P → s1.heap.get? b = some u → h3.get? b = some u := fun b u hb e => hx b u hb (Heap.get?_push_of_some _ e)
    refine wpAny_builtinsFor (m := X.mg) (by rw [I1.ok.glob]; exact ((I1.mod.glob.keeps I1.bk).push o0).extBut hx TB.gP) e1 e2 (keep3 _ _ e4 (I1.bk _ _ e5)) e6 e7 e8 ?_
    intro h' hn' hs'
    have hs' : Heap.SameBut h3.objs.size (h3.push { cls := .type "frame", data := .dict #[] }) h' := hs'
    have hn' : h'.Ns h3.objs.size (fun y => if y = ".0" then some (.ref s1.heap.objs.size) else none) := hn'
    have szh : h'.objs.size = h3.objs.size + 1 := by rw [hs'.1, Heap.size_push]
    have k4 : ∀ b u, b ≠ h3.objs.size → h3.get? b = some u → h'.get? b = some u := fun b u hb e => hs'.extBut b u hb (Heap.get?_push_of_some _ e)
    obtain ⟨more, em⟩ := hmore
    subst em
    have ltC : ∀ b u, h3.get? b = some u → b ≠ h3.objs.size := fun b u e => Nat.ne_of_lt (Heap.lt_size e)
    have hIt : h3.get? s1.heap.objs.size = some o0 := hx _ o0 (Nat.ne_of_gt hPlt) (Heap.get?_push_size _ hnf)
    refine told_ready (n := n) (item := item) (Jx := Jx) (Ok := Ok) (bs := bs) (G := G) (C := h3.objs.size) (it := s1.heap.objs.size) (o0 := o0) (ps := ps) (more := more) (code := code)
      (og := { cls := .type "generator", data := .fields #[.int s1.gens.size 0, .str "<genexpr>" (tk + 1), .str (X.env.qual ++ "<genexpr>") (tk + 1 + 1)] }) hr S I1 hP ?_ ?_ ht3 ?_ J0 (Nat.le_refl _) ?_ ?_ ?_ ?_ ?_ ?_ ?_ ?_ ?_ rfl src (hel _ _ _) G0 ok turn ?_ ?_
    · intro b u hb e
      exact Heap.get?_push_of_some _ (k4 b u (ltC b u (keep3 b u hb e)) (keep3 b u hb e))
    · exact Heap.get?_push_of_some _ (k4 P _ (ltC P _ hP3) hP3)
    · exact Heap.get?_push_of_some _ (k4 _ _ (ltC _ _ hIt) hIt)
    · exact ⟨_, hn'.push _⟩
    · omega
    · intro z
      have z : h3.objs.size = s1.heap.objs.size := z
      omega
    · exact Heap.get?_push_size _ rfl
    · exact ⟨_, _, rfl, rfl, rfl⟩
    · show s1.heap.objs.size ≤ h'.objs.size
      omega
    · intro z
      have z : h'.objs.size = s1.heap.objs.size := z
      omega
    · intro z
      have z : h'.objs.size = h3.objs.size := z
      omega
    · rfl
    · intro i H s' hi hb hbi hG K
      exact ⟨.bl false, H, K, rfl, qF i H hi hb hbi hG⟩
    · intro H s' hb hG K
      exact ⟨.bl true, H, K, rfl, qT H hb hG⟩
  cases hf : codeAmong gpos ps.toList with
  | none =>
    refine wpAny_genexprCodeX hcode (cd.code hP2 ht) (cd.tab hP2) hf fun c' h' tk hx hge hlt hco' _ htab' _ => ?_
    obtain ⟨o1, vs, f1, tf, fl, tg, inF, tx, tt, op, _, _, _, _, _, _, _, _, _, htr, _⟩ := hco'
    exact cont _ h' tk _ hx (Nat.le_trans hge (Nat.le_of_lt hlt)) htab'.2 ⟨_, rfl⟩ htr
  | some cv =>
    refine wpAny_genexprCode_hit hcode (cd.code hP2 ht) hf ?_
    exact cont cv (s1.heap.push o0) s1.toks ps (Heap.ExtBut.refl _ _) (Nat.le_refl _) hP2 ⟨#[], by simp⟩ ht
end
end GA

set_option Elab.async false
set_option linter.all false
set_option maxRecDepth 100000
set_option maxHeartbeats 2000000
namespace GA
open PySem PySem.Spec PyProof.Rows L2 NdefX
/-- the element's context, whatever was made ahead of it -/
abbrev EltAt (X : Cx) (elt iter : Expr) (x : Str) (px : Pos) (scope : Scope) (gpos : Pos) (fr : List Str) (te : TE) : Prop :=
  ∀ (s1 : Shared) (H1 : Hp) (C it : Addr) (code : Value), PE (gcx X s1 H1 (x :: fr) (gEnv X scope C code builtinsNs) (gA X.A elt iter x px scope gpos (.ref it) (gEnv X scope C code builtinsNs))) elt te
section
variable {X : Cx} {elt iter : Expr} {te ti : TE} {x : Str} {px gpos p pos : Pos} {scope : Scope} {fr : List Str} {js : List Nat} {k : Nat} {c P : Addr}
theorem pe_allT (hr : Room k X.A) (hg : Gl X "all") (hm : X.mg "all" = none) (TB : GxR.TabB X.base X.mg c P) (hcode : X.env.code = .ref c) (S : GSc X scope x fr js) (hi : PE X iter ti) (hel : EltAt X elt iter x px scope gpos fr te)
    (hs : ∀ v, genFold iter X.env v = pure v := by intro v; rfl) (hb : bootBuiltins "all" = some (.builtin "all") := by decide +kernel)
    (he : starEach [.GeneratorExp elt [⟨.Name x px, iter, [], 0⟩] scope gpos] X.env = (false, eval (.GeneratorExp elt [⟨.Name x px, iter, [], 0⟩] scope gpos) X.env) :: starEach [] X.env := by rfl) :
    PE X (.Call (.Name "all" p) [.GeneratorExp elt [⟨.Name x px, iter, [], 0⟩] scope gpos] [] pos) (tAllT X.K P js ti te) := by
  refine ⟨fun pins s σ H Q I h => ?_⟩
  have hfc : ∀ y ∈ scope.names, y.2 = .free → ∃ c, X.env.cells.lookup y.1 = some c := fun y hy e => (S.free y hy e).elim (fun z => I.ok.has _ (.inl z)) fun z => I.ok.has _ (.inr z)
  refine wpAny_Call_Name_kw (ld_blt I hg hm hb ?_)
  refine PyProof.Rows.callWith_builtin1 ?_ he (by rfl)
  rw [he]
  show wpAny _ _ (spliced ((false, eval (.GeneratorExp elt [⟨.Name x px, iter, [], 0⟩] scope gpos) X.env) :: backTo pos (starEach [] X.env))) _ _ s
  refine Calls.spliced_cons ?_
  refine wpAny_mono (Q := fun v s5 => wpAny (model X.prog X.w) X.A (call (.builtin "all") [v]) (EP X pins σ Q) X.xe s5) (wpAny_GeneratorExp_make S.co (closure_ok hfc) S.cell S.dot S.kind hr.depth ?_ hs) (fun v s5 h5 => Calls.spliced_nil h5) fun _ _ e => e
  refine thn (hi.run pins s σ H _ I h) fun xv s1 ⟨v, H1, I1, r1, q1⟩ => ?_
  obtain ⟨t, xs, rfl, hS, q⟩ := q1
  obtain rfl : xv = Value.ref t := r1
  obtain ⟨its, rv, htu, _⟩ := I1.tuple hS
  refine wpAny_pyIter_tuple htu ?_
  exact all_made (Jx := Jtup t) hr TB hcode S I1 ⟨rfl, rfl⟩ rfl (fun X' e => e ▸ src_tup) (hel s1 H1) q
theorem pe_allZ (hr : Room k X.A) (hg : Gl X "all") (hm : X.mg "all" = none) (TB : GxR.TabB X.base X.mg c P) (hcode : X.env.code = .ref c) (S : GSc X scope x fr js) (hi : PE X iter ti) (hel : EltAt X elt iter x px scope gpos fr te)
    (hs : ∀ v, genFold iter X.env v = pure v := by intro v; rfl) (hb : bootBuiltins "all" = some (.builtin "all") := by decide +kernel)
    (he : starEach [.GeneratorExp elt [⟨.Name x px, iter, [], 0⟩] scope gpos] X.env = (false, eval (.GeneratorExp elt [⟨.Name x px, iter, [], 0⟩] scope gpos) X.env) :: starEach [] X.env := by rfl) :
    PE X (.Call (.Name "all" p) [.GeneratorExp elt [⟨.Name x px, iter, [], 0⟩] scope gpos] [] pos) (tAllZ P js ti te) := by
  refine ⟨fun pins s σ H Q I h => ?_⟩
  have hfc : ∀ y ∈ scope.names, y.2 = .free → ∃ c, X.env.cells.lookup y.1 = some c := fun y hy e => (S.free y hy e).elim (fun z => I.ok.has _ (.inl z)) fun z => I.ok.has _ (.inr z)
  refine wpAny_Call_Name_kw (ld_blt I hg hm hb ?_)
  refine PyProof.Rows.callWith_builtin1 ?_ he (by rfl)
  rw [he]
  show wpAny _ _ (spliced ((false, eval (.GeneratorExp elt [⟨.Name x px, iter, [], 0⟩] scope gpos) X.env) :: backTo pos (starEach [] X.env))) _ _ s
  refine Calls.spliced_cons ?_
  refine wpAny_mono (Q := fun v s5 => wpAny (model X.prog X.w) X.A (call (.builtin "all") [v]) (EP X pins σ Q) X.xe s5) (wpAny_GeneratorExp_make S.co (closure_ok hfc) S.cell S.dot S.kind hr.depth ?_ hs) (fun v s5 h5 => Calls.spliced_nil h5) fun _ _ e => e
  refine thn (hi.run pins s σ H _ I h) fun xv s1 ⟨v, H1, I1, r1, q1⟩ => ?_
  obtain ⟨z, rfl, q⟩ := q1
  obtain ⟨t, rfl⟩ := (show ∃ t, xv = Value.str z t from r1)
  refine wpAny_pyIter_strU ?_
  exact all_made (Jx := Jstr z t) hr TB hcode S I1 ⟨rfl, rfl⟩ rfl (fun X' e => src_str) (hel s1 H1) q
end
end GA

set_option Elab.async false
set_option linter.all false
set_option maxRecDepth 100000
set_option maxHeartbeats 2000000
/-! A calculus by the text itself: what must hold so that an expression, a test, a list of arguments, a statement, a block runs to what is wanted. The goal bears the text; each rule takes its head off. -/
namespace WW
open PySem PySem.Spec PyProof.Rows L2

def WE (X : Cx) (e : Expr) (σ : L2.St) (H : Hp) (Q : VK) : Prop := ∀ pins s, Inv X pins σ H s → wpAny (model X.prog X.w) X.A (eval e X.env) (EP X pins σ Q) X.xe s
def WT (X : Cx) (e : Expr) (σ : L2.St) (H : Hp) (Q : Bool → Hp → Prop) : Prop := ∀ pins s, Inv X pins σ H s → wpAny (model X.prog X.w) X.A (isTrue e X.env (eval e X.env)) (TP X pins σ Q) X.xe s
def WW' (X : Cx) (e : Expr) (σ : L2.St) (H : Hp) (Q : Bool → Hp → Prop) : Prop := ∀ (whole : Sem Value) pins s, Inv X pins σ H s → wpAny (model X.prog X.w) X.A (isTrue e X.env whole) (TP X pins σ Q) X.xe s
def WA (X : Cx) (es : List Expr) (σ : L2.St) (H : Hp) (Q : List V → Hp → Prop) : Prop := ∀ (pos : Pos) pins s, Inv X pins σ H s → wpAny (model X.prog X.w) X.A (spliced (backTo pos (starEach es X.env))) (AP X pins σ Q) X.xe s
def W1 (X : Cx) (st : Stmt) (D : Ends) (σ : L2.St) (H : Hp) : Prop := ∀ pins s, Inv X pins σ H s → wpAny (model X.prog X.w) X.A (exec st X.env) (SP X pins D) X.xe s
def WS (X : Cx) (st : List Stmt) (D : Ends) (σ : L2.St) (H : Hp) : Prop := ∀ pins s, Inv X pins σ H s → wpAny (model X.prog X.w) X.A (execs st X.env) (SP X pins D) X.xe s
section
variable {X : Cx} {e a b c : Expr} {es : List Expr} {σ : L2.St} {H : Hp} {Q : VK} {QA : List V → Hp → Prop} {QT : Bool → Hp → Prop} {D : Ends} {st : Stmt} {rest : List Stmt} {pos p1 p2 : Pos}
theorem pe : PE X e (WE X e) := ⟨fun pins s σ H Q I h => h pins s I⟩
theorem pt : PT X e (WT X e) := ⟨fun pins s σ H Q I h => h pins s I⟩
theorem pw : PW X e (WW' X e) := ⟨fun whole pins s σ H Q I h => h whole pins s I⟩
theorem pa : PA X es (WA X es) := ⟨fun pos pins s σ H Q I h => h pos pins s I⟩
theorem ps : PS X st (W1 X st) := ⟨fun pins s σ H D I h => h pins s I⟩
theorem pss : PSs X rest (WS X rest) := ⟨fun pins s σ H D I h => h pins s I⟩
theorem we_of {t : TE} (h : PE X e t) (q : t σ H Q) : WE X e σ H Q := fun pins s I => h.run pins s σ H Q I q
theorem wt_of {t : TT} (h : PT X e t) (q : t σ H QT) : WT X e σ H QT := fun pins s I => h.run pins s σ H QT I q
theorem ww_of {t : TT} (h : PW X e t) (q : t σ H QT) : WW' X e σ H QT := fun whole pins s I => h.run whole pins s σ H QT I q
theorem wa_of {t : TA} (h : PA X es t) (q : t σ H QA) : WA X es σ H QA := fun pos pins s I => h.run pos pins s σ H QA I q
theorem w1_of {t : TS} (h : PS X st t) (q : t D σ H) : W1 X st D σ H := fun pins s I => h.run pins s σ H D I q
theorem ws_of {t : TS} (h : PSs X rest t) (q : t D σ H) : WS X rest D σ H := fun pins s I => h.run pins s σ H D I q
theorem we_mono {Q' : VK} (h : WE X e σ H Q) (k : ∀ v H', Q v H' → Q' v H') : WE X e σ H Q' := fun pins s I => thn (h pins s I) fun u s' ⟨v, H', J, r, q⟩ => ⟨v, H', J, r, k v H' q⟩

/-! blocks -/
theorem ws_cons (h : W1 X st { D with nx := fun σ' H' => WS X rest D σ' H' } σ H) : WS X (st :: rest) D σ H := ws_of (pss_cons ps pss) h
theorem ws_one (h : W1 X st D σ H) : WS X [st] D σ H := ws_of (pss_one ps) h
theorem ws_nil (h : D.nx σ H) : WS X [] D σ H := ws_of pss_nil h

/-! names, constants -/
theorem we_var (i : Nat) {x : Str} {v : V} (h : σ[i]? = some (some v)) (q : Q v H) (hN : X.N[i]? = some x := by rfl) (hv : Vis X.env.scope x := by first | exact Or.inl rfl | exact Or.inr (Or.inl rfl) | exact Or.inr (Or.inr rfl)) (hd : (x == ("__debug__" : Str)) = false := by decide)
    (hcd : (x == ("__classdict__" : Str)) = false := by decide) : WE X (.Name x pos) σ H Q := we_of (pe_var hN hv hd hcd) ⟨v, h, q⟩
theorem we_int {i : Int} {j : Nat} (q : Q (.int i) H) : WE X (.Constant (.int i) j pos) σ H Q := we_of pe_int q
theorem we_str {x : Str} {j : Nat} (q : Q (.str x) H) : WE X (.Constant (.str x) j pos) σ H Q := we_of pe_str q
theorem we_bl {b : Bool} {j : Nat} (q : Q (.bl b) H) : WE X (.Constant (.bool b) j pos) σ H Q := we_of pe_bl q
theorem we_non {j : Nat} (q : Q .non H) : WE X (.Constant .none j pos) σ H Q := we_of pe_non q
theorem we_glob {x : Str} {v : V} {u : Value} (hm : X.mg x = some u) (r : RelV v u) (q : Q v H) (hg : Gl X x := by rfl) (hd : (x == ("__debug__" : Str)) = false := by decide) : WE X (.Name x pos) σ H Q := we_of (pe_glob hg hm r hd) q

/-! operators -/
theorem we_bin {op : Operator} {r : R2} (ho : OpR X (binaryOp op) r) (h : WE X a σ H fun x H1 => WE X b σ H1 fun y H2 => r x y H2 Q) : WE X (.BinOp a op b pos) σ H Q := we_of (pe_op ho pe pe) h
theorem we_un {op : UnaryOp} {r : V → Hp → VK → Prop} (ho : UnR X (unaryOp op) r) (h : WE X a σ H fun x H1 => r x H1 Q) : WE X (.UnaryOp op a pos) σ H Q := we_of (pe_un ho pe) h
theorem we_cmp {op : CmpOp} {r : R2} (ho : OpR X (compareOp op) r) (hm : behindInMarks op b = false) (h : WE X a σ H fun x H1 => WE X b σ H1 fun y H2 => r x y H2 Q) : WE X (.Compare a [op] [b] pos) σ H Q := we_of (pe_cmpR ho pe pe hm) h
theorem we_chain {op op' : CmpOp} {r r' : R2} (ho : OpR X (compareOp op) r) (ho' : OpR X (compareOp op') r') (h : WE X a σ H fun x H1 => WE X b σ H1 fun y H2 => r x y H2 fun z H3 => ∃ k, z = .bl k ∧ (if k = true then WE X c σ H3 fun w' H4 => r' y w' H4 Q else Q (.bl false) H3))
    (hm : lastMarks [op, op'] [b, c] = false := by with_unfolding_all rfl) : WE X (.Compare a [op, op'] [b, c] pos) σ H Q := we_of (pe_chain ho ho' pe pe pe hm) h
theorem we_and {r : List Expr} (h : WE X a σ H fun x H1 => ∃ k, x = .bl k ∧ if k = true then WE X (.BoolOp .And (b :: r) pos) σ H1 Q else Q (.bl false) H1) : WE X (.BoolOp .And (a :: b :: r) pos) σ H Q := we_of (pe_and pe pe) h
theorem we_or {r : List Expr} (h : WE X a σ H fun x H1 => ∃ k, x = .bl k ∧ if k = true then Q (.bl true) H1 else WE X (.BoolOp .Or (b :: r) pos) σ H1 Q) : WE X (.BoolOp .Or (a :: b :: r) pos) σ H Q := we_of (pe_or pe pe) h
theorem we_last {op : BoolOp} (h : WE X a σ H Q) : WE X (.BoolOp op [a] pos) σ H Q := we_of (pe_one pe) h
theorem we_not (h : WE X a σ H fun x H1 => ∃ k, x = .bl k ∧ Q (.bl (!k)) H1) : WE X (.UnaryOp .Not a pos) σ H Q := we_of (pe_not pe) h
theorem we_if (h : WT X c σ H fun k H1 => if k = true then WE X a σ H1 Q else WE X b σ H1 Q) : WE X (.IfExp c a b pos) σ H Q := we_of (pe_ifExp pt pe pe) h

/-! tests -/
theorem wt_val (h : WE X e σ H fun x H1 => ∃ k, x = .bl k ∧ QT k H1) (he : ∀ whole, PySem.isTrue e X.env whole = (do let v ← whole; standAt e.pos; holding [v] (truthy v)) := by intro _; rfl) : WT X e σ H QT := wt_of (pt_val pe he) h
theorem wt_tr (h : WE X e σ H fun x H1 => ∃ k, TruV X.K x H1 k ∧ QT k H1) (he : ∀ whole, PySem.isTrue e X.env whole = (do let v ← whole; standAt e.pos; holding [v] (truthy v)) := by intro _; rfl) : WT X e σ H QT := wt_of (pt_truth pe he) h
theorem wt_cmp {op : CmpOp} {r : R2} (ho : OpR X (compareOp op) r) (hm : behindInMarks op b = false) (h : WE X a σ H fun x H1 => WE X b σ H1 fun y H2 => r x y H2 fun z H3 => ∃ k, z = .bl k ∧ QT k H3) : WT X (.Compare a [op] [b] pos) σ H QT := wt_of (pt_cmpR ho pe pe hm) h
theorem wt_not (h : WT X a σ H fun k H1 => QT (!k) H1) : WT X (.UnaryOp .Not a pos) σ H QT := wt_of (pt_not pt) h
theorem wt_ww (h : WW' X e σ H QT) : WT X e σ H QT := fun pins s I => h _ pins s I
theorem ww_and {r : List Expr} (h : WT X a σ H fun k H1 => if k = true then WW' X (.BoolOp .And (b :: r) pos) σ H1 QT else QT false H1) : WW' X (.BoolOp .And (a :: b :: r) pos) σ H QT := ww_of (pw_and pt pw) h
theorem ww_or {r : List Expr} (h : WT X a σ H fun k H1 => if k = true then QT true H1 else WW' X (.BoolOp .Or (b :: r) pos) σ H1 QT) : WW' X (.BoolOp .Or (a :: b :: r) pos) σ H QT := ww_of (pw_or pt pw) h
theorem ww_and1 (h : WT X a σ H QT) : WW' X (.BoolOp .And [a] pos) σ H QT := ww_of (pw_and1 pt) h
theorem ww_or1 (h : WT X a σ H QT) : WW' X (.BoolOp .Or [a] pos) σ H QT := ww_of (pw_or1 pt) h

/-! displays, arguments -/
theorem wa_nil (q : QA [] H) : WA X [] σ H QA := wa_of pa_nil q
theorem wa_cons (h : WE X e σ H fun x H1 => WA X es σ H1 fun xs H2 => QA (x :: xs) H2) (hs : starEach (e :: es) X.env = (false, eval e X.env) :: starEach es X.env := by rfl) : WA X (e :: es) σ H QA := wa_of (pa_cons pe pa hs) h
theorem we_tup {x1} (h : WA X es σ H fun xs H1 => xs.length ≤ sizeLine ∧ ∀ p, H1 p = none → Q (.ref p) (upd H1 p (.tup xs))) : WE X (.Tuple es x1 pos) σ H Q := we_of (pe_tup pa) h
theorem we_lst (h : WA X es σ H fun xs H1 => xs.length ≤ sizeLine ∧ ∀ p, H1 p = none → Q (.ref p) (upd H1 p (.lst xs))) : WE X (.List es pos) σ H Q := we_of (pe_lst pa) h

/-! subscripts, slices, attributes -/
theorem we_ix {r : R2} (hr : IxR X r) (h : WE X a σ H fun x H1 => WE X b σ H1 fun y H2 => r x y H2 Q) (hs : PlainIx b := by exact fun _ _ => rfl) : WE X (.Subscript a b pos) σ H Q := we_of (pe_ix hr pe pe hs) h
theorem we_dget (hu : X.A.units + 1 < cLine) (h : WE X a σ H fun x H1 => WE X b σ H1 fun y H2 => ∃ d v, x = .ref d ∧ DGet H2 d y (some v) ∧ Q v H2) (hs : NoSl b := by exact fun _ _ => rfl) : WE X (.Subscript a b pos) σ H Q := we_of (pe_dget hu pe pe hs) h
theorem we_fld {f : Str} (h : WE X a σ H fun x H1 => ∃ o C dx fs v, x = .ref o ∧ H1 o = some (.ins C dx fs) ∧ Cls X.K C ∧ NoAttr X.K C f ∧ fs.lookup f = some v ∧ Q v H1) (hb : attributeBase a f X.env (eval a X.env) = eval a X.env := by rfl) : WE X (.Attribute a f pos) σ H Q := we_of (pe_fld pe hb) h
theorem we_in (hu : X.A.units + 1 < cLine) (h : WE X a σ H fun y H1 => WE X b σ H1 fun x H2 => ∃ d o, x = .ref d ∧ DGet H2 d y o ∧ Q (.bl o.isSome) H2) (h1 : behindInMarks .In b = false := by rfl) : WE X (.Compare a [.In] [b] pos) σ H Q := we_of (pe_cmp (pc_din hu pe pe) h1) h
theorem wt_in (hu : X.A.units + 1 < cLine) (h : WE X a σ H fun y H1 => WE X b σ H1 fun x H2 => ∃ d o, x = .ref d ∧ DGet H2 d y o ∧ ∃ k, V.bl o.isSome = .bl k ∧ QT k H2) (h1 : behindInMarks .In b = false := by rfl) : WT X (.Compare a [.In] [b] pos) σ H QT := wt_of (pt_cmp (pc_din hu pe pe) h1) h

/-! calls -/
theorem we_call {CX : CXT} {k : Nat} {f : Addr} {fd : FuncData} {ps : List Str} {sp : Sp} {E : XK} {x : Str} (F : FnOk X.prog X.w X.K X.mg X.base CX k f fd ps sp) (hr : Room k X.A) (hm : X.mg x = some (.ref f)) (hk : PySem.W.keepIn X.K (.ref f) = true) (hb : Binds X.K fd ps []) (hx : Passes CX X E)
    (h : WA X (e :: es) σ H fun vs H1 => sp vs H1 Q E) (hg : Gl X x := by rfl) (hdb : (x == ("__debug__" : Str)) = false := by decide) (he : starEach (e :: es) X.env = (false, eval e X.env) :: starEach es X.env := by rfl) (hpl : (backTo pos (starEach es X.env)).any (·.1) = false := by rfl) :
    WE X (.Call (.Name x p1) (e :: es) [] pos) σ H Q := we_of (pe_call F hr hg hm hk hb .nil hx pa hdb he hpl) (fun pos' pins s I => thn (h pos' pins s I) fun us s' ⟨vs, H', J, r, q⟩ => ⟨vs, H', J, r, by show sp (vs ++ []) H' Q E; rw [List.append_nil]; exact q⟩)
theorem we_callB {id : String} {r : List V → Hp → VK → Prop} {x : Str} (hc : CallR X (.builtin id) r) (hm : X.mg x = none) (hv : bootBuiltins x = some (.builtin id)) (h : WA X (e :: es) σ H fun vs H1 => r vs H1 Q) (hg : Gl X x := by rfl) (hn : x ≠ "__name__" := by decide) (hdb : (x == ("__debug__" : Str)) = false := by decide)
    (he : starEach (e :: es) X.env = (false, eval e X.env) :: starEach es X.env := by rfl) (hpl : (backTo pos (starEach es X.env)).any (·.1) = false := by rfl) : WE X (.Call (.Name x p1) (e :: es) [] pos) σ H Q := we_of (pe_callB hc hg hm hv pa hn hdb he hpl) h
theorem we_callTy {T : String} {r : List V → Hp → VK → Prop} {x : Str} (hc : CallR X (.type T) r) (hm : X.mg x = none) (hv : bootBuiltins x = some (.type T)) (h : WA X (e :: es) σ H fun vs H1 => r vs H1 Q) (hg : Gl X x := by rfl) (hn : x ≠ "__name__" := by decide) (hdb : (x == ("__debug__" : Str)) = false := by decide)
    (he : starEach (e :: es) X.env = (false, eval e X.env) :: starEach es X.env := by rfl) (hpl : (backTo pos (starEach es X.env)).any (·.1) = false := by rfl) : WE X (.Call (.Name x p1) (e :: es) [] pos) σ H Q := we_of (pe_callTy hc hg hm hv pa hn hdb he hpl) h

/-! statements -/
theorem w_set (i : Nat) {x : Str} (h : WE X e σ H fun v H1 => D.nx (σ.set i (some v)) H1) (hN : X.N.Nodup) (hi : X.N[i]? = some x := by rfl) (hx : Loc X.env.scope x := by first | exact Or.inl rfl | exact Or.inr rfl) (hs : swapsWith e (some (.Name x p1)) pos.line X.env = pure false := by rfl)
    (hf : X.fn x = true ∨ X.env.scope.names.lookup x = some .local := by first | exact .inl rfl | exact .inr rfl | assumption) : W1 X (.Assign [.Name x p1] e pos) D σ H := w1_of (ps_set hN hi hx pe hs hf) h
theorem w_ret (h : WE X e σ H D.rt) : W1 X (.Return (some e) pos) D σ H := w1_of (ps_ret pe) h
theorem w_retN (h : D.rt .non H) : W1 X (.Return none pos) D σ H := w1_of ps_retN h
theorem w_expr (h : WE X e σ H fun _ H1 => D.nx σ H1) (hs : swapsWith e none pos.line X.env = pure false := by rfl) : W1 X (.Expr e pos) D σ H := w1_of (ps_expr pe hs) h
theorem w_if {th el : List Stmt} (h : WT X c σ H fun b H1 => if b = true then WS X th D σ H1 else WS X el D σ H1) : W1 X (.If c th el pos) D σ H := w1_of (ps_if pt pss pss) h
theorem w_pass (h : D.nx σ H) : W1 X (.Pass pos) D σ H := w1_of ps_pass h
theorem w_break (h : D.bk σ H) : W1 X (.Break pos) D σ H := w1_of ps_break h
theorem w_cont (h : D.ct σ H) : W1 X (.Continue pos) D σ H := w1_of ps_continue h
/-- o[i] = e, a list -/
theorem w_setL (h : WE X e σ H fun v H1 => WE X a σ H1 fun x H2 => WE X b σ H2 fun y H3 => ∃ p xs k j, x = .ref p ∧ y = .int k ∧ H3 p = some (.lst xs) ∧ ixN xs.length k = some j ∧ D.nx σ (upd H3 p (.lst (xs.set j v))))
    (hg : PG X (.Subscript a b p1) (gSub (WE X a) (WE X b) rSetL) := by exact pg_sub pe pe set_list) (hs : swapsWithSole [.Subscript a b p1] e pos.line X.env = pure false := by rfl) (hw : swappedStores [.Subscript a b p1] e X.env = pure none := by rfl)
    (h1 : (assignEach [.Subscript a b p1] X.env).map (·.2) = [assign (.Subscript a b p1) X.env] := by rfl) : W1 X (.Assign [.Subscript a b p1] e pos) D σ H := w1_of (ps_asg pe hg hs hw h1) h
/-- d[i] = e, a dict -/
theorem w_setD (hu : X.A.units + 1 < cLine) (h : WE X e σ H fun v H1 => WE X a σ H1 fun x H2 => WE X b σ H2 fun y H3 => ∃ d H4, x = .ref d ∧ DPut H3 d y v H4 ∧ D.nx σ H4) (hs : swapsWith e (some (.Subscript a b p1)) pos.line X.env = pure false := by rfl) :
    W1 X (.Assign [.Subscript a b p1] e pos) D σ H := w1_of (ps_dput hu pe pe pe hs) h
end
end WW

set_option Elab.async false
set_option linter.all false
set_option maxRecDepth 100000
set_option maxHeartbeats 2000000
/-! defs by their names; heaps that grow -/
namespace WW
open PySem PySem.Spec PyProof.Rows L2

/-- the def of the module's name x keeps the promise sp -/
structure Fk (P : Program) (w : World) (K : PySem.W.Frag) (mg : Str → Option Value) (base : Heap) (k : Nat) (x : Str) (ps : List Str) (sp : Sp) : Prop where
  ok : ∃ fd, FnOk P w K mg base CX0 k (He.ga K x) fd ps sp ∧ L2.Binds K fd ps []
  kp : PySem.W.keepIn K (.ref (He.ga K x)) = true
  at_ : mg x = some (.ref (He.ga K x))
theorem Fk.mono {P : Program} {w : World} {K : PySem.W.Frag} {mg : Str → Option Value} {base : Heap} {j k : Nat} {x : Str} {ps : List Str} {sp : Sp} (F : Fk P w K mg base j x ps sp) (h : j ≤ k) : Fk P w K mg base k x ps sp :=
  ⟨let ⟨fd, a, b⟩ := F.ok; ⟨fd, a.mono h, b⟩, F.kp, F.at_⟩
theorem Fk.imp {P : Program} {w : World} {K : PySem.W.Frag} {mg : Str → Option Value} {base : Heap} {k : Nat} {x : Str} {ps : List Str} {sp sp' : Sp} (F : Fk P w K mg base k x ps sp) (h : ∀ vs H Q E, sp' vs H Q E → sp vs H Q E) : Fk P w K mg base k x ps sp' :=
  ⟨let ⟨fd, a, b⟩ := F.ok; ⟨fd, a.imp h, b⟩, F.kp, F.at_⟩
section
variable {X : Cx} {e a b c : Expr} {es : List Expr} {σ : L2.St} {H : Hp} {Q : VK} {QA : List V → Hp → Prop} {QT : Bool → Hp → Prop} {D : Ends} {st : Stmt} {rest : List Stmt} {pos p1 p2 : Pos}
theorem we_f {k j : Nat} {x : Str} {ps : List Str} {sp : Sp} (F : Fk X.prog X.w X.K X.mg X.base k x ps sp) (hr : Room j X.A) (h : WA X (e :: es) σ H fun vs H1 => sp vs H1 Q E0) (hkj : k ≤ j := by decide) (hg : Gl X x := by rfl) (hdb : (x == ("__debug__" : Str)) = false := by decide)
    (he : starEach (e :: es) X.env = (false, eval e X.env) :: starEach es X.env := by rfl) (hpl : (backTo pos (starEach es X.env)).any (·.1) = false := by rfl) : WE X (.Call (.Name x p1) (e :: es) [] pos) σ H Q := by
  obtain ⟨fd, G, hb⟩ := F.ok
  exact we_call G (hr.mono hkj) F.at_ F.kp hb pass0 h hg hdb he hpl
end
/-- the running def's context -/
abbrev cx (P : Program) (w : World) (K : PySem.W.Frag) (mg : Str → Option Value) (base : Heap) (N : List Str) (qual : Str) (scope : Scope) (f c : Addr) (A : Around) (outer : List Env) (s : Shared) (H : Hp) (E : XK) : Cx :=
  (cxOf CX0 P w K mg base N qual scope f (.ref c) A outer s H E).nox
/-- THE RULE of a def -/
theorem def_ok {P : Program} {w : World} {K : PySem.W.Frag} {mg : Str → Option Value} {base : Heap} {d : He.DefD} {x : Str} {N ps : List Str} {k : Nat} {sp : Sp}
    (F : ∃ fd, FunD K d.name d.qual d.params d.body d.scope [] [] (He.fAd K d.at_) fd) (hat : d.at_ = (x, none)) (hm : mg x = some (.ref (He.ga K x))) (S : FnScope N ps d.scope)
    (hb : ∀ (kV doc pm : Value) (an : Option Addr) (cdv ct : Value) (us : List Value), us.length = ps.length → bindArgs (PySem.W.fnOf d.name d.qual d.params d.body d.scope .none kV doc pm an cdv ct) ⟨us, []⟩ = pure (ps.zip us))
    (len : ∀ vs H Q E, sp vs H Q E → vs.length = ps.length)
    (body : ∀ (A : Around) (outer : List Env) (s : Shared) (H : Hp) (vs : List V) (Q : VK) (E : XK), Room k (A.deeper (envOfC d.qual d.scope s.heap.objs.size (He.ga K x) (.ref (He.codeOf K d.at_)))) → sp vs H Q E →
      WS (cx P w K mg base N d.qual d.scope (He.ga K x) (He.codeOf K d.at_) A outer s H E) d.body { nx := fun _ H' => Q .non H', rt := Q } (start N vs) H) : Fk P w K mg base (k + 1) x ps sp := by
  obtain ⟨fd, G⟩ := F
  have hbn := G.bindsN (ps := ps) hb
  have hkp := G.kp
  obtain ⟨oc, od, dV, kV, doc, pm, an, cdv, ct, osl, hfd, lk, hcd, _, _⟩ := G.ex
  obtain ⟨c, hc⟩ := He.codeIn_ref hcd
  subst hc
  have ec : He.codeOf K d.at_ = c := He.codeOf_eq lk (by rw [hfd] <;> rfl)
  subst hfd
  have ef : He.fAd K d.at_ = He.ga K x := by rw [hat] <;> rfl
  rw [ef] at lk hkp
  refine ⟨⟨_, fn_of lk hcd S len fun A outer s H vs Q E hr hsp => ?_, hbn⟩, hkp, hm⟩
  rw [ec] at body
  exact ⟨_, PSs.nox pss, body A outer s H vs Q E hr hsp⟩

/-! heaps: all that was tracked stays, but for tables (those at ts stay tables) and what m names -/
def nt : HO → Bool
  | .tbl _ => false
  | _ => true
def Tbs (ts : List Addr) (H : Hp) : Prop := ∀ p ∈ ts, GxR.TabG H p
structure Fr (ts : List Addr) (m : Addr → Prop) (H H' : Hp) : Prop where
  kp : ∀ a o, H a = some o → ¬ m a → nt o = true → H' a = some o
  tb : Tbs ts H → Tbs ts H'
abbrev Nil : Addr → Prop := fun _ => False
theorem Fr.refl {ts : List Addr} {m : Addr → Prop} (H : Hp) : Fr ts m H H := ⟨fun _ _ h _ _ => h, fun h => h⟩
theorem Fr.trans {ts : List Addr} {m : Addr → Prop} {H H1 H2 : Hp} (a : Fr ts m H H1) (b : Fr ts m H1 H2) : Fr ts m H H2 := ⟨fun x o h hm ht => b.kp x o (a.kp x o h hm ht) hm ht, fun h => b.tb (a.tb h)⟩
theorem Fr.mono {ts : List Addr} {m m' : Addr → Prop} {H H1 : Hp} (a : Fr ts m H H1) (h : ∀ x, m x → m' x) : Fr ts m' H H1 := ⟨fun x o e hm ht => a.kp x o e (fun z => hm (h x z)) ht, a.tb⟩
theorem Tbs.upd {ts : List Addr} {H : Hp} {p : Addr} {o : HO} (h : Tbs ts H) (hp : ∀ ps, H p ≠ some (.tbl ps)) : Tbs ts (upd H p o) := fun q hq => by
  obtain ⟨ps, e, t⟩ := h q hq
  have ne : q ≠ p := fun z => by
    rw [z] at e
    exact hp ps e
  exact ⟨ps, by rw [upd_ne ne]; exact e, t⟩
/-- a new object -/
theorem Fr.new {ts : List Addr} {m : Addr → Prop} {H : Hp} {p : Addr} {o : HO} (hp : H p = none) : Fr ts m H (upd H p o) := ⟨fun a u e _ _ => by rw [upd_ne (ne_of_none e hp)]; exact e, fun h => h.upd fun ps z => by rw [hp] at z; cases z⟩
/-- an object of m's is written; it is no table -/
theorem Fr.write {ts : List Addr} {m : Addr → Prop} {H : Hp} {p : Addr} {o u : HO} (hm : m p) (e : H p = some u) (hu : nt u = true) : Fr ts m H (upd H p o) := by
  refine ⟨fun a v ea na _ => ?_, fun h => h.upd fun ps z => ?_⟩
  · have ne : a ≠ p := fun z => na (by rw [z]; exact hm)
    rw [upd_ne ne]
    exact ea
  · rw [e] at z
    cases z
    cases hu
/-- what was new to H may change -/
theorem Fr.mut {ts : List Addr} {m : Addr → Prop} {H H' : Hp} {p : Addr} {o u : HO} (f : Fr ts m H H') (hp : H p = none) (e : H' p = some u) (hu : nt u = true) : Fr ts m H (upd H' p o) := by
  refine ⟨fun a v ea na hv => ?_, fun h => (f.tb h).upd fun ps z => ?_⟩
  · rw [upd_ne (ne_of_none ea hp)]
    exact f.kp a v ea na hv
  · rw [e] at z
    cases z
    cases hu
theorem Fr.free {ts : List Addr} {H H' : Hp} (f : Fr ts Nil H H') {p : Addr} (hp : H' p = none) (ht : ∀ ps, H p ≠ some (.tbl ps)) : H p = none := by
  cases q : H p with
  | none => rfl
  | some o =>
    cases hn : nt o with
    | true =>
      rw [f.kp p o q (fun z => z) hn] at hp
      cases hp
    | false =>
      cases o with
      | tbl ps => exact absurd q (ht ps)
      | _ => cases hn
end WW

set_option Elab.async false
set_option linter.all false
set_option maxRecDepth 100000
set_option maxHeartbeats 2000000
/-! loops and comprehensions by the text -/
namespace WW
open PySem PySem.Spec PyProof.Rows L2

section
variable {X : Cx} {e a b c elt tg iter : Expr} {es ifs : List Expr} {σ : L2.St} {H : Hp} {Q : VK} {D : Ends} {st : Stmt} {body rest : List Stmt} {pos p1 p2 : Pos} {wi : TI} {g : TG}
theorem w_while (h : tWhile (WT X c) (WS X body) D σ H) (hp : PassesOwn (model X.prog X.w) X.A X.env X.xe := by exact PassesOwn.never) : W1 X (.While c body [] pos) D σ H := w1_of (ps_while hp pt pss) h
/-- the turns of a for, kept as they are -/
def ForT (J : It) (H1 : Hp) (σ : L2.St) (g : TG) (tb : TS) (D : Ends) : Prop := ∃ W : Nat → Nat → L2.St → Hp → Prop, (∃ m, W 0 m σ H1) ∧ ∀ i m σ H, W i m σ H →
  (J.stop i H ∧ D.nx σ H) ∨ (J.go i H ∧ ∃ N : L2.St → Hp → Prop, (∀ σ' H', N σ' H' → ∃ m', m' < m ∧ W (i + 1) m' σ' H') ∧ ∀ x H', J.yld i H x H' → g x σ H' fun σ2 H2 => tb { D with nx := N, ct := N, bk := D.nx } σ2 H2)
theorem w_for (hi : PI X tg iter wi) (hg : PG X tg g) (hc : X.calm = true) (h : wi σ H fun J H1 => ForT J H1 σ g (WS X body) D) (hs : ∀ x, foldedSetIterable iter X.env x = pure x := by intro _; rfl) (hp : PassesOwn (model X.prog X.w) X.A X.env X.xe := by exact PassesOwn.never) :
    W1 X (.For tg iter body [] pos) D σ H := w1_of (ps_for hp hc hi hg pss hs) h
/-- n turns, an invariant at each -/
theorem for_by {J : It} {H1 : Hp} {tb : TS} (n : Nat) (Iv : Nat → L2.St → Hp → Prop) (h0 : Iv 0 σ H1) (hstop : ∀ σ H, Iv n σ H → J.stop n H ∧ D.nx σ H)
    (hgo : ∀ i σ H, i < n → Iv i σ H → J.go i H ∧ ∀ x H', J.yld i H x H' → g x σ H' fun σ2 H2 => tb { D with nx := Iv (i + 1), ct := Iv (i + 1), bk := D.nx } σ2 H2) :
    ForT J H1 σ g tb D := by
  refine ⟨fun i m σ H => i + m = n ∧ Iv i σ H, ⟨n, by omega, h0⟩, fun i m σ H ⟨e, w⟩ => ?_⟩
  by_cases hm : m = 0
  · subst hm
    have e' : i = n := by omega
    subst e'
    exact .inl (hstop σ H w)
  · obtain ⟨g1, g2⟩ := hgo i σ H (by omega) w
    exact .inr ⟨g1, Iv (i + 1), fun σ' H' q => ⟨m - 1, by omega, by omega, q⟩, g2⟩
/-- a comprehension's element, its test, in whatever context -/
def EB (X : Cx) (scope : Scope) (elt : Expr) : TE := fun σ H Q => ∀ (s : Shared) (H0 : Hp) (C : Addr) (cl : List (Str × Addr)) (fp : List Addr), WE (X.blk s H0 scope (compEnvC scope cl C X.env) fp) elt σ H Q
def TB (X : Cx) (scope : Scope) (c : Expr) : TT := fun σ H Q => ∀ (s : Shared) (H0 : Hp) (C : Addr) (cl : List (Str × Addr)) (fp : List Addr), WT (X.blk s H0 scope (compEnvC scope cl C X.env) fp) c σ H Q
theorem eb {scope : Scope} : ∀ (s : Shared) (H : Hp) (C : Addr) (cl : List (Str × Addr)) (fp : List Addr), PE (X.blk s H scope (compEnvC scope cl C X.env) fp) elt (EB X scope elt) :=
  fun s H0 C cl fp => ⟨fun pins s' σ H Q I h => h s H0 C cl fp pins s' I⟩
theorem tb {scope : Scope} : ∀ (s : Shared) (H : Hp) (C : Addr) (cl : List (Str × Addr)) (fp : List Addr), PTs (X.blk s H scope (compEnvC scope cl C X.env) fp) [c] (TB X scope c) :=
  fun s H0 C cl fp => pts_one ⟨fun pins s' σ H Q I h => h s H0 C cl fp pins s' I⟩
def LcT (J : It) (H1 : Hp) (σ : L2.St) (g : TG) (tt : TT) (te : TE) (vs : List Nat) (Q : VK) : Prop := ∀ D, H1 D = none → ∃ W : Nat → Nat → Hp → Prop, (∃ m, W 0 m (upd H1 D (.lst []))) ∧ ∀ i m H, W i m H →
  (J.stop i H ∧ Q (.ref D) H) ∨ (J.go i H ∧ ∃ Nx : Hp → Prop, (∀ H', Nx H' → ∃ m', m' < m ∧ W (i + 1) m' H') ∧ ∀ x H', J.yld i H x H' → g x (wipe σ vs) H' fun σ2 H2 => wipe σ2 vs = wipe σ vs ∧ tt σ2 H2 fun b H3 =>
    if b = true then te σ2 H3 fun y H4 => ∃ acc, H4 D = some (.lst acc) ∧ acc.length < sizeLine ∧ Nx (upd H4 D (.lst (acc ++ [y]))) else Nx H3)
def tLcT (wi : TI) (g : TG) (tt : TT) (te : TE) (vs : List Nat) : TE := fun σ H Q => wi σ H fun J H1 => LcT J H1 σ g tt te vs Q
theorem pe_lcT {scope : Scope} {own : List (Str × Nat)} {tt : TT} {te : TE} (hc : X.calm = true) (hN : X.N.Nodup) (hi : PI X tg iter wi) (ok : BlkOk X.N X.env.scope scope own)
    (hg : ∀ (s : Shared) (H : Hp) (C : Addr) (cl : List (Str × Addr)) (fp : List Addr), PG (X.blk s H scope (compEnvC scope cl C X.env) fp) tg g) (ht : ∀ (s : Shared) (H : Hp) (C : Addr) (cl : List (Str × Addr)) (fp : List Addr), PTs (X.blk s H scope (compEnvC scope cl C X.env) fp) ifs tt)
    (he : ∀ (s : Shared) (H : Hp) (C : Addr) (cl : List (Str × Addr)) (fp : List Addr), PE (X.blk s H scope (compEnvC scope cl C X.env) fp) elt te) (hs : ∀ x, foldedSetIterable iter X.env x = pure x := by intro _; rfl) :
    PE X (.ListComp elt [⟨tg, iter, ifs, 0⟩] scope pos) (tLcT wi g tt te (own.map (·.2))) := pe_lc hc hN hi ok hg ht he hs
def tSetLc (i : Nat) (wi : TI) (g : TG) (tt : TT) (te : TE) (vs : List Nat) : TS := fun D σ H => tLcT wi g tt te vs σ H fun v H1 => D.nx (σ.set i (some v)) H1
theorem ps_setLcT {i : Nat} {y : Str} {py : Pos} {scope : Scope} {own : List (Str × Nat)} {tt : TT} {te : TE} {spos : Pos} (hc : X.calm = true) (hN : X.N.Nodup) (hy : X.N[i]? = some y) (hyl : X.env.scope.names.lookup y = some .local)
    (hsw : swapsWith (.ListComp elt [⟨tg, iter, ifs, 0⟩] scope pos) (some (.Name y py)) spos.line X.env = pure true) (hi : PI X tg iter wi) (ok : BlkOk X.N X.env.scope scope own)
    (hg : ∀ (s : Shared) (H : Hp) (C : Addr) (cl : List (Str × Addr)) (fp : List Addr), PG (X.blk s H scope (compEnvC scope cl C X.env) fp) tg g) (ht : ∀ (s : Shared) (H : Hp) (C : Addr) (cl : List (Str × Addr)) (fp : List Addr), PTs (X.blk s H scope (compEnvC scope cl C X.env) fp) ifs tt)
    (he : ∀ (s : Shared) (H : Hp) (C : Addr) (cl : List (Str × Addr)) (fp : List Addr), PE (X.blk s H scope (compEnvC scope cl C X.env) fp) elt te) (hs : ∀ x, foldedSetIterable iter X.env x = pure x := by intro _; rfl) :
    PS X (.Assign [.Name y py] (.ListComp elt [⟨tg, iter, ifs, 0⟩] scope pos) spos) (tSetLc i wi g tt te (own.map (·.2))) := ps_setLc hc hN hy hyl hsw hi ok hg ht he hs
/-- the turns of a list's comprehension: nothing that was is changed; I speaks of tuples alone -/
theorem lc_by {J : It} {H1 : Hp} {tt : TT} {te : TE} {vs : List Nat} {g : TG} {Q : VK} {σ : L2.St} (ts : List Addr) (n : Nat) (hn : n ≤ 1000) (I : Addr → Nat → List V → Hp → Prop) (h0 : ∀ D H, H1 D = none → Fr ts Nil H1 H → I D 0 [] H)
    (hI : ∀ D i acc zs H H', H D = some (.lst zs) → (∀ a o, a ≠ D → H a = some o → H' a = some o) → I D i acc H → I D i acc H')
    (hstop : ∀ D acc H, H1 D = none → Fr ts Nil H1 H → I D n acc H → H D = some (.lst acc) → J.stop n H ∧ Q (.ref D) H)
    (hgo : ∀ D i acc H, i < n → H1 D = none → H D = some (.lst acc) → Fr ts Nil H1 H → I D i acc H → J.go i H ∧ ∀ x H', J.yld i H x H' → g x (wipe σ vs) H' fun σ2 H2 => wipe σ2 vs = wipe σ vs ∧ tt σ2 H2 fun b H3 =>
      if b = true then te σ2 H3 fun y H4 => Fr ts Nil H H4 ∧ I D (i + 1) (acc ++ [y]) H4 else Fr ts Nil H H3 ∧ I D (i + 1) acc H3)
    (mg : ∀ x τ H Q Q', (∀ σ H, Q σ H → Q' σ H) → g x τ H Q → g x τ H Q') (mt : ∀ τ H Q Q', (∀ b H, Q b H → Q' b H) → tt τ H Q → tt τ H Q') (me : ∀ τ H Q Q', (∀ v H, Q v H → Q' v H) → te τ H Q → te τ H Q') :
    LcT J H1 σ g tt te vs Q := by
  intro D hD
  have hz : 1000 < sizeLine := by decide
  refine ⟨fun i m H => i + m = n ∧ ∃ acc, I D i acc H ∧ H D = some (.lst acc) ∧ Fr ts Nil H1 H ∧ acc.length ≤ i, ⟨n, by omega, [], h0 _ _ hD (Fr.new hD), upd_same, Fr.new hD, Nat.le_refl _⟩, fun i m H ⟨e, acc, hi, hd, f, hl⟩ => ?_⟩
  by_cases hm : m = 0
  · subst hm
    have e' : i = n := by omega
    subst e'
    exact .inl (hstop D acc H hD f hi hd)
  · obtain ⟨g1, g2⟩ := hgo D i acc H (by omega) hD hd f hi
    refine .inr ⟨g1, fun H' => ∃ acc, I D (i + 1) acc H' ∧ H' D = some (.lst acc) ∧ Fr ts Nil H1 H' ∧ acc.length ≤ i + 1, fun H' q => ⟨m - 1, by omega, by omega, q⟩, fun x H' hy => ?_⟩
    refine mg _ _ _ _ _ (fun σ2 H2 ⟨q1, q2⟩ => ⟨q1, ?_⟩) (g2 x H' hy)
    refine mt _ _ _ _ (fun b H3 q3 => ?_) q2
    cases b with
    | true =>
      refine me _ _ _ _ (fun y H4 ⟨f4, i4⟩ => ?_) q3
      have d4 : H4 D = some (.lst acc) := f4.kp D _ hd (fun z => z) rfl
      refine ⟨acc, d4, by omega, acc ++ [y], hI _ _ _ _ _ _ d4 (fun a o ne ea => by rw [upd_ne ne]; exact ea) i4, upd_same, (f.trans f4).mut hD d4 rfl, ?_⟩
      · rw [List.length_append]
        exact Nat.succ_le_succ hl
    | false =>
      obtain ⟨f3, i3⟩ := q3
      exact ⟨acc, i3, f3.kp D _ hd (fun z => z) rfl, f.trans f3, Nat.le_succ_of_le hl⟩
theorem eb_mono {scope : Scope} : ∀ τ H Q Q', (∀ v H, Q v H → Q' v H) → EB X scope elt τ H Q → EB X scope elt τ H Q' := fun τ H Q Q' k h s H0 C cl fp => we_mono (h s H0 C cl fp) k
theorem wt_mono {Q Q' : Bool → Hp → Prop} (h : WT X c σ H Q) (k : ∀ v H', Q v H' → Q' v H') : WT X c σ H Q' := fun pins s I => thn (h pins s I) fun u s' ⟨H', J, q⟩ => ⟨H', J, k u H' q⟩
theorem tb_mono {scope : Scope} : ∀ τ H Q Q', (∀ b H, Q b H → Q' b H) → TB X scope c τ H Q → TB X scope c τ H Q' := fun τ H Q Q' k h s H0 C cl fp => wt_mono (h s H0 C cl fp) k
theorem yes_mono : ∀ τ H (Q Q' : Bool → Hp → Prop), (∀ b H, Q b H → Q' b H) → tYes τ H Q → tYes τ H Q' := fun τ H Q Q' k h => k _ _ h
theorem gn_mono {i : Nat} : ∀ x τ H (Q Q' : L2.St → Hp → Prop), (∀ σ H, Q σ H → Q' σ H) → gName i x τ H Q → gName i x τ H Q' := fun x τ H Q Q' k h => k _ _ h
theorem gt2_mono {K : PySem.W.Frag} {i j : Nat} : ∀ x τ H (Q Q' : L2.St → Hp → Prop), (∀ σ H, Q σ H → Q' σ H) → gTup K 2 (gCons (gName i) (gCons (gName j) gNil)) x τ H Q → gTup K 2 (gCons (gName i) (gCons (gName j) gNil)) x τ H Q' :=
  fun x τ H Q Q' k ⟨a, xs, h1, h2, h3, v, r, h4, v', r', h5, h6, h7⟩ => ⟨a, xs, h1, h2, h3, v, r, h4, v', r', h5, h6, k _ _ h7⟩
end
end WW

set_option Elab.async false
set_option linter.all false
set_option maxRecDepth 100000
set_option maxHeartbeats 2000000
/-! several names at once -/
namespace WW
open PySem PySem.Spec PyProof.Rows L2
section
variable {X : Cx} {e a b c : Expr} {es : List Expr} {σ : L2.St} {H : Hp} {Q : VK} {D : Ends} {pos p1 p2 p3 p4 p5 : Pos} {kt : Nat}
theorem w_un2 (i j : Nat) {x y : Str} (h : WE X e σ H fun v H1 => ∃ a u1 u2, v = .ref a ∧ SqT X.K H1 a [u1, u2] ∧ D.nx ((σ.set i (some u1)).set j (some u2)) H1) (hc : X.calm = true) (hN : X.N.Nodup) (hi0 : X.N[i]? = some x := by rfl) (hi1 : X.N[j]? = some y := by rfl)
    (hx0 : Loc X.env.scope x := by first | exact Or.inl rfl | exact Or.inr rfl)
    (hx1 : Loc X.env.scope y := by first | exact Or.inl rfl | exact Or.inr rfl)
    (hs : swapsWithSole [.Tuple [.Name x p1, .Name y p2] kt p5] e pos.line X.env = pure false := by rfl) (hw : swappedStores [.Tuple [.Name x p1, .Name y p2] kt p5] e X.env = pure none := by rfl) (h1 : (assignEach [.Tuple [.Name x p1, .Name y p2] kt p5] X.env).map (·.2) = [assign (.Tuple [.Name x p1, .Name y p2] kt p5) X.env] := by rfl)
    (f0 : X.fn x = true ∨ X.env.scope.names.lookup x = some .local := by first | exact .inl rfl | exact .inr rfl)
    (f1 : X.fn y = true ∨ X.env.scope.names.lookup y = some .local := by first | exact .inl rfl | exact .inr rfl)
    (hn : (assignEach [.Name x p1, .Name y p2] X.env).length = 2 := by rfl) (hst : (assignEach [.Name x p1, .Name y p2] X.env).findIdx? (·.1) = none := by rfl) :
    W1 X (.Assign [.Tuple [.Name x p1, .Name y p2] kt p5] e pos) D σ H :=
  w1_of (ps_asg pe (pg_tup hc (pgs_cons (pg_name hN hi0 hx0 f0) (pgs_cons (pg_name hN hi1 hx1 f1) pgs_nil)) hn hst) hs hw h1) (we_mono h fun v H' ⟨a, u1, u2, hv, hq, k⟩ => ⟨a, _, hv, hq, rfl, _, _, rfl, _, _, rfl,  rfl, k⟩)
theorem w_un3 (i j l : Nat) {x y z : Str} (h : WE X e σ H fun v H1 => ∃ a u1 u2 u3, v = .ref a ∧ SqT X.K H1 a [u1, u2, u3] ∧ D.nx (((σ.set i (some u1)).set j (some u2)).set l (some u3)) H1) (hc : X.calm = true) (hN : X.N.Nodup) (hi0 : X.N[i]? = some x := by rfl) (hi1 : X.N[j]? = some y := by rfl) (hi2 : X.N[l]? = some z := by rfl)
    (hx0 : Loc X.env.scope x := by first | exact Or.inl rfl | exact Or.inr rfl)
    (hx1 : Loc X.env.scope y := by first | exact Or.inl rfl | exact Or.inr rfl)
    (hx2 : Loc X.env.scope z := by first | exact Or.inl rfl | exact Or.inr rfl)
    (hs : swapsWithSole [.Tuple [.Name x p1, .Name y p2, .Name z p3] kt p5] e pos.line X.env = pure false := by rfl) (hw : swappedStores [.Tuple [.Name x p1, .Name y p2, .Name z p3] kt p5] e X.env = pure none := by rfl) (h1 : (assignEach [.Tuple [.Name x p1, .Name y p2, .Name z p3] kt p5] X.env).map (·.2) = [assign (.Tuple [.Name x p1, .Name y p2, .Name z p3] kt p5) X.env] := by rfl)
    (f0 : X.fn x = true ∨ X.env.scope.names.lookup x = some .local := by first | exact .inl rfl | exact .inr rfl)
    (f1 : X.fn y = true ∨ X.env.scope.names.lookup y = some .local := by first | exact .inl rfl | exact .inr rfl)
    (f2 : X.fn z = true ∨ X.env.scope.names.lookup z = some .local := by first | exact .inl rfl | exact .inr rfl)
    (hn : (assignEach [.Name x p1, .Name y p2, .Name z p3] X.env).length = 3 := by rfl) (hst : (assignEach [.Name x p1, .Name y p2, .Name z p3] X.env).findIdx? (·.1) = none := by rfl) :
    W1 X (.Assign [.Tuple [.Name x p1, .Name y p2, .Name z p3] kt p5] e pos) D σ H :=
  w1_of (ps_asg pe (pg_tup hc (pgs_cons (pg_name hN hi0 hx0 f0) (pgs_cons (pg_name hN hi1 hx1 f1) (pgs_cons (pg_name hN hi2 hx2 f2) pgs_nil))) hn hst) hs hw h1) (we_mono h fun v H' ⟨a, u1, u2, u3, hv, hq, k⟩ => ⟨a, _, hv, hq, rfl, _, _, rfl, _, _, rfl, _, _, rfl,  rfl, k⟩)
theorem w_un4 (i j l m : Nat) {x y z r : Str} (h : WE X e σ H fun v H1 => ∃ a u1 u2 u3 u4, v = .ref a ∧ SqT X.K H1 a [u1, u2, u3, u4] ∧ D.nx ((((σ.set i (some u1)).set j (some u2)).set l (some u3)).set m (some u4)) H1) (hc : X.calm = true) (hN : X.N.Nodup) (hi0 : X.N[i]? = some x := by rfl) (hi1 : X.N[j]? = some y := by rfl) (hi2 : X.N[l]? = some z := by rfl) (hi3 : X.N[m]? = some r := by rfl)
    (hx0 : Loc X.env.scope x := by first | exact Or.inl rfl | exact Or.inr rfl)
    (hx1 : Loc X.env.scope y := by first | exact Or.inl rfl | exact Or.inr rfl)
    (hx2 : Loc X.env.scope z := by first | exact Or.inl rfl | exact Or.inr rfl)
    (hx3 : Loc X.env.scope r := by first | exact Or.inl rfl | exact Or.inr rfl)
    (hs : swapsWithSole [.Tuple [.Name x p1, .Name y p2, .Name z p3, .Name r p4] kt p5] e pos.line X.env = pure false := by rfl) (hw : swappedStores [.Tuple [.Name x p1, .Name y p2, .Name z p3, .Name r p4] kt p5] e X.env = pure none := by rfl) (h1 : (assignEach [.Tuple [.Name x p1, .Name y p2, .Name z p3, .Name r p4] kt p5] X.env).map (·.2) = [assign (.Tuple [.Name x p1, .Name y p2, .Name z p3, .Name r p4] kt p5) X.env] := by rfl)
    (f0 : X.fn x = true ∨ X.env.scope.names.lookup x = some .local := by first | exact .inl rfl | exact .inr rfl)
    (f1 : X.fn y = true ∨ X.env.scope.names.lookup y = some .local := by first | exact .inl rfl | exact .inr rfl)
    (f2 : X.fn z = true ∨ X.env.scope.names.lookup z = some .local := by first | exact .inl rfl | exact .inr rfl)
    (f3 : X.fn r = true ∨ X.env.scope.names.lookup r = some .local := by first | exact .inl rfl | exact .inr rfl)
    (hn : (assignEach [.Name x p1, .Name y p2, .Name z p3, .Name r p4] X.env).length = 4 := by rfl) (hst : (assignEach [.Name x p1, .Name y p2, .Name z p3, .Name r p4] X.env).findIdx? (·.1) = none := by rfl) :
    W1 X (.Assign [.Tuple [.Name x p1, .Name y p2, .Name z p3, .Name r p4] kt p5] e pos) D σ H :=
  w1_of (ps_asg pe (pg_tup hc (pgs_cons (pg_name hN hi0 hx0 f0) (pgs_cons (pg_name hN hi1 hx1 f1) (pgs_cons (pg_name hN hi2 hx2 f2) (pgs_cons (pg_name hN hi3 hx3 f3) pgs_nil)))) hn hst) hs hw h1) (we_mono h fun v H' ⟨a, u1, u2, u3, u4, hv, hq, k⟩ => ⟨a, _, hv, hq, rfl, _, _, rfl, _, _, rfl, _, _, rfl, _, _, rfl,  rfl, k⟩)
theorem w_un2L (i j : Nat) {x y : Str} (h : WE X e σ H fun v H1 => ∃ a u1 u2, v = .ref a ∧ SqL X.K H1 a [u1, u2] ∧ D.nx ((σ.set i (some u1)).set j (some u2)) H1) (hc : X.calm = true) (hN : X.N.Nodup) (hi0 : X.N[i]? = some x := by rfl) (hi1 : X.N[j]? = some y := by rfl)
    (hx0 : Loc X.env.scope x := by first | exact Or.inl rfl | exact Or.inr rfl)
    (hx1 : Loc X.env.scope y := by first | exact Or.inl rfl | exact Or.inr rfl)
    (hs : swapsWithSole [.Tuple [.Name x p1, .Name y p2] kt p5] e pos.line X.env = pure false := by rfl) (hw : swappedStores [.Tuple [.Name x p1, .Name y p2] kt p5] e X.env = pure none := by rfl) (h1 : (assignEach [.Tuple [.Name x p1, .Name y p2] kt p5] X.env).map (·.2) = [assign (.Tuple [.Name x p1, .Name y p2] kt p5) X.env] := by rfl)
    (f0 : X.fn x = true ∨ X.env.scope.names.lookup x = some .local := by first | exact .inl rfl | exact .inr rfl)
    (f1 : X.fn y = true ∨ X.env.scope.names.lookup y = some .local := by first | exact .inl rfl | exact .inr rfl)
    (hn : (assignEach [.Name x p1, .Name y p2] X.env).length = 2 := by rfl) (hst : (assignEach [.Name x p1, .Name y p2] X.env).findIdx? (·.1) = none := by rfl) :
    W1 X (.Assign [.Tuple [.Name x p1, .Name y p2] kt p5] e pos) D σ H :=
  w1_of (ps_asg pe (pg_lst hc (pgs_cons (pg_name hN hi0 hx0 f0) (pgs_cons (pg_name hN hi1 hx1 f1) pgs_nil)) hn hst) hs hw h1) (we_mono h fun v H' ⟨a, u1, u2, hv, hq, k⟩ => ⟨a, _, hv, hq, rfl, _, _, rfl, _, _, rfl,  rfl, k⟩)
theorem w_un3L (i j l : Nat) {x y z : Str} (h : WE X e σ H fun v H1 => ∃ a u1 u2 u3, v = .ref a ∧ SqL X.K H1 a [u1, u2, u3] ∧ D.nx (((σ.set i (some u1)).set j (some u2)).set l (some u3)) H1) (hc : X.calm = true) (hN : X.N.Nodup) (hi0 : X.N[i]? = some x := by rfl) (hi1 : X.N[j]? = some y := by rfl) (hi2 : X.N[l]? = some z := by rfl)
    (hx0 : Loc X.env.scope x := by first | exact Or.inl rfl | exact Or.inr rfl)
    (hx1 : Loc X.env.scope y := by first | exact Or.inl rfl | exact Or.inr rfl)
    (hx2 : Loc X.env.scope z := by first | exact Or.inl rfl | exact Or.inr rfl)
    (hs : swapsWithSole [.Tuple [.Name x p1, .Name y p2, .Name z p3] kt p5] e pos.line X.env = pure false := by rfl) (hw : swappedStores [.Tuple [.Name x p1, .Name y p2, .Name z p3] kt p5] e X.env = pure none := by rfl) (h1 : (assignEach [.Tuple [.Name x p1, .Name y p2, .Name z p3] kt p5] X.env).map (·.2) = [assign (.Tuple [.Name x p1, .Name y p2, .Name z p3] kt p5) X.env] := by rfl)
    (f0 : X.fn x = true ∨ X.env.scope.names.lookup x = some .local := by first | exact .inl rfl | exact .inr rfl)
    (f1 : X.fn y = true ∨ X.env.scope.names.lookup y = some .local := by first | exact .inl rfl | exact .inr rfl)
    (f2 : X.fn z = true ∨ X.env.scope.names.lookup z = some .local := by first | exact .inl rfl | exact .inr rfl)
    (hn : (assignEach [.Name x p1, .Name y p2, .Name z p3] X.env).length = 3 := by rfl) (hst : (assignEach [.Name x p1, .Name y p2, .Name z p3] X.env).findIdx? (·.1) = none := by rfl) :
    W1 X (.Assign [.Tuple [.Name x p1, .Name y p2, .Name z p3] kt p5] e pos) D σ H :=
  w1_of (ps_asg pe (pg_lst hc (pgs_cons (pg_name hN hi0 hx0 f0) (pgs_cons (pg_name hN hi1 hx1 f1) (pgs_cons (pg_name hN hi2 hx2 f2) pgs_nil))) hn hst) hs hw h1) (we_mono h fun v H' ⟨a, u1, u2, u3, hv, hq, k⟩ => ⟨a, _, hv, hq, rfl, _, _, rfl, _, _, rfl, _, _, rfl,  rfl, k⟩)
theorem w_par2 (i j : Nat) {x y : Str} {k2 : Nat} (h : WE X a σ H fun v H1 => WE X b σ H1 fun u H2 => D.nx ((σ.set i (some v)).set j (some u)) H2) (hc : X.calm = true) (hN : X.N.Nodup) (hij : i ≠ j) (hi : X.N[i]? = some x := by rfl) (hj : X.N[j]? = some y := by rfl)
    (hx : X.env.scope.names.lookup x = some .local := by rfl) (hy : X.env.scope.names.lookup y = some .local := by rfl) (hw : swappedStores [.Tuple [.Name x p1, .Name y p2] kt p3] (.Tuple [a, b] k2 p4) X.env = pure (some [x, y]) := by rfl)
    (hs : swapsWithSole [.Tuple [.Name x p1, .Name y p2] kt p3] (.Tuple [a, b] k2 p4) pos.line X.env = pure false := by rfl) (s1 : starEach [a, b] X.env = (false, eval a X.env) :: starEach [b] X.env := by rfl) (s2 : starEach [b] X.env = (false, eval b X.env) :: starEach [] X.env := by rfl) :
    W1 X (.Assign [.Tuple [.Name x p1, .Name y p2] kt p3] (.Tuple [a, b] k2 p4) pos) D σ H :=
  w1_of (ps_par hc hN hi hj hij hx hy pa hw hs) (wa_cons (we_mono h fun v H1 g => wa_cons (we_mono g fun u H2 k => wa_nil ⟨v, u, rfl, k⟩) s2) s1)
/-- xs.append(e) -/
theorem we_app {cpos apos : Pos} (h : WE X a σ H fun x H1 => (∃ l xs, x = .ref l ∧ H1 l = some (.lst xs)) ∧ WE X e σ H1 fun y H2 => ∃ l xs, x = .ref l ∧ H2 l = some (.lst xs) ∧ xs.length < sizeLine ∧ Q .non (upd H2 l (.lst (xs ++ [y]))))
    (hbase : attributeBase a "append" X.env (eval a X.env) = eval a X.env := by rfl)
    (hfew : ((backTo cpos (starEach [e] X.env)).all (fun x => !x.1) && (backToKw cpos (keywordEach [] X.env)).all (fun x => x.1.isSome)
      && decide ([e].length + ([] : List Keyword).length + (if ([] : List Keyword).isEmpty then 0 else 1) < 30)) = true := by rfl)
    (hline : (apos.endLine == cpos.line) = true := by rfl) (hs : starEach [e] X.env = (false, eval e X.env) :: starEach [] X.env := by rfl) (hplain : (backTo cpos (starEach [] X.env)).any (·.1) = false := by rfl) :
    WE X (.Call (.Attribute a "append" apos) [e] [] cpos) σ H Q :=
  we_of (pe_bm PySem.F.plainAttrs_list PySem.F.slot_list_append PySem.F.type_list_append mt_append pe pa hbase hfew hline hs hplain) (we_mono h fun x H1 ⟨⟨l, xs, hx, hl⟩, g⟩ => ⟨by subst hx; exact .inl ⟨rfl, xs, .inl (.inl hl)⟩, wa_cons (we_mono g fun y H2 ⟨l, xs, hx, hl, hz, k⟩ => wa_nil ⟨l, xs, y, hx, rfl, hl, hz, k⟩) hs⟩)
/-- d.get(k) -/
theorem we_get1 {apos cpos : Pos} (hu : X.A.units + 1 < cLine) (h : WE X a σ H fun x H1 => ∃ d, x = .ref d ∧ IsD H1 d ∧ WE X b σ H1 fun y H2 => ∃ o, DGet H2 d y o ∧ Q (o.getD .non) H2)
    (hbase : attributeBase a "get" X.env (eval a X.env) = eval a X.env := by rfl)
    (few : ((backTo cpos (starEach [b] X.env)).all (fun x => !x.1) && (backToKw cpos (keywordEach [] X.env)).all (fun x => x.1.isSome)
      && decide (([b] : List Expr).length + ([] : List Keyword).length + (if ([] : List Keyword).isEmpty then 0 else 1) < 30)) = true := by rfl)
    (line : (apos.endLine == cpos.line) = true := by rfl) (trees : backTo cpos (starEach [b] X.env) = [(false, eval b X.env)] := by rfl) :
    WE X (.Call (.Attribute a "get" apos) [b] [] cpos) σ H Q := we_of (pe_dget1 hu pe pe ⟨hbase, few, line, trees⟩) h
/-- d.get(k, z) -/
theorem we_get2 {apos cpos : Pos} (hu : X.A.units + 1 < cLine) (h : WE X a σ H fun x H1 => ∃ d, x = .ref d ∧ IsD H1 d ∧ WE X b σ H1 fun y H2 => WE X c σ H2 fun z H3 => ∃ o, DGet H3 d y o ∧ Q (o.getD z) H3)
    (hbase : attributeBase a "get" X.env (eval a X.env) = eval a X.env := by rfl)
    (few : ((backTo cpos (starEach [b, c] X.env)).all (fun x => !x.1) && (backToKw cpos (keywordEach [] X.env)).all (fun x => x.1.isSome)
      && decide (([b, c] : List Expr).length + ([] : List Keyword).length + (if ([] : List Keyword).isEmpty then 0 else 1) < 30)) = true := by rfl)
    (line : (apos.endLine == cpos.line) = true := by rfl) (trees : backTo cpos (starEach [b, c] X.env) = [(false, eval b X.env), (false, eval c X.env)] := by rfl) :
    WE X (.Call (.Attribute a "get" apos) [b, c] [] cpos) σ H Q := we_of (pe_dget2 hu pe pe pe ⟨hbase, few, line, trees⟩) h
theorem w1_mono {st : Stmt} {D' : Ends} (h : W1 X st D' σ H) (nx : ∀ σ H, D'.nx σ H → D.nx σ H) (rt : ∀ v H, D'.rt v H → D.rt v H) (bk : ∀ σ H, D'.bk σ H → D.bk σ H) (ct : ∀ σ H, D'.ct σ H → D.ct σ H) : W1 X st D σ H := fun pins s I => thn (h pins s I) fun f s' q => by
  cases f with
  | next => obtain ⟨σ', H', J, k⟩ := q; exact ⟨σ', H', J, nx _ _ k⟩
  | brk => obtain ⟨σ', H', J, k⟩ := q; exact ⟨σ', H', J, bk _ _ k⟩
  | cont => obtain ⟨σ', H', J, k⟩ := q; exact ⟨σ', H', J, ct _ _ k⟩
  | ret u => obtain ⟨v, σ', H', J, r, k⟩ := q; exact ⟨v, σ', H', J, r, rt _ _ k⟩
/-- a statement whose end is told, then the rest -/
theorem ws_seq {st : Stmt} {rest : List Stmt} (R : L2.St → Hp → Prop) (h : W1 X st { D with nx := R } σ H) (k : ∀ σ' H', R σ' H' → WS X rest D σ' H') : WS X (st :: rest) D σ H := ws_cons (w1_mono h k (fun _ _ h => h) (fun _ _ h => h) fun _ _ h => h)
theorem w_if0 {th : List Stmt} (h : WT X c σ H fun b H1 => if b = true then WS X th D σ H1 else D.nx σ H1) : W1 X (.If c th [] pos) D σ H := w_if (wt_mono h fun b H1 k => by
  cases b with
  | true => exact k
  | false => exact ws_nil k)
end
end WW

set_option Elab.async false
set_option linter.all false
set_option maxRecDepth 100000
set_option maxHeartbeats 2000000
/-! slices of lists -/
namespace WW
open PySem PySem.Spec PyProof.Rows L2
section
variable {X : Cx} {a b c : Expr} {σ : L2.St} {H : Hp} {Q : VK} {pos p2 : Pos}
/-- xs[:b] -/
theorem we_slTo (h : WE X a σ H fun x H1 => WE X b σ H1 fun y H2 => ∃ i, y = .int i ∧ rSlL X.K x none (some i) H2 Q) : WE X (.Subscript a (.Slice none (some b) none p2) pos) σ H Q := we_of (pe_slice sl_list pe po_none (po_some pe)) h
/-- xs[a:] -/
theorem we_slFr (h : WE X a σ H fun x H1 => WE X b σ H1 fun y H2 => ∃ i, y = .int i ∧ rSlL X.K x (some i) none H2 Q) : WE X (.Subscript a (.Slice (some b) none none p2) pos) σ H Q := we_of (pe_slice sl_list pe (po_some pe) po_none) h
end
theorem cut_to (xs : List V) (i : Int) (h : 0 ≤ i) : cutV xs none (some i) = xs.take i.toNat := by
  unfold cutV
  have h0 : HT.sIx xs.length 0 none = 0 := rfl
  have h1 : HT.sIx xs.length xs.length (some i) = min i.toNat xs.length := by
    have e : i = ((i.toNat : Nat) : Int) := by omega
    rw [e]
    exact HT.sIx_nat _ _ _
  rw [h0, h1, List.drop_zero, Nat.sub_zero]
  by_cases hl : i.toNat ≤ xs.length
  · rw [Nat.min_eq_left hl]
  · rw [Nat.min_eq_right (by omega), List.take_length, List.take_of_length_le (by omega)]
theorem cut_fr (xs : List V) (i : Int) (h : 0 ≤ i) : cutV xs (some i) none = xs.drop i.toNat := by
  unfold cutV
  have h0 : HT.sIx xs.length xs.length none = xs.length := rfl
  have h1 : HT.sIx xs.length 0 (some i) = min i.toNat xs.length := by
    have e : i = ((i.toNat : Nat) : Int) := by omega
    rw [e]
    exact HT.sIx_nat _ _ _
  rw [h0, h1]
  by_cases hl : i.toNat ≤ xs.length
  · rw [Nat.min_eq_left hl, List.take_of_length_le (by rw [List.length_drop]; omega)]
  · rw [Nat.min_eq_right (by omega), List.drop_of_length_le (by omega), List.drop_of_length_le (by omega), List.take_nil]
end WW

set_option Elab.async false
set_option linter.all false
set_option maxRecDepth 100000
set_option maxHeartbeats 2000000
/-! the world that the laws draw, as cells -/
namespace Wo
open PySem PySem.Spec PyProof.Rows L2 WW

inductive Lb where
  | d | w | o | t | m | e | b | r
  | tie (k : Int × Str) | bk (n : Str) | tr (n : Str)
structure Tie where
  k : Int × Str
  y : Int
  v : Str
  l : Bool
structure Wst where
  dn : Int
  dk : Int
  db : Bool
  ppl : Int
  own : List (Str × Int)
  ov : List V
  ties : List Tie
  marks : List ((Str × Int) × V)
  ev : List (V × PyData)
  sg : Int
  books : List (Str × List (V × PyData))
  trails : List (Str × List V)
def Dr (n k : Int) (b : Bool) : HO := .lst [.int n, .int k, .bl b]
abbrev Ad := Lb → Addr
def kT (k : Int × Str) : List Key := [.inl k.1, .inr k.2]
def kM (k : Str × Int) : List Key := [.inr k.1, .inl k.2]
def tieO (e : Tie) : HO := .lst [.int e.y, .str e.v, .bl e.l]
def findT (ts : List Tie) (k : Int × Str) : Option Tie := ts.find? fun e => decide (e.k = k)
def findB {β : Type} (bs : List (Str × β)) (n : Str) : Option β := (bs.find? fun e => decide (e.1 = n)).map (·.2)
def wD (A : Ad) (S : Wst) : List (Key × V) :=
  [(.inr "people", .int S.ppl), (.inr "owners", .ref (A .o)), (.inr "ties", .ref (A .t)), (.inr "marks", .ref (A .m)), (.inr "events", .ref (A .e)), (.inr "signs", .int S.sg), (.inr "books", .ref (A .b)), (.inr "trails", .ref (A .r))]
def tD (A : Ad) (ts : List Tie) : List (List Key × V) := ts.map fun e => (kT e.k, .ref (A (.tie e.k)))
def mD (ms : List ((Str × Int) × V)) : List (List Key × V) := ms.map fun e => (kM e.1, e.2)
def bD {β : Type} (f : Str → Addr) (bs : List (Str × β)) : List (Key × V) := bs.map fun e => (.inr e.1, .ref (f e.1))
def cell (A : Ad) (S : Wst) : Lb → Option HO
  | .d => some (Dr S.dn S.dk S.db)
  | .w => some (.dK (wD A S))
  | .o => some (.lst S.ov)
  | .t => some (.dT (tD A S.ties))
  | .m => some (.dT (mD S.marks))
  | .e => some (.lst (S.ev.map (·.1)))
  | .b => some (.dK (bD (fun n => A (.bk n)) S.books))
  | .r => some (.dK (bD (fun n => A (.tr n)) S.trails))
  | .tie k => (findT S.ties k).map tieO
  | .bk n => (findB S.books n).map fun rs => .lst (rs.map (·.1))
  | .tr n => (findB S.trails n).map .lst
/-! data of tuples alone -/
mutual
def tupd : PyData → Bool
  | .tuple ds => tupds ds
  | .list _ => false
  | _ => true
def tupds : List PyData → Bool
  | [] => true
  | d :: ds => tupd d && tupds ds
end
structure TK (H H' : Hp) : Prop where
  t : ∀ a xs, H a = some (.tup xs) → H' a = some (.tup xs)
  f : ∀ a o xs, H a = some (.frz o (.tup xs)) → H' a = some (.frz o (.tup xs))
theorem TK.refl (H : Hp) : TK H H := ⟨fun _ _ h => h, fun _ _ _ h => h⟩
theorem TK.trans {H H1 H2 : Hp} (a : TK H H1) (b : TK H1 H2) : TK H H2 := ⟨fun x xs h => b.t _ _ (a.t _ _ h), fun x o xs h => b.f _ _ _ (a.f _ _ _ h)⟩
theorem TK.sqt {K : PySem.W.Frag} {H H' : Hp} (k : TK H H') {a : Addr} {xs : List V} : SqT K H a xs → SqT K H' a xs
  | .inl (.inl h) => .inl (.inl (k.t _ _ h))
  | .inl (.inr ⟨o, h⟩) => .inl (.inr ⟨o, k.f _ _ _ h⟩)
  | .inr h => .inr h
theorem TK.wr {H : Hp} {p : Addr} {o u : HO} (e : H p = some u) (h1 : ∀ xs, u ≠ .tup xs) (h2 : ∀ ob xs, u ≠ .frz ob (.tup xs)) : TK H (upd H p o) := by
  refine ⟨fun a xs h => ?_, fun a ob xs h => ?_⟩
  · have ne : a ≠ p := fun z => by
      rw [z, e] at h
      exact h1 _ (Option.some.inj h)
    rw [upd_ne ne]
    exact h
  · have ne : a ≠ p := fun z => by
      rw [z, e] at h
      exact h2 _ _ (Option.some.inj h)
    rw [upd_ne ne]
    exact h
theorem TK.new {H : Hp} {p : Addr} {o : HO} (e : H p = none) : TK H (upd H p o) :=
  ⟨fun a xs h => by rw [upd_ne (ne_of_none h e)]; exact h, fun a ob xs h => by rw [upd_ne (ne_of_none h e)]; exact h⟩
theorem TK.fr {ts : List Addr} {H H' : Hp} (f : Fr ts Nil H H') : TK H H' := ⟨fun a xs h => f.kp a _ h (fun z => z) rfl, fun a o xs h => f.kp a _ h (fun z => z) rfl⟩
mutual
theorem dp_keep {K : PySem.W.Frag} {H H' : Hp} (k : TK H H') : ∀ (d : PyData) (v : V), tupd d = true → Dp K H v d → Dp K H' v d
  | .none, _, _, .non => .non
  | .bool b, _, _, .bl _ => .bl b
  | .int i, _, _, .int _ => .int i
  | .str x, _, _, .str _ => .str x
  | .tuple ds, _, t, .tup h r => .tup (k.sqt h) (dps_keep k ds _ (by simpa [tupd] using t) r)
theorem dps_keep {K : PySem.W.Frag} {H H' : Hp} (k : TK H H') : ∀ (ds : List PyData) (vs : List V), tupds ds = true → DpAll K H vs ds → DpAll K H' vs ds
  | [], _, _, .nil => .nil
  | d :: ds, _, t, .cons h r => by
    have t' : tupd d = true ∧ tupds ds = true := by simpa [tupds] using t
    exact .cons (dp_keep k d _ t'.1 h) (dps_keep k ds _ t'.2 r)
end
/-- a value is this data, of tuples alone -/
structure Td (K : PySem.W.Frag) (H : Hp) (p : V × PyData) : Prop where
  is : Dp K H p.1 p.2
  tp : tupd p.2 = true
theorem Td.keep {K : PySem.W.Frag} {H H' : Hp} {p : V × PyData} (h : Td K H p) (k : TK H H') : Td K H' p := ⟨dp_keep k _ _ h.tp h.is, h.tp⟩
structure WAt (K : PySem.W.Frag) (H : Hp) (A : Ad) (S : Wst) : Prop where
  at_ : ∀ l o, cell A S l = some o → H (A l) = some o
  inj : ∀ l l' o o', cell A S l = some o → cell A S l' = some o' → A l = A l' → l = l'
  nd : (S.ties.map (·.k)).Nodup
  ow : Paired (fun v p => Dp K H v (.tuple [.str p.1, .int p.2])) S.ov S.own
  de : ∀ p ∈ S.ev, Td K H p
  dbk : ∀ n rs, (n, rs) ∈ S.books → ∀ p ∈ rs, Td K H p
theorem cell_nt {A : Ad} {S : Wst} {l : Lb} {o : HO} (h : cell A S l = some o) : nt o = true ∧ (∀ xs, o ≠ .tup xs) ∧ ∀ ob xs, o ≠ .frz ob (.tup xs) := by
  cases l with
  | tie k =>
    have h : (findT S.ties k).map tieO = some o := h
    obtain ⟨e, _, rfl⟩ := Option.map_eq_some_iff.mp h
    exact ⟨rfl, fun _ => nofun, fun _ _ => nofun⟩
  | bk n =>
    obtain ⟨e, _, rfl⟩ := Option.map_eq_some_iff.mp (show (findB S.books n).map _ = some o from h)
    exact ⟨rfl, fun _ => nofun, fun _ _ => nofun⟩
  | tr n =>
    obtain ⟨e, _, rfl⟩ := Option.map_eq_some_iff.mp (show (findB S.trails n).map _ = some o from h)
    exact ⟨rfl, fun _ => nofun, fun _ _ => nofun⟩
  | _ =>
    cases h
    exact ⟨rfl, fun _ => nofun, fun _ _ => nofun⟩
end Wo

set_option Elab.async false
set_option linter.all false
set_option maxRecDepth 100000
set_option maxHeartbeats 2000000
/-! steps of the drawn world -/
namespace Wo
open PySem PySem.Spec PyProof.Rows L2 WW

def Wm (A : Ad) (S : Wst) : Addr → Prop := fun a => ∃ l o, cell A S l = some o ∧ A l = a
/-- nothing is there, or a table -/
def Nw (H : Hp) (p : Addr) : Prop := ∀ u, H p = some u → nt u = false
theorem Nw.of {H : Hp} {p : Addr} (h : H p = none) : Nw H p := fun u e => by rw [h] at e; cases e
theorem Nw.ne {H : Hp} {a p : Addr} {o : HO} (n : Nw H p) (h : H a = some o) (t : nt o = true) : a ≠ p := fun z => by
  rw [n o (by rw [← z]; exact h)] at t
  cases t
theorem Nw.back {ts : List Addr} {H H' : Hp} {p : Addr} (n : Nw H' p) (f : Fr ts Nil H H') : Nw H p := fun u e => by
  cases t : nt u with
  | false => rfl
  | true => exact absurd (n u (f.kp p u e (fun z => z) t)) (by rw [t]; decide)
theorem Nw.cell {K : PySem.W.Frag} {H : Hp} {A : Ad} {S : Wst} {p : Addr} (n : Nw H p) (W : WAt K H A S) : ¬ Wm A S p := fun ⟨l, o, e, z⟩ => n.ne (W.at_ l o e) (cell_nt e).1 z
structure Stp (K : PySem.W.Frag) (ts : List Addr) (A : Ad) (S : Wst) (H : Hp) (A' : Ad) (S' : Wst) (H' : Hp) : Prop where
  wat : WAt K H' A' S'
  fr : Fr ts (Wm A S) H H'
  ext : ∀ l o, cell A S l = some o → A' l = A l ∧ ∃ o', cell A' S' l = some o'
  new : ∀ l o', cell A' S' l = some o' → (∃ o, cell A S l = some o) ∨ ∀ u, H (A' l) = some u → nt u = false
section
variable {K : PySem.W.Frag} {ts : List Addr} {A A' A2 : Ad} {S S' S2 : Wst} {H H' H2 : Hp}
theorem WAt.nm (W : WAt K H A S) {a : Addr} {xs : List V} (h : H a = some (.tup xs)) : ¬ Wm A S a := fun ⟨l, o, e, z⟩ => by
  have := W.at_ l o e
  rw [z, h] at this
  exact (cell_nt e).2.1 xs (Option.some.inj this).symm
theorem WAt.nmf (W : WAt K H A S) {a : Addr} {ob : Obj} {xs : List V} (h : H a = some (.frz ob (.tup xs))) : ¬ Wm A S a := fun ⟨l, o, e, z⟩ => by
  have := W.at_ l o e
  rw [z, h] at this
  exact (cell_nt e).2.2 ob xs (Option.some.inj this).symm
theorem WAt.tk (W : WAt K H A S) (f : Fr ts (Wm A S) H H') : TK H H' := ⟨fun a xs h => f.kp a _ h (W.nm h) rfl, fun a ob xs h => f.kp a _ h (W.nmf h) rfl⟩
theorem paired_keep (k : TK H H') {vs : List V} {ps : List (Str × Int)} (h : Paired (fun v p => Dp K H v (.tuple [.str p.1, .int p.2])) vs ps) : Paired (fun v p => Dp K H' v (.tuple [.str p.1, .int p.2])) vs ps :=
  L2.Paired.mapP h fun a b q => dp_keep k _ _ rfl q
/-- what is made beside the world leaves it -/
theorem WAt.fr (W : WAt K H A S) (f : Fr ts Nil H H') : WAt K H' A S :=
  ⟨fun l o e => f.kp _ _ (W.at_ l o e) (fun z => z) (cell_nt e).1, W.inj, W.nd, paired_keep (TK.fr f) W.ow, fun p hp => (W.de p hp).keep (TK.fr f), fun n rs h p hp => (W.dbk n rs h p hp).keep (TK.fr f)⟩
theorem Stp.beside (W : WAt K H A S) (f : Fr ts Nil H H') : Stp K ts A S H A S H' := ⟨W.fr f, f.mono fun _ z => z.elim, fun l o e => ⟨rfl, o, e⟩, fun l o e => .inl ⟨o, e⟩⟩
theorem Stp.trans (a : Stp K ts A S H A' S' H') (b : Stp K ts A' S' H' A2 S2 H2) : Stp K ts A S H A2 S2 H2 := by
  refine ⟨b.wat, ⟨fun x o e hm ht => b.fr.kp x o (a.fr.kp x o e hm ht) (fun ⟨l, o', e', z⟩ => ?_) ht, fun h => b.fr.tb (a.fr.tb h)⟩, fun l o e => ?_, fun l o' e => ?_⟩
  · rcases a.new l o' e' with ⟨o1, e1⟩ | h
    · exact hm ⟨l, o1, e1, by rw [← (a.ext l o1 e1).1]; exact z⟩
    · rw [h o (by rw [z]; exact e)] at ht
      cases ht
  · obtain ⟨h1, o1, e1⟩ := a.ext l o e
    obtain ⟨h2, o2, e2⟩ := b.ext l o1 e1
    exact ⟨h2.trans h1, o2, e2⟩
  · rcases b.new l o' e with ⟨o1, e1⟩ | h
    · rcases a.new l o1 e1 with h | h
      · exact .inl h
      · exact .inr (by rw [(b.ext l o1 e1).1]; exact h)
    · refine .inr fun u q => ?_
      cases hn : nt u with
      | false => rfl
      | true =>
        exfalso
        by_cases hm : Wm A S (A2 l)
        · obtain ⟨l', o1, e1, z⟩ := hm
          obtain ⟨h1, o2, e2⟩ := a.ext l' o1 e1
          have := a.wat.at_ l' o2 e2
          rw [h1, z] at this
          have := h _ this
          rw [(cell_nt e2).1] at this
          cases this
        · have := h _ (a.fr.kp _ u q hm hn)
          rw [hn] at this
          cases this
theorem Stp.tkk (a : Stp K ts A S H A' S' H') (W : WAt K H A S) : TK H H' := W.tk a.fr
theorem Stp.refl (W : WAt K H A S) : Stp K ts A S H A S H := .beside W (Fr.refl H)
/-- one cell is written -/
theorem Stp.set (W : WAt K H A S) {l0 : Lb} {o o' : HO} (e0 : cell A S l0 = some o) (h0 : cell A S' l0 = some o') (hc : ∀ l, l ≠ l0 → cell A S' l = cell A S l)
    (nd : S'.ties.map (·.k) = S.ties.map (·.k)) (ow : S'.ov = S.ov ∧ S'.own = S.own) (de : ∀ p ∈ S'.ev, p ∈ S.ev ∨ Td K H p) (db : ∀ n rs, (n, rs) ∈ S'.books → ∀ p ∈ rs, (∃ rs0, (n, rs0) ∈ S.books ∧ p ∈ rs0) ∨ Td K H p) : Stp K ts A S H A S' (upd H (A l0) o') := by
  have hw : Wm A S (A l0) := ⟨l0, o, e0, rfl⟩
  have hH := W.at_ l0 o e0
  have f : Fr ts (Wm A S) H (upd H (A l0) o') := Fr.write hw hH (cell_nt e0).1
  have k := W.tk f
  refine ⟨⟨fun l u e => ?_, fun l l' u u' e e' z => ?_, nd ▸ W.nd, ?_, fun p hp => ?_, fun n rs h p hp => ?_⟩, f, fun l u e => ?_, fun l u e => ?_⟩
  · by_cases hl : l = l0
    · subst hl
      rw [h0] at e
      cases e
      exact upd_same
    · rw [hc l hl] at e
      have ne : A l ≠ A l0 := fun z => hl (W.inj _ _ _ _ e e0 z)
      rw [upd_ne ne]
      exact W.at_ l u e
  · have hs : ∀ l u, cell A S' l = some u → ∃ u, cell A S l = some u := fun l u e => by
      by_cases hl : l = l0
      · exact ⟨o, hl ▸ e0⟩
      · exact ⟨u, (hc l hl).symm.trans e⟩
    obtain ⟨_, x⟩ := hs l u e
    obtain ⟨_, y⟩ := hs l' u' e'
    exact W.inj _ _ _ _ x y z
  · rw [ow.1, ow.2]
    exact paired_keep k W.ow
  · rcases de p hp with h | h
    · exact (W.de p h).keep k
    · exact h.keep k
  · rcases db n rs h p hp with ⟨rs0, h1, h2⟩ | h
    · exact (W.dbk n rs0 h1 p h2).keep k
    · exact h.keep k
  · by_cases hl : l = l0
    · exact ⟨rfl, o', hl ▸ h0⟩
    · exact ⟨rfl, u, (hc l hl).trans e⟩
  · by_cases hl : l = l0
    · exact .inl ⟨o, hl ▸ e0⟩
    · exact .inl ⟨u, (hc l hl).symm.trans e⟩
/-- the draws move on -/
theorem Stp.draw (W : WAt K H A S) (n k : Int) (b : Bool) : Stp K ts A S H A { S with dn := n, dk := k, db := b } (upd H (A .d) (Dr n k b)) :=
  Stp.set W (l0 := .d) rfl rfl (fun l hl => by cases l <;> first | rfl | exact absurd rfl hl) rfl ⟨rfl, rfl⟩ (fun p h => .inl h) fun n rs h p hp => .inl ⟨rs, h, hp⟩
theorem Stp.signs (W : WAt K H A S) (n : Int) : Stp K ts A S H A { S with sg := n } (upd H (A .w) (.dK (wD A { S with sg := n }))) :=
  Stp.set W (l0 := .w) rfl rfl (fun l hl => by cases l <;> first | rfl | exact absurd rfl hl) rfl ⟨rfl, rfl⟩ (fun p h => .inl h) fun n rs h p hp => .inl ⟨rs, h, hp⟩
theorem Stp.event (W : WAt K H A S) (p : V × PyData) (hp : Td K H p) : Stp K ts A S H A { S with ev := S.ev ++ [p] } (upd H (A .e) (.lst (S.ev.map (·.1) ++ [p.1]))) :=
  Stp.set W (l0 := .e) rfl (by show some (HO.lst ((S.ev ++ [p]).map (·.1))) = _; rw [List.map_append]; rfl) (fun l hl => by cases l <;> first | rfl | exact absurd rfl hl) rfl ⟨rfl, rfl⟩ (fun q h => by
    rcases List.mem_append.mp h with h | h
    · exact .inl h
    · rw [List.mem_singleton.mp h]
      exact .inr hp) fun n rs h p hp => .inl ⟨rs, h, hp⟩
/-- the tie called k ends, at this one end -/
def dead (k : Int × Str) (ts : List Tie) : List Tie := ts.map fun e => if e.k = k then { e with l := false } else e
theorem find_dead (k j : Int × Str) : ∀ ts : List Tie, findT (dead k ts) j = (findT ts j).map fun e => if j = k then { e with l := false } else e
  | [] => rfl
  | e :: ts => by
    have ih := find_dead k j ts
    unfold findT dead at ih ⊢
    rw [List.map_cons, List.find?_cons, List.find?_cons, ih]
    have ek : (if e.k = k then { e with l := false } else e).k = e.k := by split <;> rfl
    rw [ek]
    by_cases h : e.k = j
    · rw [decide_eq_true h]
      subst h
      rfl
    · rw [decide_eq_false h]
theorem nd_dead (k : Int × Str) (ts : List Tie) : (dead k ts).map (·.k) = ts.map (·.k) := by
  unfold dead
  rw [List.map_map]
  refine List.map_congr_left fun e _ => ?_
  show (if e.k = k then { e with l := false } else e).k = e.k
  split <;> rfl
theorem keys_dead (A : Ad) (k : Int × Str) (ts : List Tie) : tD A (dead k ts) = tD A ts := by
  unfold tD dead
  rw [List.map_map]
  refine List.map_congr_left fun e _ => ?_
  show (kT (if e.k = k then { e with l := false } else e).k, V.ref (A (.tie (if e.k = k then { e with l := false } else e).k))) = _
  have ek : (if e.k = k then { e with l := false } else e).k = e.k := by split <;> rfl
  rw [ek]
theorem findT_k {k : Int × Str} {e : Tie} {ts : List Tie} (h : findT ts k = some e) : e.k = k ∧ e ∈ ts := by
  have h' : ts.find? (fun e => decide (e.k = k)) = some e := h
  have h2 := List.find?_some (p := fun e : Tie => decide (e.k = k)) h'
  exact ⟨of_decide_eq_true h2, List.mem_of_find?_eq_some h'⟩
theorem Stp.end1 (W : WAt K H A S) {k : Int × Str} {e : Tie} (h : findT S.ties k = some e) : Stp K ts A S H A { S with ties := dead k S.ties } (upd H (A (.tie k)) (.lst [.int e.y, .str e.v, .bl false])) := by
  refine Stp.set W (l0 := .tie k) (show (findT S.ties k).map tieO = _ from by rw [h]; rfl) ?_ (fun l hl => ?_) (nd_dead k S.ties) ⟨rfl, rfl⟩ (fun p h => .inl h) fun n rs h p hp => .inl ⟨rs, h, hp⟩
  · show (findT (dead k S.ties) k).map tieO = _
    rw [find_dead, h, Option.map_some, if_pos rfl]
    rfl
  · cases l with
    | tie j =>
      show (findT (dead k S.ties) j).map tieO = (findT S.ties j).map tieO
      have ne : ¬ j = k := fun z => hl (by rw [z])
      rw [find_dead, Option.map_map]
      refine congrArg (fun f => Option.map f (findT S.ties j)) ?_
      funext x
      show tieO (if j = k then _ else x) = tieO x
      rw [if_neg ne]
    | t =>
      show some (HO.dT (tD A (dead k S.ties))) = _
      rw [keys_dead]
      rfl
    | _ => rfl
/-! a tie's end is put in -/
def Ad.put (A : Ad) (k : Int × Str) (p : Addr) : Ad := fun l => match l with
  | .tie j => if j = k then p else A (.tie j)
  | l => A l
theorem put_tie (A : Ad) (k : Int × Str) (p : Addr) : A.put k p (.tie k) = p := if_pos rfl
theorem put_ne (A : Ad) {k j : Int × Str} (p : Addr) (h : ¬ j = k) : A.put k p (.tie j) = A (.tie j) := if_neg h
theorem findT_none {k : Int × Str} : ∀ {ts : List Tie}, findT ts k = none → ∀ e ∈ ts, ¬ e.k = k := fun {ts} h e he z => by
  have h' : ts.find? (fun e => decide (e.k = k)) = none := h
  have := List.find?_eq_none.mp h' e he
  exact this (decide_eq_true z)
theorem findT_snoc (ts : List Tie) (e : Tie) (k : Int × Str) (h : findT ts e.k = none) : findT (ts ++ [e]) k = if k = e.k then some e else findT ts k := by
  show List.find? _ (ts ++ [e]) = _
  rw [List.find?_append]
  by_cases hk : k = e.k
  · subst hk
    rw [if_pos rfl]
    have h' : ts.find? (fun x => decide (x.k = e.k)) = none := h
    rw [h', Option.none_or, List.find?_cons, decide_eq_true rfl]
  · rw [if_neg hk]
    have : List.find? (fun x : Tie => decide (x.k = k)) [e] = none := by
      rw [List.find?_cons, decide_eq_false fun z => hk z.symm]
      rfl
    rw [this, Option.or_none]
    rfl
theorem tD_put {A : Ad} {k : Int × Str} {p : Addr} {ts : List Tie} (h : findT ts k = none) : tD (A.put k p) ts = tD A ts := by
  unfold tD
  refine List.map_congr_left fun e he => ?_
  rw [put_ne A p (findT_none h e he)]
theorem Stp.tie1 (W : WAt K H A S) (e : Tie) (h : findT S.ties e.k = none) {p : Addr} (hp : Nw H p) (fn : Fr ts Nil H H2) (h2 : H2 p = some (tieO e)) :
    Stp K ts A S H (A.put e.k p) { S with ties := S.ties ++ [e] } (upd H2 (A .t) (.dT (tD A S.ties ++ [(kT e.k, .ref p)]))) := by
  have ht := W.at_ .t _ rfl
  have W2 := W.fr fn
  have npt : A .t ≠ p := hp.ne ht rfl
  have et : tD (A.put e.k p) (S.ties ++ [e]) = tD A S.ties ++ [(kT e.k, .ref p)] := by
    have : tD (A.put e.k p) (S.ties ++ [e]) = tD (A.put e.k p) S.ties ++ [(kT e.k, .ref (A.put e.k p (.tie e.k)))] := by
      unfold tD
      rw [List.map_append]
      rfl
    rw [this, tD_put h, put_tie]
  have f0 : Fr ts (Wm A S) H H2 := fn.mono fun _ z => z.elim
  have f1 : Fr ts (Wm A S) H2 (upd H2 (A .t) (.dT (tD A S.ties ++ [(kT e.k, .ref p)]))) := Fr.write ⟨.t, _, rfl, rfl⟩ (W2.at_ .t _ rfl) rfl
  have f := f0.trans f1
  have k := W.tk f
  have hb : ∀ l o, cell A S l = some o → A.put e.k p l = A l := fun l o q => by
    cases l with
    | tie j =>
      refine put_ne A p fun z => ?_
      subst z
      rw [show cell A S (.tie e.k) = (findT S.ties e.k).map tieO from rfl, h] at q
      cases q
    | _ => rfl
  -- the cells behind it
  have hc : ∀ l o, cell (A.put e.k p) { S with ties := S.ties ++ [e] } l = some o → (l = .tie e.k ∧ o = tieO e) ∨ (l = .t ∧ o = .dT (tD A S.ties ++ [(kT e.k, .ref p)])) ∨ (l ≠ .t ∧ l ≠ .tie e.k ∧ cell A S l = some o) := fun l o q => by
    cases l with
    | tie j =>
      have q : (findT (S.ties ++ [e]) j).map tieO = some o := q
      rw [findT_snoc _ _ _ h] at q
      by_cases hj : j = e.k
      · subst hj
        rw [if_pos rfl] at q
        cases q
        exact .inl ⟨rfl, rfl⟩
      · rw [if_neg hj] at q
        exact .inr (.inr ⟨nofun, fun z => hj (by cases z; rfl), q⟩)
    | t =>
      have q : some (HO.dT (tD (A.put e.k p) (S.ties ++ [e]))) = some o := q
      rw [et] at q
      cases q
      exact .inr (.inl ⟨rfl, rfl⟩)
    | _ => exact .inr (.inr ⟨nofun, nofun, q⟩)
  refine ⟨⟨fun l o q => ?_, fun l l' o o' q q' z => ?_, ?_, paired_keep k W.ow, fun p hp => (W.de p hp).keep k, fun n rs h p hp => (W.dbk n rs h p hp).keep k⟩, f, fun l o q => ?_, fun l o q => ?_⟩
  · rcases hc l o q with ⟨rfl, rfl⟩ | ⟨rfl, rfl⟩ | ⟨n1, n2, q⟩
    · rw [put_tie, upd_ne (fun z => npt z.symm)]
      exact h2
    · exact upd_same
    · rw [hb l o q]
      have := W2.at_ l o q
      have ne1 : A l ≠ A .t := fun z => n1 (W.inj _ _ _ _ q rfl z)
      rw [upd_ne ne1]
      exact this
  · have hs : ∀ l o, cell (A.put e.k p) { S with ties := S.ties ++ [e] } l = some o → (l = .tie e.k ∧ A.put e.k p l = p) ∨ ∃ o, cell A S l = some o := fun l o q => by
      rcases hc l o q with ⟨rfl, rfl⟩ | ⟨rfl, rfl⟩ | ⟨n1, n2, q⟩
      · exact .inl ⟨rfl, put_tie _ _ _⟩
      · exact .inr ⟨_, rfl⟩
      · exact .inr ⟨_, q⟩
    rcases hs l o q with ⟨a1, a2⟩ | ⟨u, a⟩ <;> rcases hs l' o' q' with ⟨b1, b2⟩ | ⟨u', b⟩
    · exact a1.trans b1.symm
    · rw [a2, hb l' u' b] at z
      exact absurd z.symm (hp.ne (W.at_ l' u' b) (cell_nt b).1)
    · rw [b2, hb l u a] at z
      exact absurd z (hp.ne (W.at_ l u a) (cell_nt a).1)
    · rw [hb l u a, hb l' u' b] at z
      exact W.inj _ _ _ _ a b z
  · show ((S.ties ++ [e]).map (·.k)).Nodup
    rw [List.map_append]
    refine nd_snoc W.nd fun hm => ?_
    obtain ⟨e', he, hk⟩ := List.mem_map.mp hm
    exact findT_none h e' he hk
  · refine ⟨hb l o q, ?_⟩
    cases l with
    | tie j =>
      have q : (findT S.ties j).map tieO = some o := q
      show ∃ o', (findT (S.ties ++ [e]) j).map tieO = some o'
      rw [findT_snoc _ _ _ h]
      by_cases hj : j = e.k
      · exact ⟨tieO e, by rw [if_pos hj]; rfl⟩
      · exact ⟨o, by rw [if_neg hj]; exact q⟩
    | t => exact ⟨_, rfl⟩
    | _ => exact ⟨o, q⟩
  · rcases hc l o q with ⟨rfl, rfl⟩ | ⟨rfl, rfl⟩ | ⟨n1, n2, q⟩
    · exact .inr fun u hu => hp u (by rw [put_tie] at hu; exact hu)
    · exact .inl ⟨_, rfl⟩
    · exact .inl ⟨_, q⟩
/-! a row, a trail, a mark -/
def setB {β : Type} (bs : List (Str × β)) (n : Str) (y : β) : List (Str × β) := bs.map fun kv => if kv.1 = n then (kv.1, y) else kv
theorem bD_setB {β : Type} (f : Str → Addr) (bs : List (Str × β)) (n : Str) (y : β) : bD f (setB bs n y) = bD f bs := by
  unfold bD setB
  rw [List.map_map]
  refine List.map_congr_left fun e _ => ?_
  show ((Sum.inr (if e.1 = n then (e.1, y) else e).1 : Key), V.ref (f (if e.1 = n then (e.1, y) else e).1)) = _
  have ek : (if e.1 = n then (e.1, y) else e).1 = e.1 := by split <;> rfl
  rw [ek]
theorem findB_setB {β : Type} (bs : List (Str × β)) (n j : Str) (y : β) : findB (setB bs n y) j = (findB bs j).map fun x => if j = n then y else x := by
  induction bs with
  | nil => rfl
  | cons e bs ih =>
    unfold findB setB at ih ⊢
    rw [List.map_cons, List.find?_cons, List.find?_cons]
    have ek : (if e.1 = n then (e.1, y) else e).1 = e.1 := by split <;> rfl
    rw [ek]
    by_cases h : e.1 = j
    · rw [decide_eq_true h]
      subst h
      show some (if e.1 = n then (e.1, y) else e).2 = some (if e.1 = n then y else e.2)
      split <;> rfl
    · rw [decide_eq_false h]
      exact ih
theorem mem_setB {β : Type} {bs : List (Str × β)} {n : Str} {y : β} {p : Str × β} (h : p ∈ setB bs n y) : p ∈ bs ∨ p = (n, y) := by
  obtain ⟨e, he, rfl⟩ := List.mem_map.mp h
  by_cases z : e.1 = n
  · rw [if_pos z, z]
    exact .inr rfl
  · rw [if_neg z]
    exact .inl he
theorem findB_mem {β : Type} {bs : List (Str × β)} {n : Str} {x : β} (h : findB bs n = some x) : (n, x) ∈ bs := by
  obtain ⟨e, h1, h2⟩ := Option.map_eq_some_iff.mp (show (bs.find? fun kv => decide (kv.1 = n)).map (·.2) = some x from h)
  have h3 := List.find?_some (p := fun kv : Str × β => decide (kv.1 = n)) h1
  have h4 := List.mem_of_find?_eq_some h1
  have h5 : e.1 = n := of_decide_eq_true h3
  rw [← h5, ← h2]
  exact h4
theorem Stp.row (W : WAt K H A S) {n : Str} {rs : List (V × PyData)} (h : findB S.books n = some rs) (p : V × PyData) (hp : Td K H p) :
    Stp K ts A S H A { S with books := setB S.books n (rs ++ [p]) } (upd H (A (.bk n)) (.lst (rs.map (·.1) ++ [p.1]))) := by
  refine Stp.set W (l0 := .bk n) (o := .lst (rs.map (·.1))) (show (findB S.books n).map _ = _ from by rw [h]; rfl) ?_ (fun l hl => ?_) rfl ⟨rfl, rfl⟩ (fun q hq => .inl hq) fun m qs hm q hq => ?_
  · show (findB (setB S.books n (rs ++ [p])) n).map _ = _
    rw [findB_setB, h, Option.map_some, if_pos rfl, Option.map_some, List.map_append]
    rfl
  · cases l with
    | bk j =>
      show (findB (setB S.books n (rs ++ [p])) j).map _ = (findB S.books j).map _
      have ne : ¬ j = n := fun z => hl (by rw [z])
      rw [findB_setB, Option.map_map]
      refine congrArg (fun f => Option.map f (findB S.books j)) ?_
      funext x
      show HO.lst ((if j = n then rs ++ [p] else x).map (·.1)) = _
      rw [if_neg ne]
    | b =>
      show some (HO.dK (bD _ (setB S.books n (rs ++ [p])))) = _
      rw [bD_setB]
      rfl
    | _ => rfl
  · rcases mem_setB hm with hm | hm
    · exact .inl ⟨qs, hm, hq⟩
    · cases hm
      rcases List.mem_append.mp hq with hq | hq
      · exact .inl ⟨rs, findB_mem h, hq⟩
      · rw [List.mem_singleton.mp hq]
        exact .inr hp
theorem Stp.trail (W : WAt K H A S) {n : Str} {rs : List V} (h : findB S.trails n = some rs) (p : V) :
    Stp K ts A S H A { S with trails := setB S.trails n (rs ++ [p]) } (upd H (A (.tr n)) (.lst (rs ++ [p]))) := by
  refine Stp.set W (l0 := .tr n) (o := .lst rs) (show (findB S.trails n).map _ = _ from by rw [h]; rfl) ?_ (fun l hl => ?_) rfl ⟨rfl, rfl⟩ (fun q hq => .inl hq) fun m qs hm q hq => .inl ⟨qs, hm, hq⟩
  · show (findB (setB S.trails n (rs ++ [p])) n).map _ = _
    rw [findB_setB, h, Option.map_some, if_pos rfl, Option.map_some]
  · cases l with
    | tr j =>
      show (findB (setB S.trails n (rs ++ [p])) j).map _ = (findB S.trails j).map _
      have ne : ¬ j = n := fun z => hl (by rw [z])
      rw [findB_setB, Option.map_map]
      refine congrArg (fun f => Option.map f (findB S.trails j)) ?_
      funext x
      show HO.lst (if j = n then rs ++ [p] else x) = _
      rw [if_neg ne]
    | r =>
      show some (HO.dK (bD _ (setB S.trails n (rs ++ [p])))) = _
      rw [bD_setB]
      rfl
    | _ => rfl
theorem kM_inj {a b : Str × Int} (h : kM a = kM b) : a = b := by
  obtain ⟨x, y⟩ := a
  obtain ⟨u, v⟩ := b
  injection h with h1 h2
  injection h2 with h2 _
  exact Prod.ext (by injection h1) (by injection h2)
theorem kT_inj {a b : Int × Str} (h : kT a = kT b) : a = b := by
  obtain ⟨x, y⟩ := a
  obtain ⟨u, v⟩ := b
  injection h with h1 h2
  injection h2 with h2 _
  exact Prod.ext (by injection h1) (by injection h2)
theorem valV_mD (k : Str × Int) : ∀ ms : List ((Str × Int) × V), valV (mD ms) (kM k) = valV ms k
  | [] => rfl
  | e :: ms => by
    show valV ((kM e.1, e.2) :: mD ms) (kM k) = valV (e :: ms) k
    by_cases h : e.1 = k
    · rw [valV_pos (show (kM e.1, e.2).1 = kM k from by rw [h]), valV_pos h]
    · rw [valV_neg (fun z => h (kM_inj z)), valV_neg h, valV_mD k ms]
theorem valV_tD (A : Ad) (k : Int × Str) : ∀ ts : List Tie, valV (tD A ts) (kT k) = (findT ts k).map fun e => V.ref (A (.tie e.k))
  | [] => rfl
  | e :: ts => by
    show valV ((kT e.k, V.ref (A (.tie e.k))) :: tD A ts) (kT k) = (findT (e :: ts) k).map _
    by_cases h : e.k = k
    · rw [valV_pos (show (kT e.k, V.ref (A (.tie e.k))).1 = kT k from by rw [h])]
      have : findT (e :: ts) k = some e := by
        unfold findT
        rw [List.find?_cons, decide_eq_true h]
      rw [this]
      rfl
    · rw [valV_neg (fun z => h (kT_inj z)), valV_tD A k ts]
      have : findT (e :: ts) k = findT ts k := by
        unfold findT
        rw [List.find?_cons, decide_eq_false h]
      rw [this]
theorem mD_put (ms : List ((Str × Int) × V)) (k : Str × Int) (v : V) : mD (putK ms k v) = putK (mD ms) (kM k) v := by
  have ha : ((mD ms).any fun kv => decide (kv.1 = kM k)) = (ms.any fun kv => decide (kv.1 = k)) := by
    unfold mD
    rw [List.any_map]
    refine congrArg (fun f => List.any ms f) (funext fun e => ?_)
    show decide (kM e.1 = kM k) = decide (e.1 = k)
    by_cases h : e.1 = k
    · rw [decide_eq_true h, decide_eq_true (by rw [h])]
    · rw [decide_eq_false h, decide_eq_false fun z => h (kM_inj z)]
  unfold putK
  rw [ha]
  by_cases h : (ms.any fun kv => decide (kv.1 = k)) = true
  · rw [if_pos h, if_pos h]
    unfold mD
    rw [List.map_map, List.map_map]
    refine List.map_congr_left fun e _ => ?_
    show (kM (if e.1 = k then (e.1, v) else e).1, (if e.1 = k then (e.1, v) else e).2) = (if kM e.1 = kM k then (kM e.1, v) else (kM e.1, e.2))
    by_cases h : e.1 = k
    · rw [if_pos h, if_pos (by rw [h])]
    · rw [if_neg h, if_neg fun z => h (kM_inj z)]
  · rw [if_neg h, if_neg h]
    unfold mD
    rw [List.map_append]
    rfl
theorem valV_bD {β : Type} (f : Str → Addr) (n : Str) : ∀ bs : List (Str × β), valV (bD f bs) (.inr n) = (findB bs n).map fun _ => V.ref (f n)
  | [] => rfl
  | e :: bs => by
    show valV ((Sum.inr e.1, V.ref (f e.1)) :: bD f bs) (.inr n) = _
    by_cases h : e.1 = n
    · rw [valV_pos (show (Sum.inr e.1, V.ref (f e.1)).1 = (Sum.inr n : Key) from by rw [h])]
      unfold findB
      rw [List.find?_cons, decide_eq_true h]
      subst h
      rfl
    · rw [valV_neg (fun z => h (Sum.inr.inj z)), valV_bD f n bs]
      unfold findB
      rw [List.find?_cons, decide_eq_false h]
theorem Stp.mark (W : WAt K H A S) (k : Str × Int) (v : V) : Stp K ts A S H A { S with marks := putK S.marks k v } (upd H (A .m) (.dT (putK (mD S.marks) (kM k) v))) :=
  Stp.set W (l0 := .m) rfl (by show some (HO.dT (mD (putK S.marks k v))) = _; rw [mD_put]) (fun l hl => by cases l <;> first | rfl | exact absurd rfl hl) rfl ⟨rfl, rfl⟩ (fun p h => .inl h) fun n rs h p hp => .inl ⟨rs, h, hp⟩
end
end Wo

set_option Elab.async false
set_option linter.all false
set_option maxRecDepth 100000
set_option maxHeartbeats 2000000
namespace Wo
open PySem PySem.Spec PyProof.Rows L2 WW
theorem fr_mut {ts : List Addr} {m : Addr → Prop} {H H' : Hp} {p : Addr} {o u : HO} (f : Fr ts m H H') (hp : Nw H p) (e : H' p = some u) (hu : nt u = true) : Fr ts m H (upd H' p o) := by
  refine ⟨fun a v ea na hv => ?_, fun h => (f.tb h).upd fun ps z => ?_⟩
  · rw [upd_ne (hp.ne ea hv)]
    exact f.kp a v ea na hv
  · rw [e] at z
    cases z
    cases hu
/-- behind a lock -/
theorem fr_lock {ts : List Addr} {H H' : Hp} {d : Addr} {ob : Obj} {u : HO} (f : Fr ts Nil (upd H d (.frz ob u)) H') (e : H d = some u) (hu : nt u = true) : Fr ts Nil H (upd H' d u) := by
  refine ⟨fun a v ea na hv => ?_, fun h => ?_⟩
  · by_cases hd : a = d
    · subst hd
      rw [e] at ea
      cases ea
      exact upd_same
    · rw [upd_ne hd]
      exact f.kp a v (by rw [upd_ne hd]; exact ea) na hv
  · have h1 : Tbs ts (upd H d (.frz ob u)) := h.upd fun ps z => by
      rw [e] at z
      cases z
      cases hu
    refine (f.tb h1).upd fun ps z => ?_
    rw [f.kp d _ upd_same (fun z => z) rfl] at z
    cases z
section
variable {X : Cx} {σ : L2.St} {H : Hp} {Q : VK} {pos p1 p2 : Pos}
theorem we_wf (i : Nat) {x f : Str} {j : Nat} {a : Addr} {kvs : List (Key × V)} {v : V} (h : σ[i]? = some (some (.ref a))) (e : H a = some (.dK kvs)) (hv : valV kvs (.inr f) = some v) (hu : X.A.units + 1 < cLine) (q : Q v H)
    (hN : X.N[i]? = some x := by rfl) (hvs : Vis X.env.scope x := by first | exact Or.inl rfl | exact Or.inr (Or.inl rfl) | exact Or.inr (Or.inr rfl)) (hd : (x == ("__debug__" : Str)) = false := by decide)
    (hcd : (x == ("__classdict__" : Str)) = false := by decide) : WE X (.Subscript (.Name x p1) (.Constant (.str f) j p2) pos) σ H Q :=
  we_dget hu (we_var i h (we_str ⟨a, v, rfl, by rw [← hv]; exact DGet.k (k := .inr f) e, q⟩) hN hvs hd hcd)
end
theorem v_people (A : Ad) (S : Wst) : valV (wD A S) (.inr "people") = some (.int S.ppl) := rfl
theorem v_owners (A : Ad) (S : Wst) : valV (wD A S) (.inr "owners") = some (.ref (A .o)) := rfl
theorem v_ties (A : Ad) (S : Wst) : valV (wD A S) (.inr "ties") = some (.ref (A .t)) := rfl
theorem v_marks (A : Ad) (S : Wst) : valV (wD A S) (.inr "marks") = some (.ref (A .m)) := rfl
theorem v_events (A : Ad) (S : Wst) : valV (wD A S) (.inr "events") = some (.ref (A .e)) := rfl
theorem v_signs (A : Ad) (S : Wst) : valV (wD A S) (.inr "signs") = some (.int S.sg) := rfl
theorem v_books (A : Ad) (S : Wst) : valV (wD A S) (.inr "books") = some (.ref (A .b)) := rfl
theorem v_trails (A : Ad) (S : Wst) : valV (wD A S) (.inr "trails") = some (.ref (A .r)) := rfl
theorem WAt.ne {K : PySem.W.Frag} {H : Hp} {A : Ad} {S : Wst} (W : WAt K H A S) {l l' : Lb} {o o' : HO} (e : cell A S l = some o) (e' : cell A S l' = some o') (n : l ≠ l') : A l ≠ A l' := fun z => n (W.inj _ _ _ _ e e' z)
theorem room_u {k : Nat} {A : Around} (r : Room k A) : A.units + 1 < cLine := by
  have := r.units
  omega
/-- the turns of a walk over the ties' keys, the dict locked -/
theorem locked (K : PySem.W.Frag) {H H' : Hp} {A : Ad} {S : Wst} {ts : List Addr} (W : WAt K H A S) {od : Obj} (f : Fr ts Nil (upd H (A .t) (.frz od (.dT (tD A S.ties)))) H') :
    H' (A .t) = some (.frz od (.dT (tD A S.ties))) ∧ ∀ l o, l ≠ .t → cell A S l = some o → H' (A l) = some o :=
  ⟨f.kp _ _ upd_same (fun z => z) rfl, fun l o n e => f.kp _ _ (by rw [upd_ne (W.ne e rfl n)]; exact W.at_ l o e) (fun z => z) (cell_nt e).1⟩
theorem op_eqi {X : Cx} : OpR X (compareOp .Eq) (rI0 fun i j => .bl (decide (i = j))) := fun pins s σ H x y v u Q I rx ry ⟨i, j, hx, hy, q⟩ => op_eq pins s σ H x y v u Q I rx ry (by
  subst hx hy
  refine ⟨rfl, ?_⟩
  rw [show decide (V.int i = V.int j) = decide (i = j) from decide_eq_decide.mpr ⟨fun h => by injection h, fun h => by rw [h]⟩]
  exact q)
theorem op_eqs {X : Cx} : OpR X (compareOp .Eq) (fun x y H Q => ∃ i j : Str, x = .str i ∧ y = .str j ∧ Q (.bl (decide (i = j))) H) := fun pins s σ H x y v u Q I rx ry ⟨i, j, hx, hy, q⟩ => op_eq pins s σ H x y v u Q I rx ry (by
  subst hx hy
  refine ⟨rfl, ?_⟩
  rw [show decide (V.str i = V.str j) = decide (i = j) from decide_eq_decide.mpr ⟨fun h => by injection h, fun h => by rw [h]⟩]
  exact q)
theorem find_nd : ∀ {ts : List Tie} {e : Tie}, (ts.map (·.k)).Nodup → e ∈ ts → findT ts e.k = some e
  | [], _, _, h => by cases h
  | f :: ts, e, nd, h => by
    have nd : (f.k :: ts.map (·.k)).Nodup := nd
    obtain ⟨n1, n2⟩ := List.nodup_cons.mp nd
    unfold findT
    rw [List.find?_cons]
    rcases List.mem_cons.mp h with rfl | h
    · rw [decide_eq_true rfl]
    · have ne : ¬ f.k = e.k := fun z => n1 (by rw [z]; exact List.mem_map_of_mem h)
      rw [decide_eq_false ne]
      exact find_nd n2 h
end Wo

set_option Elab.async false
set_option linter.all false
set_option maxRecDepth 100000
set_option maxHeartbeats 2000000
/-! errands, what a letter sees -/
namespace Wo
open PySem PySem.Spec PyProof.Rows L2 WW
def unS : PyData → V
  | .str x => .str x
  | .int i => .int i
  | .bool b => .bl b
  | _ => .non
def scalD : PyData → Bool
  | .str _ | .int _ | .bool _ | .none => true
  | _ => false
theorem dp_scal {K : PySem.W.Frag} {H : Hp} {v : V} {d : PyData} (h : Dp K H v d) (s : scalD d = true) : v = unS d := by
  cases h <;> first | rfl | cases s
theorem dp_unS {K : PySem.W.Frag} {H : Hp} {d : PyData} (s : scalD d = true) : Dp K H (unS d) d := by
  cases d with
  | none => exact .non
  | bool b => exact .bl b
  | int i => exact .int i
  | str x => exact .str x
  | _ => cases s
theorem dps_scal {K : PySem.W.Frag} {H : Hp} : ∀ {ds : List PyData} {vs : List V}, DpAll K H vs ds → (∀ d ∈ ds, scalD d = true) → vs = ds.map unS
  | [], _, .nil, _ => rfl
  | d :: ds, _, .cons h r, s => by
    rw [dp_scal h (s d (by simp)), dps_scal r fun x hx => s x (by simp [hx])]
    rfl
theorem dps_unS {K : PySem.W.Frag} {H : Hp} : ∀ {ds : List PyData}, (∀ d ∈ ds, scalD d = true) → DpAll K H (ds.map unS) ds
  | [], _ => .nil
  | d :: ds, s => .cons (dp_unS (s d (by simp))) (dps_unS fun x hx => s x (by simp [hx]))
theorem tupds_scal : ∀ {ds : List PyData}, (∀ d ∈ ds, scalD d = true) → tupds ds = true
  | [], _ => rfl
  | d :: ds, s => by
    have h1 := s d (by simp)
    have h2 := tupds_scal (ds := ds) fun x hx => s x (by simp [hx])
    unfold tupds
    rw [h2, Bool.and_true]
    cases d <;> first | rfl | cases h1
/-- a tuple of scalars -/
theorem dp_flat {K : PySem.W.Frag} {H : Hp} {v : V} {ds : List PyData} (h : Dp K H v (.tuple ds)) (s : ∀ d ∈ ds, scalD d = true) : ∃ p, v = .ref p ∧ SqT K H p (ds.map unS) := by
  cases h with
  | tup hs hd => exact ⟨_, rfl, by rw [← dps_scal hd s]; exact hs⟩
theorem td_flat {K : PySem.W.Frag} {H : Hp} {p : Addr} {ds : List PyData} (h : SqT K H p (ds.map unS)) (s : ∀ d ∈ ds, scalD d = true) : Td K H (.ref p, .tuple ds) := ⟨.tup h (dps_unS s), by show tupds ds = true; exact tupds_scal s⟩
theorem td_scal {K : PySem.W.Frag} {H : Hp} {d : PyData} (s : scalD d = true) : Td K H (unS d, d) := ⟨dp_unS s, by cases d <;> first | rfl | cases s⟩
inductive Er where
  | walk | list | leave (m : Int) | look (m : Int) | tie (u v : Str) | part | meet (s : Int)
def erL : Er → List PyData
  | .walk => [.str "walk"]
  | .list => [.str "list"]
  | .leave m => [.str "leave", .int m]
  | .look m => [.str "look", .int m]
  | .tie u v => [.str "tie", .str u, .str v]
  | .part => [.str "part"]
  | .meet s => [.str "meet", .int s]
theorem er_scal (e : Er) : ∀ d ∈ erL e, scalD d = true := by
  cases e <;> simp [erL, scalD]
def lastI (tr : List Int) : Int := (tr.getLast?).getD 0
def others (S : Wst) (x : Int) : List Str := (S.own.filter fun o => decide (o.2 = x)).map (·.1)
def metD (b : Str) (s : Int) : PyData := .tuple [.str "met", .str b, .int s]
def livW (S : Wst) (x : Int) : List Str := (S.ties.filter fun e => decide (e.k.1 = x) && e.l).map fun e => e.k.2
inductive SeenR (S : Wst) (n : Str) (tr : List Int) (bk way : List Str) : Er → Wst → PyData → Prop
  | walk : SeenR S n tr bk way .walk S .none
  | list (ws : List Str) : ws.Perm (livW S (lastI tr)) → sortedS ws = true → SeenR S n tr bk way .list S (.tuple (ws.map .str))
  | leave (m : Int) : SeenR S n tr bk way (.leave m) { S with marks := putK S.marks (n, m) (.int (lastI tr)) } .none
  | look (m : Int) : SeenR S n tr bk way (.look m) S (.bool (decide ((valV S.marks (n, m)).getD .non = .int (lastI tr))))
  | self (u v : Str) : tr.head? = some (lastI tr) → SeenR S n tr bk way (.tie u v) S (.str "self")
  | tie (u v : Str) (x : Int) : tr.head? = some x → lastI tr ≠ x → SeenR S n tr bk way (.tie u v) { S with ties := S.ties ++ [⟨(x, u), lastI tr, v, true⟩, ⟨(lastI tr, v), x, u, true⟩] } (.tuple [.str u, .str v])
  | part (x : Int) (u : Str) (e : Tie) : tr[tr.length - 2]? = some x → way.getLast? = some u → findT S.ties (x, u) = some e → SeenR S n tr bk way .part { S with ties := dead (e.y, e.v) (dead (x, u) S.ties) } .none
  | mself (s : Int) : others S (lastI tr) = [n] → SeenR S n tr bk way (.meet s) S (.str "self")
  | mnone (s : Int) : others S (lastI tr) = [] → SeenR S n tr bk way (.meet s) S .none
  | met (s : Int) (o : Str) (r : List Str) (b : Str) (p : V) (q : V) (rs : List (V × PyData)) (qs : List V) : others S (lastI tr) = o :: r → o :: r ≠ [n] → findB S.books o = some rs → findB S.trails o = some qs → bk.getLast? = some b →
      SeenR S n tr bk way (.meet s) { S with books := setB S.books o (rs ++ [(p, metD b s)]), trails := setB S.trails o (qs ++ [q]) } (.str "met")
structure SeenPre (S : Wst) (n : Str) (tr : List Int) (bk way : List Str) (e : Er) : Prop where
  tr0 : ∃ x r, tr = x :: r
  nt : S.ties.length ≤ 60
  no : S.own.length ≤ 10
  mkk : ∀ p ∈ S.marks, p.2 = .non ∨ ∃ i, p.2 = .int i
  nm : S.marks.length ≤ 1000
  ok : PyData.strOk n = true ∧ ∀ o ∈ S.own, PyData.strOk o.1 = true
  tie : ∀ u v x, e = .tie u v → tr.head? = some x → lastI tr ≠ x → findT S.ties (x, u) = none ∧ findT S.ties (lastI tr, v) = none
  part : e = .part → ∃ x u f f2, tr[tr.length - 2]? = some x ∧ 2 ≤ tr.length ∧ way.getLast? = some u ∧ findT S.ties (x, u) = some f ∧ findT S.ties (f.y, f.v) = some f2
  meet : ∀ s, e = .meet s → others S (lastI tr) = [n] ∨ others S (lastI tr) = [] ∨ ∃ o r b rs qs, others S (lastI tr) = o :: r ∧ bk.getLast? = some b ∧ findB S.books o = some rs ∧ findB S.trails o = some qs ∧ rs.length ≤ 1000 ∧ qs.length ≤ 1000
theorem atI_lastV (tr : List Int) (h : ∃ x r, tr = x :: r) : atI (tr.map V.int) (-1) = some (.int (lastI tr)) := by
  obtain ⟨x, r, rfl⟩ := h
  have : ((x :: r).map V.int).length = r.length + 1 := by simp
  unfold atI ixN
  rw [if_neg (by decide), this, if_pos (by show -((r.length + 1 : Nat) : Int) ≤ -1; omega), Option.bind_some]
  have h2 : ((-1 : Int) + ((r.length + 1 : Nat) : Int)).toNat = r.length := by omega
  rw [h2, List.getElem?_map]
  have h3 : (x :: r)[r.length]? = (x :: r).getLast? := by rw [List.getLast?_eq_getElem?]; rfl
  rw [h3]
  unfold lastI
  cases q : (x :: r).getLast? with
  | none => simp at q
  | some y => rfl
theorem atI_neg {α : Type} (l : List α) (k : Nat) (hk : 1 ≤ k) (h : k ≤ l.length) : atI l (-(k : Int)) = l[l.length - k]? := by
  unfold atI ixN
  rw [if_neg (by omega), if_pos (by omega), Option.bind_some]
  have : (-(k : Int) + (l.length : Int)).toNat = l.length - k := by omega
  rw [this]
theorem atI_pos {α : Type} (l : List α) (k : Nat) : atI l (k : Int) = l[k]? := by
  unfold atI ixN
  rw [if_pos (by omega)]
  by_cases h : (k : Int) < l.length
  · rw [if_pos h, Option.bind_some]
    rfl
  · rw [if_neg h, List.getElem?_eq_none (by omega)]
    rfl
section
variable {X : Cx} {σ : L2.St} {H : Hp} {D : Ends} {th : List Stmt} {pos p1 p2 p3 : Pos}
theorem w_ifeq (i : Nat) {x y z : Str} {j : Nat} (h : σ[i]? = some (some (.str z))) (t : z = y → WS X th D σ H) (f : z ≠ y → D.nx σ H)
    (hN : X.N[i]? = some x := by rfl) (hvs : Vis X.env.scope x := by first | exact Or.inl rfl | exact Or.inr (Or.inl rfl) | exact Or.inr (Or.inr rfl)) (hd : (x == ("__debug__" : Str)) = false := by decide)
    (hcd : (x == ("__classdict__" : Str)) = false := by decide) : W1 X (.If (.Compare (.Name x p1) [.Eq] [.Constant (.str y) j p2] p3) th [] pos) D σ H := by
  refine w_if (wt_cmp op_eqs rfl (we_var i h (we_str ⟨z, y, rfl, rfl, _, rfl, ?_⟩) hN hvs hd hcd))
  by_cases e : z = y
  · rw [if_pos (decide_eq_true e)]
    exact t e
  · rw [if_neg (by rw [decide_eq_false e]; decide)]
    exact ws_nil (f e)
end
theorem shaped_strs : ∀ xs : List Str, (∀ x ∈ xs, PyData.strOk x = true) → SeqAt.shaped (.list (xs.map .str)) = true := fun xs h => by
  have h1 : ∀ xs : List Str, (∀ x ∈ xs, PyData.strOk x = true) → PyData.canLayAll0 (xs.map .str) = true := fun xs => by
    induction xs with
    | nil => exact fun _ => rfl
    | cons x xs ih =>
      intro h
      show (PyData.strOk x && PyData.canLayAll0 (xs.map .str)) = true
      rw [h x (by simp), ih fun y hy => h y (by simp [hy])]
      rfl
  have h2 : ∀ xs : List Str, PyData.depthAll (xs.map .str) = 0 := fun xs => by
    induction xs with
    | nil => rfl
    | cons x xs ih =>
      show max 0 (PyData.depthAll (xs.map .str)) = 0
      rw [ih]
      rfl
  unfold SeqAt.shaped
  rw [show (PyData.list (xs.map .str)).canLay0 = PyData.canLayAll0 (xs.map .str) from rfl, h1 xs h, show (PyData.list (xs.map .str)).depth = PyData.depthAll (xs.map .str) + 1 from rfl, h2]
  rfl
theorem eqv_strs : ∀ xs ys : List Str, PyData.eqvAll (xs.map .str) (ys.map .str) = true → xs = ys
  | [], [], _ => rfl
  | [], _ :: _, h => by cases h
  | _ :: _, [], h => by cases h
  | x :: xs, y :: ys, h => by
    have h : (x == y && PyData.eqvAll (xs.map .str) (ys.map .str)) = true := h
    obtain ⟨h1, h2⟩ := Bool.and_eq_true_iff.mp h
    rw [eqv_strs xs ys h2, eq_of_beq h1]
theorem paired_get {α β : Type} {R : α → β → Prop} : ∀ {l1 : List α} {l2 : List β}, Paired R l1 l2 → ∀ (i : Nat) (b : β), l2[i]? = some b → ∃ a, l1[i]? = some a ∧ R a b
  | _, _, .nil, i, b, h => by simp at h
  | _, _, .cons r t, 0, b, h => by
    cases h
    exact ⟨_, rfl, r⟩
  | _, _, .cons r t, i + 1, b, h => paired_get t i b h
theorem paired_len {α β : Type} {R : α → β → Prop} : ∀ {l1 : List α} {l2 : List β}, Paired R l1 l2 → l1.length = l2.length
  | _, _, .nil => rfl
  | _, _, .cons _ t => congrArg (· + 1) (paired_len t)
theorem own_at {K : PySem.W.Frag} {H : Hp} {A : Ad} {S : Wst} (W : WAt K H A S) {i : Nat} {o : Str × Int} (h : S.own[i]? = some o) : ∃ p, S.ov[i]? = some (.ref p) ∧ SqT K H p [.str o.1, .int o.2] := by
  obtain ⟨v, h1, h2⟩ := paired_get W.ow i o h
  obtain ⟨p, rfl, h3⟩ := dp_flat h2 (by simp [scalD])
  exact ⟨p, h1, h3⟩
theorem dg_bk {K : PySem.W.Frag} {H : Hp} {A : Ad} {S : Wst} {n : Str} {rs : List (V × PyData)} (W : WAt K H A S) (h : findB S.books n = some rs) : DGet H (A .b) (.str n) (some (.ref (A (.bk n)))) ∧ H (A (.bk n)) = some (.lst (rs.map (·.1))) :=
  ⟨.inl ⟨_, .inr n, .inl (W.at_ .b _ rfl), rfl, by rw [valV_bD, h]; rfl⟩, W.at_ (.bk n) _ (show (findB S.books n).map _ = _ from by rw [h]; rfl)⟩
theorem dg_tr {K : PySem.W.Frag} {H : Hp} {A : Ad} {S : Wst} {n : Str} {rs : List V} (W : WAt K H A S) (h : findB S.trails n = some rs) : DGet H (A .r) (.str n) (some (.ref (A (.tr n)))) ∧ H (A (.tr n)) = some (.lst rs) :=
  ⟨.inl ⟨_, .inr n, .inl (W.at_ .r _ rfl), rfl, by rw [valV_bD, h]; rfl⟩, W.at_ (.tr n) _ (show (findB S.trails n).map _ = _ from by rw [h]; rfl)⟩
theorem dps_strs {K : PySem.W.Frag} {H : Hp} : ∀ xs : List Str, DpAll K H (xs.map V.str) (xs.map .str)
  | [] => .nil
  | x :: xs => .cons (.str x) (dps_strs xs)
theorem eqv_strs_refl : ∀ xs : List Str, PyData.eqvAll (xs.map .str) (xs.map .str) = true
  | [] => rfl
  | x :: xs => by
    show (x == x && PyData.eqvAll (xs.map .str) (xs.map .str)) = true
    rw [eqv_strs_refl xs, Bool.and_true]
    exact beq_self_eq_true x
theorem room_u64 {k : Nat} {A : Around} (r : Room k A) : A.units + 64 < cLine := r.units
end Wo

set_option Elab.async false
set_option linter.all false
set_option maxRecDepth 100000
set_option maxHeartbeats 2000000
/-! the words that the laws make -/
namespace Wo
open PySem PySem.Spec PyProof.Rows L2 WW
def lett : List Str := ["p", "q", "r", "s"]
def num (n : Int) : Str := Str.ofString (toString n)
theorem num_q : ∀ L : Nat, L ≤ 60 → ∀ n ≤ L, ∀ c ∈ lett, c ++ num (n : Int) ≠ ("q" : Str) ++ num ((L : Int) + 1) := by decide +kernel
theorem num_l : ∀ L : Nat, L ≤ 63 → ∀ c ∈ lett, ∀ d ∈ lett, c ++ num (L : Int) ≠ d := by decide +kernel
def WordIn (L : Nat) (u : Str) : Prop := u ∈ lett ∨ ∃ c ∈ lett, ∃ n : Nat, n ≤ L ∧ u = c ++ num (n : Int)
theorem WordIn.mono {L M : Nat} {u : Str} (h : WordIn L u) (l : L ≤ M) : WordIn M u := by
  rcases h with h | ⟨c, hc, n, hn, e⟩
  · exact .inl h
  · exact .inr ⟨c, hc, n, Nat.le_trans hn l, e⟩
def pqL (k : Int) : Str := if k.fmod 4 = 0 then "p" else if k.fmod 4 = 1 then "q" else if k.fmod 4 = 2 then "r" else "s"
theorem fm4 (k : Int) : k.fmod 4 = 0 ∨ k.fmod 4 = 1 ∨ k.fmod 4 = 2 ∨ k.fmod 4 = 3 := by
  have h0 := Int.fmod_nonneg_of_pos k (b := 4) (by decide)
  have h1 := Int.fmod_lt_of_pos k (b := 4) (by decide)
  omega
theorem pq_mem (k : Int) : pqL k ∈ lett := by
  unfold pqL
  rcases fm4 k with h | h | h | h <;> rw [h] <;> decide +kernel
theorem pq_at (k : Int) : ∃ c, atI (Str.cps ("pqrs" : Str)).toList (k.fmod 4) = some c ∧ (⟨#[c]⟩ : Str) = pqL k := by
  unfold pqL
  rcases fm4 k with h | h | h | h <;> rw [h]
  · exact ⟨112, by decide +kernel, by decide +kernel⟩
  · exact ⟨113, by decide +kernel, by decide +kernel⟩
  · exact ⟨114, by decide +kernel, by decide +kernel⟩
  · exact ⟨115, by decide +kernel, by decide +kernel⟩
theorem pq_len (k : Int) : (pqL k).length = 1 := by
  unfold pqL
  rcases fm4 k with h | h | h | h <;> rw [h] <;> decide +kernel
theorem num_len : ∀ n : Nat, n ≤ 63 → (num (n : Int)).length ≤ 2 := by decide +kernel
def allW : List Str := lett ++ lett.flatMap fun c => (List.range 63).map fun (n : Nat) => c ++ num (n : Int)
theorem WordIn.mem {L : Nat} {u : Str} (h : WordIn L u) (l : L ≤ 62) : u ∈ allW := by
  rcases h with h | ⟨c, hc, n, hn, e⟩
  · exact List.mem_append_left _ h
  · refine List.mem_append_right _ (List.mem_flatMap.mpr ⟨c, hc, List.mem_map.mpr ⟨n, List.mem_range.mpr (by omega), e.symm⟩⟩)
theorem allW_ok : ∀ u ∈ allW, PyData.strOk u = true ∧ 1 ≤ u.length ∧ u.length ≤ 3 := by decide +kernel
end Wo

set_option Elab.async false
set_option linter.all false
set_option maxRecDepth 100000
set_option maxHeartbeats 2000000
/-! events -/
namespace Wo
open PySem PySem.Spec PyProof.Rows L2 WW
def goP (ts : List Tie) : Int → List Str → List Int × List Str × Bool
  | x, [] => ([x], [], true)
  | x, u :: r => match findT ts (x, u) with
    | some e => if e.l = true then (x :: (goP ts e.y r).1, e.v :: (goP ts e.y r).2.1, (goP ts e.y r).2.2) else ([x], [], false)
    | none => ([x], [], false)
inductive Ev where
  | born (x : Int) (u : Str) (y : Int) (v : Str)
  | gone (x : Int) (u : Str)
  | calm (n : Str) (i : Int)
  | letter (n : Str) (way : List Str) (e : Er)
def evD : Ev → PyData
  | .born x u y v => .tuple [.str "born", .int x, .str u, .int y, .str v]
  | .gone x u => .tuple [.str "gone", .int x, .str u]
  | .calm n i => .tuple [.str "calm", .str n, .int i]
  | .letter n way e => .tuple [.str "letter", .str n, .tuple (way.map .str), .tuple (erL e)]
def rerL : Er → List PyData
  | .tie _ _ => [.str "tie"]
  | e => erL e
def rowD (way : List Str) (e : Er) (seen : PyData) : PyData := .tuple [.tuple (way.map .str), .tuple (rerL e), seen]
def lostD (bk : List Str) : PyData := .tuple [.str "lost", .tuple (bk.map .str)]
def cameD (bk : List Str) (d : PyData) : PyData := .tuple [.str "came", .tuple (bk.map .str), d]
def calmD (i : Int) : PyData := .tuple [.str "calm", .int i]
def mk2 (S : Wst) (n : Str) : Er → Wst
  | .leave m => { S with marks := putK S.marks (n, m) .non }
  | _ => S
def evS (S : Wst) (v : V) (e : Ev) : Wst := { S with ev := S.ev ++ [(v, evD e)] }
def addRow (S : Wst) (n : Str) (rs : List (V × PyData)) (qs : List V) (r : V × PyData) (q : V) : Wst := { S with books := setB S.books n (rs ++ [r]), trails := setB S.trails n (qs ++ [q]) }
inductive DoR (S : Wst) (v : V) : Ev → Wst → Prop
  | born (x : Int) (u : Str) (y : Int) (v' : Str) : DoR S v (.born x u y v') { evS S v (.born x u y v') with ties := S.ties ++ [⟨(x, u), y, v', true⟩, ⟨(y, v'), x, u, true⟩] }
  | gone (x : Int) (u : Str) (e : Tie) : findT S.ties (x, u) = some e → DoR S v (.gone x u) { evS S v (.gone x u) with ties := dead (e.y, e.v) (dead (x, u) S.ties) }
  | calm (n : Str) (i : Int) (rs : List (V × PyData)) (qs : List V) (p q : V) : findB S.books n = some rs → findB S.trails n = some qs → DoR S v (.calm n i) (addRow (evS S v (.calm n i)) n rs qs (p, calmD i) q)
  | lost (n : Str) (way : List Str) (e : Er) (x : Int) (rs : List (V × PyData)) (qs : List V) (p q : V) : findB S.own n = some x → (goP S.ties x way).2.2 = false → findB S.books n = some rs → findB S.trails n = some qs →
      DoR S v (.letter n way e) (addRow (mk2 (evS S v (.letter n way e)) n e) n rs qs (p, rowD way e (lostD (goP S.ties x way).2.1)) q)
  | came (n : Str) (way : List Str) (e : Er) (x : Int) (S3 : Wst) (d : PyData) (rs : List (V × PyData)) (qs : List V) (p q : V) : findB S.own n = some x → (goP S.ties x way).2.2 = true →
      SeenR (mk2 (evS S v (.letter n way e)) n e) n (goP S.ties x way).1 (goP S.ties x way).2.1 way e S3 d → findB S3.books n = some rs → findB S3.trails n = some qs →
      DoR S v (.letter n way e) (addRow S3 n rs qs (p, rowD way e (cameD (goP S.ties x way).2.1 d)) q)
def Bk (S : Wst) (n : Str) : Prop := ∃ rs qs, findB S.books n = some rs ∧ findB S.trails n = some qs ∧ rs.length ≤ 900 ∧ qs.length ≤ 900
def EvPre (S : Wst) : Ev → Prop
  | .born x u y v => findT S.ties (x, u) = none ∧ findT S.ties (y, v) = none ∧ (x, u) ≠ (y, v)
  | .gone x u => ∃ e e2, findT S.ties (x, u) = some e ∧ findT S.ties (e.y, e.v) = some e2
  | .calm n _ => Bk S n ∧ ∃ x, findB S.own n = some x
  | .letter n way e => Bk S n ∧ way.length ≤ 100 ∧ ∃ x, findB S.own n = some x ∧ ((goP S.ties x way).2.2 = true → ∀ v, SeenPre (mk2 (evS S v (.letter n way e)) n e) n (goP S.ties x way).1 (goP S.ties x way).2.1 way e)
structure DoPre (S : Wst) (e : Ev) : Prop where
  ne : S.ev.length ≤ 1000
  nt : S.ties.length ≤ 60
  no : S.own.length ≤ 10
  nd : (S.own.map (·.1)).Nodup
  nm : S.marks.length ≤ 999
  ev : EvPre S e
theorem Stp.evp {K : PySem.W.Frag} {ts : List Addr} {A : Ad} {S : Wst} {H : Hp} (W : WAt K H A S) {v : V} {e : Ev} (h : Td K H (v, evD e)) : Stp K ts A S H A (evS S v e) (upd H (A .e) (.lst (S.ev.map (·.1) ++ [v]))) := Stp.event W (v, evD e) h
/-- what a letter sees leaves the owners; the books that were there are there -/
theorem SeenR.bk {S S' : Wst} {n m : Str} {tr : List Int} {bk way : List Str} {e : Er} {d : PyData} (h : SeenR S n tr bk way e S' d) {rs : List (V × PyData)} {qs : List V} (h1 : findB S.books m = some rs) (h2 : findB S.trails m = some qs) :
    ∃ rs' qs', findB S'.books m = some rs' ∧ findB S'.trails m = some qs' ∧ rs'.length ≤ rs.length + 1 ∧ qs'.length ≤ qs.length + 1 := by
  cases h <;> try exact ⟨rs, qs, h1, h2, Nat.le_succ _, Nat.le_succ _⟩
  rename_i o r b p q rs1 qs1 e1 e2 e3 e4 e5
  show ∃ rs' qs', findB (setB S.books o _) m = some rs' ∧ findB (setB S.trails o _) m = some qs' ∧ _
  rw [findB_setB, findB_setB, h1, h2]
  by_cases hm : m = o
  · subst hm
    rw [e3] at h1
    rw [e4] at h2
    cases h1
    cases h2
    exact ⟨_, _, by rw [Option.map_some, if_pos rfl], by rw [Option.map_some, if_pos rfl], by rw [List.length_append]; exact Nat.le_refl _, by rw [List.length_append]; exact Nat.le_refl _⟩
  · exact ⟨rs, qs, by rw [Option.map_some, if_neg hm], by rw [Option.map_some, if_neg hm], Nat.le_succ _, Nat.le_succ _⟩
theorem td_tup2 {K : PySem.W.Frag} {H : Hp} {p : Addr} {v1 v2 : V} {d1 d2 : PyData} (h : SqT K H p [v1, v2]) (h1 : Td K H (v1, d1)) (h2 : Td K H (v2, d2)) : Td K H (.ref p, .tuple [d1, d2]) :=
  ⟨.tup h (.cons h1.is (.cons h2.is .nil)), by
    show tupds [d1, d2] = true
    have t1 : tupd d1 = true := h1.tp
    have t2 : tupd d2 = true := h2.tp
    simp [tupds, t1, t2]⟩
theorem td_tup3 {K : PySem.W.Frag} {H : Hp} {p : Addr} {v1 v2 v3 : V} {d1 d2 d3 : PyData} (h : SqT K H p [v1, v2, v3]) (h1 : Td K H (v1, d1)) (h2 : Td K H (v2, d2)) (h3 : Td K H (v3, d3)) : Td K H (.ref p, .tuple [d1, d2, d3]) :=
  ⟨.tup h (.cons h1.is (.cons h2.is (.cons h3.is .nil))), by
    show tupds [d1, d2, d3] = true
    have t1 : tupd d1 = true := h1.tp
    have t2 : tupd d2 = true := h2.tp
    have t3 : tupd d3 = true := h3.tp
    simp [tupds, t1, t2, t3]⟩
theorem td_strs {K : PySem.W.Frag} {H : Hp} {p : Addr} {xs : List Str} (h : SqT K H p (xs.map V.str)) : Td K H (.ref p, .tuple (xs.map .str)) :=
  td_flat (by rw [List.map_map]; exact h) (fun d hd => by obtain ⟨x, _, rfl⟩ := List.mem_map.mp hd; rfl)
theorem Stp.nwm {K : PySem.W.Frag} {ts : List Addr} {A A' : Ad} {S S' : Wst} {H H' : Hp} (s : Stp K ts A S H A' S' H') {x : Addr} {o : HO} (hx : H x = some o) (hn : nt o = true) (h : ¬ Wm A S x) : ¬ Wm A' S' x := fun ⟨l, o1, e, z⟩ => by
  rcases s.new l o1 e with ⟨o2, e2⟩ | k
  · exact h ⟨l, o2, e2, by rw [← (s.ext l o2 e2).1]; exact z⟩
  · rw [k o (by rw [z]; exact hx)] at hn
    cases hn
theorem Stp.keep {K : PySem.W.Frag} {ts : List Addr} {A A' : Ad} {S S' : Wst} {H H' : Hp} (s : Stp K ts A S H A' S' H') {x : Addr} {o : HO} (hx : H x = some o) (hn : nt o = true) (h : ¬ Wm A S x) : H' x = some o := s.fr.kp x o hx h hn
theorem mk2_bk (S : Wst) (n : Str) (e : Er) : (mk2 S n e).books = S.books ∧ (mk2 S n e).trails = S.trails ∧ (mk2 S n e).own = S.own ∧ (mk2 S n e).ties = S.ties := by cases e <;> exact ⟨rfl, rfl, rfl, rfl⟩
def dr (S : Wst) (n k : Int) : Wst := { S with dn := n, dk := k }
theorem wm_dr {A : Ad} {S : Wst} {n k : Int} {x : Addr} : Wm A (dr S n k) x ↔ Wm A S x := by
  refine ⟨fun ⟨l, o, e, z⟩ => ?_, fun ⟨l, o, e, z⟩ => ?_⟩ <;> cases l <;> exact ⟨_, _, by first | exact e | rfl, z⟩
theorem WAt.mut {K : PySem.W.Frag} {H : Hp} {A : Ad} {S : Wst} (W : WAt K H A S) {p : Addr} {xs : List V} {o : HO} (h : ¬ Wm A S p) (e : H p = some (.lst xs)) : WAt K (upd H p o) A S := by
  have k : TK H (upd H p o) := TK.wr e (fun _ => nofun) fun _ _ => nofun
  exact ⟨fun l o e => by rw [upd_ne fun z => h ⟨l, o, e, z⟩]; exact W.at_ l o e, W.inj, W.nd, paired_keep k W.ow, fun p hp => (W.de p hp).keep k, fun n rs h p hp => (W.dbk n rs h p hp).keep k⟩
theorem Stp.mut {K : PySem.W.Frag} {ts : List Addr} {A A' : Ad} {S S' : Wst} {H H' : Hp} (s : Stp K ts A S H A' S' H') {p : Addr} {xs : List V} {o : HO} (n : Nw H p) (h : ¬ Wm A' S' p) (e : H' p = some (.lst xs)) : Stp K ts A S H A' S' (upd H' p o) :=
  ⟨s.wat.mut h e, fr_mut s.fr n e rfl, s.ext, s.new⟩
end Wo

set_option Elab.async false
set_option linter.all false
set_option maxRecDepth 100000
set_option maxHeartbeats 2000000
/-! errands that the laws draw -/
namespace Wo
open PySem PySem.Spec PyProof.Rows L2 WW
def leftM (S : Wst) (n : Str) : List Int := (S.marks.filter fun e => decide (e.1.1 = n)).map fun e => e.1.2
def ErOk (S : Wst) (n : Str) (x : Int) (way : List Str) : Er → Prop
  | .leave m => m = 10 * (1 + ((leftM S n).length : Int))
  | .look m => m ∈ leftM S n ∨ (10 ≤ m ∧ m ≤ 50)
  | .part => (goP S.ties x way).2.2 = true ∧ way ≠ []
  | .tie u v => (goP S.ties x way).2.2 = true ∧ findT S.ties (x, u) = none ∧ findT S.ties (lastI (goP S.ties x way).1, v) = none ∧ WordIn (S.ties.length + 2) u ∧ WordIn (S.ties.length + 2) v
  | .meet s => s = S.sg + 1
  | _ => True
def sgE (S : Wst) : Er → Wst
  | .meet _ => { S with sg := S.sg + 1 }
  | _ => S
theorem eqv_nilL (ds : List PyData) : PyData.eqv (.list ds) (.list []) = ds.isEmpty := by cases ds <;> rfl
theorem eqv_nilT (ds : List PyData) : PyData.eqv (.tuple ds) (.tuple []) = ds.isEmpty := by cases ds <;> rfl
theorem shaped_ints (xs : List Int) : SeqAt.shaped (.list (xs.map .int)) = true := by
  have h1 : ∀ xs : List Int, PyData.canLayAll0 (xs.map .int) = true := fun xs => by
    induction xs with
    | nil => rfl
    | cons x xs ih =>
      show (true && PyData.canLayAll0 (xs.map .int)) = true
      rw [ih]
      rfl
  have h2 : ∀ xs : List Int, PyData.depthAll (xs.map .int) = 0 := fun xs => by
    induction xs with
    | nil => rfl
    | cons x xs ih =>
      show max 0 (PyData.depthAll (xs.map .int)) = 0
      rw [ih]
      rfl
  unfold SeqAt.shaped
  rw [show (PyData.list (xs.map .int)).canLay0 = PyData.canLayAll0 (xs.map .int) from rfl, h1, show (PyData.list (xs.map .int)).depth = PyData.depthAll (xs.map .int) + 1 from rfl, h2]
  rfl
theorem shaped_strsT (xs : List Str) (h : ∀ x ∈ xs, PyData.strOk x = true) : SeqAt.shaped (.tuple (xs.map .str)) = true := shaped_strs xs h
theorem dps_ints {K : PySem.W.Frag} {H : Hp} : ∀ xs : List Int, DpAll K H (xs.map V.int) (xs.map .int)
  | [] => .nil
  | x :: xs => .cons (.int x) (dps_ints xs)
/-- the turns of a walk over the marks' keys, the dict locked -/
theorem lockedM (K : PySem.W.Frag) {H H' : Hp} {A : Ad} {S : Wst} {ts : List Addr} (W : WAt K H A S) {od : Obj} (f : Fr ts Nil (upd H (A .m) (.frz od (.dT (mD S.marks)))) H') :
    H' (A .m) = some (.frz od (.dT (mD S.marks))) ∧ ∀ l o, l ≠ .m → cell A S l = some o → H' (A l) = some o :=
  ⟨f.kp _ _ upd_same (fun z => z) rfl, fun l o n e => f.kp _ _ (by rw [upd_ne (W.ne e rfl n)]; exact W.at_ l o e) (fun z => z) (cell_nt e).1⟩
theorem goP_head (ts : List Tie) (x : Int) (way : List Str) : ∃ r, (goP ts x way).1 = x :: r := by
  cases way with
  | nil => exact ⟨[], rfl⟩
  | cons u r =>
    unfold goP
    split
    · split
      · exact ⟨_, rfl⟩
      · exact ⟨[], rfl⟩
    · exact ⟨[], rfl⟩
end Wo

set_option Elab.async false
set_option linter.all false
set_option maxRecDepth 100000
set_option maxHeartbeats 2000000
/-! sorted(xs), xs a list of pairs (whole number, text) -/
namespace Wo
open PySem PySem.Spec L2 WW
def keyD (k : Addr × (Int × Str)) : PyData := .tuple [.int k.2.1, .str k.2.2]
def rSortedK : List V → Hp → VK → Prop := fun vs H Q => ∃ (a : Addr) (ks : List (Addr × (Int × Str))), vs = [V.ref a] ∧ H a = some (.lst (ks.map fun k => V.ref k.1)) ∧ (∀ k ∈ ks, H k.1 = some (.tup ((kT k.2).map kV))) ∧ ks.length ≤ 1000 ∧
  ∀ (ys : List (Addr × (Int × Str))) (p : Addr), ys.Perm ks → H p = none → Q (.ref p) (upd H p (.lst (ys.map fun k => V.ref k.1)))
theorem vals_refs {β : Type} (f : β → Addr) : ∀ {ks : List β} {its : List Value}, Vals (ks.map fun k => V.ref (f k)) its → its = ks.map fun k => Value.ref (f k)
  | [], _, .nil => rfl
  | k :: ks, _, .cons h t => by
    cases h
    rw [vals_refs f t]
    rfl
theorem refs_vals {β : Type} (f : β → Addr) : ∀ ks : List β, Vals (ks.map fun k => V.ref (f k)) (ks.map fun k => Value.ref (f k))
  | [] => .nil
  | k :: ks => .cons rfl (refs_vals f ks)
theorem each_self {α β : Type} (f : β → α) (R : α → β → Prop) : ∀ ks : List β, (∀ k ∈ ks, R (f k) k) → PySem.W.EachIs R (ks.map f) ks
  | [], _ => .nil
  | k :: ks, h => .cons (h k (by simp)) (each_self f R ks fun x hx => h x (by simp [hx]))
theorem each_out {α β : Type} (f : β → α) : ∀ {out : List α} {bs : List β}, PySem.W.EachIs (fun v b => v = f b) out bs → out = bs.map f
  | [], [], .nil => rfl
  | _ :: _, _ :: _, .cons h t => by rw [h, each_out f t]; rfl
theorem cr_sortedK {X : Cx} (hu : X.A.units + 64 < cLine) : CallR X (.builtin "sorted") rSortedK := by
  intro pins s σ H vs us Q I r h
  obtain ⟨a, ks, rfl, hs, hx, hz, q⟩ := h
  obtain ⟨its, rv, hl, _⟩ := I.list (.inl (.inl hs))
  obtain ⟨u, rfl, ru⟩ := vals1 r
  obtain rfl : u = Value.ref a := ru
  have hits := vals_refs (fun k : Addr × (Int × Str) => k.1) rv
  subst hits
  have hz1 : 1000 ≤ sizeLine := by decide
  have hz2 : ks.length ≤ sizeLine := Nat.le_trans hz hz1
  refine PySem.W.sorted_data (enc := keyD) (bs := ks) (R := fun v k => v = Value.ref k.1) hl.isList (each_self _ _ ks fun _ _ => rfl) (each_self _ _ ks fun k hk => ?_) ?_ ?_ hz2 (fun b hb => ?_) fun out ho eo => ?_
  · exact Dp.reads I (keyD k) (.ref k.1) _ (.tup (.inl (.inl (hx k hk))) (.cons (.int _) (.cons (.str _) .nil))) rfl
  · exact PySem.W.AllAlike.of fun b b' => by simp [keyD, PySem.W.alike, PySem.W.alikeAll]
  · exact PySem.W.Sortable.tuples fun b => ⟨_, _, rfl⟩
  · have : (keyD b).depth = 1 := by simp [keyD, PyData.depth, PyData.depthAll]
    omega
  · have hp := List.mergeSort_perm ks (PySem.W.dataLe false keyD)
    have ho2 := each_out (fun k : Addr × (Int × Str) => Value.ref k.1) eo
    subst ho2
    obtain ⟨c, hc⟩ := PyProof.Rows.sortedAll_at s.heap (ks.map fun k => Value.ref k.1) (((ks.mergeSort (PySem.W.dataLe false keyD)).map fun k => Value.ref k.1).toArray)
    refine ⟨.ref (s.heap.objs.size + 1), _, I.laid (a := s.heap.objs.size + 1) (o := .lst ((ks.mergeSort (PySem.W.dataLe false keyD)).map fun k => V.ref k.1)) (t' := s.toks) (fun _ _ => PyProof.Rows.sortedAll_old) (Nat.le_succ _) ⟨?_, _, c, refs_vals (fun k : Addr × (Int × Str) => k.1) _, hc⟩, rfl, q _ _ hp (I.hok.fresh (Nat.le_succ _))⟩
    rw [List.length_map, hp.length_eq]
    exact hz2
end Wo

set_option Elab.async false
set_option linter.all false
set_option maxRecDepth 100000
set_option maxHeartbeats 2000000
/-! a world from cells that were made one by one -/
namespace Wo
open PySem PySem.Spec PyProof.Rows L2 WW
structure Cs (H : Hp) (cs : List (Lb × Addr × HO)) : Prop where
  at_ : ∀ c ∈ cs, H c.2.1 = some c.2.2 ∧ nt c.2.2 = true
  nd : (cs.map (·.2.1)).Nodup
theorem Cs.fr {ts : List Addr} {H H' : Hp} {cs : List (Lb × Addr × HO)} (c : Cs H cs) (f : WW.Fr ts Nil H H') : Cs H' cs := ⟨fun x hx => ⟨f.kp _ _ (c.at_ x hx).1 (fun z => z) (c.at_ x hx).2, (c.at_ x hx).2⟩, c.nd⟩
theorem Cs.add {H : Hp} {cs : List (Lb × Addr × HO)} (c : Cs H cs) {l : Lb} {p : Addr} {o : HO} (hp : H p = none) (hn : nt o = true) : Cs (upd H p o) ((l, p, o) :: cs) := by
  refine ⟨fun x hx => ?_, ?_⟩
  · rcases List.mem_cons.mp hx with rfl | hx
    · exact ⟨upd_same, hn⟩
    · exact ⟨by rw [upd_ne (ne_of_none (c.at_ x hx).1 hp)]; exact (c.at_ x hx).1, (c.at_ x hx).2⟩
  · refine List.nodup_cons.mpr ⟨fun hm => ?_, c.nd⟩
    obtain ⟨x, hx, e⟩ := List.mem_map.mp hm
    have := (c.at_ x hx).1
    rw [e, hp] at this
    cases this
theorem Cs.wr {H : Hp} {cs : List (Lb × Addr × HO)} {l : Lb} {p : Addr} {o : HO} (c : Cs H ((l, p, o) :: cs)) (o' : HO) (hn : nt o' = true) : Cs (upd H p o') ((l, p, o') :: cs) := by
  have nd : (p :: cs.map (·.2.1)).Nodup := c.nd
  refine ⟨fun x hx => ?_, nd⟩
  rcases List.mem_cons.mp hx with rfl | hx
  · exact ⟨upd_same, hn⟩
  · have ne : x.2.1 ≠ p := fun z => (List.nodup_cons.mp nd).1 (by rw [← z]; exact List.mem_map.mpr ⟨x, hx, rfl⟩)
    exact ⟨by rw [upd_ne ne]; exact (c.at_ x (List.mem_cons_of_mem _ hx)).1, (c.at_ x (List.mem_cons_of_mem _ hx)).2⟩
theorem nodup_inj {α β : Type} {f : α → β} : ∀ {l : List α}, (l.map f).Nodup → ∀ x ∈ l, ∀ y ∈ l, f x = f y → x = y
  | [], _, x, hx, _, _, _ => by cases hx
  | a :: l, nd, x, hx, y, hy, e => by
    have nd : (f a :: l.map f).Nodup := nd
    obtain ⟨n1, n2⟩ := List.nodup_cons.mp nd
    rcases List.mem_cons.mp hx with rfl | hx1 <;> rcases List.mem_cons.mp hy with rfl | hy1
    · rfl
    · exact absurd (show f x ∈ l.map f from List.mem_map.mpr ⟨y, hy1, e.symm⟩) n1
    · exact absurd (show f y ∈ l.map f from List.mem_map.mpr ⟨x, hx1, e⟩) n1
    · exact nodup_inj n2 x hx1 y hy1 e
theorem Cs.world {K : PySem.W.Frag} {H : Hp} {cs : List (Lb × Addr × HO)} {A : Ad} {S : Wst} (c : Cs H cs) (h : ∀ l o, cell A S l = some o → (l, A l, o) ∈ cs)
    (nd : (S.ties.map (·.k)).Nodup) (ow : Paired (fun v p => Dp K H v (.tuple [.str p.1, .int p.2])) S.ov S.own) (de : S.ev = []) (db : ∀ n rs, (n, rs) ∈ S.books → rs = []) : WAt K H A S :=
  ⟨fun l o e => (c.at_ _ (h l o e)).1, fun l l' o o' e e' z => congrArg (·.1) (nodup_inj c.nd _ (h l o e) _ (h l' o' e') z), nd, ow, fun p hp => absurd hp (by rw [de]; exact List.not_mem_nil), fun n rs hm p hp => absurd hp (by rw [db n rs hm]; exact List.not_mem_nil)⟩
theorem mergeK_nd : ∀ (kvs acc : List (Key × V)), ((acc ++ kvs).map (·.1)).Nodup → mergeK acc kvs = acc ++ kvs
  | [], acc, _ => by rw [List.append_nil]; rfl
  | p :: r, acc, nd => by
    have hv : valV acc p.1 = none := by
      cases q : valV acc p.1 with
      | none => rfl
      | some u =>
        exfalso
        rw [List.map_append] at nd
        exact (List.nodup_append.mp nd).2.2 p.1 (valV_in q) p.1 (by simp) rfl
    show mergeK (putK acc p.1 p.2) r = _
    rw [putK_new _ hv, mergeK_nd r (acc ++ [(p.1, p.2)]) (by rw [List.append_assoc]; exact nd), List.append_assoc]
    rfl
/-- names and the places of what is kept for them -/
def adr (L : List (Str × Addr × Addr)) (n : Str) : Addr := ((L.find? fun e => decide (e.1 = n)).map (·.2.2)).getD 0
theorem adr_mem : ∀ {L : List (Str × Addr × Addr)}, (L.map (·.1)).Nodup → ∀ e ∈ L, adr L e.1 = e.2.2
  | [], _, e, h => by cases h
  | a :: L, nd, e, h => by
    have nd : (a.1 :: L.map (·.1)).Nodup := nd
    obtain ⟨n1, n2⟩ := List.nodup_cons.mp nd
    unfold adr
    rw [List.find?_cons]
    rcases List.mem_cons.mp h with rfl | h
    · rw [decide_eq_true rfl]
      rfl
    · have ne : ¬ a.1 = e.1 := fun z => n1 (by rw [z]; exact List.mem_map.mpr ⟨e, h, rfl⟩)
      rw [decide_eq_false ne]
      exact adr_mem n2 e h
theorem bD_adr {β : Type} (x : β) {L : List (Str × Addr × Addr)} (nd : (L.map (·.1)).Nodup) : bD (adr L) (L.map fun e => (e.1, x)) = L.map fun e => ((.inr e.1 : Key), V.ref e.2.2) := by
  unfold bD
  rw [List.map_map]
  refine List.map_congr_left fun e he => ?_
  show ((Sum.inr e.1 : Key), V.ref (adr L e.1)) = _
  rw [adr_mem nd e he]
theorem Cs.app {ts : List Addr} {G H : Hp} {cs new : List (Lb × Addr × HO)} (c : Cs G cs) (f : WW.Fr ts Nil G H) (h : ∀ x ∈ new, H x.2.1 = some x.2.2 ∧ nt x.2.2 = true ∧ Nw G x.2.1) (nd : (new.map (·.2.1)).Nodup) : Cs H (new ++ cs) := by
  have c' := c.fr f
  refine ⟨fun x hx => ?_, ?_⟩
  · rcases List.mem_append.mp hx with hx | hx
    · exact ⟨(h x hx).1, (h x hx).2.1⟩
    · exact c'.at_ x hx
  · rw [List.map_append]
    refine List.nodup_append.mpr ⟨nd, c.nd, fun a ha b hb z => ?_⟩
    obtain ⟨x, hx, rfl⟩ := List.mem_map.mp ha
    obtain ⟨y, hy, rfl⟩ := List.mem_map.mp hb
    exact (h x hx).2.2.ne (c.at_ y hy).1 (c.at_ y hy).2 z.symm
theorem Cs.perm {H : Hp} {cs cs' : List (Lb × Addr × HO)} (c : Cs H cs) (p : cs'.Perm cs) : Cs H cs' := ⟨fun x hx => c.at_ x (p.mem_iff.mp hx), (p.map (·.2.1)).nodup_iff.mpr c.nd⟩
theorem paired_map {β α γ : Type} {R : α → γ → Prop} (f : β → α) (g : β → γ) : ∀ L : List β, (∀ e ∈ L, R (f e) (g e)) → Paired R (L.map f) (L.map g)
  | [], _ => .nil
  | e :: L, h => .cons (h e (by simp)) (paired_map f g L fun x hx => h x (by simp [hx]))
/-- names with their new lists -/
structure NmL (G H : Hp) (D : Addr) (names : List Str) (L : List (Str × Addr × Addr)) : Prop where
  nm : L.map (·.1) = names
  at_ : ∀ e ∈ L, H e.2.1 = some (.tup [.str e.1, .ref e.2.2]) ∧ H e.2.2 = some (.lst []) ∧ e.2.2 ≠ D ∧ Nw G e.2.2
  nd : (L.map (·.2.2)).Nodup
theorem NmL.kp {G H H' : Hp} {D : Addr} {names : List Str} {L : List (Str × Addr × Addr)} {zs : List V} (n : NmL G H D names L) (hd : H D = some (.lst zs)) (k : ∀ a o, a ≠ D → H a = some o → H' a = some o) : NmL G H' D names L :=
  ⟨n.nm, fun e he => ⟨k _ _ (fun z => by have := (n.at_ e he).1; rw [z, hd] at this; cases this) (n.at_ e he).1, k _ _ (n.at_ e he).2.2.1 (n.at_ e he).2.1, (n.at_ e he).2.2⟩, n.nd⟩
theorem NmL.fr {ts : List Addr} {G H H' : Hp} {D : Addr} {names : List Str} {L : List (Str × Addr × Addr)} (n : NmL G H D names L) (f : WW.Fr ts Nil H H') : NmL G H' D names L :=
  ⟨n.nm, fun e he => ⟨f.kp _ _ (n.at_ e he).1 (fun z => z) rfl, f.kp _ _ (n.at_ e he).2.1 (fun z => z) rfl, (n.at_ e he).2.2⟩, n.nd⟩
theorem NmL.snoc {ts : List Addr} {G H : Hp} {D q t : Addr} {names : List Str} {x : Str} {L : List (Str × Addr × Addr)} {zs : List V} (n : NmL G H D names L) (f : WW.Fr ts Nil G H) (hd : H D = some (.lst zs)) (hq : H q = none) (ht : upd H q (.lst []) t = none) :
    NmL G (upd (upd H q (.lst [])) t (.tup [.str x, .ref q])) D (names ++ [x]) (L ++ [(x, t, q)]) := by
  have f2 : WW.Fr ts Nil H (upd (upd H q (.lst [])) t (.tup [.str x, .ref q])) := (WW.Fr.new hq).trans (WW.Fr.new ht)
  refine ⟨by rw [List.map_append, n.nm]; rfl, fun e he => ?_, ?_⟩
  · rcases List.mem_append.mp he with he | he
    · exact (n.fr f2).at_ e he
    · rw [List.mem_singleton.mp he]
      exact ⟨upd_same, by show upd (upd H q (.lst [])) t _ q = _; rw [upd_ne (ne_of_none upd_same ht)]; exact upd_same, (ne_of_none hd hq).symm, (Nw.of hq).back f⟩
  · rw [List.map_append]
    refine nd_snoc n.nd fun hm => ?_
    obtain ⟨e, he, z⟩ := List.mem_map.mp hm
    have := (n.at_ e he).2.1
    rw [z, hq] at this
    cases this
end Wo

set_option Elab.async false
set_option linter.all false
set_option maxRecDepth 100000
set_option maxHeartbeats 4000000
/-! None, asked for among tuples -/
namespace Wn
open PySem PySem.Spec PyProof.Rows L2
section
variable {prog : Program} {w : World} {A : Around} {E : Value → Shared → Prop} {s : Shared} {d : Addr}
abbrev kT (prog : Program) (w : World) := tupleKind (mixKind prog w)
theorem is_tup {h : Heap} {k : List Key} {a : Addr} (x : (kT prog w).is h k a) : ∃ items, h.IsTuple a items := by
  obtain ⟨o, items, n, ho, hc, hd, hi⟩ := x
  exact ⟨items, ⟨o, ho, hc, n, hd⟩⟩
theorem find_none {o : Obj} {es : Array DictEntry} {ep : Nat} {xs : List (List Key × Addr × Value)} {hs : Int} {Q : Option Nat → Shared → Prop} (hu : A.units < cLine) (ho : s.heap.get? d = some o) (hd : o.data = .dict es ep)
    (he : es.toList = xs.map (entryOfKey (kT prog w))) (his : ∀ x ∈ xs, (kT prog w).is s.heap x.1 x.2.1) (h : Q none s) : wpAny (model prog w) A (dictFind d .none hs) Q E s := by
  have hmem : ∀ (i : Nat) (e : DictEntry), es[i]? = some e → ∃ k b v, e = ⟨(kT prog w).hash k, .ref b, v⟩ ∧ (kT prog w).is s.heap k b := by
    intro i e hi
    rw [entry_at he i] at hi
    obtain ⟨x, hx, rfl⟩ := Option.map_eq_some_iff.mp hi
    exact ⟨x.1, x.2.1, x.2.2, rfl, his x (List.mem_of_getElem? hx)⟩
  have hpl : ∀ i ∈ placesWithHash es.size (fun i => es[i]?.map (·.hash)) hs, ∃ e, es[i]? = some e := by
    intro i hi
    unfold placesWithHash at hi
    have := (List.mem_filter.mp hi).2
    cases q : es[i]? with
    | some e => exact ⟨e, rfl⟩
    | none =>
      have z : (es[i]?.map (·.hash) == some hs) = true := this
      rw [q] at z
      cases z
  have hst : ∀ v ∈ (placesWithHash es.size (fun i => es[i]?.map (·.hash)) hs).filterMap (fun i => es[i]?.map (·.key)), ∃ k b, v = .ref b ∧ (kT prog w).is s.heap k b := by
    intro v hv
    obtain ⟨i, _, hi⟩ := List.mem_filterMap.mp hv
    cases q : es[i]? with
    | none => rw [q] at hi; cases hi
    | some e =>
      obtain ⟨k, b, u, e1, e2⟩ := hmem i e q
      rw [q] at hi
      obtain rfl : e.key = v := by simpa using hi
      exact ⟨k, b, by rw [e1], e2⟩
  unfold dictFind
  try with_reducible refine wpAny_holding ?_
  refine wpAny_bind (wpAny_dictEntries ho hd ?_)
  dsimp only
  generalize hP : placesWithHash es.size (fun i => es[i]?.map (·.hash)) hs = pl at hpl hst ⊢
  cases pl with
  | nil =>
    rw [if_pos (by simp [carriedByValue])]
    refine wpAny_bind ?_
    refine wpAny_forIn_list _ (fun rest b s' => s' = s ∧ b = (none, ()) ∧ rest = []) _ ?_ ?_ _ _ ⟨rfl, rfl, rfl⟩
    · rintro x rest b s' ⟨_, _, z⟩
      cases z
    · rintro b s' ⟨rfl, rfl, _⟩
      exact wpAny_pure h
  | cons i pl =>
    obtain ⟨e0, he0⟩ := hpl i (List.mem_cons_self ..)
    obtain ⟨k0, b0, v0, rfl, hk0⟩ := hmem i e0 he0
    have hs0 : (i :: pl).filterMap (fun i => es[i]?.map (·.key)) = .ref b0 :: pl.filterMap (fun i => es[i]?.map (·.key)) := by
      rw [List.filterMap_cons, he0] <;> rfl
    rw [hs0] at hst ⊢
    rw [if_neg (by simp [carriedByValue])]
    have hne : ((Value.ref b0 :: pl.filterMap (fun i => es[i]?.map (·.key))) == [Value.none]) = false := by
      simp
    rw [if_neg (by rw [hne]; exact Bool.false_ne_true)]
    refine wpAny_bind ?_
    have tell : wpAny (model prog w) A (tableMayTell .none (.ref b0 :: pl.filterMap (fun i => es[i]?.map (·.key)))) (fun t s' => t = false ∧ s' = s) E s := by
      unfold tableMayTell
      rw [if_neg (by simp)]
      refine wpAny_bind ?_
      show wpAny _ _ (pure true) _ _ _
      refine wpAny_pure ?_
      simp only [Bool.not_true, Bool.false_eq_true, if_false]
      refine wpAny_bind ?_
      refine wpAny_forIn_list _ (fun rest r s' => s' = s ∧ r = (none, ()) ∧ ∀ v ∈ rest, ∃ k b, v = .ref b ∧ (kT prog w).is s.heap k b) _ ?_ ?_ _ _ ⟨rfl, rfl, hst⟩
      · rintro x rest r s' ⟨rfl, rfl, hr⟩
        obtain ⟨k', b, rfl, hb⟩ := hr x List.mem_cons_self
        refine wpAny_bind ((kT prog w).quiet hb ?_)
        simp only [Bool.not_true, Bool.false_eq_true, if_false]
        exact wpAny_pure ⟨rfl, rfl, fun v hv => hr v (List.mem_cons_of_mem _ hv)⟩
      · rintro r s' ⟨rfl, rfl, _⟩
        exact wpAny_pure ⟨rfl, rfl⟩
    refine wpAny_mono tell ?_ (fun _ _ z => z)
    rintro t s' ⟨rfl, rfl⟩
    rw [if_neg (by simp)]
    refine wpAny_bind ?_
    refine wpAny_forIn_list _ (fun rest b s'' => s'' = s' ∧ b = (none, none) ∧ ∀ j ∈ rest, ∃ e, es[j]? = some e) _ ?_ ?_ _ _ ⟨rfl, rfl, hpl⟩
    · rintro x rest b s'' ⟨rfl, rfl, hr⟩
      obtain ⟨e, hx⟩ := hr x List.mem_cons_self
      obtain ⟨k, b, v, rfl, hk⟩ := hmem x e hx
      obtain ⟨items, ht⟩ := is_tup hk
      rw [hx]
      dsimp only
      have go : ∀ j ∈ rest, ∃ e, es[j]? = some e := fun j hj => hr j (List.mem_cons_of_mem _ hj)
      by_cases hh : ((kT prog w).hash k == hs) = true
      · rw [if_pos hh]
        refine wpAny_bind (wpAny_dictEpoch ho hd (wpAny_bind (SeqAt.EqAt.tuple_none ht hu prog w _ _ (wpAny_bind (wpAny_dictEpoch ho hd ?_)))))
        rw [if_neg (by simp)]
        simp only [Bool.false_eq_true, if_false]
        refine wpAny_bind (wpAny_rule ?_)
        first | rw [if_neg (by simp)] | skip
        first
          | exact wpAny_pure ⟨rfl, rfl, go⟩
          | exact wpAny_bind (wpAny_pure (wpAny_pure ⟨rfl, rfl, go⟩))
      · rw [if_neg hh]
        exact wpAny_pure ⟨rfl, rfl, go⟩
    · rintro b s'' ⟨rfl, rfl, _⟩
      exact wpAny_pure h
end
/-- None in d, d's keys tuples -/
theorem in_none {X : Cx} {pins : List (Addr × Obj)} {σ : L2.St} {H : Hp} {s : Shared} {a : Addr} {kvs : List (List Key × V)} {A : Around} {E : Value → Shared → Prop} {Q : Value → Shared → Prop} (hu : A.units + 1 < cLine) (I : Inv X pins σ H s) (e : Rd H a (.dT kvs))
    (h : ∀ s', Inv X pins σ H s' → Q (.bool false) s') : wpAny (model X.prog X.w) A (compareOp .In .none (.ref a)) Q E s := by
  obtain ⟨z, hd, xs, rel, hm⟩ := dt_rd I.hok e
  show wpAny _ _ (do return .bool (← contains (.ref a) .none)) Q E s
  refine wpAny_bind ?_
  unfold contains
  try with_reducible refine wpAny_holding ?_
  refine wpAny_bind (wpAny_specialOf hm.typeIs slot_dict_contains.lookup ?_)
  show wpAny _ _ (if (some (Value.builtin "dict.__contains__") == some Value.none) = true then _ else _) _ E s
  rw [if_neg (by rw [beq_builtin_none]; exact Bool.false_ne_true)]
  refine wpAny_bind (wpAny_callSpecialUnlessNone?_slot (name := Str.ofString "__contains__") hm.typeIs slot_dict_contains (wpAny_call_entry slot_dict_contains hm.typeIs entry_dict_contains ?_ (args_dict_contains _ _)))
  show wpAny _ _ (dictGet a .none >>= _) _ _ s
  refine wpAny_bind ?_
  obtain ⟨o, es, ep, ho, _, hdt, he, his, hn⟩ := hm
  unfold dictGet
  try with_reducible refine wpAny_holding ?_
  refine wpAny_bind (PySem.W.pyHash_slot (T := "NoneType") rfl PySem.F.slot_NoneType_hash PySem.F.entry_NoneType_hash (PySem.F.args_NoneType_hash_1 _) (beq_builtin_none _) (.inl rfl) (wpAny_bind (wpAny_pure (wpAny_bind (wpAny_mkInt (wpAny_pure ⟨_, _, rfl, ?_⟩))))))
  refine wpAny_bind (find_none (s := { s with toks := s.toks + 1 }) (by show A.units + 1 < cLine; exact hu) ho hdt he his ?_)
  refine wpAny_pure ?_
  show wpAny _ _ (Builtin.Dict.pendingKey? a .none >>= _) _ _ _
  exact wpAny_bind (wpAny_pendingKey_other hd (wpAny_pure ⟨_, rfl, wpAny_truthy_bool (wpAny_pure (h _ (I.tok _)))⟩))
def tInNone (ty td : TE) : TE := fun σ H Q => ty σ H fun y H1 => y = .non ∧ td σ H1 fun x H2 => ∃ d kvs, x = .ref d ∧ Rd H2 d (.dT kvs) ∧ Q (.bl false) H2
theorem pc_inNone {X : Cx} {o i : Expr} {td ty : TE} (hu : X.A.units + 1 < cLine) (hi : PE X i ty) (ho : PE X o td) : PC X .In i o (tInNone ty td) := by
  refine ⟨fun pins s σ H Q I h => ?_⟩
  refine thn (hi.run pins s σ H _ I h) fun iv s1 ⟨y, H1, I1, ry, ey, q1⟩ => thn (ho.run pins s1 σ H1 _ I1 q1) fun u s2 ⟨x, H2, I2, rx, a, kvs, ex, g, q2⟩ => ?_
  subst ex ey
  obtain rfl : u = Value.ref a := rx
  obtain rfl : iv = Value.none := ry
  exact in_none hu I2 g fun s3 I3 => ⟨.bl false, H2, I3, rfl, q2⟩
theorem wt_inNone {X : Cx} {a b : Expr} {pos : Pos} {σ : L2.St} {H : Hp} {QT : Bool → Hp → Prop} (hu : X.A.units + 1 < cLine) (h : WW.WE X a σ H fun y H1 => y = .non ∧ WW.WE X b σ H1 fun x H2 => ∃ d kvs, x = .ref d ∧ Rd H2 d (.dT kvs) ∧ QT false H2) (h1 : behindInMarks .In b = false := by rfl) :
    WW.WT X (.Compare a [.In] [b] pos) σ H QT := WW.wt_of (pt_cmp (pc_inNone hu WW.pe WW.pe) h1) (WW.we_mono h fun y H1 ⟨e, g⟩ => ⟨e, WW.we_mono g fun x H2 ⟨d, kvs, e1, e2, q⟩ => ⟨d, kvs, e1, e2, false, rfl, q⟩⟩)
end Wn

set_option Elab.async false
set_option linter.all false
set_option maxRecDepth 100000
set_option maxHeartbeats 4000000
/-! defs that are run where no text of a container is being made: str(..) of a list may stand in them -/
namespace WG
open PySem PySem.Spec PyProof.Rows L2 WW

/-- no container's text is being made around here -/
abbrev Quiet (A : Around) : Prop := A.guards = some []

/-- a promise kept where it is quiet -/
structure FnG (P : Program) (w : World) (K : PySem.W.Frag) (mg : Str → Option Value) (base : Heap) (k : Nat) (f : Addr) (fd : FuncData) (ps : List Str) (sp : Sp) : Prop where
  len : ∀ vs H Q E, sp vs H Q E → vs.length = ps.length
  go : ∀ (A : Around) (out : List Env) (s : Shared) (H : Hp) (as : Args) (us : List Value) (vs : List V) (Q : VK), Quiet A → Room k A → Env0 P w K mg base A out s H → BindsTo s fd as (ps.zip us) → Vals vs us → sp vs H Q E0 →
    codeAny (model P w) A (.call (.ref f) as) (CR CX0 out P w H s Q E0) s

theorem fnG_of {P : Program} {w : World} {K : PySem.W.Frag} {mg : Str → Option Value} {base : Heap} {k : Nat} {f : Addr} {nm ql : Str} {prs : Arguments} {bd : List Stmt} {sc : Scope} {dV kV dc pm cdv ct oc : Value} {an od : Option Addr}
    {osl : Array (Option Value)} {N ps : List Str} {sp : Sp} (lk : K.lookup f = some ⟨oc, od, .func (PySem.W.fnOf nm ql prs bd sc dV kV dc pm an cdv ct), osl⟩) (cin : PySem.W.codeIn K cdv ql = true) (S : FnScope N ps sc)
    (len : ∀ vs H Q E, sp vs H Q E → vs.length = ps.length)
    (hb : ∀ (A : Around) (out : List Env) (s : Shared) (H : Hp) (vs : List V) (Q : VK), Quiet A → Room k (A.deeper (envOfC ql sc s.heap.objs.size f cdv)) → sp vs H Q E0 →
      ∃ t, PSs (cxOf CX0 P w K mg base N ql sc f cdv A out s H E0) bd t ∧ t { nx := fun _ H' => Q .non H', rt := Q } (start N vs) H) :
    FnG P w K mg base (k + 1) f (PySem.W.fnOf nm ql prs bd sc dV kV dc pm an cdv ct) ps sp := by
  constructor
  · exact len
  intro A out s H as us vs Q qa room e0 bnd rel hsp
  have n1 : vs.length = ps.length := len _ _ _ _ hsp
  have kin : K.In s.heap := e0.mod.kin.keeps (fun b o e => (e0.bs b o e).1)
  have nol : s.heap.NoLimit := e0.mod.nolimit.keeps (fun b o e => (e0.bs b o e).1)
  have kinds : ∀ y ∈ ps.zip us, sc.names.lookup y.1 = some .local ∨ (sc.names.lookup y.1 = some .cell ∧ ((cellsFrom (s.heap.objs.size + 1) sc.names []).lookup y.1).isSome = true) := by
    rintro ⟨n, v⟩ hy
    cases S.par n (List.of_mem_zip hy).1 with
    | inl q => exact Or.inl q
    | inr q => exact Or.inr ⟨q, PySem.W.cellsFrom_some _ _ _ (Or.inl q)⟩
  apply codeAny_call_function room.depth (kin _ _ lk) rfl S.co S.gen rfl (PySem.W.codeRec_of kin cin) (bnd _ _ _ _ _)
  apply wpAny_newFunctionEnv_cells S.kind kinds
  rintro env rfl s1 x
  refine And.intro (nol.keeps x.toInCall.keep) (codeAny_func ?_)
  obtain ⟨t, ht, hq⟩ := hb A out s H vs Q qa (room.deeper _) hsp
  have I0 := inv_start (CX := CX0) (E := E0) (P := P) (w := w) (N := N) S room.hd e0 n1 rel x
  have done : ∀ {σ' : L2.St} {H' : Hp} {s' : Shared} {v : V} {u : Value}, Inv (cxOf CX0 P w K mg base N ql sc f cdv A out s H E0) [] σ' H' s' → RelV v u → Q v H' → CE out P w H s Q u s' := by
    intro σ' H' s' v u J rv q
    exact ⟨v, H', J.os, J.bare, J.base, J.hok, rv, q⟩
  refine wpAny_mono (ht.run [] s1 (start N vs) H _ I0 hq) ?_ (fun e s' z => z)
  intro fl s' z
  cases fl with
  | ret u => obtain ⟨v, σ', H', J, rv, q⟩ := z; exact done J rv q
  | next => obtain ⟨σ', H', J, q⟩ := z; exact done (v := .non) (u := .none) J rfl q
  | brk => obtain ⟨_, _, _, q⟩ := z; exact q.elim
  | cont => obtain ⟨_, _, _, q⟩ := z; exact q.elim

structure Fq (P : Program) (w : World) (K : PySem.W.Frag) (mg : Str → Option Value) (base : Heap) (k : Nat) (x : Str) (ps : List Str) (sp : Sp) : Prop where
  ok : ∃ fd, FnG P w K mg base k (He.ga K x) fd ps sp ∧ L2.Binds K fd ps [] ∧ ∃ oc od osl, K.lookup (He.ga K x) = some ⟨oc, od, .func fd, osl⟩
  kp : PySem.W.keepIn K (.ref (He.ga K x)) = true
  at_ : mg x = some (.ref (He.ga K x))

theorem def_okG {P : Program} {w : World} {K : PySem.W.Frag} {mg : Str → Option Value} {base : Heap} {d : He.DefD} {x : Str} {N ps : List Str} {k : Nat} {sp : Sp}
    (F : ∃ fd, FunD K d.name d.qual d.params d.body d.scope [] [] (He.fAd K d.at_) fd) (hat : d.at_ = (x, none)) (hm : mg x = some (.ref (He.ga K x))) (S : FnScope N ps d.scope)
    (hb : ∀ (kV doc pm : Value) (an : Option Addr) (cdv ct : Value) (us : List Value), us.length = ps.length → bindArgs (PySem.W.fnOf d.name d.qual d.params d.body d.scope .none kV doc pm an cdv ct) ⟨us, []⟩ = pure (ps.zip us))
    (len : ∀ vs H Q E, sp vs H Q E → vs.length = ps.length)
    (body : ∀ (A : Around) (outer : List Env) (s : Shared) (H : Hp) (vs : List V) (Q : VK), Quiet A → Room k (A.deeper (envOfC d.qual d.scope s.heap.objs.size (He.ga K x) (.ref (He.codeOf K d.at_)))) → sp vs H Q E0 →
      WS (cx P w K mg base N d.qual d.scope (He.ga K x) (He.codeOf K d.at_) A outer s H E0) d.body { nx := fun _ H' => Q .non H', rt := Q } (start N vs) H) : Fq P w K mg base (k + 1) x ps sp := by
  obtain ⟨fd, G⟩ := F
  have hbn := G.bindsN (ps := ps) hb
  have hkp := G.kp
  obtain ⟨oc, od, dV, kV, doc, pm, an, cdv, ct, osl, hfd, lk, hcd, _, _⟩ := G.ex
  obtain ⟨c, hc⟩ := He.codeIn_ref hcd
  subst hc
  have ec : He.codeOf K d.at_ = c := He.codeOf_eq lk (by rw [hfd] <;> rfl)
  subst hfd
  have ef : He.fAd K d.at_ = He.ga K x := by rw [hat] <;> rfl
  rw [ef] at lk hkp
  refine ⟨⟨_, fnG_of lk hcd S len fun A outer s H vs Q qa hr hsp => ?_, hbn, _, _, _, lk⟩, hkp, hm⟩
  rw [ec] at body
  exact ⟨_, PSs.nox pss, body A outer s H vs Q qa hr hsp⟩

section
variable {X : Cx} {e a : Expr} {es : List Expr} {σ : L2.St} {H : Hp} {Q : VK} {pos p1 : Pos}
theorem we_fG {k j : Nat} {x : Str} {ps : List Str} {sp : Sp} (F : Fq X.prog X.w X.K X.mg X.base k x ps sp) (hr : Room j X.A) (qa : Quiet X.A) (h : WA X (e :: es) σ H fun vs H1 => sp vs H1 Q E0) (hkj : k ≤ j := by decide) (hg : Gl X x := by rfl) (hdb : (x == ("__debug__" : Str)) = false := by decide)
    (he : starEach (e :: es) X.env = (false, eval e X.env) :: starEach es X.env := by rfl) (hpl : (backTo pos (starEach es X.env)).any (·.1) = false := by rfl) : WE X (.Call (.Name x p1) (e :: es) [] pos) σ H Q := by
  obtain ⟨fd, G, hb, _⟩ := F.ok
  intro pins s I
  refine wpAny_Call_Name_kw (ld_glob I hg F.at_ ?_ hdb)
  refine PySem.W.callWith_K (h₀ := X.base) I.ok.mod.kin F.kp (thn (h pos pins s I) fun us s1 ⟨vs, H1, I1, r, q⟩ => ⟨I1.kIn, ?_⟩) he hpl
  have r2 : Vals (vs ++ []) (us ++ []) := r.append .nil
  have q2 : sp (vs ++ []) H1 Q E0 := by rw [List.append_nil]; exact q
  have n1 : (us ++ []).length = ps.length := by rw [← r2.length]; exact G.len _ _ _ _ q2
  refine wpAny_call (codeAny_mono (G.go X.A X.stack s1 H1 ⟨us, []⟩ (us ++ []) (vs ++ []) Q qa (hr.mono hkj) I1.env0 (hb s1 us I1.kIn n1) r2 q2) ?_)
  intro r s' z
  cases r with
  | error e => exact z.elim
  | ok fl => cases fl with
    | ret u => exact I1.after z
    | next => exact z.elim
    | brk => exact z.elim
    | cont => exact z.elim
/-- str(v) of what stands as data -/
theorem call_str {X : Cx} (qa : Quiet X.A) {N : Nat} (hN : N ≤ sizeLine) (hu : X.A.units + 67 < cLine) : CallR X (.type "str") fun xs H Q => ∃ (a : Addr) (d : PyData), xs = [.ref a] ∧ Dp X.K H (.ref a) d ∧ d.showable = true ∧ d.hasDict = false ∧ d.depth ≤ 64 ∧ d.shown.length ≤ N ∧ Q (.str d.shown) H := by
  intro pins s σ H xs us Q I r ⟨a, d, hx, hd, h1, h2, h3, h4, q⟩
  subst hx
  cases r with
  | cons r1 r2 =>
    cases r2
    obtain rfl : _ = Value.ref a := r1
    obtain ⟨as, R⟩ := Dp.reads I d _ _ hd rfl
    exact str_of_reads R h1 (fun z => by rw [h2] at z; cases z) qa (by omega) (fun _ _ e => e) (fun h' u tk hk => ⟨.str d.shown, H, I.kept hk, ⟨_, rfl⟩, q⟩) (Nat.le_trans h4 hN)
end

/-- the law's call where it is quiet; tb: the places of the code objects' tables -/
theorem law_quiet {P : Program} {w : World} {K : PySem.W.Frag} {mg mb : Str → Option Value} {k : Nat} {fa a : Addr} {tb : List (Addr × Addr)} {fd : FuncData} {x : Str} {sp : Sp} {s1 : Shared} {vs : List Value} {ns : List Int}
    (kin : K.In s1.heap) (gl : s1.heap.Ns mainGlobals mg) (bl : s1.heap.Ns builtinsNs mb) (bb : ∀ x : Str, x ≠ "__name__" → mb x = bootBuiltins x) (nol : s1.heap.NoLimit) (gens : s1.gens = #[])
    (tb0 : ∀ p ∈ tb, s1.heap.get? p.2 = some { cls := .none, data := .fields #[] }) (tbK : ∀ p ∈ tb, K.lookup p.2 = none) (tbC : ∀ p ∈ tb, PySem.W.CodeHd s1.heap p.1 p.2)
    (bmod : ∃ (bm : Addr) (ob : Obj), mg "__builtins__" = some (.ref bm) ∧ bm ≠ builtinsNs ∧ s1.heap.get? bm = some ob ∧ ob.cls = .type "module" ∧ ob.dict = some builtinsNs ∧ ob.data = .plain)
    (at_a : s1.heap.get? a = some { cls := .type "list", data := .seq vs.toArray }) (nums : IntsAre vs ns) (short : ns.length ≤ sizeLine) (room : Room k callerA)
    (F : ∀ base : Heap, K.In base → base.Ns mainGlobals mg → (∀ p ∈ tb, GxR.TabB base mg p.1 p.2) → FnG P w K mg base k fa fd [x] sp) (bnd : ∀ (s : Shared) (u : Value), BindsTo s fd ⟨[u], []⟩ [(x, u)])
    (hsp : ∀ H : Hp, (∀ p ∈ tb, H p.2 = some (.tbl #[])) → SqL K H a (ns.map V.int) → sp [.ref a] H (fun v _ => v = .bl true) E0) :
    codeAny (model P w) callerA (.call (.ref fa) ⟨[.ref a], []⟩) (fun r s' => r = .ok (.ret (.bool true)) ∧ OldK s1.heap s'.heap ∧ s'.os = s1.os ∧ AllBare s'.gens) s1 := by
  classical
  have rel := vals_ints nums
  have nV := nums.length
  let Tb : Addr → Prop := fun b => ∃ p ∈ tb, p.2 = b
  have tab : ∀ b, Tb b → s1.heap.get? b = some { cls := .none, data := .fields #[] } := by
    rintro _ ⟨p, hp, rfl⟩
    exact tb0 p hp
  have anot : ¬ Tb a := by
    intro z
    have e := tab a z
    rw [at_a] at e
    exact absurd (show Data.seq vs.toArray _ = Data.fields #[] from congrArg Obj.data (Option.some.inj e)) (by intro q; cases q)
  -- what is tracked: the tables, and the script where the module doesn't know it
  let H : Hp := fun b => if Tb b then some (.tbl #[]) else if b = a ∧ K.lookup a = none then some (.frz { cls := .type "list", data := .seq vs.toArray } (.lst (ns.map V.int))) else none
  have Htb : ∀ b, Tb b → H b = some (.tbl #[]) := fun b z => if_pos z
  have Ha : K.lookup a = none → H a = some (.frz { cls := .type "list", data := .seq vs.toArray } (.lst (ns.map V.int))) := fun z => (if_neg anot).trans (if_pos ⟨rfl, z⟩)
  have Hinv : ∀ b o, H b = some o → (Tb b ∧ o = .tbl #[]) ∨ (b = a ∧ K.lookup a = none ∧ o = .frz { cls := .type "list", data := .seq vs.toArray } (.lst (ns.map V.int))) := by
    intro b o e
    by_cases z : Tb b
    · rw [Htb b z] at e
      exact Or.inl ⟨z, (Option.some.inj e).symm⟩
    · have e := (if_neg z).symm.trans e
      by_cases y : b = a ∧ K.lookup a = none
      · exact Or.inr ⟨y.1, y.2, (Option.some.inj ((if_pos y).symm.trans e)).symm⟩
      · have e := (if_neg y).symm.trans e
        cases e
  have script : SqL K H a (ns.map V.int) := by
    cases hk : K.lookup a with
    | none => exact Or.inl (Or.inr ⟨_, Ha hk⟩)
    | some o =>
      have e := kin a o hk
      rw [at_a] at e
      cases e
      exact Or.inr ⟨_, vs.toArray, _, hk, rfl, rfl, rfl, by rw [List.size_toArray, nV]; exact short, by simpa using rel⟩
  have hok : HOk P w H s1.heap := by
    intro b o e
    rcases Hinv b o e with ⟨z, rfl⟩ | ⟨rfl, _, rfl⟩
    · exact tab b z
    · exact ⟨at_a, by rw [List.length_map]; exact short, vs, _, rel, at_a⟩
  -- objects of other kinds are none of these
  have off : ∀ {b : Addr} {o : Obj}, s1.heap.get? b = some o → (∀ us m, o.data ≠ .seq us m) → o.data ≠ .fields #[] → H b = none := by
    intro b o e n1 n2
    cases q : H b with
    | none => rfl
    | some u =>
      exfalso
      rcases Hinv b u q with ⟨z, _⟩ | ⟨rfl, _, _⟩
      · rw [tab b z] at e
        cases e
        exact n2 rfl
      · rw [at_a] at e
        cases e
        exact n1 _ _ rfl
  have nsH : ∀ {b : Addr} {m : Str → Option Value}, s1.heap.Ns b m → (hidT s1.heap H).Ns b m := by
    rintro b m ⟨o, es, ep, e, d, r⟩
    refine ⟨o, es, ep, hidT_get e (off e ?_ ?_), d, r⟩
    · intro us n q
      rw [d] at q
      cases q
    · intro q
      rw [d] at q
      cases q
  have kinH : K.In (hidT s1.heap H) := by
    intro b o e
    refine hidT_get (kin b o e) ?_
    cases q : H b with
    | none => rfl
    | some u =>
      exfalso
      rcases Hinv b u q with ⟨⟨p, hp, rfl⟩, _⟩ | ⟨rfl, hk, _⟩
      · rw [tbK p hp] at e
        cases e
      · rw [hk] at e
        cases e
  have TBs : ∀ p ∈ tb, GxR.TabB (hidT s1.heap H) mg p.1 p.2 := by
    intro p hp
    have e0 := tb0 p hp
    constructor
    · obtain ⟨o, us, file, tf, flags, tg, inF, text, tt, e1, r1, r2, r3, r4, r5, r6, r7, r8, r9⟩ := tbC p hp
      refine ⟨o, us, file, tf, flags, tg, inF, text, tt, hidT_get e1 (off e1 ?_ ?_), r1, r2, r3, r4, r5, r6, r7, r8, r9⟩
      · intro vs n q
        rw [r2] at q
        cases q
      · intro q
        rw [r2] at q
        cases q
        simp at r3
    · obtain ⟨bm, ob, b1, b2, b3, b4, b5, b6⟩ := bmod
      refine ⟨bm, ob, b1, b2, ?_, ?_, hidT_get b3 (off b3 ?_ ?_), b4, b5, b6⟩
      · rintro rfl
        obtain ⟨o, es, ep, e, hd, _⟩ := gl
        rw [e] at b3
        cases b3
        rw [hd] at b6
        cases b6
      · rintro rfl
        rw [e0] at b3
        cases b3
        cases b6
      · intro vs n q
        rw [b6] at q
        cases q
      · intro q
        rw [b6] at q
        cases q
    · intro q
      obtain ⟨o, es, ep, e, hd, _⟩ := gl
      rw [q, e0] at e
      cases e
      cases hd
  obtain ⟨ml, l1, l2⟩ := nol
  have e0 : Env0 P w K mg (hidT s1.heap H) callerA [] s1 H :=
    { frames := rfl, mod := ⟨kinH, nsH gl, ⟨mb, nsH bl, bb⟩, ⟨ml, nsH l1, l2⟩⟩, bs := fun b o e => of_hidT e, bsz := Nat.le_of_eq (hidT_size _ _), funs := trivial, frf := (fun b z => by cases z), hok := hok, bare := .of_eq gens }
  refine codeAny_mono ((F _ kinH (nsH gl) TBs).go callerA [] s1 H ⟨[.ref a], []⟩ [.ref a] [.ref a] _ rfl room e0 (bnd s1 (.ref a)) (.cons rfl .nil) (hsp H (fun p hp => Htb _ ⟨p, hp, rfl⟩) script)) ?_
  intro r s' z
  cases r with
  | error e => exact z.elim
  | ok fl => cases fl with
    | next => exact z.elim
    | brk => exact z.elim
    | cont => exact z.elim
    | ret u =>
      obtain ⟨v, H', os, bare, un, hok', rv, q⟩ := z
      obtain rfl : v = .bl true := q
      obtain rfl : u = Value.bool true := rv
      have still : ∀ b o, ¬ Tb b → s1.heap.get? b = some o → s'.heap.get? b = some o := by
        intro b o nb e
        cases q : H b with
        | none => exact un.keep b o e q (fun m => by cases m) (fun m => by cases m)
        | some u =>
          rcases Hinv b u q with ⟨z, _⟩ | ⟨_, _, rfl⟩
          · exact absurd z nb
          · have y2 := un.frzs b _ _ q
            have e1 := (hok b _ q).1
            rw [e] at e1
            cases e1
            exact (hok' b _ y2).1
      have more : ∀ p ∈ tb, ∃ m : Array Value, s'.heap.get? p.2 = some { cls := .none, data := .fields m } := by
        intro p hp
        obtain ⟨m, y⟩ := un.tbls p.2 #[] (Htb _ ⟨p, hp, rfl⟩)
        exact ⟨_, hok' p.2 _ y⟩
      refine ⟨rfl, ⟨?_, ?_⟩, os, bare⟩
      · intro b o e
        by_cases hb : Tb b
        · obtain ⟨p, hp, rfl⟩ := hb
          obtain ⟨m, hm⟩ := more p hp
          rw [tb0 p hp] at e
          cases e
          exact Or.inr (Or.inl ⟨((tbC p hp).tab (tb0 p hp)).isCodeTable, rfl, #[], m, rfl, by rw [Array.empty_append]; exact hm⟩)
        · exact Or.inl (still b o hb e)
      · intro b o e
        by_cases hb : Tb b
        · obtain ⟨p, hp, rfl⟩ := hb
          obtain ⟨m, hm⟩ := more p hp
          exact ⟨_, hm⟩
        · exact ⟨o, still b o hb e⟩
theorem walk_quiet {l : PySem.W.OpenLaw} {n k : Nat} {q : Program} {loose : List Str} {XP : (Str → Option Value) → Heap → Prop} {YP : World → Heap → Prop} {d : DefRec} {x : Str}
    (hn : l.most = some n) (hn2 : n ≤ sizeLine) (hdf : d.params.defaults = []) (room : Room k callerA)
    (F : ∀ (w : World) (mg : Str → Option Value) (fa : Addr) (h : Heap), YP w h → h.Ns mainGlobals mg → mg d.name = some (.ref fa) →
      ∃ (K : PySem.W.Frag) (fd : FuncData) (tb : List (Addr × Addr)) (sp : Sp), K.In h ∧ (∀ p ∈ tb, h.get? p.2 = some { cls := .none, data := .fields #[] }) ∧ (∀ p ∈ tb, K.lookup p.2 = none) ∧ (∀ p ∈ tb, PySem.W.CodeHd h p.1 p.2) ∧
        (∀ (s : Shared) (u : Value), BindsTo s fd ⟨[u], []⟩ [(x, u)]) ∧
        (∀ (H : Hp) (a : Addr) (ns : List Int), ns.length ≤ n → (∀ z ∈ ns, Builtin.Int.intBits z ≤ 1048576) → (∀ p ∈ tb, H p.2 = some (.tbl #[])) → SqL K H a (ns.map V.int) → sp [.ref a] H (fun v _ => v = .bl true) E0) ∧
        ∀ base : Heap, K.In base → base.Ns mainGlobals mg → (∀ p ∈ tb, GxR.TabB base mg p.1 p.2) → FnG l.prog w K mg base k fa fd [x] sp) :
    PySem.W.WalkO q loose XP YP l.row.toRowW d [] (fun f vs => PySem.call f vs) := by
  apply Att.attach_callB hn hdf
  intro w s0 s1 mg mb fa o pm cd doc a vs ns G Y ho hd hcd hmg obj nums hlen hbits hg
  obtain ⟨K, fd, tb, sp, kin, t0, tK, tC, bnd, hsp, hF⟩ := F w mg fa _ Y G.T.g hmg
  exact law_quiet kin G.T.g G.T.b G.T.builtins G.T.nolimit hg t0 tK tC G.T.bmain obj nums (Nat.le_trans hlen hn2) room hF bnd (fun H ht sq => hsp H a ns hlen hbits ht sq)
end WG

set_option Elab.async false
set_option linter.all false
set_option maxRecDepth 100000
set_option maxHeartbeats 4000000
/-! a def of one parameter, called by its name -/
namespace WK
open PySem PySem.Spec PyProof.Rows L2 WW
abbrev gK {α : Type} : List α → List α → List α := fun us ws => us ++ ws
structure Fb (P : Program) (w : World) (K : PySem.W.Frag) (mg : Str → Option Value) (base : Heap) (k : Nat) (x p : Str) (sp : Sp) : Prop where
  ok : ∃ fd, FnOk P w K mg base CX0 k (He.ga K x) fd [p] sp ∧ L2.Binds K fd [p] [] ∧ L2.KBinds K fd [p] [p] gK gK
  kp : PySem.W.keepIn K (.ref (He.ga K x)) = true
  at_ : mg x = some (.ref (He.ga K x))
theorem Fb.fk {P : Program} {w : World} {K : PySem.W.Frag} {mg : Str → Option Value} {base : Heap} {k : Nat} {x p : Str} {sp : Sp} (F : Fb P w K mg base k x p sp) : Fk P w K mg base k x [p] sp := ⟨let ⟨fd, a, b, _⟩ := F.ok; ⟨fd, a, b⟩, F.kp, F.at_⟩
theorem def_okB {P : Program} {w : World} {K : PySem.W.Frag} {mg : Str → Option Value} {base : Heap} {d : He.DefD} {x p : Str} {N : List Str} {k : Nat} {sp : Sp}
    (F : ∃ fd, FunD K d.name d.qual d.params d.body d.scope [] [] (He.fAd K d.at_) fd) (hat : d.at_ = (x, none)) (hm : mg x = some (.ref (He.ga K x))) (S : FnScope N [p] d.scope)
    (hb : ∀ (kV doc pm : Value) (an : Option Addr) (cdv ct : Value) (us : List Value), us.length = [p].length → bindArgs (PySem.W.fnOf d.name d.qual d.params d.body d.scope .none kV doc pm an cdv ct) ⟨us, []⟩ = pure ([p].zip us))
    (hbk : ∀ (kV doc pm : Value) (an : Option Addr) (cdv ct u : Value), bindArgs (PySem.W.fnOf d.name d.qual d.params d.body d.scope .none kV doc pm an cdv ct) ⟨[], [(p, u)]⟩ = pure [(p, u)])
    (len : ∀ vs H Q E, sp vs H Q E → vs.length = [p].length)
    (body : ∀ (A : Around) (outer : List Env) (s : Shared) (H : Hp) (vs : List V) (Q : VK) (E : XK), Room k (A.deeper (envOfC d.qual d.scope s.heap.objs.size (He.ga K x) (.ref (He.codeOf K d.at_)))) → sp vs H Q E →
      WS (cx P w K mg base N d.qual d.scope (He.ga K x) (He.codeOf K d.at_) A outer s H E) d.body { nx := fun _ H' => Q .non H', rt := Q } (start N vs) H) : Fb P w K mg base (k + 1) x p sp := by
  obtain ⟨fd, G⟩ := F
  have hbn := G.bindsN (ps := [p]) hb
  have hkp := G.kp
  obtain ⟨oc, od, dV, kV, doc, pm, an, cdv, ct, osl, hfd, lk, hcd, hD, hK⟩ := G.ex
  obtain ⟨c, hc⟩ := He.codeIn_ref hcd
  subst hc
  have ec : He.codeOf K d.at_ = c := He.codeOf_eq lk (by rw [hfd] <;> rfl)
  subst hfd
  have ef : He.fAd K d.at_ = He.ga K x := by rw [hat] <;> rfl
  rw [ef] at lk hkp
  have hdv : dV = .none := by
    rcases hD with ⟨_, e⟩ | ⟨e, _⟩
    · exact e
    · exact absurd rfl e
  subst hdv
  refine ⟨⟨_, fn_of lk hcd S len fun A outer s H vs Q E hr hsp => ?_, hbn, ⟨fun s us ws X hl => ?_, fun {vs us zs ws} r1 r2 => r1.append r2⟩⟩, hkp, hm⟩
  · rw [ec] at body
    exact ⟨_, PSs.nox pss, body A outer s H vs Q E hr hsp⟩
  · match us, ws, hl with
    | [], [u], _ => exact .of_eq (hbk _ _ _ _ _ _ u)
    | [u], [], _ => exact .of_eq (hb _ _ _ _ _ _ [u] rfl)
section
variable {X : Cx} {e : Expr} {σ : L2.St} {H : Hp} {Q : VK} {pos p1 kpos : Pos}
theorem we_fB {k j : Nat} {x p : Str} {sp : Sp} (F : Fb X.prog X.w X.K X.mg X.base k x p sp) (hr : Room j X.A) (h : WE X e σ H fun v H1 => sp [v] H1 Q E0) (hkj : k ≤ j := by decide) (hg : Gl X x := by rfl) (hdb : (x == ("__debug__" : Str)) = false := by decide)
    (hall : (backToKw pos (keywordEach [⟨some p, e, kpos⟩] X.env)).all (·.1.isSome) = true := by rfl) (hks : (backToKw pos (keywordEach [⟨some p, e, kpos⟩] X.env)).filterMap (·.1) = [p] := by rfl)
    (hpl : ((backTo pos (starEach [] X.env)).any (·.1) || (backToKw pos (keywordEach [⟨some p, e, kpos⟩] X.env)).any (·.1.isNone)) = false := by rfl) : WE X (.Call (.Name x p1) [] [⟨some p, e, kpos⟩] pos) σ H Q := by
  obtain ⟨fd, G, hb, hkb⟩ := F.ok
  intro pins s I
  refine wpAny_Call_Name_kw (ld_glob I hg F.at_ ?_ hdb)
  refine PySem.W.callWith_KW0 (h₀ := X.base) I.ok.mod.kin F.kp hall (thn ((pk_cons pe pk_nil).run pos pins s σ H (fun zs H2 => sp zs H2 Q E0) I (we_mono h fun v H1 q => q)) fun ws s2 ⟨zs, H2, I2, rz, q2⟩ => ⟨I2.kIn, ?_⟩) hpl
  rw [hks]
  exact run_fnk (us := []) (vs := []) G (hr.mono hkj) hkb pass0 I2 .nil rz q2
end
end WK

set_option Elab.async false
set_option linter.all false
set_option maxRecDepth 100000
set_option maxHeartbeats 4000000
/-! what data is: isinstance, among the items of a tuple -/
namespace Pa
open PySem PySem.Spec PyProof.Rows L2 WW Wo
def tyN : PyData → String
  | .none => "NoneType"
  | .bool _ => "bool"
  | .int _ => "int"
  | .str _ => "str"
  | .list _ => "list"
  | _ => "tuple"
theorem ty_tup {K : PySem.W.Frag} {H : Hp} {a : Addr} {xs : List V} (h : SqT K H a xs) : TyX K H (.ref a) (.type "tuple") := by
  rcases h with (h | ⟨ob, h⟩) | ⟨o, its, n, hk, hc, _⟩
  · exact .base (.tup h)
  · exact .fTuple h
  · exact .kTuple hk hc
theorem ty_lst {K : PySem.W.Frag} {H : Hp} {a : Addr} {xs : List V} (h : SqL K H a xs) : TyX K H (.ref a) (.type "list") := by
  rcases h with (h | ⟨ob, h⟩) | ⟨o, its, n, hk, hc, _⟩
  · exact .base (.lst h)
  · exact .base (.frz h)
  · exact .kList hk hc
theorem ty_dp {K : PySem.W.Frag} {H : Hp} {v : V} {d : PyData} (h : Dp K H v d) : TyX K H v (.type (tyN d)) := by
  cases h with
  | non => exact .base .non
  | bl b => exact .base (.bl b)
  | int i => exact .base (.int i)
  | str x => exact .base (.str x)
  | lst h _ => exact ty_lst h
  | tup h _ => exact ty_tup h
theorem kit_eq (K : PySem.W.Frag) (T : String) : PySem.W.kitOne K (.type T) (.type T) = some true := by
  unfold PySem.W.kitOne
  rw [if_pos (by simp)]
theorem kit_tt {K : PySem.W.Frag} : PySem.W.kitOne K (.type "str") (.type "tuple") = some false := by kernel_rfl
theorem kit_bi {K : PySem.W.Frag} : PySem.W.kitOne K (.type "int") (.type "bool") = some false := by kernel_rfl
theorem kit_ti {K : PySem.W.Frag} : PySem.W.kitOne K (.type "bool") (.type "int") = some true := by kernel_rfl
section
variable {X : Cx} {e a b : Expr} {σ : L2.St} {H : Hp} {Q : VK} {pos p1 p2 : Pos}
/-- isinstance(e, T) -/
theorem we_isi {T : String} {x : Str} (h : WE X e σ H fun v H1 => ∃ t b, TyX X.K H1 v t ∧ PySem.W.kitOne X.K t (.type T) = some b ∧ Q (.bl b) H1) (mi : X.mg "isinstance" = none) (mt : X.mg x = none) (hv : bootBuiltins x = some (.type T)) (gi : Gl X "isinstance" := by rfl) (gt : Gl X x := by rfl)
    (hn : x ≠ "__name__" := by decide) (hd : (x == ("__debug__" : Str)) = false := by decide) (he : starEach [e, .Name x p2] X.env = (false, eval e X.env) :: starEach [.Name x p2] X.env := by rfl) (hs : starEach [.Name x p2] X.env = (false, eval (.Name x p2) X.env) :: starEach [] X.env := by rfl)
    (hpl : (backTo pos (starEach [.Name x p2] X.env)).any (·.1) = false := by rfl) : WE X (.Call (.Name "isinstance" p1) [e, .Name x p2] [] pos) σ H Q :=
  we_callB call_isi mi PyProof.Rows.boot_isinstance (wa_cons (we_mono h fun v H1 ⟨t, b, ht, hb, q⟩ => wa_cons (we_of (pe_bltn gt mt hv (v := .ty T) rfl hn hd) (wa_nil ⟨v, .ty T, t, .type T, b, rfl, .ty T, ht, hb, q⟩)) hs) he) gi (by decide) (by decide) he hpl
def rInT (K : PySem.W.Frag) (neg : Bool) : R2 := fun x y H Q => ∃ d ds, Dp K H x d ∧ Dp K H y (.tuple ds) ∧ SeqAt.shaped d = true ∧ SeqAt.shaped (.tuple ds) = true ∧ Q (.bl (if neg then !ds.any fun z => PyData.eqv z d else ds.any fun z => PyData.eqv z d)) H
theorem room_in_shapedT {A : Around} {d : PyData} {ds : List PyData} (sd : SeqAt.shaped d = true) (hu : A.units + 65 < cLine) : A.units + 1 + min (PyData.depthAll ds) d.depth < cLine := by
  have h : d.depth ≤ 64 := of_decide_eq_true (Bool.and_eq_true_iff.mp sd).2
  have := Nat.min_le_right (PyData.depthAll ds) d.depth
  omega
theorem op_inT (hu : X.A.units + 65 < cLine) : OpR X (compareOp .In) (rInT X.K false) := by
  intro pins s σ H x y v u Q I rx ry h
  obtain ⟨d, ds, hd, he, sd, se, q⟩ := h
  obtain ⟨as, r1⟩ := Dp.reads I d x v hd rx
  obtain ⟨bs, r2⟩ := Dp.reads I (.tuple ds) y u he ry
  exact SeqAt.in_tuple_reads r2 r1 (SeqAt.canLay_of_shaped se) (SeqAt.canLay_of_shaped sd) (room_in_shapedT sd hu) ⟨.bl _, H, I, rfl, q⟩
theorem op_notInT (hu : X.A.units + 65 < cLine) : OpR X (compareOp .NotIn) (rInT X.K true) := by
  intro pins s σ H x y v u Q I rx ry h
  obtain ⟨d, ds, hd, he, sd, se, q⟩ := h
  obtain ⟨as, r1⟩ := Dp.reads I d x v hd rx
  obtain ⟨bs, r2⟩ := Dp.reads I (.tuple ds) y u he ry
  exact SeqAt.notIn_tuple_reads r2 r1 (SeqAt.canLay_of_shaped se) (SeqAt.canLay_of_shaped sd) (room_in_shapedT sd hu) ⟨.bl _, H, I, rfl, q⟩
theorem wt_chain {c : Expr} {op op' : CmpOp} {r r' : R2} {QT : Bool → Hp → Prop} (ho : OpR X (compareOp op) r) (ho' : OpR X (compareOp op') r') (h : WE X a σ H fun x H1 => WE X b σ H1 fun y H2 => r x y H2 fun z H3 => ∃ k, z = .bl k ∧ (if k = true then WE X c σ H3 fun w' H4 => r' y w' H4 fun z H5 => ∃ k, z = .bl k ∧ QT k H5 else QT false H3))
    (mono : ∀ x y H (Q Q' : VK), (∀ v H, Q v H → Q' v H) → r x y H Q → r x y H Q') (hm : lastMarks [op, op'] [b, c] = false := by with_unfolding_all rfl) : WT X (.Compare a [op, op'] [b, c] pos) σ H QT := by
  refine wt_of (pt_chain ho ho' pe pe pe hm) (we_mono h fun x H1 g => we_mono g fun y H2 k => mono _ _ _ _ _ (fun z H3 ⟨k, e, q⟩ => ⟨k, e, ?_⟩) k)
  cases k with
  | true => exact q
  | false => exact ⟨false, rfl, q⟩
theorem rI0_mono {g : Int → Int → V} : ∀ x y H (Q Q' : VK), (∀ v H, Q v H → Q' v H) → rI0 g x y H Q → rI0 g x y H Q' := fun x y H Q Q' k ⟨i, j, e1, e2, q⟩ => ⟨i, j, e1, e2, k _ _ q⟩
/-- t[i:], t a tuple -/
theorem we_slFrT (ts : List Addr) (h : WE X a σ H fun x H1 => WE X b σ H1 fun y H2 => ∃ (i : Int) (p : Addr) (xs : List V), y = .int i ∧ 0 ≤ i ∧ x = .ref p ∧ SqT X.K H2 p xs ∧ ∀ pt H3, WW.Fr ts Nil H2 H3 → SqT X.K H3 pt (xs.drop i.toNat) → Q (.ref pt) H3) :
    WE X (.Subscript a (.Slice (some b) none none p2) pos) σ H Q := by
  refine we_of (pe_slice sl_tupA pe (po_some pe) po_none) (we_mono h fun x H1 g => we_mono g fun y H2 ⟨i, p, xs, hy, hi, hx, hp, q⟩ => ⟨i, hy, p, xs, hx, hp, fun z => ?_, fun z pt hpt => ?_⟩)
  · refine q p H2 (WW.Fr.refl _) ?_
    have z1 : HT.sIx xs.length 0 (some i) = 0 := z.1
    have e : i = ((i.toNat : Nat) : Int) := by omega
    rw [e, HT.sIx_nat] at z1
    have : xs.drop i.toNat = xs := by
      rcases Nat.min_eq_zero_iff.mp z1 with k | k
      · rw [k, List.drop_zero]
      · rw [List.eq_nil_of_length_eq_zero k, List.drop_nil]
    rw [this]
    exact hp
  · refine q pt _ (WW.Fr.new hpt) ?_
    rw [cut_fr _ _ hi]
    exact .inl (.inl upd_same)
end
end Pa

set_option Elab.async false
set_option linter.all false
set_option maxRecDepth 100000
set_option maxHeartbeats 4000000
/-! how long a shown text is, at most -/
namespace Sh
open PySem PySem.Spec PyProof.Rows L2 WW Wo
mutual
/-- the leaves are short, nothing else than leaves, tuples and lists -/
def short : PyData → Bool
  | .none => true
  | .bool _ => true
  | .int i => decide ((PyData.shown (.int i)).length ≤ 31) && decide (i.natAbs.log2 < 1920)
  | .str x => decide ((reprText x).length ≤ 14)
  | .list ds => shorts ds
  | .tuple ds => shorts ds
  | .dict _ => false
def shorts : List PyData → Bool
  | [] => true
  | d :: ds => short d && shorts ds
end
mutual
def nodes : PyData → Nat
  | .list ds => 1 + nodess ds
  | .tuple ds => 1 + nodess ds
  | _ => 1
def nodess : List PyData → Nat
  | [] => 0
  | d :: ds => nodes d + nodess ds
end
mutual
theorem shown_len : ∀ d : PyData, short d = true → d.shown.length + 2 ≤ 36 * nodes d
  | .none, _ => by simp only [PyData.shown, nodes]; decide
  | .bool b, _ => by cases b <;> simp only [PyData.shown, nodes] <;> decide
  | .int i, h => by
    simp only [short, Bool.and_eq_true, decide_eq_true_eq] at h
    have := h.1
    show (PyData.shown (.int i)).length + 2 ≤ 36 * nodes (.int i)
    simp only [nodes]
    omega
  | .str x, h => by
    simp only [short, decide_eq_true_eq] at h
    simp only [PyData.shown, nodes]
    omega
  | .list ds, h => by
    have h1 := shown_lens ds (by simpa only [short] using h)
    have h2 := listText_len_le (PyData.shownAll ds)
    simp only [PyData.shown, nodes]
    omega
  | .tuple ds, h => by
    have h1 := shown_lens ds (by simpa only [short] using h)
    have h2 := tupleText_len_le (PyData.shownAll ds)
    simp only [PyData.shown, nodes]
    omega
theorem shown_lens : ∀ ds : List PyData, shorts ds = true → ((PyData.shownAll ds).map (·.length)).sum + 2 * (PyData.shownAll ds).length ≤ 36 * nodess ds
  | [], _ => by simp [PyData.shownAll, nodess]
  | d :: ds, h => by
    simp only [shorts, Bool.and_eq_true] at h
    have h1 := shown_len d h.1
    have h2 := shown_lens ds h.2
    simp only [PyData.shownAll, nodess, List.map_cons, List.sum_cons, List.length_cons]
    omega
end
mutual
theorem showable_of : ∀ d : PyData, short d = true → d.showable = true ∧ d.hasDict = false
  | .none, _ => ⟨rfl, rfl⟩
  | .bool b, _ => ⟨rfl, rfl⟩
  | .int i, h => by
    simp only [short, Bool.and_eq_true] at h
    exact ⟨by simp only [PyData.showable]; exact h.2, rfl⟩
  | .str x, h => ⟨rfl, rfl⟩
  | .list ds, h => by
    have h1 := showables_of ds (by simpa only [short] using h)
    exact ⟨by simp only [PyData.showable]; exact h1.1, by simp only [PyData.hasDict]; exact h1.2⟩
  | .tuple ds, h => by
    have h1 := showables_of ds (by simpa only [short] using h)
    exact ⟨by simp only [PyData.showable]; exact h1.1, by simp only [PyData.hasDict]; exact h1.2⟩
theorem showables_of : ∀ ds : List PyData, shorts ds = true → PyData.showableAll ds = true ∧ PyData.hasDictAll ds = false
  | [], _ => ⟨rfl, rfl⟩
  | d :: ds, h => by
    simp only [shorts, Bool.and_eq_true] at h
    have h1 := showable_of d h.1
    have h2 := showables_of ds h.2
    simp only [PyData.showableAll, PyData.hasDictAll, h1.1, h1.2, h2.1, h2.2]
    exact ⟨rfl, rfl⟩
end
theorem short_tup (ds : List PyData) : short (.tuple ds) = shorts ds := by simp only [short]
theorem short_lst (ds : List PyData) : short (.list ds) = shorts ds := by simp only [short]
theorem shorts_cons {d : PyData} {ds : List PyData} (h1 : short d = true) (h2 : shorts ds = true) : shorts (d :: ds) = true := by simp only [shorts, h1, h2, Bool.and_self]
theorem short_of {ds : List PyData} (h : shorts ds = true) : short (.tuple ds) = true := by rw [short_tup]; exact h
theorem shorts_nil : shorts [] = true := rfl
end Sh

set_option Elab.async false
set_option linter.all false
set_option maxRecDepth 100000
set_option maxHeartbeats 2000000
/-! the text by places -/
namespace K05
open PySem PySem.Spec PyProof.Rows L2
def top (i : Nat) : Stmt := PySem.Challenge.pw_ownwords_k05_places_and_ties.main.body.getD i (.Pass ⟨0, 0, 0, 0⟩)
abbrev s_NoBook_init : Stmt := inClass (top 1) 0
abbrev s_is_whole : Stmt := top 8
abbrev s_is_below : Stmt := top 9
abbrev s_is_spelled : Stmt := top 10
abbrev s_is_word : Stmt := top 11
abbrev s_is_mark : Stmt := top 12
abbrev s_is_way : Stmt := top 13
abbrev s_is_shared_errand : Stmt := top 14
abbrev s_is_row_errand : Stmt := top 15
abbrev s_places : Stmt := top 17
abbrev s_ties : Stmt := top 18
abbrev s_check_book : Stmt := top 19
abbrev s_first_bad_row : Stmt := top 20
abbrev s_is_row : Stmt := top 21
abbrev s_is_met : Stmt := top 22
abbrev s_is_calm : Stmt := top 23
abbrev s_is_letter : Stmt := top 24
abbrev s_is_seen : Stmt := top 25
abbrev s_is_brought : Stmt := top 26
abbrev s_is_sent : Stmt := top 27
abbrev s_claim_of : Stmt := top 28
abbrev s_backs_of : Stmt := top 29
abbrev s_made_tie : Stmt := top 30
abbrev s_ties_of : Stmt := top 31
abbrev s_law_draws : Stmt := top 33
abbrev s_law_next : Stmt := top 34
abbrev s_law_begun : Stmt := top 35
abbrev s_law_person : Stmt := top 36
abbrev s_law_living : Stmt := top 37
abbrev s_law_fresh : Stmt := top 38
abbrev s_law_tie : Stmt := top 39
abbrev s_law_end : Stmt := top 40
abbrev s_law_gone : Stmt := top 41
abbrev s_law_seen : Stmt := top 42
abbrev s_law_do : Stmt := top 43
abbrev s_law_way : Stmt := top 44
abbrev s_law_errand : Stmt := top 45
abbrev s_law_two : Stmt := top 46
abbrev s_law_unseen : Stmt := top 47
abbrev s_law_world : Stmt := top 48
abbrev s_law_drawn_book : Stmt := top 49
abbrev s_law_shifted : Stmt := top 50
abbrev s_law_mixed_book : Stmt := top 51
abbrev s_law_right : Stmt := top 52
abbrev s_law : Stmt := top 53
abbrev d_NoBook_init : He.DefD := ⟨("NoBook", some "__init__"), "__init__", "NoBook.__init__", defArgs s_NoBook_init, defBody s_NoBook_init, defScope s_NoBook_init, [], []⟩
abbrev d_is_whole : He.DefD := ⟨("is_whole", none), "is_whole", "is_whole", defArgs s_is_whole, defBody s_is_whole, defScope s_is_whole, [], []⟩
abbrev d_is_below : He.DefD := ⟨("is_below", none), "is_below", "is_below", defArgs s_is_below, defBody s_is_below, defScope s_is_below, [], []⟩
abbrev d_is_spelled : He.DefD := ⟨("is_spelled", none), "is_spelled", "is_spelled", defArgs s_is_spelled, defBody s_is_spelled, defScope s_is_spelled, [], []⟩
abbrev d_is_word : He.DefD := ⟨("is_word", none), "is_word", "is_word", defArgs s_is_word, defBody s_is_word, defScope s_is_word, [], []⟩
abbrev d_is_mark : He.DefD := ⟨("is_mark", none), "is_mark", "is_mark", defArgs s_is_mark, defBody s_is_mark, defScope s_is_mark, [], []⟩
abbrev d_is_way : He.DefD := ⟨("is_way", none), "is_way", "is_way", defArgs s_is_way, defBody s_is_way, defScope s_is_way, [], []⟩
abbrev d_is_shared_errand : He.DefD := ⟨("is_shared_errand", none), "is_shared_errand", "is_shared_errand", defArgs s_is_shared_errand, defBody s_is_shared_errand, defScope s_is_shared_errand, [], []⟩
abbrev d_is_row_errand : He.DefD := ⟨("is_row_errand", none), "is_row_errand", "is_row_errand", defArgs s_is_row_errand, defBody s_is_row_errand, defScope s_is_row_errand, [], []⟩
abbrev d_places : He.DefD := ⟨("places", none), "places", "places", defArgs s_places, defBody s_places, defScope s_places, [], []⟩
abbrev d_ties : He.DefD := ⟨("ties", none), "ties", "ties", defArgs s_ties, defBody s_ties, defScope s_ties, [], []⟩
abbrev d_check_book : He.DefD := ⟨("check_book", none), "check_book", "check_book", defArgs s_check_book, defBody s_check_book, defScope s_check_book, [], []⟩
abbrev d_first_bad_row : He.DefD := ⟨("first_bad_row", none), "first_bad_row", "first_bad_row", defArgs s_first_bad_row, defBody s_first_bad_row, defScope s_first_bad_row, [], []⟩
abbrev d_is_row : He.DefD := ⟨("is_row", none), "is_row", "is_row", defArgs s_is_row, defBody s_is_row, defScope s_is_row, [], []⟩
abbrev d_is_met : He.DefD := ⟨("is_met", none), "is_met", "is_met", defArgs s_is_met, defBody s_is_met, defScope s_is_met, [], []⟩
abbrev d_is_calm : He.DefD := ⟨("is_calm", none), "is_calm", "is_calm", defArgs s_is_calm, defBody s_is_calm, defScope s_is_calm, [], []⟩
abbrev d_is_letter : He.DefD := ⟨("is_letter", none), "is_letter", "is_letter", defArgs s_is_letter, defBody s_is_letter, defScope s_is_letter, [], []⟩
abbrev d_is_seen : He.DefD := ⟨("is_seen", none), "is_seen", "is_seen", defArgs s_is_seen, defBody s_is_seen, defScope s_is_seen, [], []⟩
abbrev d_is_brought : He.DefD := ⟨("is_brought", none), "is_brought", "is_brought", defArgs s_is_brought, defBody s_is_brought, defScope s_is_brought, [], []⟩
abbrev d_is_sent : He.DefD := ⟨("is_sent", none), "is_sent", "is_sent", defArgs s_is_sent, defBody s_is_sent, defScope s_is_sent, [], []⟩
abbrev d_claim_of : He.DefD := ⟨("claim_of", none), "claim_of", "claim_of", defArgs s_claim_of, defBody s_claim_of, defScope s_claim_of, [], []⟩
abbrev d_backs_of : He.DefD := ⟨("backs_of", none), "backs_of", "backs_of", defArgs s_backs_of, defBody s_backs_of, defScope s_backs_of, [], []⟩
abbrev d_made_tie : He.DefD := ⟨("made_tie", none), "made_tie", "made_tie", defArgs s_made_tie, defBody s_made_tie, defScope s_made_tie, [], []⟩
abbrev d_ties_of : He.DefD := ⟨("ties_of", none), "ties_of", "ties_of", defArgs s_ties_of, defBody s_ties_of, defScope s_ties_of, [], []⟩
abbrev d_law_draws : He.DefD := ⟨("_law_draws", none), "_law_draws", "_law_draws", defArgs s_law_draws, defBody s_law_draws, defScope s_law_draws, [], []⟩
abbrev d_law_next : He.DefD := ⟨("_law_next", none), "_law_next", "_law_next", defArgs s_law_next, defBody s_law_next, defScope s_law_next, [], []⟩
abbrev d_law_begun : He.DefD := ⟨("_law_begun", none), "_law_begun", "_law_begun", defArgs s_law_begun, defBody s_law_begun, defScope s_law_begun, [], []⟩
abbrev d_law_person : He.DefD := ⟨("_law_person", none), "_law_person", "_law_person", defArgs s_law_person, defBody s_law_person, defScope s_law_person, [], []⟩
abbrev d_law_living : He.DefD := ⟨("_law_living", none), "_law_living", "_law_living", defArgs s_law_living, defBody s_law_living, defScope s_law_living, [], []⟩
abbrev d_law_fresh : He.DefD := ⟨("_law_fresh", none), "_law_fresh", "_law_fresh", defArgs s_law_fresh, defBody s_law_fresh, defScope s_law_fresh, [], []⟩
abbrev d_law_tie : He.DefD := ⟨("_law_tie", none), "_law_tie", "_law_tie", defArgs s_law_tie, defBody s_law_tie, defScope s_law_tie, [], []⟩
abbrev d_law_end : He.DefD := ⟨("_law_end", none), "_law_end", "_law_end", defArgs s_law_end, defBody s_law_end, defScope s_law_end, [], []⟩
abbrev d_law_gone : He.DefD := ⟨("_law_gone", none), "_law_gone", "_law_gone", defArgs s_law_gone, defBody s_law_gone, defScope s_law_gone, [], []⟩
abbrev d_law_seen : He.DefD := ⟨("_law_seen", none), "_law_seen", "_law_seen", defArgs s_law_seen, defBody s_law_seen, defScope s_law_seen, [], []⟩
abbrev d_law_do : He.DefD := ⟨("_law_do", none), "_law_do", "_law_do", defArgs s_law_do, defBody s_law_do, defScope s_law_do, [], []⟩
abbrev d_law_way : He.DefD := ⟨("_law_way", none), "_law_way", "_law_way", defArgs s_law_way, defBody s_law_way, defScope s_law_way, [], []⟩
abbrev d_law_errand : He.DefD := ⟨("_law_errand", none), "_law_errand", "_law_errand", defArgs s_law_errand, defBody s_law_errand, defScope s_law_errand, [], []⟩
abbrev d_law_two : He.DefD := ⟨("_law_two", none), "_law_two", "_law_two", defArgs s_law_two, defBody s_law_two, defScope s_law_two, [], []⟩
abbrev d_law_unseen : He.DefD := ⟨("_law_unseen", none), "_law_unseen", "_law_unseen", defArgs s_law_unseen, defBody s_law_unseen, defScope s_law_unseen, [], []⟩
abbrev d_law_world : He.DefD := ⟨("_law_world", none), "_law_world", "_law_world", defArgs s_law_world, defBody s_law_world, defScope s_law_world, [], []⟩
abbrev d_law_drawn_book : He.DefD := ⟨("_law_drawn_book", none), "_law_drawn_book", "_law_drawn_book", defArgs s_law_drawn_book, defBody s_law_drawn_book, defScope s_law_drawn_book, [], []⟩
abbrev d_law_shifted : He.DefD := ⟨("_law_shifted", none), "_law_shifted", "_law_shifted", defArgs s_law_shifted, defBody s_law_shifted, defScope s_law_shifted, [], []⟩
abbrev d_law_mixed_book : He.DefD := ⟨("_law_mixed_book", none), "_law_mixed_book", "_law_mixed_book", defArgs s_law_mixed_book, defBody s_law_mixed_book, defScope s_law_mixed_book, [], []⟩
abbrev d_law_right : He.DefD := ⟨("_law_right", none), "_law_right", "_law_right", defArgs s_law_right, defBody s_law_right, defScope s_law_right, [], []⟩
abbrev d_law : He.DefD := ⟨("law", none), "law", "law", defArgs s_law, defBody s_law, defScope s_law, [], []⟩
def fnL : List He.DefD := [d_NoBook_init, d_is_whole, d_is_below, d_is_spelled, d_is_word, d_is_mark, d_is_way, d_is_shared_errand, d_is_row_errand, d_places, d_ties, d_check_book, d_first_bad_row, d_is_row, d_is_met, d_is_calm, d_is_letter, d_is_seen, d_is_brought, d_is_sent, d_claim_of, d_backs_of, d_made_tie, d_ties_of, d_law_draws, d_law_next, d_law_begun, d_law_person, d_law_living, d_law_fresh, d_law_tie, d_law_end, d_law_gone, d_law_seen, d_law_do, d_law_way, d_law_errand, d_law_two, d_law_unseen, d_law_world, d_law_drawn_book, d_law_shifted, d_law_mixed_book, d_law_right, d_law]
def faL : List He.Fa := [.glo "is_whole", .glo "is_below", .glo "is_spelled", .glo "is_word", .glo "is_mark", .glo "is_way", .glo "is_shared_errand", .glo "is_row_errand", .glo "places", .glo "ties", .glo "check_book", .glo "first_bad_row", .glo "is_row", .glo "is_met", .glo "is_calm", .glo "is_letter", .glo "is_seen", .glo "is_brought", .glo "is_sent", .glo "claim_of", .glo "backs_of", .glo "made_tie", .glo "ties_of", .glo "_law_draws", .glo "_law_next", .glo "_law_begun", .glo "_law_person", .glo "_law_living", .glo "_law_fresh", .glo "_law_tie", .glo "_law_end", .glo "_law_gone", .glo "_law_seen", .glo "_law_do", .glo "_law_way", .glo "_law_errand", .glo "_law_two", .glo "_law_unseen", .glo "_law_world", .glo "_law_drawn_book", .glo "_law_shifted", .glo "_law_mixed_book", .glo "_law_right", .glo "law", .free "ValueError", .free "all", .free "bool", .free "dict", .free "enumerate", .free "int", .free "isinstance", .free "len", .free "list", .free "max", .free "range", .free "sorted", .free "str", .free "tuple", .free "zip", .str "WORD_SIGNS" "abcdefghijklmnopqrstuvwxyz0123456789", .int "LONGEST_WORD" 6, .int "MARK_END" 1000000000000000000000000000000, .glo "BARE_ERRANDS", .glo "NUMBERED_ERRANDS"]
def tfL : List He.Defn := [("is_spelled", none), ("is_way", none)]
def exK (K : PySem.W.Frag) : Bool := [He.tupB K "BARE_ERRANDS" [.str "walk", .str "list", .str "part"], He.tupB K "NUMBERED_ERRANDS" [.str "leave", .str "look", .str "meet"]].all id
def tsK (K : PySem.W.Frag) : List Addr := tfL.map fun p => (He.cT K p).2
structure Facts (K : PySem.W.Frag) (mg : Str → Option Value) (base : Heap) : Prop where
  f_NoBook_init : ∃ fd, FunD K d_NoBook_init.name d_NoBook_init.qual d_NoBook_init.params d_NoBook_init.body d_NoBook_init.scope [] [] (He.fAd K d_NoBook_init.at_) fd
  f_is_whole : ∃ fd, FunD K d_is_whole.name d_is_whole.qual d_is_whole.params d_is_whole.body d_is_whole.scope [] [] (He.fAd K d_is_whole.at_) fd
  f_is_below : ∃ fd, FunD K d_is_below.name d_is_below.qual d_is_below.params d_is_below.body d_is_below.scope [] [] (He.fAd K d_is_below.at_) fd
  f_is_spelled : ∃ fd, FunD K d_is_spelled.name d_is_spelled.qual d_is_spelled.params d_is_spelled.body d_is_spelled.scope [] [] (He.fAd K d_is_spelled.at_) fd
  f_is_word : ∃ fd, FunD K d_is_word.name d_is_word.qual d_is_word.params d_is_word.body d_is_word.scope [] [] (He.fAd K d_is_word.at_) fd
  f_is_mark : ∃ fd, FunD K d_is_mark.name d_is_mark.qual d_is_mark.params d_is_mark.body d_is_mark.scope [] [] (He.fAd K d_is_mark.at_) fd
  f_is_way : ∃ fd, FunD K d_is_way.name d_is_way.qual d_is_way.params d_is_way.body d_is_way.scope [] [] (He.fAd K d_is_way.at_) fd
  f_is_shared_errand : ∃ fd, FunD K d_is_shared_errand.name d_is_shared_errand.qual d_is_shared_errand.params d_is_shared_errand.body d_is_shared_errand.scope [] [] (He.fAd K d_is_shared_errand.at_) fd
  f_is_row_errand : ∃ fd, FunD K d_is_row_errand.name d_is_row_errand.qual d_is_row_errand.params d_is_row_errand.body d_is_row_errand.scope [] [] (He.fAd K d_is_row_errand.at_) fd
  f_places : ∃ fd, FunD K d_places.name d_places.qual d_places.params d_places.body d_places.scope [] [] (He.fAd K d_places.at_) fd
  f_ties : ∃ fd, FunD K d_ties.name d_ties.qual d_ties.params d_ties.body d_ties.scope [] [] (He.fAd K d_ties.at_) fd
  f_check_book : ∃ fd, FunD K d_check_book.name d_check_book.qual d_check_book.params d_check_book.body d_check_book.scope [] [] (He.fAd K d_check_book.at_) fd
  f_first_bad_row : ∃ fd, FunD K d_first_bad_row.name d_first_bad_row.qual d_first_bad_row.params d_first_bad_row.body d_first_bad_row.scope [] [] (He.fAd K d_first_bad_row.at_) fd
  f_is_row : ∃ fd, FunD K d_is_row.name d_is_row.qual d_is_row.params d_is_row.body d_is_row.scope [] [] (He.fAd K d_is_row.at_) fd
  f_is_met : ∃ fd, FunD K d_is_met.name d_is_met.qual d_is_met.params d_is_met.body d_is_met.scope [] [] (He.fAd K d_is_met.at_) fd
  f_is_calm : ∃ fd, FunD K d_is_calm.name d_is_calm.qual d_is_calm.params d_is_calm.body d_is_calm.scope [] [] (He.fAd K d_is_calm.at_) fd
  f_is_letter : ∃ fd, FunD K d_is_letter.name d_is_letter.qual d_is_letter.params d_is_letter.body d_is_letter.scope [] [] (He.fAd K d_is_letter.at_) fd
  f_is_seen : ∃ fd, FunD K d_is_seen.name d_is_seen.qual d_is_seen.params d_is_seen.body d_is_seen.scope [] [] (He.fAd K d_is_seen.at_) fd
  f_is_brought : ∃ fd, FunD K d_is_brought.name d_is_brought.qual d_is_brought.params d_is_brought.body d_is_brought.scope [] [] (He.fAd K d_is_brought.at_) fd
  f_is_sent : ∃ fd, FunD K d_is_sent.name d_is_sent.qual d_is_sent.params d_is_sent.body d_is_sent.scope [] [] (He.fAd K d_is_sent.at_) fd
  f_claim_of : ∃ fd, FunD K d_claim_of.name d_claim_of.qual d_claim_of.params d_claim_of.body d_claim_of.scope [] [] (He.fAd K d_claim_of.at_) fd
  f_backs_of : ∃ fd, FunD K d_backs_of.name d_backs_of.qual d_backs_of.params d_backs_of.body d_backs_of.scope [] [] (He.fAd K d_backs_of.at_) fd
  f_made_tie : ∃ fd, FunD K d_made_tie.name d_made_tie.qual d_made_tie.params d_made_tie.body d_made_tie.scope [] [] (He.fAd K d_made_tie.at_) fd
  f_ties_of : ∃ fd, FunD K d_ties_of.name d_ties_of.qual d_ties_of.params d_ties_of.body d_ties_of.scope [] [] (He.fAd K d_ties_of.at_) fd
  f_law_draws : ∃ fd, FunD K d_law_draws.name d_law_draws.qual d_law_draws.params d_law_draws.body d_law_draws.scope [] [] (He.fAd K d_law_draws.at_) fd
  f_law_next : ∃ fd, FunD K d_law_next.name d_law_next.qual d_law_next.params d_law_next.body d_law_next.scope [] [] (He.fAd K d_law_next.at_) fd
  f_law_begun : ∃ fd, FunD K d_law_begun.name d_law_begun.qual d_law_begun.params d_law_begun.body d_law_begun.scope [] [] (He.fAd K d_law_begun.at_) fd
  f_law_person : ∃ fd, FunD K d_law_person.name d_law_person.qual d_law_person.params d_law_person.body d_law_person.scope [] [] (He.fAd K d_law_person.at_) fd
  f_law_living : ∃ fd, FunD K d_law_living.name d_law_living.qual d_law_living.params d_law_living.body d_law_living.scope [] [] (He.fAd K d_law_living.at_) fd
  f_law_fresh : ∃ fd, FunD K d_law_fresh.name d_law_fresh.qual d_law_fresh.params d_law_fresh.body d_law_fresh.scope [] [] (He.fAd K d_law_fresh.at_) fd
  f_law_tie : ∃ fd, FunD K d_law_tie.name d_law_tie.qual d_law_tie.params d_law_tie.body d_law_tie.scope [] [] (He.fAd K d_law_tie.at_) fd
  f_law_end : ∃ fd, FunD K d_law_end.name d_law_end.qual d_law_end.params d_law_end.body d_law_end.scope [] [] (He.fAd K d_law_end.at_) fd
  f_law_gone : ∃ fd, FunD K d_law_gone.name d_law_gone.qual d_law_gone.params d_law_gone.body d_law_gone.scope [] [] (He.fAd K d_law_gone.at_) fd
  f_law_seen : ∃ fd, FunD K d_law_seen.name d_law_seen.qual d_law_seen.params d_law_seen.body d_law_seen.scope [] [] (He.fAd K d_law_seen.at_) fd
  f_law_do : ∃ fd, FunD K d_law_do.name d_law_do.qual d_law_do.params d_law_do.body d_law_do.scope [] [] (He.fAd K d_law_do.at_) fd
  f_law_way : ∃ fd, FunD K d_law_way.name d_law_way.qual d_law_way.params d_law_way.body d_law_way.scope [] [] (He.fAd K d_law_way.at_) fd
  f_law_errand : ∃ fd, FunD K d_law_errand.name d_law_errand.qual d_law_errand.params d_law_errand.body d_law_errand.scope [] [] (He.fAd K d_law_errand.at_) fd
  f_law_two : ∃ fd, FunD K d_law_two.name d_law_two.qual d_law_two.params d_law_two.body d_law_two.scope [] [] (He.fAd K d_law_two.at_) fd
  f_law_unseen : ∃ fd, FunD K d_law_unseen.name d_law_unseen.qual d_law_unseen.params d_law_unseen.body d_law_unseen.scope [] [] (He.fAd K d_law_unseen.at_) fd
  f_law_world : ∃ fd, FunD K d_law_world.name d_law_world.qual d_law_world.params d_law_world.body d_law_world.scope [] [] (He.fAd K d_law_world.at_) fd
  f_law_drawn_book : ∃ fd, FunD K d_law_drawn_book.name d_law_drawn_book.qual d_law_drawn_book.params d_law_drawn_book.body d_law_drawn_book.scope [] [] (He.fAd K d_law_drawn_book.at_) fd
  f_law_shifted : ∃ fd, FunD K d_law_shifted.name d_law_shifted.qual d_law_shifted.params d_law_shifted.body d_law_shifted.scope [] [] (He.fAd K d_law_shifted.at_) fd
  f_law_mixed_book : ∃ fd, FunD K d_law_mixed_book.name d_law_mixed_book.qual d_law_mixed_book.params d_law_mixed_book.body d_law_mixed_book.scope [] [] (He.fAd K d_law_mixed_book.at_) fd
  f_law_right : ∃ fd, FunD K d_law_right.name d_law_right.qual d_law_right.params d_law_right.body d_law_right.scope [] [] (He.fAd K d_law_right.at_) fd
  f_law : ∃ fd, FunD K d_law.name d_law.qual d_law.params d_law.body d_law.scope [] [] (He.fAd K d_law.at_) fd
  g_is_whole : mg "is_whole" = some (.ref (He.ga K "is_whole"))
  g_is_below : mg "is_below" = some (.ref (He.ga K "is_below"))
  g_is_spelled : mg "is_spelled" = some (.ref (He.ga K "is_spelled"))
  g_is_word : mg "is_word" = some (.ref (He.ga K "is_word"))
  g_is_mark : mg "is_mark" = some (.ref (He.ga K "is_mark"))
  g_is_way : mg "is_way" = some (.ref (He.ga K "is_way"))
  g_is_shared_errand : mg "is_shared_errand" = some (.ref (He.ga K "is_shared_errand"))
  g_is_row_errand : mg "is_row_errand" = some (.ref (He.ga K "is_row_errand"))
  g_places : mg "places" = some (.ref (He.ga K "places"))
  g_ties : mg "ties" = some (.ref (He.ga K "ties"))
  g_check_book : mg "check_book" = some (.ref (He.ga K "check_book"))
  g_first_bad_row : mg "first_bad_row" = some (.ref (He.ga K "first_bad_row"))
  g_is_row : mg "is_row" = some (.ref (He.ga K "is_row"))
  g_is_met : mg "is_met" = some (.ref (He.ga K "is_met"))
  g_is_calm : mg "is_calm" = some (.ref (He.ga K "is_calm"))
  g_is_letter : mg "is_letter" = some (.ref (He.ga K "is_letter"))
  g_is_seen : mg "is_seen" = some (.ref (He.ga K "is_seen"))
  g_is_brought : mg "is_brought" = some (.ref (He.ga K "is_brought"))
  g_is_sent : mg "is_sent" = some (.ref (He.ga K "is_sent"))
  g_claim_of : mg "claim_of" = some (.ref (He.ga K "claim_of"))
  g_backs_of : mg "backs_of" = some (.ref (He.ga K "backs_of"))
  g_made_tie : mg "made_tie" = some (.ref (He.ga K "made_tie"))
  g_ties_of : mg "ties_of" = some (.ref (He.ga K "ties_of"))
  g_law_draws : mg "_law_draws" = some (.ref (He.ga K "_law_draws"))
  g_law_next : mg "_law_next" = some (.ref (He.ga K "_law_next"))
  g_law_begun : mg "_law_begun" = some (.ref (He.ga K "_law_begun"))
  g_law_person : mg "_law_person" = some (.ref (He.ga K "_law_person"))
  g_law_living : mg "_law_living" = some (.ref (He.ga K "_law_living"))
  g_law_fresh : mg "_law_fresh" = some (.ref (He.ga K "_law_fresh"))
  g_law_tie : mg "_law_tie" = some (.ref (He.ga K "_law_tie"))
  g_law_end : mg "_law_end" = some (.ref (He.ga K "_law_end"))
  g_law_gone : mg "_law_gone" = some (.ref (He.ga K "_law_gone"))
  g_law_seen : mg "_law_seen" = some (.ref (He.ga K "_law_seen"))
  g_law_do : mg "_law_do" = some (.ref (He.ga K "_law_do"))
  g_law_way : mg "_law_way" = some (.ref (He.ga K "_law_way"))
  g_law_errand : mg "_law_errand" = some (.ref (He.ga K "_law_errand"))
  g_law_two : mg "_law_two" = some (.ref (He.ga K "_law_two"))
  g_law_unseen : mg "_law_unseen" = some (.ref (He.ga K "_law_unseen"))
  g_law_world : mg "_law_world" = some (.ref (He.ga K "_law_world"))
  g_law_drawn_book : mg "_law_drawn_book" = some (.ref (He.ga K "_law_drawn_book"))
  g_law_shifted : mg "_law_shifted" = some (.ref (He.ga K "_law_shifted"))
  g_law_mixed_book : mg "_law_mixed_book" = some (.ref (He.ga K "_law_mixed_book"))
  g_law_right : mg "_law_right" = some (.ref (He.ga K "_law_right"))
  g_law : mg "law" = some (.ref (He.ga K "law"))
  n_ValueError : mg "ValueError" = none
  n_all : mg "all" = none
  n_bool : mg "bool" = none
  n_dict : mg "dict" = none
  n_enumerate : mg "enumerate" = none
  n_int : mg "int" = none
  n_isinstance : mg "isinstance" = none
  n_len : mg "len" = none
  n_list : mg "list" = none
  n_max : mg "max" = none
  n_range : mg "range" = none
  n_sorted : mg "sorted" = none
  n_str : mg "str" = none
  n_tuple : mg "tuple" = none
  n_zip : mg "zip" = none
  c_WORD_SIGNS : ∃ t, mg "WORD_SIGNS" = some (.str "abcdefghijklmnopqrstuvwxyz0123456789" t)
  c_LONGEST_WORD : ∃ t, mg "LONGEST_WORD" = some (.int 6 t)
  c_MARK_END : ∃ t, mg "MARK_END" = some (.int 1000000000000000000000000000000 t)
  c_BARE_ERRANDS : mg "BARE_ERRANDS" = some (.ref (He.ga K "BARE_ERRANDS"))
  t_BARE_ERRANDS : ∀ H, SqT K H (He.ga K "BARE_ERRANDS") [V.str "walk", V.str "list", V.str "part"]
  c_NUMBERED_ERRANDS : mg "NUMBERED_ERRANDS" = some (.ref (He.ga K "NUMBERED_ERRANDS"))
  t_NUMBERED_ERRANDS : ∀ H, SqT K H (He.ga K "NUMBERED_ERRANDS") [V.str "leave", V.str "look", V.str "meet"]
  tb_is_spelled : GxR.TabB base mg (He.codeOf K ("is_spelled", none)) (He.tabOf K (He.codeOf K ("is_spelled", none)))
  tb_is_way : GxR.TabB base mg (He.codeOf K ("is_way", none)) (He.tabOf K (He.codeOf K ("is_way", none)))
end K05

set_option Elab.async false
set_option linter.all false
set_option maxRecDepth 100000
set_option maxHeartbeats 4000000
namespace K05
open PySem PySem.Spec PyProof.Rows L2 WW
theorem op_powW {X : Cx} : OpR X (binaryOp .Pow) (rI (fun i j => 0 ≤ j ∧ (Builtin.Int.intBits i : Int) * j ≤ 2 ^ 27) fun i j => .int (i ^ j.toNat)) := opI fun _ _ _ _ _ _ _ hc q => pow_int hc.1 hc.2 q
theorem opr_imp {X : Cx} {f : Value → Value → Sem Value} {r r' : R2} (h : OpR X f r) (k : ∀ x y H Q, r' x y H Q → r x y H Q) : OpR X f r' := fun pins s σ H x y v u Q I rx ry q => h pins s σ H x y v u Q I rx ry (k _ _ _ _ q)
/-- % by a positive number: some rest -/
theorem op_modB {X : Cx} : OpR X (binaryOp .Mod) (fun x y H Q => ∃ i j, x = .int i ∧ y = .int j ∧ 0 < j ∧ ∀ z, 0 ≤ z → z < j → Q (.int z) H) := opr_imp op_modN fun x y H Q ⟨i, j, hx, hy, hj, q⟩ => ⟨i, j, hx, hy, Int.ne_of_gt hj, q _ (Int.fmod_nonneg_of_pos _ hj) (Int.fmod_lt_of_pos _ hj)⟩
section
variable {P : Program} {w : World} {K : PySem.W.Frag} {mg : Str → Option Value} {base : Heap}
def Dr (n k : Int) (b : Bool) : HO := .lst [.int n, .int k, .bl b]
def spDraws : Sp := fun vs H Q _ => ∃ cell : Int, vs = [.int cell] ∧ ∀ p n b, H p = none → Q (.ref p) (upd H p (Dr n 0 b))
def spNext : Sp := fun vs H Q _ => ∃ (a : Addr) (n k : Int) (b : Bool), vs = [.ref a] ∧ H a = some (Dr n k b) ∧ 0 ≤ k ∧ k ≤ 1000000 ∧ ∀ r n', 0 ≤ r → r < 400000000 → Q (.int r) (upd H a (Dr n' (k + 1) b))
theorem sc_draws : FnScope ["cell"] ["cell"] (defScope s_law_draws) := ⟨rfl, rfl, rfl, by decide +kernel, rfl, by decide +kernel, by decide +kernel⟩
theorem sc_next : FnScope ["draws", "k", "number"] ["draws"] (defScope s_law_next) := ⟨rfl, rfl, rfl, by decide +kernel, rfl, by decide +kernel, by decide +kernel⟩
theorem k_draws (A : Facts K mg base) : Fk P w K mg base 1 "_law_draws" ["cell"] spDraws := by
  refine def_ok (d := d_law_draws) A.f_law_draws rfl A.g_law_draws sc_draws (fun _ _ _ _ _ _ us hl => match us, hl with | [_], _ => rfl) (fun vs H Q E h => ?_) (fun A' outer s H vs Q E hr h => ?_)
  · obtain ⟨cell, rfl, _⟩ := h
    rfl
  · obtain ⟨cell, rfl, q⟩ := h
    refine ws_one (w_ret (we_lst (wa_cons (we_bin op_modN (we_var 0 rfl (we_bin op_powW (we_bin op_powW (we_bin op_powW (we_int (we_int ⟨10, 60, rfl, rfl, by decide, we_int ⟨_, 60, rfl, rfl, by decide +kernel, we_int ⟨_, 4, rfl, rfl, by decide +kernel, cell, _, rfl, rfl, (by show (((10:Int) ^ Int.toNat 60) ^ Int.toNat 60) ^ Int.toNat 4 ≠ 0; decide +kernel), ?_⟩⟩⟩)))))))))) 
    refine wa_cons (we_int (wa_cons (we_cmp op_ge rfl (we_var 0 rfl (we_bin op_powW (we_int (we_int ⟨10, 18, rfl, rfl, by decide, cell, _, rfl, rfl, wa_nil ?_⟩))))))) 
    exact ⟨(by show 3 ≤ sizeLine; decide), fun p hp => q p _ _ hp⟩
theorem k_next (A : Facts K mg base) : Fk P w K mg base 1 "_law_next" ["draws"] spNext := by
  refine def_ok (d := d_law_next) A.f_law_next rfl A.g_law_next sc_next (fun _ _ _ _ _ _ us hl => match us, hl with | [_], _ => rfl) (fun vs H Q E h => ?_) (fun A' outer s H vs Q E hr h => ?_)
  · obtain ⟨a, n, k, b, rfl, _⟩ := h
    rfl
  · obtain ⟨a, n, k, b, rfl, ha, h0, h1, q⟩ := h
    refine ws_cons (w_setL (we_bin op_add (we_ix ix_list (we_var 0 rfl (we_int ⟨a, _, 1, .int k, rfl, rfl, .inl (.inl ha), rfl, we_int ⟨k, 1, rfl, rfl, we_var 0 rfl (we_int ⟨a, _, 1, 1, rfl, rfl, ha, rfl, ?_⟩)⟩⟩)))))
    have e1 : ∀ v, List.set [V.int n, .int k, .bl b] 1 v = [.int n, v, .bl b] := fun _ => rfl
    simp only [e1]
    refine ws_cons (w_set 1 (we_ix ix_list (we_var 0 rfl (we_int ⟨a, _, 1, .int (k + 1), rfl, rfl, .inl (.inl upd_same), rfl, ?_⟩))) sc_next.nd)
    refine ws_cons (w_if (wt_val (we_ix ix_list (we_var 0 rfl (we_int ⟨a, _, 2, .bl b, rfl, rfl, .inl (.inl upd_same), rfl, b, rfl, ?_⟩)))))
    cases b with
    | true =>
      rw [if_pos rfl]
      refine ws_cons (w_set 2 (we_bin op_modN (we_ix ix_list (we_var 0 rfl (we_int ⟨a, _, 0, .int n, rfl, rfl, .inl (.inl upd_same), rfl, we_bin op_powW (we_int (we_int ⟨10, 6, rfl, rfl, by decide, n, _, rfl, rfl, (by show (10:Int) ^ Int.toNat 6 ≠ 0; decide), ?_⟩))⟩)))) sc_next.nd)
      refine ws_cons (w_setL (we_bin op_fdiv (we_ix ix_list (we_var 0 rfl (we_int ⟨a, _, 0, .int n, rfl, rfl, .inl (.inl upd_same), rfl, we_bin op_powW (we_int (we_int ⟨10, 6, rfl, rfl, by decide, n, _, rfl, rfl, (by show (0:Int) < 10 ^ Int.toNat 6 ∧ (10:Int) ^ Int.toNat 6 < 1073741824; decide), we_var 0 rfl (we_int ⟨a, _, 0, 0, rfl, rfl, upd_same, rfl, ?_⟩)⟩))⟩)))))
      refine ws_one (w_ret (we_var 2 rfl ?_))
      rw [upd_upd]
      exact q _ _ (Int.fmod_nonneg_of_pos _ (by decide)) (Int.lt_trans (Int.fmod_lt_of_pos _ (by decide)) (by decide))
    | false =>
      rw [if_neg (by decide)]
      refine ws_nil ?_
      have hk : CMul (k + 1) (k + 1) := .inl ⟨Int.lt_of_lt_of_le (by decide) (Int.add_nonneg h0 (by decide)), Int.lt_of_le_of_lt (Int.add_le_add_right h1 1) (by decide)⟩
      refine ws_cons (w_set 2 (we_bin op_modB (we_bin op_mul (we_bin op_add (we_bin op_add (we_bin op_modN (we_ix ix_list (we_var 0 rfl (we_int ⟨a, _, 0, _, rfl, rfl, .inl (.inl upd_same), rfl, we_int ⟨n, 1000003, rfl, rfl, (by decide : (1000003:Int) ≠ 0), ?_⟩⟩)))))))) sc_next.nd)
      refine we_bin op_mul (we_bin op_mul (we_var 1 rfl (we_var 1 rfl ⟨k + 1, k + 1, rfl, rfl, hk, we_int ⟨(k + 1) * (k + 1), 7919, rfl, rfl, .inr ⟨by decide, by decide⟩, _, _, rfl, rfl, we_var 1 rfl ⟨_, k + 1, rfl, rfl, we_int ⟨_, 48271, rfl, rfl, .inr ⟨by decide, by decide⟩, we_int ⟨_, 2147483629, rfl, rfl, by decide, fun z z0 z1 => ?_⟩⟩⟩⟩⟩)))
      have hzz : CMul z z := .inl ⟨Int.lt_of_lt_of_le (by decide) z0, Int.lt_trans z1 (by decide)⟩
      refine ws_cons (w_set 2 (we_bin op_modB (we_bin op_mul (we_var 2 rfl (we_var 2 rfl ⟨z, z, rfl, rfl, hzz, we_int ⟨_, 2147483587, rfl, rfl, by decide, fun y y0 y1 => ?_⟩⟩)))) sc_next.nd)
      have hyy : CMul y (y + 2) := .inl ⟨Int.lt_of_lt_of_le (by decide) y0, Int.lt_trans y1 (by decide)⟩
      refine ws_one (w_ret (we_bin op_fdiv (we_bin op_modB (we_bin op_mul (we_var 2 rfl (we_bin op_add (we_var 2 rfl (we_int ⟨y, 2, rfl, rfl, y, y + 2, rfl, rfl, hyy, we_int ⟨_, 2147483579, rfl, rfl, by decide, fun f f0 f1 => we_int ⟨_, 7, rfl, rfl, ⟨by decide, by decide⟩, ?_⟩⟩⟩))))))))
      refine q _ n ?_ ?_ <;> omega
end
end K05

set_option Elab.async false
set_option linter.all false
set_option maxRecDepth 100000
set_option maxHeartbeats 4000000
namespace K05
open PySem PySem.Spec PyProof.Rows L2 WW Wo
section
variable {P : Program} {w : World} {K : PySem.W.Frag} {mg : Str → Option Value} {base : Heap}
def spLiving (ts : List Addr) (K : PySem.W.Frag) : Sp := fun vs H Q _ => ∃ (A : Ad) (S : Wst) (x : Int), vs = [.ref (A .w), .int x] ∧ WAt K H A S ∧ S.ties.length < 64 ∧
  ∀ H' p ws, Fr ts Nil H H' → Nw H p → H' p = some (.lst (ws.map V.str)) → ws.Perm (livW S x) → sortedS ws = true → Q (.ref p) H'
theorem sc_living : FnScope ["w", "person", "key"] ["w", "person"] (defScope s_law_living) := ⟨rfl, rfl, rfl, by decide +kernel, rfl, by decide +kernel, by decide +kernel⟩
theorem k_living (A : Facts K mg base) (ts : List Addr) : Fk P w K mg base 1 "_law_living" ["w", "person"] (spLiving ts K) := by
  refine def_ok (d := d_law_living) A.f_law_living rfl A.g_law_living sc_living (fun _ _ _ _ _ _ us hl => match us, hl with | [_, _], _ => rfl) (fun vs H Q E h => ?_) (fun A' outer s H vs Q E hr h => ?_)
  · obtain ⟨a, S, x, rfl, _⟩ := h
    rfl
  · obtain ⟨a, S, x, rfl, W, h64, q⟩ := h
    refine ws_one (w_ret (we_callB cr_sortedS A.n_sorted rfl (wa_cons (we_of (pe_lock (pe_lcT (own := [("key", 2)]) (g := gName 2) (by rfl) sc_living.nd (pi_keys pe) (blkOk_by (own := [("key", 2)]) (N := ["w", "person", "key"]) (sc := defScope s_law_living) (by decide +kernel)) (fun _ _ _ _ _ => pg_name (i := 2) sc_living.nd rfl (Or.inl rfl)) tb eb)) ?_))))
    refine ⟨a .t, _, W.at_ .t _ rfl, trivial, fun od => we_wf 0 rfl (e := by rw [upd_ne (W.ne (l := .w) (l' := .t) rfl rfl nofun)]; exact W.at_ .w _ rfl) (v_ties a S) (room_u hr) ⟨a .t, od, rfl, .inr ⟨_, upd_same, ?_⟩⟩⟩
    refine lc_by ts S.ties.length (by omega) (fun D i acc H => acc = ((S.ties.take i).filter fun e => decide (e.k.1 = x) && e.l).map fun e => .str e.k.2) (fun _ _ _ _ => rfl) (fun _ _ _ _ _ _ _ _ h => h) (fun D acc H2 hD f hi hd => ?_) (fun D i acc H2 hn hD hd f hi => ?_) gn_mono tb_mono eb_mono
    · obtain ⟨l1, l2⟩ := locked K W f
      refine ⟨⟨l1, by unfold tD; rw [List.length_map]; exact Nat.le_refl _⟩, l1, wa_nil ?_⟩
      rw [List.take_length] at hi
      have hD' : D ≠ a .t := fun z => by
        rw [z, upd_same] at hD
        cases hD
      have hm : acc = (livW S x).map V.str := by
        rw [hi]
        unfold livW
        rw [List.map_map]
        rfl
      refine ⟨D, livW S x, rfl, .inl (.inl (by rw [upd_ne hD', hd, hm])), ?_, fun ys p hp hs hn => q _ p ys ((fr_lock f (W.at_ .t _ rfl) rfl).trans (Fr.new hn)) ((Nw.of hn).back (fr_lock f (W.at_ .t _ rfl) rfl)) upd_same hp hs⟩
      unfold livW
      rw [List.length_map]
      exact Nat.lt_of_le_of_lt (List.length_filter_le _ _) h64
    · obtain ⟨l1, l2⟩ := locked K W f
      refine ⟨⟨l1, by unfold tD; rw [List.length_map]; exact hn⟩, fun v H3 ⟨e3, k, u, kq, h1, h2, h3⟩ => ?_⟩
      subst e3
      obtain ⟨e, he⟩ : ∃ e, S.ties[i]? = some e := ⟨_, List.getElem?_eq_getElem hn⟩
      have hke : k = kT e.k := by
        unfold tD at h1
        rw [List.getElem?_map, he] at h1
        cases h1
        rfl
      subst hke
      subst h2
      have hfe : (List.take (i + 1) S.ties) = List.take i S.ties ++ [e] := by
        rw [List.take_add_one, he]
        rfl
      refine ⟨rfl, fun s0 H0 C cl fp => wt_ww (ww_and (wt_cmp op_eqi rfl (we_ix ix_tup (we_var 2 rfl (we_int ⟨kq, _, 0, .int e.k.1, rfl, rfl, .inl (.inl h3), rfl, we_var 1 rfl ⟨e.k.1, x, rfl, rfl, _, rfl, ?_⟩⟩)))))⟩
      have hf := find_nd W.nd (List.mem_of_getElem? he)
      have hci : ∀ b : Bool, List.map (fun e => V.str e.k.2) (List.filter (fun e => decide (e.k.1 = x) && e.l) (List.take (i + 1) S.ties)) = acc ++ (if (decide (e.k.1 = x) && e.l) = true then [.str e.k.2] else []) := fun _ => by
        rw [hfe, List.filter_append, List.map_append, hi, List.filter_cons]
        split <;> rfl
      by_cases hx : e.k.1 = x
      · rw [if_pos (decide_eq_true hx)]
        refine ww_and1 (wt_val (we_ix ix_list (we_dget (room_u hr) (we_wf 0 rfl (l2 .w _ nofun rfl) (v_ties a S) (room_u hr) (we_var 2 rfl ⟨a .t, .ref (a (.tie e.k)), rfl, .inr ⟨_, kT e.k, kq, .inr ⟨_, l1⟩, rfl, h3, by rw [valV_tD, hf]; rfl⟩, we_int ⟨a (.tie e.k), _, 2, .bl e.l, rfl, rfl, .inl (.inl (l2 (.tie e.k) _ nofun (by show (findT S.ties e.k).map tieO = _; rw [hf]; rfl))), rfl, e.l, rfl, ?_⟩⟩)))))
        have hci := hci true
        cases hl : e.l with
        | true =>
          rw [if_pos rfl]
          refine fun s1 H5 C1 cl1 fp1 => we_ix ix_tup (we_var 2 rfl (we_int ⟨kq, _, 1, .str e.k.2, rfl, rfl, .inl (.inl h3), rfl, Fr.refl _, ?_⟩))
          rw [hci, hl, decide_eq_true hx]
          rfl
        | false =>
          rw [if_neg (by decide)]
          refine ⟨Fr.refl _, ?_⟩
          rw [hci, hl, decide_eq_true hx, if_neg (by decide), List.append_nil]
      · rw [if_neg (by rw [decide_eq_false hx]; decide)]
        rw [if_neg (by decide)]
        refine ⟨Fr.refl _, ?_⟩
        rw [hci true, decide_eq_false hx, Bool.false_and, if_neg (by decide), List.append_nil]
def spTie (ts : List Addr) (K : PySem.W.Frag) : Sp := fun vs H Q _ => ∃ (A : Ad) (S : Wst) (x : Int) (u : Str) (y : Int) (v : Str), vs = [.ref (A .w), .int x, .str u, .int y, .str v] ∧ WAt K H A S ∧ S.ties.length < 1000 ∧
  findT S.ties (x, u) = none ∧ findT S.ties (y, v) = none ∧ (x, u) ≠ (y, v) ∧
  ∀ H' A', Stp K ts A S H A' { S with ties := S.ties ++ [⟨(x, u), y, v, true⟩, ⟨(y, v), x, u, true⟩] } H' → Q .non H'
theorem sc_tie : FnScope ["w", "x", "u", "y", "v"] ["w", "x", "u", "y", "v"] (defScope s_law_tie) := ⟨rfl, rfl, rfl, by decide +kernel, rfl, by decide +kernel, by decide +kernel⟩
theorem k_tie (A : Facts K mg base) (ts : List Addr) : Fk P w K mg base 1 "_law_tie" ["w", "x", "u", "y", "v"] (spTie ts K) := by
  refine def_ok (d := d_law_tie) A.f_law_tie rfl A.g_law_tie sc_tie (fun _ _ _ _ _ _ us hl => match us, hl with | [_, _, _, _, _], _ => rfl) (fun vs H Q E h => ?_) (fun A' outer s H vs Q E hr h => ?_)
  · obtain ⟨a, S, x, u, y, v, rfl, _⟩ := h
    rfl
  · obtain ⟨a, S, x, u, y, v, rfl, W, h64, k1, k2, k3, q⟩ := h
    have hz : 1002 < sizeLine := by decide
    refine ws_cons (w_setD (room_u hr) (we_lst (wa_cons (we_var 3 rfl (wa_cons (we_var 4 rfl (wa_cons (we_bl (wa_nil ⟨by show 3 ≤ sizeLine; decide, fun p hp => ?_⟩)))))))))
    have f1 : Fr ts Nil H (upd H p (.lst [.int y, .str v, .bl true])) := Fr.new hp
    have W1 := W.fr f1
    refine we_wf 0 rfl (W1.at_ .w _ rfl) (v_ties a S) (room_u hr) (we_tup (wa_cons (we_var 1 rfl (wa_cons (we_var 2 rfl (wa_nil ⟨by show 2 ≤ sizeLine; decide, fun kq hq => ?_⟩))))))
    have f2 := f1.trans (Fr.new (ts := ts) (m := Nil) (o := .tup [.int x, .str u]) hq)
    have W2 := W.fr f2
    have st1 := Stp.tie1 W ⟨(x, u), y, v, true⟩ k1 (p := p) (Nw.of hp) f2 (by rw [upd_ne (fun z => by rw [← z, upd_same] at hq; cases hq)]; exact upd_same)
    refine ⟨a .t, _, rfl, DPut.t (k := kT (x, u)) (W2.at_ .t _ rfl) upd_same (by unfold tD; rw [List.length_map]; omega), ?_⟩
    rw [putK_new _ (by rw [valV_tD, k1]; rfl)]
    generalize hH4 : upd _ (a .t) _ = H4 at st1 ⊢
    have V := st1.wat
    have k2' : findT (S.ties ++ [⟨(x, u), y, v, true⟩]) (y, v) = none := by
      rw [findT_snoc _ _ _ k1, if_neg fun z => k3 z.symm]
      exact k2
    refine ws_one (w_setD (room_u hr) (we_lst (wa_cons (we_var 1 rfl (wa_cons (we_var 2 rfl (wa_cons (we_bl (wa_nil ⟨by show 3 ≤ sizeLine; decide, fun p' hp' => ?_⟩)))))))))
    have g1 : Fr ts Nil H4 (upd H4 p' (.lst [.int x, .str u, .bl true])) := Fr.new hp'
    have V1 := V.fr g1
    refine we_wf 0 rfl (V1.at_ .w _ rfl) (v_ties _ _) (room_u hr) (we_tup (wa_cons (we_var 3 rfl (wa_cons (we_var 4 rfl (wa_nil ⟨by show 2 ≤ sizeLine; decide, fun kq' hq' => ?_⟩))))))
    have g2 := g1.trans (Fr.new (ts := ts) (m := Nil) (o := .tup [.int y, .str v]) hq')
    have V2 := V.fr g2
    have st2 := Stp.tie1 V ⟨(y, v), x, u, true⟩ k2' (p := p') (Nw.of hp') g2 (by rw [upd_ne (fun z => by rw [← z, upd_same] at hq'; cases hq')]; exact upd_same)
    refine ⟨_, _, rfl, DPut.t (k := kT (y, v)) (V2.at_ .t _ rfl) upd_same (by unfold tD; rw [List.length_map, List.length_append]; show S.ties.length + 1 < _; omega), ?_⟩
    rw [putK_new _ (by rw [valV_tD, k2']; rfl)]
    have st := st1.trans st2
    rw [show ({ S with ties := S.ties ++ [⟨(x, u), y, v, true⟩] ++ [⟨(y, v), x, u, true⟩] } : Wst) = { S with ties := S.ties ++ [⟨(x, u), y, v, true⟩, ⟨(y, v), x, u, true⟩] } from by rw [List.append_assoc]; rfl] at st
    exact q _ _ st
end
end K05

set_option Elab.async false
set_option linter.all false
set_option maxRecDepth 100000
set_option maxHeartbeats 4000000
namespace K05
open PySem PySem.Spec PyProof.Rows L2 WW Wo
section
variable {P : Program} {w : World} {K : PySem.W.Frag} {mg : Str → Option Value} {base : Heap}
def spEnd (ts : List Addr) (K : PySem.W.Frag) : Sp := fun vs H Q _ => ∃ (A : Ad) (S : Wst) (x : Int) (u : Str) (e e2 : Tie), vs = [.ref (A .w), .int x, .str u] ∧ WAt K H A S ∧
  findT S.ties (x, u) = some e ∧ findT S.ties (e.y, e.v) = some e2 ∧ ∀ H', Stp K ts A S H A { S with ties := dead (e.y, e.v) (dead (x, u) S.ties) } H' → Q .non H'
theorem sc_end : FnScope ["w", "x", "u", "y", "v", "living"] ["w", "x", "u"] (defScope s_law_end) := ⟨rfl, rfl, rfl, by decide +kernel, rfl, by decide +kernel, by decide +kernel⟩
theorem dg_tie {K : PySem.W.Frag} {H : Hp} {A : Ad} {S : Wst} {k : Int × Str} {e : Tie} {kq : Addr} (W : WAt K H A S) (h : findT S.ties k = some e) (hk : H kq = some (.tup ((kT k).map kV))) : DGet H (A .t) (.ref kq) (some (.ref (A (.tie k)))) :=
  .inr ⟨_, kT k, kq, .inl (W.at_ .t _ rfl), rfl, hk, by rw [valV_tD, h, Option.map_some, (findT_k h).1]⟩
theorem tie_at {K : PySem.W.Frag} {H : Hp} {A : Ad} {S : Wst} {k : Int × Str} {e : Tie} (W : WAt K H A S) (h : findT S.ties k = some e) : H (A (.tie k)) = some (tieO e) := W.at_ (.tie k) _ (show (findT S.ties k).map tieO = _ from by rw [h]; rfl)
theorem k_end (A : Facts K mg base) (ts : List Addr) : Fk P w K mg base 1 "_law_end" ["w", "x", "u"] (spEnd ts K) := by
  refine def_ok (d := d_law_end) A.f_law_end rfl A.g_law_end sc_end (fun _ _ _ _ _ _ us hl => match us, hl with | [_, _, _], _ => rfl) (fun vs H Q E h => ?_) (fun A' outer s H vs Q E hr h => ?_)
  · obtain ⟨a, S, x, u, e, e2, rfl, _⟩ := h
    rfl
  · obtain ⟨a, S, x, u, e, e2, rfl, W, h1, h2, q⟩ := h
    refine ws_cons (w_un3L 3 4 5 (we_dget (room_u hr) (we_wf 0 rfl (W.at_ .w _ rfl) (v_ties a S) (room_u hr) (we_tup (wa_cons (we_var 1 rfl (wa_cons (we_var 2 rfl (wa_nil ⟨by show 2 ≤ sizeLine; decide, fun kq hq => ?_⟩)))))))) (by rfl) sc_end.nd)
    have W1 := W.fr (Fr.new (ts := ts) (o := .tup [.int x, .str u]) hq)
    refine ⟨a .t, _, rfl, dg_tie W1 h1 upd_same, a (.tie (x, u)), _, _, _, rfl, .inl (.inl (tie_at W1 h1)), ?_⟩
    have f1 : Fr ts Nil H _ := Fr.new (ts := ts) (m := Nil) (o := .tup [.int x, .str u]) hq
    generalize upd H kq _ = G1 at W1 f1 ⊢
    refine ws_cons (w_setL (we_bl (we_dget (room_u hr) (we_wf 0 rfl (W1.at_ .w _ rfl) (v_ties a S) (room_u hr) (we_tup (wa_cons (we_var 1 rfl (wa_cons (we_var 2 rfl (wa_nil ⟨by show 2 ≤ sizeLine; decide, fun kq2 hq2 => ?_⟩))))))))))
    have f2 := f1.trans (Fr.new (ts := ts) (m := Nil) (o := .tup [.int x, .str u]) hq2)
    have W2 := W1.fr (Fr.new (ts := ts) (o := .tup [.int x, .str u]) hq2)
    refine ⟨a .t, _, rfl, dg_tie W2 h1 upd_same, we_int ⟨_, _, 2, 2, rfl, rfl, tie_at W2 h1, rfl, ?_⟩⟩
    have s2 := (Stp.beside (ts := ts) W f2).trans (Stp.end1 W2 h1)
    change Stp K ts a S H a _ (upd (upd G1 kq2 _) (a (.tie (x, u))) (.lst (List.set [.int e.y, .str e.v, .bl e.l] 2 (.bl false)))) at s2
    generalize upd (upd G1 kq2 _) _ _ = G2 at s2 ⊢
    have V := s2.wat
    have hk2 : ∃ e3, findT (dead (x, u) S.ties) (e.y, e.v) = some e3 := by
      rw [find_dead, h2]
      exact ⟨_, rfl⟩
    obtain ⟨e3, h3⟩ := hk2
    refine ws_one (w_setL (we_bl (we_dget (room_u hr) (we_wf 0 rfl (V.at_ .w _ rfl) (v_ties a _) (room_u hr) (we_tup (wa_cons (we_var 3 rfl (wa_cons (we_var 4 rfl (wa_nil ⟨by show 2 ≤ sizeLine; decide, fun kq3 hq3 => ?_⟩))))))))))
    have V2 := V.fr (Fr.new (ts := ts) (o := .tup [.int e.y, .str e.v]) hq3)
    refine ⟨a .t, _, rfl, dg_tie V2 h3 upd_same, we_int ⟨_, _, 2, 2, rfl, rfl, tie_at V2 h3, rfl, q _ ?_⟩⟩
    exact (s2.trans (Stp.beside (ts := ts) V (Fr.new hq3))).trans (Stp.end1 V2 h3)
theorem own_ps {K : PySem.W.Frag} {H : Hp} {vs : List V} {ps : List (Str × Int)} (h : Paired (fun v p => Dp K H v (.tuple [.str p.1, .int p.2])) vs ps) :
    ∃ as : List Addr, vs = as.map V.ref ∧ Paired (fun p kv => SqT K H p [kV kv.1, kv.2]) as (ps.map fun o => ((.inr o.1 : Key), V.int o.2)) := by
  induction h with
  | nil => exact ⟨[], rfl, .nil⟩
  | cons h1 h2 ih =>
    obtain ⟨as, e, q⟩ := ih
    cases h1 with
    | tup hs hd =>
      rename_i a xs
      cases hd with
      | cons d1 r1 =>
        cases r1 with
        | cons d2 r2 =>
          cases r2
          cases d1
          cases d2
          exact ⟨a :: as, by rw [e]; rfl, .cons hs q⟩
theorem valV_merge (k : Key) : ∀ (kvs acc : List (Key × V)), (kvs.map (·.1)).Nodup → valV (mergeK acc kvs) k = (valV kvs k).or (valV acc k)
  | [], acc, _ => by rw [valV_nil, Option.none_or]; rfl
  | p :: r, acc, nd => by
    have nd : (p.1 :: r.map (·.1)).Nodup := nd
    obtain ⟨n1, n2⟩ := List.nodup_cons.mp nd
    show valV (mergeK (putK acc p.1 p.2) r) k = _
    rw [valV_merge k r _ n2, valV_put]
    by_cases h : k = p.1
    · subst h
      rw [if_pos rfl, valV_pos rfl]
      have : valV r p.1 = none := by
        cases q : valV r p.1 with
        | none => rfl
        | some u => exact absurd (valV_in q) n1
      rw [this]
      rfl
    · rw [if_neg h, valV_neg fun z => h z.symm]
theorem valV_own (n : Str) : ∀ os : List (Str × Int), valV (os.map fun o => ((.inr o.1 : Key), V.int o.2)) (.inr n) = (findB os n).map V.int
  | [] => rfl
  | o :: os => by
    show valV ((Sum.inr o.1, V.int o.2) :: os.map fun o => ((.inr o.1 : Key), V.int o.2)) (.inr n) = _
    by_cases h : o.1 = n
    · rw [valV_pos (show (Sum.inr o.1, V.int o.2).1 = (Sum.inr n : Key) from by rw [h])]
      unfold findB
      rw [List.find?_cons, decide_eq_true h]
      rfl
    · rw [valV_neg (fun z => h (Sum.inr.inj z)), valV_own n os]
      unfold findB
      rw [List.find?_cons, decide_eq_false h]
def spPerson (ts : List Addr) (K : PySem.W.Frag) : Sp := fun vs H Q _ => ∃ (A : Ad) (S : Wst) (n : Str) (x : Int), vs = [.ref (A .w), .str n] ∧ WAt K H A S ∧ (S.own.map (·.1)).Nodup ∧ S.own.length ≤ 10 ∧ findB S.own n = some x ∧
  ∀ H', Fr ts Nil H H' → Q (.int x) H'
theorem sc_person : FnScope ["w", "name"] ["w", "name"] (defScope s_law_person) := ⟨rfl, rfl, rfl, by decide +kernel, rfl, by decide +kernel, by decide +kernel⟩
theorem k_person (A : Facts K mg base) (ts : List Addr) : Fk P w K mg base 1 "_law_person" ["w", "name"] (spPerson ts K) := by
  refine def_ok (d := d_law_person) A.f_law_person rfl A.g_law_person sc_person (fun _ _ _ _ _ _ us hl => match us, hl with | [_, _], _ => rfl) (fun vs H Q E h => ?_) (fun A' outer s H vs Q E hr h => ?_)
  · obtain ⟨a, S, n, x, rfl, _⟩ := h
    rfl
  · obtain ⟨a, S, n, x, rfl, W, nd, hl, hx, q⟩ := h
    obtain ⟨as, ea, hp⟩ := own_ps W.ow
    refine ws_one (w_ret (we_dget (room_u hr) (we_callTy (call_dictP (by rfl)) A.n_dict rfl (wa_cons (we_wf 0 rfl (W.at_ .w _ rfl) (v_owners a S) (room_u hr) (wa_nil ⟨a .o, as, _, rfl, .inl (.inl ?_), hp, fun p hn => we_var 1 rfl ⟨p, .int x, rfl, ?_, q _ (Fr.new hn)⟩⟩))))))
    · rw [← ea]
      exact W.at_ .o _ rfl
    · refine .inl ⟨_, .inr n, .inl upd_same, rfl, ?_⟩
      rw [valV_merge _ _ _ ?_, valV_own, hx]
      · rfl
      · rw [List.map_map]
        have : ((fun x : Key × V => x.1) ∘ fun o : Str × Int => ((.inr o.1 : Key), V.int o.2)) = (fun s : Str => (.inr s : Key)) ∘ (·.1) := rfl
        rw [this, ← List.map_map]
        exact nd.map _ fun _ _ h z => h (Sum.inr.inj z)
end
end K05

set_option Elab.async false
set_option linter.all false
set_option maxRecDepth 100000
set_option maxHeartbeats 4000000
namespace K05
open PySem PySem.Spec PyProof.Rows L2 WW Wo
theorem goP_dead {ts : List Tie} {x : Int} {u : Str} {r : List Str} (h : ∀ e, findT ts (x, u) = some e → e.l = false) : goP ts x (u :: r) = ([x], [], false) := by
  unfold goP
  cases q : findT ts (x, u) with
  | none => rfl
  | some e =>
    show (if e.l = true then _ else _) = _
    rw [h e q, if_neg (by decide)]
theorem goP_live {ts : List Tie} {x : Int} {u : Str} {r : List Str} {e : Tie} (h : findT ts (x, u) = some e) (hl : e.l = true) : goP ts x (u :: r) = (x :: (goP ts e.y r).1, e.v :: (goP ts e.y r).2.1, (goP ts e.y r).2.2) := by
  rw [goP, h]
  show (if e.l = true then _ else _) = _
  rw [if_pos hl]
theorem atI_last {α : Type} (l : List α) (x : α) : atI (l ++ [x]) (-1) = some x := by
  unfold atI ixN
  rw [if_neg (by decide), List.length_append, if_pos (by show -((l.length + 1 : Nat) : Int) ≤ -1; omega), Option.bind_some]
  have : ((-1 : Int) + ((l.length + 1 : Nat) : Int)).toNat = l.length := by omega
  show (l ++ [x])[((-1 : Int) + ((l.length + 1 : Nat) : Int)).toNat]? = _
  rw [this, List.getElem?_concat_length]
section
variable {P : Program} {w : World} {K : PySem.W.Frag} {mg : Str → Option Value} {base : Heap}
def spGone (ts : List Addr) (K : PySem.W.Frag) : Sp := fun vs H Q _ => ∃ (A : Ad) (S : Wst) (x : Int) (pw : Addr) (way : List Str), vs = [.ref (A .w), .int x, .ref pw] ∧ WAt K H A S ∧ SqT K H pw (way.map V.str) ∧ way.length ≤ 100 ∧
  ∀ H' p tl bt, Fr ts Nil H H' → Nw H tl → H' p = some (.tup [.ref tl, .ref bt, .bl (goP S.ties x way).2.2]) → H' tl = some (.lst ((goP S.ties x way).1.map V.int)) → H' bt = some (.tup ((goP S.ties x way).2.1.map V.str)) → Q (.ref p) H'
theorem sc_gone : FnScope ["w", "x", "way", "trail", "backs", "word", "y", "v", "living"] ["w", "x", "way"] (defScope s_law_gone) := ⟨rfl, rfl, rfl, by decide +kernel, rfl, by decide +kernel, by decide +kernel⟩
theorem k_gone (A : Facts K mg base) (ts : List Addr) : Fk P w K mg base 1 "_law_gone" ["w", "x", "way"] (spGone ts K) := by
  refine def_ok (d := d_law_gone) A.f_law_gone rfl A.g_law_gone sc_gone (fun _ _ _ _ _ _ us hl => match us, hl with | [_, _, _], _ => rfl) (fun vs H Q E h => ?_) (fun A' outer s H vs Q E hr h => ?_)
  · obtain ⟨a, S, x, pw, way, rfl, _⟩ := h
    rfl
  · obtain ⟨a, S, x, pw, way, rfl, W, hway, hlen, q⟩ := h
    have hz : 1000 < sizeLine := by decide
    refine ws_cons (w_set 3 (we_lst (wa_cons (we_var 1 rfl (wa_nil ⟨by show 1 ≤ sizeLine; decide, fun pt hpt => ?_⟩)))) sc_gone.nd)
    refine ws_cons (w_set 4 (we_lst (wa_nil ⟨by show 0 ≤ sizeLine; decide, fun pb hpb => ?_⟩)) sc_gone.nd)
    have f0 : Fr ts Nil H (upd (upd H pt (.lst [.int x])) pb (.lst [])) := (Fr.new hpt).trans (Fr.new hpb)
    have ntb : pt ≠ pb := fun z => by rw [← z, upd_same] at hpb; cases hpb
    have npb : Nw H pb := (Nw.of hpb).back (Fr.new (ts := ts) hpt)
    have ht0 : upd (upd H pt (.lst [.int x])) pb (.lst []) pt = some (.lst [.int x]) := by rw [upd_ne ntb]; exact upd_same
    have hb0 : upd (upd H pt (.lst [.int x])) pb (.lst []) pb = some (.lst []) := upd_same
    generalize upd (upd H pt _) pb _ = G at f0 ht0 hb0 ⊢
    -- what is told at the end
    have fin : ∀ (Hc : Hp) (c : Bool) (t : List Int) (b : List Str) (σ : L2.St) (D : Ends) (p1 p2 p3 p4 p5 p6 p7 : Pos) (k1 k2 : Nat), True := fun _ _ _ _ _ _ _ _ _ _ _ _ _ _ _ => trivial
    refine ws_cons (w_for (pi_tup pe) (pg_name (i := 5) sc_gone.nd rfl (Or.inl rfl)) (by rfl) (we_var 2 rfl ⟨pw, rfl, ⟨_, (TK.fr f0).sqt hway⟩, for_by way.length (fun i σ Hc => ∃ o5 o6 o7 o8 tr y bk, σ = [some (.ref (a .w)), some (.int x), some (.ref pw), some (.ref pt), some (.ref pb), o5, o6, o7, o8] ∧ Fr ts Nil H Hc ∧
      Hc pt = some (.lst ((tr ++ [y]).map V.int)) ∧ Hc pb = some (.lst (bk.map V.str)) ∧ tr.length = i ∧ bk.length = i ∧ goP S.ties x way = (tr ++ (goP S.ties y (way.drop i)).1, bk ++ (goP S.ties y (way.drop i)).2.1, (goP S.ties y (way.drop i)).2.2)) ?_ (fun σ Hc hi => ?_) (fun i σ Hc hn hi => ?_)⟩))
    · exact ⟨_, _, _, _, [], x, [], rfl, f0, ht0, hb0, rfl, rfl, rfl⟩
    · obtain ⟨o5, o6, o7, o8, tr, y, bk, rfl, f, ht, hb, l1, l2, e⟩ := hi
      refine ⟨⟨_, (TK.fr f).sqt hway, by rw [List.length_map]; exact Nat.le_refl _⟩, ?_⟩
      rw [List.drop_length] at e
      have e : goP S.ties x way = (tr ++ [y], bk ++ [], true) := e
      rw [List.append_nil] at e
      rw [e] at q
      refine ws_one (w_ret (we_tup (wa_cons (we_var 3 rfl (wa_cons (we_callTy call_tuple_of A.n_tuple rfl (wa_cons (we_var 4 rfl (wa_nil ⟨pb, _, rfl, .inl ⟨.inl (.inl hb), fun bt hbt => wa_cons (we_bl (wa_nil ⟨by show 3 ≤ sizeLine; decide, fun p hp => ?_⟩))⟩⟩)))))))))
      have f2 := (f.trans (Fr.new (ts := ts) (o := .tup (bk.map V.str)) hbt)).trans (Fr.new (ts := ts) (o := .tup [.ref pt, .ref bt, .bl true]) hp)
      refine q _ p pt bt f2 (Nw.of hpt) upd_same ?_ ?_
      · rw [upd_ne (ne_of_none (by rw [upd_ne (ne_of_none ht hbt)]; exact ht) hp), upd_ne (ne_of_none ht hbt)]
        exact ht
      · rw [upd_ne (ne_of_none upd_same hp)]
        exact upd_same
    · obtain ⟨o5, o6, o7, o8, tr, y, bk, rfl, f, ht, hb, l1, l2, e⟩ := hi
      have hw := (TK.fr f).sqt hway
      obtain ⟨u, hu⟩ : ∃ u, way[i]? = some u := ⟨_, List.getElem?_eq_getElem hn⟩
      have hu' : (way.map V.str)[i]? = some (.str u) := by rw [List.getElem?_map, hu]; rfl
      refine ⟨⟨_, _, hw, hu'⟩, fun v Hy ⟨eH, hv⟩ => ?_⟩
      subst eH
      have hv := hv _ hw
      rw [hu'] at hv
      cases hv
      have hd : way.drop i = u :: way.drop (i + 1) := by
        rw [List.drop_eq_getElem_cons hn]
        rw [List.getElem?_eq_getElem hn] at hu
        rw [Option.some.inj hu]
      rw [hd] at e
      have Wc := W.fr f
      refine ws_cons (w_if (wt_not (wt_val (we_ix ix_list (we_get2 (room_u hr) (we_wf 0 rfl (Wc.at_ .w _ rfl) (v_ties a S) (room_u hr) ⟨a .t, rfl, .inr ⟨_, .inl (Wc.at_ .t _ rfl)⟩, we_tup (wa_cons (we_ix ix_list (we_var 3 rfl (we_un un_neg (we_int ⟨1, rfl, pt, _, -1, .int y, rfl, rfl, .inl (.inl ht), by rw [List.map_append]; exact atI_last _ _, wa_cons (we_var 5 rfl (wa_nil ⟨by show 2 ≤ sizeLine; decide, fun kq hq => ?_⟩))⟩)))))⟩))))))
      refine we_lst (wa_cons (we_int (wa_cons (we_str (wa_cons (we_bl (wa_nil ⟨by show 3 ≤ sizeLine; decide, fun lq hlq => ?_⟩)))))))
      have f1 : WW.Fr ts Nil Hy (upd (upd Hy kq (.tup [.int y, .str u])) lq (.lst [.int 0, .str "", .bl false])) := (Fr.new hq).trans (Fr.new hlq)
      have f2 := f.trans f1
      have nkl : kq ≠ lq := fun z => by rw [← z, upd_same] at hlq; cases hlq
      have hk : upd (upd Hy kq (.tup [.int y, .str u])) lq (.lst [.int 0, .str "", .bl false]) kq = some (.tup ((kT (y, u)).map kV)) := by rw [upd_ne nkl]; exact upd_same
      have hl : upd (upd Hy kq (.tup [.int y, .str u])) lq (.lst [.int 0, .str "", .bl false]) lq = some (.lst [.int 0, .str "", .bl false]) := upd_same
      have ht1 : upd (upd Hy kq (.tup [.int y, .str u])) lq (.lst [.int 0, .str "", .bl false]) pt = some (.lst ((tr ++ [y]).map V.int)) := f1.kp _ _ ht (fun z => z) rfl
      have hb1 : upd (upd Hy kq (.tup [.int y, .str u])) lq (.lst [.int 0, .str "", .bl false]) pb = some (.lst (bk.map V.str)) := f1.kp _ _ hb (fun z => z) rfl
      generalize upd (upd Hy kq _) lq _ = G2 at f1 f2 hk hl ht1 hb1 ⊢
      have W2 := Wc.fr f1
      -- the letter is lost
      have lost : (∀ e, findT S.ties (y, u) = some e → e.l = false) → ∀ D : Ends, D.rt = Q → WS (cx P w K mg base ["w", "x", "way", "trail", "backs", "word", "y", "v", "living"] d_law_gone.qual d_law_gone.scope (He.ga K "_law_gone") (He.codeOf K d_law_gone.at_) A' outer s H E) (match (d_law_gone.body.getD 2 (.Pass ⟨0, 0, 0, 0⟩)) with | .For _ _ (.If _ th _ _ :: _) _ _ => th | _ => []) D [some (.ref (a .w)), some (.int x), some (.ref pw), some (.ref pt), some (.ref pb), some (.str u), o6, o7, o8] G2 := fun hd D hD => by
        rw [goP_dead hd] at e
        have e : goP S.ties x way = (tr ++ [y], bk ++ [], false) := e
        rw [List.append_nil] at e
        rw [e] at q
        refine ws_one (w_ret (we_tup (wa_cons (we_var 3 rfl (wa_cons (we_callTy call_tuple_of A.n_tuple rfl (wa_cons (we_var 4 rfl (wa_nil ⟨pb, _, rfl, .inl ⟨.inl (.inl hb1), fun bt hbt => wa_cons (we_bl (wa_nil ⟨by show 3 ≤ sizeLine; decide, fun p hp => ?_⟩))⟩⟩)))))))))
        rw [hD]
        have g2 := (f2.trans (Fr.new (ts := ts) (o := .tup (bk.map V.str)) hbt)).trans (Fr.new (ts := ts) (o := .tup [.ref pt, .ref bt, .bl false]) hp)
        refine q _ p pt bt g2 (Nw.of hpt) upd_same ?_ ?_
        · rw [upd_ne (ne_of_none (by rw [upd_ne (ne_of_none ht1 hbt)]; exact ht1) hp), upd_ne (ne_of_none ht1 hbt)]
          exact ht1
        · rw [upd_ne (ne_of_none upd_same hp)]
          exact upd_same
      cases hf : findT S.ties (y, u) with
      | none =>
        refine ⟨none, .inr ⟨_, kT (y, u), kq, .inl (W2.at_ .t _ rfl), rfl, hk, by rw [valV_tD, hf]; rfl⟩, we_int ⟨lq, _, 2, .bl false, rfl, rfl, .inl (.inl hl), rfl, false, rfl, ?_⟩⟩
        exact lost (fun e he => by rw [hf] at he; cases he) _ rfl
      | some e1 =>
        refine ⟨_, dg_tie W2 hf hk, we_int ⟨a (.tie (y, u)), _, 2, .bl e1.l, rfl, rfl, .inl (.inl (tie_at W2 hf)), rfl, e1.l, rfl, ?_⟩⟩
        cases hl1 : e1.l with
        | false => exact lost (fun e he => by rw [hf] at he; cases he; exact hl1) _ rfl
        | true =>
          refine ws_nil ?_
          rw [goP_live hf hl1] at e
          refine ws_cons (w_un3L 6 7 8 (we_dget (room_u hr) (we_wf 0 rfl (W2.at_ .w _ rfl) (v_ties a S) (room_u hr) (we_tup (wa_cons (we_ix ix_list (we_var 3 rfl (we_un un_neg (we_int ⟨1, rfl, pt, _, -1, .int y, rfl, rfl, .inl (.inl ht1), by rw [List.map_append]; exact atI_last _ _, wa_cons (we_var 5 rfl (wa_nil ⟨by show 2 ≤ sizeLine; decide, fun k2 hk2 => ?_⟩))⟩)))))))) (by rfl) sc_gone.nd)
          have f3 := f2.trans (Fr.new (ts := ts) (m := Nil) (o := .tup [.int y, .str u]) hk2)
          have W3 := W2.fr (Fr.new (ts := ts) (o := .tup [.int y, .str u]) hk2)
          have ht3 : upd G2 k2 (.tup [.int y, .str u]) pt = some (.lst ((tr ++ [y]).map V.int)) := by rw [upd_ne (ne_of_none ht1 hk2)]; exact ht1
          have hb3 : upd G2 k2 (.tup [.int y, .str u]) pb = some (.lst (bk.map V.str)) := by rw [upd_ne (ne_of_none hb1 hk2)]; exact hb1
          refine ⟨a .t, _, rfl, dg_tie W3 hf upd_same, a (.tie (y, u)), _, _, _, rfl, .inl (.inl (tie_at W3 hf)), ?_⟩
          refine ws_cons (w_expr (we_app (we_var 3 rfl ⟨⟨pt, _, rfl, ht3⟩, we_var 6 rfl ⟨pt, _, rfl, ht3, by rw [List.length_map, List.length_append, l1]; show i + 1 < _; omega, ?_⟩⟩)))
          refine ws_one (w_expr (we_app (we_var 4 rfl ⟨⟨pb, _, rfl, by rw [upd_ne ntb.symm]; exact hb3⟩, we_var 7 rfl ⟨pb, _, rfl, by rw [upd_ne ntb.symm]; exact hb3, by rw [List.length_map, l2]; omega, ?_⟩⟩)))
          refine ⟨_, _, _, _, tr ++ [y], e1.y, bk ++ [e1.v], rfl, ?_, ?_, ?_, by rw [List.length_append, l1]; rfl, by rw [List.length_append, l2]; rfl, ?_⟩
          · exact fr_mut (fr_mut f3 (Nw.of hpt) ht3 rfl) npb (by rw [upd_ne ntb.symm]; exact hb3) rfl
          · rw [upd_ne ntb, upd_same, List.map_append (l₁ := tr ++ [y])]
            rfl
          · rw [upd_same, List.map_append]
            rfl
          · rw [e, List.append_assoc, List.append_assoc]
            rfl
end
end K05

set_option Elab.async false
set_option linter.all false
set_option maxRecDepth 100000
set_option maxHeartbeats 4000000
namespace K05
open PySem PySem.Spec PyProof.Rows L2 WW Wo
section
variable {P : Program} {w : World} {K : PySem.W.Frag} {mg : Str → Option Value} {base : Heap}
/-- the words of the ties are made by so many ties as there are -/
def WordsOk (S : Wst) : Prop := S.ties.length ≤ 60 ∧ ∀ e ∈ S.ties, WordIn S.ties.length e.k.2
def spFresh (ts : List Addr) (K : PySem.W.Frag) : Sp := fun vs H Q _ => ∃ (A : Ad) (S : Wst) (x : Int), vs = [.ref (A .d), .ref (A .w), .int x] ∧ WAt K H A S ∧ WordsOk S ∧ 0 ≤ S.dk ∧ S.dk ≤ 1000000 ∧
  ∀ H' n' u, Stp K ts A S H A (dr S n' (S.dk + 1)) H' → findT S.ties (x, u) = none → WordIn (S.ties.length + 2) u → Q (.str u) H'
theorem sc_fresh : FnScope ["draws", "w", "person", "k", "word"] ["draws", "w", "person"] (defScope s_law_fresh) := ⟨rfl, rfl, rfl, by decide +kernel, rfl, by decide +kernel, by decide +kernel⟩
theorem k_fresh (A : Facts K mg base) (ts : List Addr) : Fk P w K mg base 2 "_law_fresh" ["draws", "w", "person"] (spFresh ts K) := by
  refine def_ok (d := d_law_fresh) A.f_law_fresh rfl A.g_law_fresh sc_fresh (fun _ _ _ _ _ _ us hl => match us, hl with | [_, _, _], _ => rfl) (fun vs H Q E h => ?_) (fun A' outer s H vs Q E hr h => ?_)
  · obtain ⟨a, S, x, rfl, _⟩ := h
    rfl
  · obtain ⟨a, S, x, rfl, W, ⟨wl, wk⟩, d0, d1, q⟩ := h
    refine ws_cons (w_set 3 (we_f (k_next A) hr (wa_cons (we_var 0 rfl (wa_nil ⟨a .d, S.dn, S.dk, S.db, rfl, W.at_ .d _ rfl, d0, d1, fun r n' r0 r1 => ?_⟩)))) sc_fresh.nd)
    have s1 : Stp K ts a S H a (dr S n' (S.dk + 1)) (upd H (a .d) (Wo.Dr n' (S.dk + 1) S.db)) := Stp.draw W n' (S.dk + 1) S.db
    change WS _ _ _ _ (upd H (a .d) (Wo.Dr n' (S.dk + 1) S.db))
    generalize upd H (a .d) (Wo.Dr n' (S.dk + 1) S.db) = G at s1 ⊢
    obtain ⟨c, hc, hcw⟩ := pq_at r
    refine ws_cons (w_set 4 (we_ix ix_str (we_str (we_bin op_modN (we_var 3 rfl (we_int ⟨r, 4, rfl, rfl, (by decide : (4 : Int) ≠ 0), _, _, c, rfl, rfl, by decide +kernel, hc, ?_⟩))))) sc_fresh.nd)
    rw [hcw]
    have V := s1.wat
    have hz : 1000 < sizeLine := by decide
    refine ws_cons (w_while ⟨fun m σ Hc => ∃ k u, σ = [some (.ref (a .d)), some (.ref (a .w)), some (.int x), some (.int k), some (.str u)] ∧ WW.Fr ts Nil G Hc ∧ WordIn (S.ties.length + 2) u ∧ 0 ≤ k ∧ k < 400000000 ∧
      (m = k.toNat + 3 ∨ (m = k.toNat ∧ 1 ≤ k ∧ u = pqL k ++ num ((S.ties.length : Int) + k.fmod 3))), ⟨_, r, pqL r, rfl, WW.Fr.refl _, .inl (pq_mem r), r0, r1, .inl rfl⟩, fun m σ Hc ⟨k, u, hσ, f, hu, k0, k1, hm⟩ => ?_⟩)
    subst hσ
    refine wt_in (room_u hr) (we_tup (wa_cons (we_var 2 rfl (wa_cons (we_var 4 rfl (wa_nil ⟨by show 2 ≤ sizeLine; decide, fun kq hq => ?_⟩))))))
    have f1 := f.trans (WW.Fr.new (ts := ts) (m := Nil) (o := .tup [.int x, .str u]) hq)
    have V1 := V.fr f1
    refine we_wf 1 rfl (V1.at_ .w _ rfl) (v_ties a _) (room_u hr) ⟨a .t, _, rfl, .inr ⟨_, kT (x, u), kq, .inl (V1.at_ .t _ rfl), rfl, upd_same, rfl⟩, _, rfl, ?_⟩
    rw [valV_tD]
    change if (Option.map _ (findT S.ties (x, u))).isSome = true then _ else _
    generalize hG : upd Hc kq _ = G1 at f1 V1 ⊢
    cases hf : findT S.ties (x, u) with
    | none =>
      refine ws_one (w_ret (we_var 4 rfl (q _ n' u ?_ hf hu)))
      exact s1.trans (.beside V f1)
    | some e =>
      have hin : WordIn S.ties.length u := by
        have := wk e (findT_k hf).2
        rw [(findT_k hf).1] at this
        exact this
      have hk2 : m = k.toNat + 3 ∨ (m = k.toNat ∧ 2 ≤ k) := by
        rcases hm with h | ⟨h1, h2, h3⟩
        · exact .inl h
        · refine .inr ⟨h1, ?_⟩
          by_cases hk1 : k = 1
          · exfalso
            subst hk1
            have h3 : u = ("q" : Str) ++ num ((S.ties.length : Int) + 1) := h3
            rcases hin with h | ⟨c, hc, n, hn, e⟩
            · exact num_l (S.ties.length + 1) (by omega) "q" (by decide +kernel) u h h3.symm
            · exact num_q S.ties.length wl n hn c hc (e.symm.trans h3)
          · omega
      refine ⟨fun σ' H' => ∃ k' u', σ' = [some (.ref (a .d)), some (.ref (a .w)), some (.int x), some (.int k'), some (.str u')] ∧ WW.Fr ts Nil G H' ∧ k' = k / 4 + 1 ∧ u' = pqL k' ++ num ((S.ties.length : Int) + k'.fmod 3), fun σ' H' ⟨k', u', e1, e2, e3, e4⟩ => ⟨k'.toNat, by omega, k', u', e1, e2, ?_, by omega, by omega, .inr ⟨rfl, by omega, e4⟩⟩, ?_⟩
      · rw [e4]
        have h0 := Int.fmod_nonneg_of_pos k' (b := 3) (by decide)
        have h1 := Int.fmod_lt_of_pos k' (b := 3) (by decide)
        exact .inr ⟨_, pq_mem k', S.ties.length + (k'.fmod 3).toNat, by omega, by rw [show ((S.ties.length + (k'.fmod 3).toNat : Nat) : Int) = (S.ties.length : Int) + k'.fmod 3 from by omega]⟩
      · refine ws_cons (w_set 3 (we_bin op_add (we_bin op_fdiv (we_var 3 rfl (we_int ⟨k, 4, rfl, rfl, ⟨by decide, by decide⟩, we_int ⟨_, 1, rfl, rfl, ?_⟩⟩)))) sc_fresh.nd)
        obtain ⟨c2, hc2, hcw2⟩ := pq_at (k / 4 + 1)
        refine ws_one (w_set 4 (we_bin op_add_str (we_ix ix_str (we_str (we_bin op_modN (we_var 3 rfl (we_int ⟨k / 4 + 1, 4, rfl, rfl, (by decide : (4 : Int) ≠ 0), _, _, c2, rfl, rfl, by decide +kernel, hc2, ?_⟩)))))) sc_fresh.nd)
        have h0 := Int.fmod_nonneg_of_pos (k / 4 + 1) (b := 3) (by decide)
        have h1 := Int.fmod_lt_of_pos (k / 4 + 1) (b := 3) (by decide)
        refine we_callTy call_str_int A.n_str rfl (wa_cons (we_bin op_add (we_callB call_len_dT A.n_len rfl (wa_cons (we_wf 1 rfl (V1.at_ .w _ rfl) (v_ties a _) (room_u hr) (wa_nil ⟨a .t, _, rfl, V1.at_ .t _ rfl, we_bin op_modN (we_var 3 rfl (we_int ⟨k / 4 + 1, 3, rfl, rfl, (by decide : (3 : Int) ≠ 0), _, _, rfl, rfl, wa_nil ⟨_, rfl, ?_, _, _, rfl, rfl, ?_, ?_⟩⟩))⟩))))))
        all_goals rw [show (((tD a (dr S n' (S.dk + 1)).ties).length : Nat) : Int) = (S.ties.length : Int) from by unfold tD; rw [List.length_map]; rfl]
        · rw [show ((S.ties.length : Int) + (k / 4 + 1).fmod 3).natAbs = S.ties.length + ((k / 4 + 1).fmod 3).toNat from by omega]
          exact Nat.lt_of_le_of_lt (Nat.log2_le_self _) (by omega)
        · have e1 : (S.ties.length : Int) + (k / 4 + 1).fmod 3 = ((S.ties.length + ((k / 4 + 1).fmod 3).toNat : Nat) : Int) := by omega
          have := num_len (S.ties.length + ((k / 4 + 1).fmod 3).toNat) (by omega)
          rw [e1, hcw2, pq_len]
          show 1 + (num _).length ≤ _
          omega
        · exact ⟨_, _, rfl, f1, rfl, by rw [hcw2]; rfl⟩
end
end K05

set_option Elab.async false
set_option linter.all false
set_option maxRecDepth 100000
set_option maxHeartbeats 4000000
namespace K05
open PySem PySem.Spec PyProof.Rows L2 WW Wo
section
variable {P : Program} {w : World} {K : PySem.W.Frag} {mg : Str → Option Value} {base : Heap}
def spSeen (ts : List Addr) (K : PySem.W.Frag) : Sp := fun vs H Q _ => ∃ (A : Ad) (S : Wst) (n : Str) (pt pb pw pe : Addr) (tr : List Int) (bk way : List Str) (e : Er), vs = [.ref (A .w), .str n, .ref pt, .ref pb, .ref pw, .ref pe] ∧ WAt K H A S ∧
  H pt = some (.lst (tr.map V.int)) ∧ SqT K H pb (bk.map V.str) ∧ SqT K H pw (way.map V.str) ∧ SqT K H pe ((erL e).map unS) ∧ SeenPre S n tr bk way e ∧
  ∀ H' A' S' v d, Stp K ts A S H A' S' H' → SeenR S n tr bk way e S' d → Td K H' (v, d) → Q v H'
theorem sc_seen : FnScope ["w", "name", "trail", "backs", "way", "errand", "word", "reached", "others", "other", "person"] ["w", "name", "trail", "backs", "way", "errand"] (defScope s_law_seen) := ⟨rfl, rfl, rfl, by decide +kernel, rfl, by decide +kernel, by decide +kernel⟩
theorem k_seen (A : Facts K mg base) (ts : List Addr) : Fk P w K mg base 2 "_law_seen" ["w", "name", "trail", "backs", "way", "errand"] (spSeen ts K) := by
  refine def_ok (d := d_law_seen) A.f_law_seen rfl A.g_law_seen sc_seen (fun _ _ _ _ _ _ us hl => match us, hl with | [_, _, _, _, _, _], _ => rfl) (fun vs H Q E h => ?_) (fun A' outer s H vs Q E hr h => ?_)
  · obtain ⟨a, S, n, pt, pb, pw, pe, tr, bk, way, e, rfl, _⟩ := h
    rfl
  · obtain ⟨a, S, n, pt, pb, pw, pe, tr, bk, way, e, rfl, W, ht, hb, hw, he, pr, q⟩ := h
    have hz : 2000 < sizeLine := by decide
    have hlast := atI_lastV tr pr.tr0
    obtain ⟨wd, hwd⟩ : ∃ wd : Str, ((erL e).map unS)[0]? = some (.str wd) := by cases e <;> exact ⟨_, rfl⟩
    refine ws_cons (w_un2 6 7 (we_tup (wa_cons (we_ix ix_tup (we_var 5 rfl (we_int ⟨pe, _, 0, .str wd, rfl, rfl, he, (atI_pos _ 0).trans hwd, wa_cons (we_ix ix_list (we_var 2 rfl (we_un un_neg (we_int ⟨1, rfl, pt, _, -1, _, rfl, rfl, .inl (.inl ht), hlast, wa_nil ⟨by show 2 ≤ sizeLine; decide, fun p0 hp0 => ⟨p0, _, _, rfl, .inl (.inl upd_same), ?_⟩⟩⟩))))⟩))))) (by rfl) sc_seen.nd)
    have f0 : WW.Fr ts Nil H (upd H p0 (.tup [.str wd, .int (lastI tr)])) := WW.Fr.new hp0
    have ht : upd H p0 (.tup [.str wd, .int (lastI tr)]) pt = some (.lst (tr.map V.int)) := f0.kp _ _ ht (fun z => z) rfl
    have hb := (TK.fr f0).sqt hb
    have hw := (TK.fr f0).sqt hw
    have he0 := he
    have he := (TK.fr f0).sqt he
    have W0 := W
    have W := W.fr f0
    generalize upd H p0 _ = G at f0 ht hb hw he W ⊢
    have b0 : Stp K ts a S H a S G := .beside W0 f0
    cases e with
    | walk =>
      cases hwd
      refine ws_cons (w_ifeq 6 rfl (fun h => absurd h (by decide +kernel)) fun _ => ?_)
      refine ws_cons (w_ifeq 6 rfl (fun h => absurd h (by decide +kernel)) fun _ => ?_)
      refine ws_cons (w_ifeq 6 rfl (fun h => absurd h (by decide +kernel)) fun _ => ?_)
      refine ws_cons (w_ifeq 6 rfl (fun h => absurd h (by decide +kernel)) fun _ => ?_)
      refine ws_cons (w_ifeq 6 rfl (fun h => absurd h (by decide +kernel)) fun _ => ?_)
      refine ws_cons (w_ifeq 6 rfl (fun h => absurd h (by decide +kernel)) fun _ => ?_)
      exact ws_one (w_ret (we_non (q G a S .non .none b0 .walk ⟨.non, rfl⟩)))
    | list =>
      cases hwd
      refine ws_cons (w_ifeq 6 rfl (fun _ => ?_) fun h => absurd rfl h)
      refine ws_one (w_ret (we_callTy call_tuple_of A.n_tuple rfl (wa_cons (we_f (k_living A ts) hr (wa_cons (we_var 0 rfl (wa_cons (we_var 7 rfl (wa_nil ⟨a, S, _, rfl, W, Nat.lt_of_le_of_lt pr.nt (by decide), fun H' p ws f np hp hpm hs => wa_nil ⟨p, _, rfl, .inl ⟨.inl (.inl hp), fun l hl => ?_⟩⟩⟩)))))))))
      have f2 := f.trans (WW.Fr.new (ts := ts) (o := .tup (ws.map V.str)) hl)
      refine q _ a S _ (.tuple (ws.map .str)) (b0.trans (.beside W f2)) (.list ws hpm hs) ?_
      have hsc : ∀ d ∈ ws.map PyData.str, scalD d = true := fun d hd => by
        obtain ⟨x, _, rfl⟩ := List.mem_map.mp hd
        rfl
      refine td_flat (.inl (.inl ?_)) hsc
      rw [List.map_map]
      exact upd_same
    | leave m =>
      cases hwd
      refine ws_cons (w_ifeq 6 rfl (fun h => absurd h (by decide +kernel)) fun _ => ?_)
      refine ws_cons (w_ifeq 6 rfl (fun _ => ?_) fun h => absurd rfl h)
      refine ws_one (w_setD (room_u hr) (we_var 7 rfl (we_wf 0 rfl (W.at_ .w _ rfl) (v_marks a S) (room_u hr) (we_tup (wa_cons (we_var 1 rfl (wa_cons (we_ix ix_tup (we_var 5 rfl (we_int ⟨pe, _, 1, .int m, rfl, rfl, he, rfl, wa_nil ⟨by show 2 ≤ sizeLine; decide, fun kq hq => ?_⟩⟩))))))))))
      have f2 : WW.Fr ts Nil G _ := WW.Fr.new (ts := ts) (m := Nil) (o := .tup [.str n, .int m]) hq
      have V := W.fr f2
      refine ⟨a .m, _, rfl, DPut.t (k := kM (n, m)) (V.at_ .m _ rfl) upd_same (by unfold mD; rw [List.length_map]; have := pr.nm; omega), ?_⟩
      have st := (b0.trans (.beside W f2)).trans (Stp.mark V (n, m) (.int (lastI tr)))
      generalize upd (upd G kq _) (a .m) _ = G2 at st ⊢
      refine ws_cons (w_ifeq 6 rfl (fun h => absurd h (by decide +kernel)) fun _ => ?_)
      refine ws_cons (w_ifeq 6 rfl (fun h => absurd h (by decide +kernel)) fun _ => ?_)
      refine ws_cons (w_ifeq 6 rfl (fun h => absurd h (by decide +kernel)) fun _ => ?_)
      refine ws_cons (w_ifeq 6 rfl (fun h => absurd h (by decide +kernel)) fun _ => ?_)
      exact ws_one (w_ret (we_non (q G2 a _ .non .none st (.leave m) ⟨.non, rfl⟩)))
    | look m =>
      cases hwd
      refine ws_cons (w_ifeq 6 rfl (fun h => absurd h (by decide +kernel)) fun _ => ?_)
      refine ws_cons (w_ifeq 6 rfl (fun h => absurd h (by decide +kernel)) fun _ => ?_)
      refine ws_cons (w_ifeq 6 rfl (fun _ => ?_) fun h => absurd rfl h)
      refine ws_one (w_ret (we_cmp op_eq rfl (we_get1 (room_u hr) (we_wf 0 rfl (W.at_ .w _ rfl) (v_marks a S) (room_u hr) ⟨a .m, rfl, .inr ⟨_, .inl (W.at_ .m _ rfl)⟩, we_tup (wa_cons (we_var 1 rfl (wa_cons (we_ix ix_tup (we_var 5 rfl (we_int ⟨pe, _, 1, .int m, rfl, rfl, he, rfl, wa_nil ⟨by show 2 ≤ sizeLine; decide, fun kq hq => ?_⟩⟩))))))⟩))))
      have f2 : WW.Fr ts Nil G _ := WW.Fr.new (ts := ts) (m := Nil) (o := .tup [.str n, .int m]) hq
      have V := W.fr f2
      refine ⟨valV S.marks (n, m), .inr ⟨_, kM (n, m), kq, .inl (V.at_ .m _ rfl), rfl, upd_same, (valV_mD _ _).symm⟩, we_var 7 rfl ⟨?_, ?_⟩⟩
      · cases hv : valV S.marks (n, m) with
        | none => rfl
        | some x =>
          obtain ⟨p, h1, h2⟩ := Option.map_eq_some_iff.mp (show (S.marks.find? fun kv => decide (kv.1 = (n, m))).map (·.2) = some x from hv)
          rcases pr.mkk p (List.mem_of_find?_eq_some h1) with h | ⟨i, h⟩ <;> rw [h] at h2 <;> subst h2 <;> rfl
      · exact q _ a S _ _ (b0.trans (.beside W f2)) (.look m) ⟨.bl _, rfl⟩
    | tie u v =>
      cases hwd
      obtain ⟨x0, r0, htr⟩ := pr.tr0
      have h0 : atI (tr.map V.int) ((0 : Nat) : Int) = some (.int x0) := by rw [htr]; exact atI_pos _ 0
      have hh : tr.head? = some x0 := by rw [htr]; rfl
      refine ws_cons (w_ifeq 6 rfl (fun h => absurd h (by decide +kernel)) fun _ => ?_)
      refine ws_cons (w_ifeq 6 rfl (fun h => absurd h (by decide +kernel)) fun _ => ?_)
      refine ws_cons (w_ifeq 6 rfl (fun h => absurd h (by decide +kernel)) fun _ => ?_)
      refine ws_cons (w_ifeq 6 rfl (fun _ => ?_) fun h => absurd rfl h)
      refine ws_cons (w_if (wt_cmp op_eqi rfl (we_var 7 rfl (we_ix ix_list (we_var 2 rfl (we_int ⟨pt, _, 0, _, rfl, rfl, .inl (.inl ht), h0, lastI tr, x0, rfl, rfl, _, rfl, ?_⟩))))))
      by_cases hx : lastI tr = x0
      · rw [if_pos (decide_eq_true hx)]
        exact ws_one (w_ret (we_str (q G a S _ (.str "self") b0 (.self u v (by rw [hx]; exact hh)) ⟨.str _, rfl⟩)))
      · rw [if_neg (by rw [decide_eq_false hx]; decide)]
        refine ws_nil ?_
        obtain ⟨k1, k2⟩ := pr.tie u v x0 rfl hh hx
        refine ws_cons (w_expr (we_f (k_tie A ts) hr (wa_cons (we_var 0 rfl ?_))))
        refine wa_cons (we_ix ix_list (we_var 2 rfl (we_int ⟨pt, _, 0, _, rfl, rfl, .inl (.inl ht), h0, ?_⟩)))
        refine wa_cons (we_ix ix_tup (we_var 5 rfl (we_int ⟨pe, _, 1, .str u, rfl, rfl, he, rfl, ?_⟩)))
        refine wa_cons (we_var 7 rfl ?_)
        refine wa_cons (we_ix ix_tup (we_var 5 rfl (we_int ⟨pe, _, 2, .str v, rfl, rfl, he, rfl, ?_⟩)))
        refine wa_nil ⟨a, S, x0, u, lastI tr, v, rfl, W, Nat.lt_of_le_of_lt pr.nt (by decide), k1, k2, fun z => hx (by injection z with z _; exact z.symm), fun H' A2 st => ?_⟩
        have st := b0.trans st
        have he3 : SqT K H' pe ((erL (.tie u v)).map unS) := (st.tkk W0).sqt he0
        refine ws_one (w_ret (we_tup ?_))
        refine wa_cons (we_ix ix_tup (we_var 5 rfl (we_int ⟨pe, _, 1, .str u, rfl, rfl, he3, rfl, ?_⟩)))
        refine wa_cons (we_ix ix_tup (we_var 5 rfl (we_int ⟨pe, _, 2, .str v, rfl, rfl, he3, rfl, ?_⟩)))
        refine wa_nil ⟨by show 2 ≤ sizeLine; decide, fun p hp => ?_⟩
        exact q _ A2 _ _ (.tuple [.str u, .str v]) (st.trans (.beside st.wat (WW.Fr.new hp))) (.tie u v x0 hh hx) (td_flat (ds := [.str u, .str v]) (.inl (.inl upd_same)) (by simp [scalD]))
    | part =>
      cases hwd
      obtain ⟨x, u, f, f2, p1, p2, p3, p4, p5⟩ := pr.part rfl
      refine ws_cons (w_ifeq 6 rfl (fun h => absurd h (by decide +kernel)) fun _ => ?_)
      refine ws_cons (w_ifeq 6 rfl (fun h => absurd h (by decide +kernel)) fun _ => ?_)
      refine ws_cons (w_ifeq 6 rfl (fun h => absurd h (by decide +kernel)) fun _ => ?_)
      refine ws_cons (w_ifeq 6 rfl (fun h => absurd h (by decide +kernel)) fun _ => ?_)
      refine ws_cons (w_ifeq 6 rfl (fun _ => ?_) fun h => absurd rfl h)
      have e1 : atI (tr.map V.int) (-2) = some (.int x) := by
        refine (atI_neg (tr.map V.int) 2 (by decide) (by rw [List.length_map]; exact p2)).trans ?_
        rw [List.length_map, List.getElem?_map, p1]
        rfl
      have e2 : atI (way.map V.str) (-1) = some (.str u) := by
        have hl : 1 ≤ way.length := by
          cases way with
          | nil => cases p3
          | cons _ _ => simp
        refine (atI_neg (way.map V.str) 1 (by decide) (by rw [List.length_map]; exact hl)).trans ?_
        rw [List.length_map, List.getElem?_map, ← List.getLast?_eq_getElem?, p3]
        rfl
      refine ws_one (w_expr (we_f (k_end A ts) hr (wa_cons (we_var 0 rfl ?_))))
      refine wa_cons (we_ix ix_list (we_var 2 rfl (we_un un_neg (we_int ⟨2, rfl, pt, _, -2, _, rfl, rfl, .inl (.inl ht), e1, ?_⟩))))
      refine wa_cons (we_ix ix_tup (we_var 4 rfl (we_un un_neg (we_int ⟨1, rfl, pw, _, -1, _, rfl, rfl, hw, e2, ?_⟩))))
      refine wa_nil ⟨a, S, x, u, f, f2, rfl, W, p4, p5, fun H' st => ?_⟩
      have st := b0.trans st
      refine ws_cons (w_ifeq 6 rfl (fun h => absurd h (by decide +kernel)) fun _ => ?_)
      exact ws_one (w_ret (we_non (q _ a _ .non .none st (.part x u f p1 p3 p4) ⟨.non, rfl⟩)))
    | meet s1 =>
      cases hwd
      refine ws_cons (w_ifeq 6 rfl (fun h => absurd h (by decide +kernel)) fun _ => ?_)
      refine ws_cons (w_ifeq 6 rfl (fun h => absurd h (by decide +kernel)) fun _ => ?_)
      refine ws_cons (w_ifeq 6 rfl (fun h => absurd h (by decide +kernel)) fun _ => ?_)
      refine ws_cons (w_ifeq 6 rfl (fun h => absurd h (by decide +kernel)) fun _ => ?_)
      refine ws_cons (w_ifeq 6 rfl (fun h => absurd h (by decide +kernel)) fun _ => ?_)
      refine ws_cons (w_ifeq 6 rfl (fun _ => ?_) fun h => absurd rfl h)
      refine ws_cons (w1_of (ps_setLcT (i := 8) (own := [("other", 9), ("person", 10)]) (g := gTup K 2 (gCons (gName 9) (gCons (gName 10) gNil))) (by rfl) sc_seen.nd rfl rfl (sw_true rfl rfl rfl (by decide +kernel)) (pi_list WW.pe)
        (blkOk_by (own := [("other", 9), ("person", 10)]) (N := ["w", "name", "trail", "backs", "way", "errand", "word", "reached", "others", "other", "person"]) (sc := defScope s_law_seen) (by decide +kernel))
        (fun _ _ _ _ _ => pg_tup (by rfl) (pgs_cons (pg_name (i := 9) sc_seen.nd rfl (Or.inl rfl)) (pgs_cons (pg_name (i := 10) sc_seen.nd rfl (Or.inl rfl)) pgs_nil))) tb eb) ?_)
      have hlo : S.ov.length = S.own.length := paired_len W.ow
      refine we_wf 0 rfl (W.at_ .w _ rfl) (v_owners a S) (room_u hr) ⟨a .o, rfl, ⟨_, .inl (.inl (W.at_ .o _ rfl))⟩, ?_⟩
      refine lc_by ts S.own.length (Nat.le_trans pr.no (by decide)) (fun D i acc H => acc = ((S.own.take i).filter fun o => decide (o.2 = lastI tr)).map fun o => .str o.1) (fun _ _ _ _ => rfl) (fun _ _ _ _ _ _ _ _ h => h) (fun D acc H2 hD f hi hd => ?_) (fun D i acc H2 hn hD hd f hi => ?_) gt2_mono tb_mono eb_mono
      · have hov : H2 (a .o) = some (.lst S.ov) := f.kp _ _ (W.at_ .o _ rfl) (fun z => z) rfl
        refine ⟨⟨_, .inl (.inl hov), by rw [hlo]; exact Nat.le_refl _⟩, ?_⟩
        rw [List.take_length] at hi
        have hm : acc = (others S (lastI tr)).map V.str := by
          rw [hi]
          unfold others
          rw [List.map_map]
          rfl
        subst hm
        have W2 := W.fr f
        have hpb := (TK.fr f).sqt hb
        have hpe := (TK.fr f).sqt he
        have hok : ∀ x ∈ others S (lastI tr), PyData.strOk x = true := fun x hx => by
          unfold others at hx
          obtain ⟨o, ho, rfl⟩ := List.mem_map.mp hx
          exact pr.ok.2 o (List.mem_filter.mp ho).1
        refine ws_cons (w_if (wt_cmp (op_eqD (room_u64 hr)) rfl (we_var 8 rfl (we_lst (wa_cons (we_var 1 rfl (wa_nil ⟨by show 1 ≤ sizeLine; decide, fun lp hlp => ?_⟩)))))))
        have f2 := f.trans (WW.Fr.new (ts := ts) (m := Nil) (o := .lst [.str n]) hlp)
        have hd2 : upd H2 lp (.lst [.str n]) D = some (.lst ((others S (lastI tr)).map V.str)) := by rw [upd_ne (ne_of_none hd hlp)]; exact hd
        have hd3 : upd H2 lp (.lst [.str n]) lp = some (.lst [.str n]) := upd_same
        generalize upd H2 lp _ = G2 at f2 hd2 hd3 ⊢
        have W3 := W.fr f2
        have hpb := (TK.fr f2).sqt hb
        have hpe := (TK.fr f2).sqt he
        refine ⟨.list ((others S (lastI tr)).map .str), .list ([n].map .str), .lst (.inl (.inl hd2)) (dps_strs _), .lst (.inl (.inl hd3)) (dps_strs [n]), shaped_strs _ hok, shaped_strs [n] (by simp [pr.ok.1]), _, rfl, ?_⟩
        have heq : PyData.eqv (.list ((others S (lastI tr)).map .str)) (.list ([n].map .str)) = true ↔ others S (lastI tr) = [n] := ⟨fun h => eqv_strs _ _ h, fun h => by rw [h]; exact eqv_strs_refl [n]⟩
        have b2 := b0.trans (Stp.beside W f2)
        by_cases hon : others S (lastI tr) = [n]
        · rw [if_pos (heq.mpr hon)]
          exact ws_one (w_ret (we_str (q G2 a S _ (.str "self") b2 (.mself s1 hon) ⟨.str _, rfl⟩)))
        · rw [if_neg fun h => hon (heq.mp h)]
          refine ws_nil ?_
          cases ho : others S (lastI tr) with
          | nil =>
            rw [ho] at hd2
            refine ws_cons (w_for (pi_list WW.pe) (pg_name (i := 9) sc_seen.nd rfl (Or.inl rfl)) (by rfl) (we_var 8 rfl ⟨D, rfl, ⟨_, .inl (.inl hd2)⟩, for_by 0 (fun _ σ Hc => Hc = G2) rfl (fun σ Hc e => ?_) (fun i σ Hc hn _ => absurd hn (Nat.not_lt_zero _))⟩))
            subst e
            refine ⟨⟨_, .inl (.inl hd2), Nat.le_refl _⟩, ws_nil ?_⟩
            exact ws_one (w_ret (we_non (q _ a S .non .none b2 (.mnone s1 ho) ⟨.non, rfl⟩)))
          | cons o r =>
            rcases pr.meet s1 rfl with h | h | ⟨o', r', b, rs, qs, h1, h2, h3, h4, h5, h6⟩
            · exact absurd h hon
            · rw [ho] at h
              cases h
            · rw [ho] at h1
              cases h1
              rw [ho] at hd2
              refine ws_cons (w_for (pi_list WW.pe) (pg_name (i := 9) sc_seen.nd rfl (Or.inl rfl)) (by rfl) (we_var 8 rfl ⟨D, rfl, ⟨_, .inl (.inl hd2)⟩, for_by 1 (fun i σ Hc => i = 0 ∧ Hc = G2 ∧ σ = [some (.ref (a .w)), some (.str n), some (.ref pt), some (.ref pb), some (.ref pw), some (.ref pe), some (.str "meet"), some (.int (lastI tr)), some (.ref D), none, none]) ⟨rfl, rfl, rfl⟩ (fun σ Hc e => absurd e.1 (by decide)) (fun i σ Hc hn e => ?_)⟩))
              obtain ⟨rfl, rfl, rfl⟩ := e
              refine ⟨⟨_, _, .inl (.inl hd2), rfl⟩, fun v Hy ⟨eH, hv⟩ => ?_⟩
              subst eH
              have hv := hv _ (.inl (.inl hd2))
              cases hv
              have hbl : atI (bk.map V.str) (-1) = some (.str b) := by
                have hl : 1 ≤ bk.length := by
                  cases bk with
                  | nil => cases h2
                  | cons _ _ => simp
                refine (atI_neg (bk.map V.str) 1 (by decide) (by rw [List.length_map]; exact hl)).trans ?_
                rw [List.length_map, List.getElem?_map, ← List.getLast?_eq_getElem?, h2]
                rfl
              refine ws_cons (w_expr (we_app (we_dget (room_u hr) (we_wf 0 rfl (W3.at_ .w _ rfl) (v_books a S) (room_u hr) (we_var 9 rfl ⟨a .b, _, rfl, (dg_bk W3 h3).1, ⟨⟨_, _, rfl, (dg_bk W3 h3).2⟩, we_tup ?_⟩⟩)))))
              refine wa_cons (we_str ?_)
              refine wa_cons (we_ix ix_tup (we_var 3 rfl (we_un un_neg (we_int ⟨1, rfl, pb, _, -1, .str b, rfl, rfl, hpb, hbl, ?_⟩))))
              refine wa_cons (we_ix ix_tup (we_var 5 rfl (we_int ⟨pe, _, 1, .int s1, rfl, rfl, hpe, rfl, ?_⟩)))
              refine wa_nil ⟨by show 3 ≤ sizeLine; decide, fun p hp => ?_⟩
              have g1 := b2.trans (Stp.beside W3 (WW.Fr.new (ts := ts) (m := Nil) (o := .tup [.str "met", .str b, .int s1]) hp))
              have V := g1.wat
              have hmet : ∀ G5 : Hp, Td K (upd G5 p (.tup [.str "met", .str b, .int s1])) (.ref p, metD b s1) := fun G5 => td_flat (ds := [.str "met", .str b, .int s1]) (.inl (.inl upd_same)) (by simp [scalD])
              refine ⟨_, _, rfl, (dg_bk V h3).2, by rw [List.length_map]; omega, ?_⟩
              have g2 := g1.trans (Stp.row V h3 (.ref p, metD b s1) (hmet _))
              generalize upd (upd _ p _) _ _ = G3 at g2 ⊢
              have V2 := g2.wat
              have h4' : findB ({ S with books := setB S.books o (rs ++ [(L2.V.ref p, metD b s1)]) } : Wst).trails o = some qs := h4
              refine ws_cons (w_expr (we_app (we_dget (room_u hr) (we_wf 0 rfl (V2.at_ .w _ rfl) (v_trails a _) (room_u hr) (we_var 9 rfl ⟨a .r, _, rfl, (dg_tr V2 h4').1, ⟨⟨_, _, rfl, (dg_tr V2 h4').2⟩, we_lst ?_⟩⟩)))))
              refine wa_cons (we_var 7 rfl ?_)
              refine wa_nil ⟨by show 1 ≤ sizeLine; decide, fun p2 hp2 => ?_⟩
              have g3 := g2.trans (Stp.beside V2 (WW.Fr.new (ts := ts) (m := Nil) (o := .lst [.int (lastI tr)]) hp2))
              refine ⟨_, _, rfl, (dg_tr g3.wat h4').2, by omega, ?_⟩
              have g4 := g3.trans (Stp.trail g3.wat h4' (.ref p2))
              exact ws_one (w_ret (we_str (q _ a _ _ (.str "met") g4 (.met s1 o r b (.ref p) (.ref p2) rs qs ho (by rw [← ho]; exact hon) h3 h4 h2) ⟨.str _, rfl⟩)))
      · obtain ⟨o, ho⟩ : ∃ o, S.own[i]? = some o := ⟨_, List.getElem?_eq_getElem hn⟩
        have W2 := W.fr f
        obtain ⟨p, hp1, hp2⟩ := own_at W2 ho
        have hov := W2.at_ .o _ rfl
        refine ⟨⟨_, _, .inl (.inl hov), hp1⟩, fun v Hy ⟨eH, hv⟩ => ?_⟩
        subst eH
        have hv := hv _ (.inl (.inl hov))
        rw [hp1] at hv
        cases hv
        refine ⟨p, _, rfl, hp2, rfl, _, _, rfl, _, _, rfl, rfl, rfl, fun s0 H0 C cl fp => wt_cmp op_eqi rfl (we_var 10 rfl (we_var 7 rfl ⟨o.2, lastI tr, rfl, rfl, _, rfl, ?_⟩))⟩
        have hci : List.map (fun o => V.str o.1) (List.filter (fun o => decide (o.2 = lastI tr)) (List.take (i + 1) S.own)) = acc ++ (if decide (o.2 = lastI tr) = true then [.str o.1] else []) := by
          rw [List.take_add_one, ho, List.filter_append, List.map_append, hi]
          show _ ++ List.map _ (List.filter _ [o]) = _
          rw [List.filter_cons]
          split <;> rfl
        by_cases hx : o.2 = lastI tr
        · rw [if_pos (decide_eq_true hx)]
          refine fun s1 H5 C1 cl1 fp1 => we_var 9 rfl ⟨WW.Fr.refl _, ?_⟩
          rw [hci, if_pos (decide_eq_true hx)]
        · rw [if_neg (by rw [decide_eq_false hx]; decide)]
          refine ⟨WW.Fr.refl _, ?_⟩
          rw [hci, if_neg (by rw [decide_eq_false hx]; decide), List.append_nil]
end
end K05

set_option Elab.async false
set_option linter.all false
set_option maxRecDepth 100000
set_option maxHeartbeats 4000000
namespace K05
open PySem PySem.Spec PyProof.Rows L2 WW Wo
section
variable {P : Program} {w : World} {K : PySem.W.Frag} {mg : Str → Option Value} {base : Heap}
def spDo (ts : List Addr) (K : PySem.W.Frag) : Sp := fun vs H Q _ => ∃ (A : Ad) (S : Wst) (pe : Addr) (e : Ev), vs = [.ref (A .w), .ref pe] ∧ WAt K H A S ∧ Td K H (.ref pe, evD e) ∧ DoPre S e ∧
  ∀ H' A' S', Stp K ts A S H A' S' H' → DoR S (.ref pe) e S' → Q .non H'
theorem sc_do : FnScope ["w", "event", "word", "name", "way", "errand", "trail", "backs", "came", "seen"] ["w", "event"] (defScope s_law_do) := ⟨rfl, rfl, rfl, by decide +kernel, rfl, by decide +kernel, by decide +kernel⟩
/-- a letter's event, read -/
theorem letter_at {K : PySem.W.Frag} {H : Hp} {pe : Addr} {n : Str} {way : List Str} {e : Er} (h : Td K H (.ref pe, evD (.letter n way e))) :
    ∃ pw pr, SqT K H pe [.str "letter", .str n, .ref pw, .ref pr] ∧ SqT K H pw (way.map V.str) ∧ SqT K H pr ((erL e).map unS) := by
  have h1 := h.is
  change Dp K H (.ref pe) (.tuple [.str "letter", .str n, .tuple (way.map .str), .tuple (erL e)]) at h1
  cases h1 with
  | tup hs hd =>
    cases hd with
    | cons d1 r1 => cases r1 with
      | cons d2 r2 => cases r2 with
        | cons d3 r3 => cases r3 with
          | cons d4 r4 =>
            cases r4
            cases d1
            cases d2
            obtain ⟨pw, rfl, hw⟩ := dp_flat d3 (fun d hd => by obtain ⟨x, _, rfl⟩ := List.mem_map.mp hd; rfl)
            obtain ⟨pr, rfl, hr⟩ := dp_flat d4 (er_scal e)
            rw [List.map_map] at hw
            exact ⟨pw, pr, hs, hw, hr⟩
theorem k_do (A : Facts K mg base) (ts : List Addr) : Fk P w K mg base 3 "_law_do" ["w", "event"] (spDo ts K) := by
  refine def_ok (d := d_law_do) A.f_law_do rfl A.g_law_do sc_do (fun _ _ _ _ _ _ us hl => match us, hl with | [_, _], _ => rfl) (fun vs H Q E h => ?_) (fun A' outer s H vs Q E hr h => ?_)
  · obtain ⟨a, S, pe, e, rfl, _⟩ := h
    rfl
  · obtain ⟨a, S, pe, e, rfl, W, he, pr, q⟩ := h
    have hz : 2000 < sizeLine := by decide
    refine ws_cons (w_expr (we_app (we_wf 0 rfl (W.at_ .w _ rfl) (v_events a S) (room_u hr) ⟨⟨a .e, _, rfl, W.at_ .e _ rfl⟩, we_var 1 rfl ⟨a .e, _, rfl, W.at_ .e _ rfl, by rw [List.length_map]; have := pr.ne; omega, ?_⟩⟩)))
    have s0 := Stp.evp (ts := ts) W he
    have he1 := he.keep (s0.tkk W)
    generalize upd H (a .e) _ = G at s0 he1 ⊢
    have V := s0.wat
    cases e with
    | born x u y v =>
      obtain ⟨k1, k2, k3⟩ := pr.ev
      obtain ⟨pe', hpe, hq⟩ := dp_flat (ds := [.str "born", .int x, .str u, .int y, .str v]) he1.is (by simp [scalD])
      cases hpe
      refine ws_one (w_if (wt_cmp op_eqs rfl (we_ix ix_tup (we_var 1 rfl (we_int ⟨pe, _, 0, .str "born", rfl, rfl, hq, rfl, we_str ⟨_, _, rfl, rfl, _, rfl, ?_⟩⟩)))))
      rw [if_pos (by decide +kernel)]
      refine ws_one (w_expr (we_f (k_tie A ts) hr (wa_cons (we_var 0 rfl ?_))))
      refine wa_cons (we_ix ix_tup (we_var 1 rfl (we_int ⟨pe, _, 1, _, rfl, rfl, hq, rfl, ?_⟩)))
      refine wa_cons (we_ix ix_tup (we_var 1 rfl (we_int ⟨pe, _, 2, _, rfl, rfl, hq, rfl, ?_⟩)))
      refine wa_cons (we_ix ix_tup (we_var 1 rfl (we_int ⟨pe, _, 3, _, rfl, rfl, hq, rfl, ?_⟩)))
      refine wa_cons (we_ix ix_tup (we_var 1 rfl (we_int ⟨pe, _, 4, _, rfl, rfl, hq, rfl, ?_⟩)))
      exact wa_nil ⟨a, _, x, u, y, v, rfl, V, Nat.lt_of_le_of_lt pr.nt (by decide), k1, k2, k3, fun H' A2 st => q _ A2 _ (s0.trans st) (.born x u y v)⟩
    | gone x u =>
      obtain ⟨e1, e2, k1, k2⟩ := pr.ev
      obtain ⟨pe', hpe, hq⟩ := dp_flat (ds := [.str "gone", .int x, .str u]) he1.is (by simp [scalD])
      cases hpe
      refine ws_one (w_if (wt_cmp op_eqs rfl (we_ix ix_tup (we_var 1 rfl (we_int ⟨pe, _, 0, .str "gone", rfl, rfl, hq, rfl, we_str ⟨_, _, rfl, rfl, _, rfl, ?_⟩⟩)))))
      rw [if_neg (by decide +kernel)]
      refine ws_one (w_if (wt_cmp op_eqs rfl (we_ix ix_tup (we_var 1 rfl (we_int ⟨pe, _, 0, .str "gone", rfl, rfl, hq, rfl, we_str ⟨_, _, rfl, rfl, _, rfl, ?_⟩⟩)))))
      rw [if_pos (by decide +kernel)]
      refine ws_one (w_expr (we_f (k_end A ts) hr (wa_cons (we_var 0 rfl ?_))))
      refine wa_cons (we_ix ix_tup (we_var 1 rfl (we_int ⟨pe, _, 1, _, rfl, rfl, hq, rfl, ?_⟩)))
      refine wa_cons (we_ix ix_tup (we_var 1 rfl (we_int ⟨pe, _, 2, _, rfl, rfl, hq, rfl, ?_⟩)))
      exact wa_nil ⟨a, _, x, u, e1, e2, rfl, V, k1, k2, fun H' st => q _ a _ (s0.trans st) (.gone x u e1 k1)⟩
    | calm n i =>
      obtain ⟨⟨rs, qs, h1, h2, h3, h4⟩, x, hx⟩ := pr.ev
      obtain ⟨pe', hpe, hq⟩ := dp_flat (ds := [.str "calm", .str n, .int i]) he1.is (by simp [scalD])
      cases hpe
      refine ws_one (w_if (wt_cmp op_eqs rfl (we_ix ix_tup (we_var 1 rfl (we_int ⟨pe, _, 0, .str "calm", rfl, rfl, hq, rfl, we_str ⟨_, _, rfl, rfl, _, rfl, ?_⟩⟩)))))
      rw [if_neg (by decide +kernel)]
      refine ws_one (w_if (wt_cmp op_eqs rfl (we_ix ix_tup (we_var 1 rfl (we_int ⟨pe, _, 0, .str "calm", rfl, rfl, hq, rfl, we_str ⟨_, _, rfl, rfl, _, rfl, ?_⟩⟩)))))
      rw [if_neg (by decide +kernel)]
      refine ws_one (w_if (wt_cmp op_eqs rfl (we_ix ix_tup (we_var 1 rfl (we_int ⟨pe, _, 0, .str "calm", rfl, rfl, hq, rfl, we_str ⟨_, _, rfl, rfl, _, rfl, ?_⟩⟩)))))
      rw [if_pos (by decide +kernel)]
      refine ws_cons (w_expr (we_app (we_dget (room_u hr) (we_wf 0 rfl (V.at_ .w _ rfl) (v_books a _) (room_u hr) (we_ix ix_tup (we_var 1 rfl (we_int ⟨pe, _, 1, .str n, rfl, rfl, hq, rfl, a .b, _, rfl, (dg_bk V h1).1, ⟨⟨_, _, rfl, (dg_bk V h1).2⟩, we_tup ?_⟩⟩)))))))
      refine wa_cons (we_str ?_)
      refine wa_cons (we_ix ix_tup (we_var 1 rfl (we_int ⟨pe, _, 2, .int i, rfl, rfl, hq, rfl, ?_⟩)))
      refine wa_nil ⟨by show 2 ≤ sizeLine; decide, fun p hp => ?_⟩
      have g1 := s0.trans (Stp.beside V (WW.Fr.new (ts := ts) (m := Nil) (o := .tup [.str "calm", .int i]) hp))
      have hr1 : ∀ G5 : Hp, Td K (upd G5 p (.tup [.str "calm", .int i])) (.ref p, calmD i) := fun G5 => td_flat (ds := [.str "calm", .int i]) (.inl (.inl upd_same)) (by simp [scalD])
      refine ⟨_, _, rfl, (dg_bk g1.wat h1).2, by rw [List.length_map]; omega, ?_⟩
      have g2 := g1.trans (Stp.row g1.wat h1 (.ref p, calmD i) (hr1 _))
      generalize upd (upd _ p _) _ _ = G3 at g2 ⊢
      have he2 := he.keep (g2.tkk W)
      obtain ⟨pe', hpe, hq⟩ := dp_flat (ds := [.str "calm", .str n, .int i]) he2.is (by simp [scalD])
      cases hpe
      have V2 := g2.wat
      have h2' : findB ({ evS S (.ref pe) (.calm n i) with books := setB S.books n (rs ++ [(L2.V.ref p, calmD i)]) } : Wst).trails n = some qs := h2
      refine ws_one (w_expr (we_app (we_dget (room_u hr) (we_wf 0 rfl (V2.at_ .w _ rfl) (v_trails a _) (room_u hr) (we_ix ix_tup (we_var 1 rfl (we_int ⟨pe, _, 1, .str n, rfl, rfl, hq, rfl, a .r, _, rfl, (dg_tr V2 h2').1, ⟨⟨_, _, rfl, (dg_tr V2 h2').2⟩, we_lst ?_⟩⟩)))))))
      refine wa_cons (we_f (k_person A ts) hr (wa_cons (we_var 0 rfl (wa_cons (we_ix ix_tup (we_var 1 rfl (we_int ⟨pe, _, 1, .str n, rfl, rfl, hq, rfl, ?_⟩))) ))))
      refine wa_nil ⟨a, _, n, x, rfl, V2, pr.nd, pr.no, hx, fun H5 f5 => ?_⟩
      refine wa_nil ⟨by show 1 ≤ sizeLine; decide, fun p2 hp2 => ?_⟩
      have g3 := (g2.trans (Stp.beside V2 f5)).trans (Stp.beside (V2.fr f5) (WW.Fr.new (ts := ts) (m := Nil) (o := .lst [.int x]) hp2))
      refine ⟨_, _, rfl, (dg_tr g3.wat h2').2, by omega, ?_⟩
      have g4 := g3.trans (Stp.trail g3.wat h2' (.ref p2))
      exact q _ a _ g4 (.calm n i rs qs (.ref p) (.ref p2) h1 h2)
    | letter n way er =>
      obtain ⟨⟨rs, qs, h1, h2, h3, h4⟩, hl, x, hx, hseen⟩ := pr.ev
      obtain ⟨pw, per, hq, hw, her⟩ := letter_at he1
      refine ws_one (w_if (wt_cmp op_eqs rfl (we_ix ix_tup (we_var 1 rfl (we_int ⟨pe, _, 0, .str "letter", rfl, rfl, hq, rfl, we_str ⟨_, _, rfl, rfl, _, rfl, ?_⟩⟩)))))
      rw [if_neg (by decide +kernel)]
      refine ws_one (w_if (wt_cmp op_eqs rfl (we_ix ix_tup (we_var 1 rfl (we_int ⟨pe, _, 0, .str "letter", rfl, rfl, hq, rfl, we_str ⟨_, _, rfl, rfl, _, rfl, ?_⟩⟩)))))
      rw [if_neg (by decide +kernel)]
      refine ws_one (w_if (wt_cmp op_eqs rfl (we_ix ix_tup (we_var 1 rfl (we_int ⟨pe, _, 0, .str "letter", rfl, rfl, hq, rfl, we_str ⟨_, _, rfl, rfl, _, rfl, ?_⟩⟩)))))
      rw [if_neg (by decide +kernel)]
      refine ws_cons (w_un4 2 3 4 5 (we_var 1 rfl ⟨pe, _, _, _, _, rfl, hq, ?_⟩) (by rfl) sc_do.nd)
      refine ws_cons (w_un3 6 7 8 (we_f (k_gone A ts) hr (wa_cons (we_var 0 rfl ?_))) (by rfl) sc_do.nd)
      refine wa_cons (we_f (k_person A ts) hr (wa_cons (we_var 0 rfl (wa_cons (we_var 3 rfl (wa_nil ⟨a, _, n, x, rfl, V, pr.nd, pr.no, hx, fun H5 f5 => ?_⟩))))))
      refine wa_cons (we_var 4 rfl ?_)
      refine wa_nil ⟨a, _, x, pw, way, rfl, V.fr f5, (TK.fr f5).sqt hw, hl, fun H6 p tl bt f6 ntl hp htl hbt => ⟨p, _, _, _, rfl, .inl (.inl hp), ?_⟩⟩
      change H6 p = some (.tup [.ref tl, .ref bt, .bl (goP S.ties x way).2.2]) at hp
      change H6 tl = some (.lst ((goP S.ties x way).1.map L2.V.int)) at htl
      change H6 bt = some (.tup ((goP S.ties x way).2.1.map L2.V.str)) at hbt
      have ncl : ¬ Wm a (evS S (.ref pe) (.letter n way er)) tl := (ntl.back f5).cell V
      refine ws_cons (w_set 9 (we_tup (wa_cons (we_str (wa_cons (we_var 7 rfl (wa_nil ⟨by show 2 ≤ sizeLine; decide, fun ps hps => ?_⟩)))))) sc_do.nd)
      have f7 := (f5.trans f6).trans (WW.Fr.new (ts := ts) (m := Nil) (o := .tup [.str "lost", .ref bt]) hps)
      have htl7 : upd H6 ps (.tup [.str "lost", .ref bt]) tl = some (.lst ((goP S.ties x way).1.map L2.V.int)) := by rw [upd_ne (ne_of_none htl hps)]; exact htl
      have hbt7 : upd H6 ps (.tup [.str "lost", .ref bt]) bt = some (.tup ((goP S.ties x way).2.1.map L2.V.str)) := by rw [upd_ne (ne_of_none hbt hps)]; exact hbt
      have hps7 : upd H6 ps (.tup [.str "lost", .ref bt]) ps = some (.tup [.str "lost", .ref bt]) := upd_same
      generalize upd H6 ps _ = H7 at f7 htl7 hbt7 hps7 ⊢
      have s7 := s0.trans (Stp.beside V f7)
      have V7 := s7.wat
      have hw7 := (TK.fr f7).sqt hw
      have her7 := (TK.fr f7).sqt her
      obtain ⟨wd, hwd⟩ : ∃ wd : Str, ((erL er).map unS)[0]? = some (.str wd) := by cases er <;> exact ⟨_, rfl⟩
      refine ws_seq (fun σ' H' => σ' = [some (.ref (a .w)), some (.ref pe), some (.str "letter"), some (.str n), some (.ref pw), some (.ref per), some (.ref tl), some (.ref bt), some (.bl (goP S.ties x way).2.2), some (.ref ps)] ∧ Stp K ts a (evS S (.ref pe) (.letter n way er)) H7 a (mk2 (evS S (.ref pe) (.letter n way er)) n er) H') ?_ fun σ' H8 ⟨hσ, s8⟩ => ?_
      · refine w_if (wt_cmp op_eqs rfl (we_ix ix_tup (we_var 5 rfl (we_int ⟨per, _, 0, .str wd, rfl, rfl, her7, (atI_pos _ 0).trans hwd, we_str ⟨_, _, rfl, rfl, _, rfl, ?_⟩⟩))))
        by_cases hlv : wd = "leave"
        · obtain ⟨m, rfl⟩ : ∃ m, er = .leave m := by
            cases er <;> first | exact ⟨_, rfl⟩ | (exfalso; cases hwd; revert hlv; decide +kernel)
          rw [if_pos (decide_eq_true hlv)]
          refine ws_one (w_setD (room_u hr) (we_non (we_wf 0 rfl (V7.at_ .w _ rfl) (v_marks a _) (room_u hr) (we_tup (wa_cons (we_var 3 rfl (wa_cons (we_ix ix_tup (we_var 5 rfl (we_int ⟨per, _, 1, .int m, rfl, rfl, her7, rfl, wa_nil ⟨by show 2 ≤ sizeLine; decide, fun kq hq => ?_⟩⟩))))))))))
          have g := WW.Fr.new (ts := ts) (m := Nil) (o := .tup [.str n, .int m]) hq
          refine ⟨a .m, _, rfl, DPut.t (k := kM (n, m)) ((V7.fr g).at_ .m _ rfl) upd_same (by unfold mD; rw [List.length_map]; have := pr.nm; show S.marks.length < _; omega), ?_⟩
          exact ⟨rfl, (Stp.beside V7 g).trans (Stp.mark (V7.fr g) (n, m) .non)⟩
        · rw [if_neg (by rw [decide_eq_false hlv]; decide)]
          refine ws_nil ⟨rfl, ?_⟩
          have : mk2 (evS S (.ref pe) (.letter n way er)) n er = evS S (.ref pe) (.letter n way er) := by
            cases er <;> first | rfl | (exfalso; cases hwd; exact hlv rfl)
          rw [this]
          exact .refl V7
      · subst hσ
        have t8 := s8.tkk V7
        have htl8 := s8.fr.kp _ _ htl7 ncl rfl
        have hbt8 := t8.t _ _ hbt7
        have hps8 := t8.t _ _ hps7
        have hw8 := t8.sqt hw7
        have her8 := t8.sqt her7
        have V8 := s8.wat
        have s08 := s7.trans s8
        refine ws_seq (fun σ' H' => ∃ A2 S3 pz sd rs' qs', σ' = [some (.ref (a .w)), some (.ref pe), some (.str "letter"), some (.str n), some (.ref pw), some (.ref per), some (.ref tl), some (.ref bt), some (.bl (goP S.ties x way).2.2), some (.ref pz)] ∧
          Stp K ts a S H A2 S3 H' ∧ TK H8 H' ∧ H' tl = some (.lst ((goP S.ties x way).1.map L2.V.int)) ∧ Td K H' (.ref pz, sd) ∧ findB S3.books n = some rs' ∧ findB S3.trails n = some qs' ∧ rs'.length ≤ 901 ∧ qs'.length ≤ 901 ∧
          (∀ p q, DoR S (.ref pe) (.letter n way er) (addRow S3 n rs' qs' (p, rowD way er sd) q))) ?_ fun σ' H9 h9 => ?_
        · refine w_if (wt_val (we_var 8 rfl ⟨_, rfl, ?_⟩))
          have hb1 : findB (mk2 (evS S (.ref pe) (.letter n way er)) n er).books n = some rs := by rw [(mk2_bk _ n er).1]; exact h1
          have hb2 : findB (mk2 (evS S (.ref pe) (.letter n way er)) n er).trails n = some qs := by rw [(mk2_bk _ n er).2.1]; exact h2
          have hlo : Td K H8 (.ref ps, lostD (goP S.ties x way).2.1) := td_tup2 (.inl (.inl hps8)) (td_scal (d := .str "lost") rfl) (td_strs (.inl (.inl hbt8)))
          cases hc : (goP S.ties x way).2.2 with
          | false =>
            rw [if_neg (by decide)]
            exact ws_nil ⟨a, _, ps, _, rs, qs, rfl, s08, .refl _, htl8, hlo, hb1, hb2, by omega, by omega, fun p q => .lost n way er x rs qs p q hx hc h1 h2⟩
          | true =>
            rw [if_pos rfl]
            refine ws_one (w_set 9 (we_tup (wa_cons (we_str (wa_cons (we_var 7 rfl ?_))))) sc_do.nd)
            refine wa_cons (we_f (k_seen A ts) hr (wa_cons (we_var 0 rfl (wa_cons (we_var 3 rfl (wa_cons (we_var 6 rfl (wa_cons (we_var 7 rfl (wa_cons (we_var 4 rfl (wa_cons (we_var 5 rfl ?_)))))))))))))
            refine wa_nil ⟨a, _, n, tl, bt, pw, per, _, _, way, er, rfl, V8, htl8, .inl (.inl hbt8), hw8, her8, hseen hc (.ref pe), fun H9 A2 S3 v d st hS htd => ?_⟩
            refine wa_nil ⟨by show 3 ≤ sizeLine; decide, fun pz hpz => ?_⟩
            have f10 : WW.Fr ts Nil H9 _ := WW.Fr.new (ts := ts) (m := Nil) (o := .tup [.str "came", .ref bt, v]) hpz
            have t9 := st.tkk V8
            have k10 := TK.fr f10
            obtain ⟨rs', qs', r1, r2, r3, r4⟩ := hS.bk hb1 hb2
            have htl9 := st.keep htl8 rfl (s8.nwm htl7 rfl ncl)
            refine ⟨A2, S3, pz, cameD (goP S.ties x way).2.1 d, rs', qs', rfl, (s08.trans st).trans (Stp.beside st.wat f10), t9.trans k10, f10.kp _ _ htl9 (fun z => z) rfl, ?_, r1, r2, by omega, by omega, fun p q => .came n way er x S3 d rs' qs' p q hx hc hS r1 r2⟩
            exact td_tup3 (.inl (.inl upd_same)) (td_scal (d := .str "came") rfl) (td_strs (.inl (.inl (k10.t _ _ (t9.t _ _ hbt8))))) (htd.keep k10)
        · obtain ⟨A2, S3, pz, sd, rs', qs', rfl, s9, t9, htl9, hsd, b1, b2, b3, b4, hdo⟩ := h9
          have V9 := s9.wat
          have hAw : A2 .w = a .w := (s9.ext .w _ rfl).1
          have hw9 := t9.sqt hw8
          have her9 := t9.sqt her8
          have hVw := V9.at_ .w _ rfl
          rw [hAw] at hVw
          refine ws_cons (w_expr (we_app (we_dget (room_u hr) (we_wf 0 rfl hVw (v_books A2 S3) (room_u hr) (we_var 3 rfl ⟨A2 .b, _, rfl, (dg_bk V9 b1).1, ⟨⟨_, _, rfl, (dg_bk V9 b1).2⟩, we_tup ?_⟩⟩)))))
          refine wa_cons (we_var 4 rfl ?_)
          refine wa_cons (we_ix ix_list (we_lst (wa_cons (we_var 5 rfl (wa_cons (we_tup (wa_cons (we_str (wa_nil ⟨by show 1 ≤ sizeLine; decide, fun pt1 hpt1 => wa_nil ⟨by show 2 ≤ sizeLine; decide, fun pl hpl => ?_⟩⟩)))))))))
          have g1 := (WW.Fr.new (ts := ts) (m := Nil) (o := .tup [.str "tie"]) hpt1).trans (WW.Fr.new (ts := ts) (m := Nil) (o := .lst [.ref per, .ref pt1]) hpl)
          have hpl1 : upd (upd H9 pt1 (.tup [.str "tie"])) pl (.lst [.ref per, .ref pt1]) pl = some (.lst [.ref per, .ref pt1]) := upd_same
          have hpt11 : upd (upd H9 pt1 (.tup [.str "tie"])) pl (.lst [.ref per, .ref pt1]) pt1 = some (.tup [.str "tie"]) := by rw [upd_ne (ne_of_none upd_same hpl)]; exact upd_same
          generalize upd (upd H9 pt1 _) pl _ = H10 at g1 hpl1 hpt11 ⊢
          have her10 := (TK.fr g1).sqt her9
          refine we_callTy call_int1 A.n_int rfl (wa_cons (we_cmp op_eqs rfl (we_ix ix_tup (we_var 5 rfl (we_int ⟨per, _, 0, .str wd, rfl, rfl, her10, (atI_pos _ 0).trans hwd, we_str ⟨_, _, rfl, rfl, wa_nil (.inr ⟨_, rfl, ?_⟩)⟩⟩)))))
          obtain ⟨pr1, hpr1, hpr2⟩ : ∃ pr1 : Addr, atI [L2.V.ref per, .ref pt1] (if decide (wd = "tie") = true then (1 : Int) else 0) = some (.ref pr1) ∧ Td K H10 (.ref pr1, .tuple (rerL er)) := by
            by_cases hwt : wd = "tie"
            · rw [if_pos (decide_eq_true hwt)]
              refine ⟨pt1, rfl, ?_⟩
              have : rerL er = [.str "tie"] := by
                cases er <;> first | rfl | (exfalso; cases hwd; revert hwt; decide +kernel)
              rw [this]
              exact td_flat (ds := [.str "tie"]) (.inl (.inl hpt11)) (by simp [scalD])
            · rw [if_neg (by rw [decide_eq_false hwt]; decide)]
              refine ⟨per, rfl, ?_⟩
              have : rerL er = erL er := by
                cases er <;> first | rfl | (exfalso; cases hwd; exact hwt rfl)
              rw [this]
              exact td_flat her10 (er_scal er)
          refine ⟨pl, _, _, .ref pr1, rfl, rfl, .inl (.inl hpl1), hpr1, ?_⟩
          refine wa_cons (we_var 9 rfl ?_)
          refine wa_nil ⟨by show 3 ≤ sizeLine; decide, fun p hp => ?_⟩
          have g2 := g1.trans (WW.Fr.new (ts := ts) (m := Nil) (o := .tup [.ref pw, .ref pr1, .ref pz]) hp)
          have k2 := TK.fr (WW.Fr.new (ts := ts) (m := Nil) (o := .tup [.ref pw, .ref pr1, .ref pz]) hp)
          have hrow : Td K (upd H10 p (.tup [.ref pw, .ref pr1, .ref pz])) (.ref p, rowD way er sd) :=
            td_tup3 (.inl (.inl upd_same)) (td_strs (k2.sqt ((TK.fr g1).sqt hw9))) (hpr2.keep k2) ((hsd.keep (TK.fr g1)).keep k2)
          have s10 := s9.trans (Stp.beside V9 g2)
          refine ⟨_, _, rfl, (dg_bk s10.wat b1).2, by rw [List.length_map]; omega, ?_⟩
          have htl10 := g2.kp _ _ htl9 (fun z => z) rfl
          have sR := Stp.row (ts := ts) s10.wat b1 (.ref p, rowD way er sd) hrow
          have s11 := s10.trans sR
          generalize upd (upd H10 p _) _ _ = H11 at s11 ⊢
          have V11 := s11.wat
          have hVw2 := V11.at_ .w _ rfl
          rw [hAw] at hVw2
          have b2' : findB ({ S3 with books := setB S3.books n (rs' ++ [(L2.V.ref p, rowD way er sd)]) } : Wst).trails n = some qs' := b2
          refine ws_one (w_expr (we_app (we_dget (room_u hr) (we_wf 0 rfl hVw2 (v_trails A2 _) (room_u hr) (we_var 3 rfl ⟨A2 .r, _, rfl, (dg_tr V11 b2').1, ⟨⟨_, _, rfl, (dg_tr V11 b2').2⟩, we_var 6 rfl ⟨_, _, rfl, (dg_tr V11 b2').2, by omega, ?_⟩⟩⟩)))))
          exact q _ A2 _ (s11.trans (Stp.trail V11 b2' (.ref tl))) (hdo (.ref p) (.ref tl))
end
end K05

set_option Elab.async false
set_option linter.all false
set_option maxRecDepth 100000
set_option maxHeartbeats 4000000
namespace K05
open PySem PySem.Spec PyProof.Rows L2 WW Wo
theorem WordsOk.ok {S : Wst} (h : WordsOk S) {e : Tie} (he : e ∈ S.ties) : PyData.strOk e.k.2 = true := (allW_ok _ ((h.2 e he).mem (by have := h.1; omega))).1
theorem livW_mem {S : Wst} {x : Int} {u : Str} (h : u ∈ livW S x) : ∃ e ∈ S.ties, e.k.1 = x ∧ e.l = true ∧ e.k.2 = u := by
  unfold livW at h
  obtain ⟨e, he, rfl⟩ := List.mem_map.mp h
  obtain ⟨h1, h2⟩ := List.mem_filter.mp he
  obtain ⟨h3, h4⟩ := Bool.and_eq_true_iff.mp h2
  exact ⟨e, h1, of_decide_eq_true h3, h4, rfl⟩
def WayW (S : Wst) (u : Str) : Prop := u = "p" ∨ ∃ e ∈ S.ties, e.k.2 = u
theorem eqv_nil (xs : List Str) : PyData.eqv (.list (xs.map .str)) (.list []) = true ↔ xs = [] := ⟨fun h => eqv_strs xs [] h, fun h => by rw [h]; rfl⟩
theorem atI_some (xs : List Str) (z : Int) (z0 : 0 ≤ z) (z1 : z < ((xs.map V.str).length : Nat)) : ∃ u ∈ xs, atI (xs.map V.str) z = some (.str u) := by
  rw [List.length_map] at z1
  obtain ⟨n, rfl⟩ : ∃ n : Nat, z = n := ⟨z.toNat, by omega⟩
  have h : n < xs.length := by omega
  exact ⟨xs[n], List.getElem_mem h, by rw [atI_pos, List.getElem?_map, List.getElem?_eq_getElem h]; rfl⟩
section
variable {P : Program} {w : World} {K : PySem.W.Frag} {mg : Str → Option Value} {base : Heap}
def spWay (ts : List Addr) (K : PySem.W.Frag) : Sp := fun vs H Q _ => ∃ (A : Ad) (S : Wst) (x most : Int), vs = [.ref (A .d), .ref (A .w), .int x, .int most] ∧ WAt K H A S ∧ WordsOk S ∧ 0 ≤ S.dk ∧ S.dk ≤ 900000 ∧ 0 ≤ most ∧ most ≤ 90 ∧
  ∀ H' n' k' p (way : List Str), Stp K ts A S H A (dr S n' k') H' → S.dk ≤ k' → k' ≤ S.dk + 1 + most → way.length ≤ most.toNat → (∀ u ∈ way, WayW S u) → SqT K H' p (way.map V.str) → Q (.ref p) H'
theorem sc_way : FnScope ["draws", "w", "x", "most", "way", "k", "pick", "some", "every", "key"] ["draws", "w", "x", "most"] (defScope s_law_way) := ⟨rfl, rfl, rfl, by decide +kernel, rfl, by decide +kernel, by decide +kernel⟩
theorem k_way (A : Facts K mg base) (ts : List Addr) : Fk P w K mg base 2 "_law_way" ["draws", "w", "x", "most"] (spWay ts K) := by
  refine def_ok (d := d_law_way) A.f_law_way rfl A.g_law_way sc_way (fun _ _ _ _ _ _ us hl => match us, hl with | [_, _, _, _], _ => rfl) (fun vs H Q E h => ?_) (fun A' outer s H vs Q E hr h => ?_)
  · obtain ⟨a, S, x, m, rfl, _⟩ := h
    rfl
  · obtain ⟨a, S, x, m, rfl, W, wo, d0, d1, m0, m1, q⟩ := h
    have hz : 2000 < sizeLine := by decide
    refine ws_cons (w_set 4 (we_lst (wa_nil ⟨by show 0 ≤ sizeLine; decide, fun pw hpw => ?_⟩)) sc_way.nd)
    have s0 : Stp K ts a S H a S (upd H pw (.lst [])) := .beside W (WW.Fr.new hpw)
    have hw0 : upd H pw (.lst []) pw = some (.lst (([] : List Str).map L2.V.str)) := upd_same
    have ncw : ¬ Wm a S pw := (Nw.of hpw).cell W
    generalize upd H pw _ = G at s0 hw0 ⊢
    have V := s0.wat
    refine ws_cons (w_for (pi_range1 rfl A.n_range pa) (pg_name (i := 5) sc_way.nd rfl (Or.inl rfl)) (by rfl) (wa_cons (we_bin op_modB (we_f (k_next A) hr (wa_cons (we_var 0 rfl (wa_nil ⟨a .d, S.dn, S.dk, S.db, rfl, V.at_ .d _ rfl, d0, by omega, fun r n' r0 r1 => ?_⟩)))))))
    have s1 : Stp K ts a S G a (dr S n' (S.dk + 1)) (upd G (a .d) (Wo.Dr n' (S.dk + 1) S.db)) := Stp.draw V n' (S.dk + 1) S.db
    change WE _ _ _ (upd G (a .d) (Wo.Dr n' (S.dk + 1) S.db)) _
    have hw1 := s1.keep hw0 rfl ncw
    generalize upd G (a .d) _ = G1 at s1 hw1 ⊢
    have s01 := s0.trans s1
    refine we_bin op_add (we_var 3 rfl (we_int ⟨m, 1, rfl, rfl, r, m + 1, rfl, rfl, by omega, fun z z0 z1 => wa_nil ⟨z, rfl, by omega, by omega, ?_⟩⟩))
    refine for_by z.toNat (fun i σ Hc => ∃ x' o5 o6 o7 o8 o9 n' k' ws, σ = [some (.ref (a .d)), some (.ref (a .w)), some (.int x'), some (.int m), some (.ref pw), o5, o6, o7, o8, o9] ∧ Stp K ts a S H a (dr S n' k') Hc ∧
      Hc pw = some (.lst (ws.map L2.V.str)) ∧ ws.length = i ∧ (∀ u ∈ ws, WayW S u) ∧ k' = S.dk + 1 + i) ⟨x, _, _, _, _, _, n', S.dk + 1, [], rfl, s01, hw1, rfl, by simp, by simp⟩ (fun σ Hc hi => ?_) (fun i σ Hc hn hi => ?_)
    · obtain ⟨x', o5, o6, o7, o8, o9, n2, k2, ws, rfl, st, hw, hl, hu, hk⟩ := hi
      refine ⟨Nat.le_refl _, ?_⟩
      refine ws_one (w_ret (we_callTy call_tuple_of A.n_tuple rfl (wa_cons (we_var 4 rfl (wa_nil ⟨pw, _, rfl, .inl ⟨.inl (.inl hw), fun l hl2 => ?_⟩⟩)))))
      exact q _ n2 k2 l ws (st.trans (.beside st.wat (WW.Fr.new hl2))) (by omega) (by omega) (by omega) hu (.inl (.inl upd_same))
    · obtain ⟨x', o5, o6, o7, o8, o9, n2, k2, ws, rfl, st, hw, hl, hu, hk⟩ := hi
      refine ⟨hn, fun v Hy ⟨eH, hv⟩ => ?_⟩
      subst eH hv
      have V2 := st.wat
      have ncw2 : ¬ Wm a (dr S n2 k2) pw := fun h => ncw (wm_dr.mp h)
      refine ws_cons (w_set 6 (we_f (k_next A) hr (wa_cons (we_var 0 rfl (wa_nil ⟨a .d, n2, k2, S.db, rfl, V2.at_ .d _ rfl, by omega, by omega, fun pk n3 pk0 pk1 => ?_⟩)))) sc_way.nd)
      have s3 : Stp K ts a (dr S n2 k2) Hy a (dr S n3 (k2 + 1)) (upd Hy (a .d) (Wo.Dr n3 (k2 + 1) S.db)) := Stp.draw V2 n3 (k2 + 1) S.db
      change WS _ _ _ _ (upd Hy (a .d) (Wo.Dr n3 (k2 + 1) S.db))
      have hw3 := s3.keep hw rfl ncw2
      generalize upd Hy (a .d) _ = G3 at s3 hw3 ⊢
      have s03 := st.trans s3
      have V3 := s3.wat
      refine ws_cons (w_set 7 (we_f (k_living A ts) hr (wa_cons (we_var 1 rfl (wa_cons (we_var 2 rfl (wa_nil ⟨a, _, x', rfl, V3, Nat.lt_of_le_of_lt wo.1 (by decide), fun H4 p4 lw f4 np4 hp4 hpm hs => ?_⟩)))))) sc_way.nd)
      have V4 := V3.fr f4
      have hw4 := f4.kp _ _ hw3 (fun z => z) rfl
      have fin : ∀ (o8' : Option L2.V) (u : Str) (H5 : Hp), True := fun _ _ _ => trivial
      refine ws_seq (fun σ' H' => ∃ o8' u, σ' = [some (.ref (a .d)), some (.ref (a .w)), some (.int x'), some (.int m), some (.ref pw), some (.int (0 + (i : Int))), some (.int pk), some (.ref p4), o8', o9] ∧ Stp K ts a S H a (dr S n3 (k2 + 1)) H' ∧
        H' pw = some (.lst ((ws ++ [u]).map L2.V.str)) ∧ WayW S u) ?_ fun σ' H5 h5 => ?_
      · -- a word of whatever tie
        have every : ∀ (G5 : Hp) (D : Ends), WW.Fr ts Nil H4 G5 → (∀ σ' H', (∃ o8' u, σ' = [some (.ref (a .d)), some (.ref (a .w)), some (.int x'), some (.int m), some (.ref pw), some (.int (0 + (i : Int))), some (.int pk), some (.ref p4), o8', o9] ∧ Stp K ts a S H a (dr S n3 (k2 + 1)) H' ∧
              H' pw = some (.lst ((ws ++ [u]).map L2.V.str)) ∧ WayW S u) → D.nx σ' H') → WS (cx P w K mg base ["draws", "w", "x", "most", "way", "k", "pick", "some", "every", "key"] d_law_way.qual d_law_way.scope (He.ga K "_law_way") (He.codeOf K d_law_way.at_) A' outer s H E)
            (match (d_law_way.body.getD 1 (.Pass ⟨0, 0, 0, 0⟩)) with | .For _ _ (_ :: _ :: .If _ th _ _ :: _) _ _ => th | _ => [])
            D [some (.ref (a .d)), some (.ref (a .w)), some (.int x'), some (.int m), some (.ref pw), some (.int (0 + (i : Int))), some (.int pk), some (.ref p4), o8, o9] G5 := fun G5 D0 f5 hD0 => by
          have V5 := V4.fr f5
          refine ws_cons (w_set 8 (we_bin op_cat (we_callB cr_sortedS A.n_sorted rfl (wa_cons (we_of (pe_lock (pe_lcT (own := [("key", 9)]) (g := gName 9) (tt := tYes) (by rfl) sc_way.nd (pi_keys WW.pe) (blkOk_by (own := [("key", 9)]) (N := ["draws", "w", "x", "most", "way", "k", "pick", "some", "every", "key"]) (sc := defScope s_law_way) (by decide +kernel)) (fun _ _ _ _ _ => pg_name (i := 9) sc_way.nd rfl (Or.inl rfl)) (fun _ _ _ _ _ => pts_nil) eb)) ?_)))) sc_way.nd)
          refine ⟨a .t, _, V5.at_ .t _ rfl, trivial, fun od => we_wf 1 rfl (e := by rw [upd_ne (V5.ne (l := .w) (l' := .t) rfl rfl nofun)]; exact V5.at_ .w _ rfl) (v_ties a _) (room_u hr) ⟨a .t, od, rfl, .inr ⟨_, upd_same, ?_⟩⟩⟩
          refine lc_by ts S.ties.length (Nat.le_trans wo.1 (by decide)) (fun D i acc H => acc = (S.ties.take i).map fun e => .str e.k.2) (fun _ _ _ _ => rfl) (fun _ _ _ _ _ _ _ _ h => h) (fun D acc H2 hD f hi hd => ?_) (fun D i acc H2 hn hD hd f hi => ?_) gn_mono yes_mono eb_mono
          · obtain ⟨l1, l2⟩ := locked K V5 f
            refine ⟨⟨l1, by unfold tD; rw [List.length_map]; exact Nat.le_refl _⟩, l1, wa_nil ?_⟩
            rw [List.take_length] at hi
            have hD' : D ≠ a .t := fun z => by
              rw [z, upd_same] at hD
              cases hD
            have hm2 : acc = (S.ties.map fun e => e.k.2).map L2.V.str := by
              rw [hi, List.map_map]
              rfl
            refine ⟨D, S.ties.map fun e => e.k.2, rfl, .inl (.inl (by rw [upd_ne hD', hd, hm2])), by rw [List.length_map]; exact Nat.lt_of_le_of_lt wo.1 (by decide), fun ys p5 hp5 _ hn5 => ?_⟩
            have g1 := (f5.trans (fr_lock f (V5.at_ .t _ rfl) rfl)).trans (WW.Fr.new (ts := ts) (m := Nil) (o := .lst (ys.map L2.V.str)) hn5)
            have hys : upd (upd H2 (a .t) (.dT (tD a (dr S n3 (k2 + 1)).ties))) p5 (.lst (ys.map L2.V.str)) p5 = some (.lst (ys.map L2.V.str)) := upd_same
            generalize upd (upd H2 (a .t) _) p5 _ = G6 at g1 hys ⊢
            refine we_lst (wa_cons (we_str (wa_nil ⟨by show 1 ≤ sizeLine; decide, fun p6 hp6 => ⟨p5, p6, _, _, rfl, rfl, by rw [upd_ne (ne_of_none hys hp6)]; exact hys, upd_same, ?_, fun p7 hp7 => ?_⟩⟩)))
            · rw [List.length_map, hp5.length_eq, List.length_map]
              show S.ties.length + 1 ≤ _
              have := wo.1
              omega
            have g2 := (g1.trans (WW.Fr.new (ts := ts) (m := Nil) (o := .lst [.str "p"]) hp6)).trans (WW.Fr.new (ts := ts) (m := Nil) (o := .lst (ys.map L2.V.str ++ [.str "p"])) hp7)
            have h7 : upd (upd G6 p6 (.lst [.str "p"])) p7 (.lst (ys.map L2.V.str ++ [.str "p"])) p7 = some (.lst ((ys ++ [("p" : Str)]).map L2.V.str)) := by rw [upd_same, List.map_append]; rfl
            generalize upd (upd G6 p6 _) p7 _ = G7 at g2 h7 ⊢
            have hw7 := g2.kp _ _ hw4 (fun z => z) rfl
            have V7 := V4.fr g2
            refine ws_one (w_expr (we_app (we_var 4 rfl ⟨⟨pw, _, rfl, hw7⟩, we_ix ix_list (we_var 8 rfl (we_bin op_modB (we_bin op_fdiv (we_var 6 rfl (we_int ⟨pk, 9, rfl, rfl, ⟨by decide, by decide⟩, ?_⟩)))))⟩)))
            refine we_callB call_len_seq A.n_len rfl (wa_cons (we_var 8 rfl (wa_nil ⟨p7, _, rfl, .inl (.inl (.inl h7)), _, _, rfl, rfl, ?_, fun z z0 z1 => ?_⟩)))
            · rw [List.length_map, List.length_append]
              show (0 : Int) < ((ys.length + 1 : Nat) : Int)
              omega
            · obtain ⟨u, hu1, hu2⟩ := atI_some _ z z0 z1
              refine ⟨p7, _, z, .str u, rfl, rfl, .inl (.inl h7), hu2, pw, _, rfl, hw7, by rw [List.length_map]; omega, ?_⟩
              refine hD0 _ _ ⟨_, u, rfl, ?_, by rw [upd_same, List.map_append]; rfl, ?_⟩
              · exact (s03.trans (.beside V3 (f4.trans g2))).mut (Nw.of hpw) (fun h => ncw (wm_dr.mp h)) hw7
              · rcases List.mem_append.mp hu1 with h | h
                · obtain ⟨e, he, hek⟩ := List.mem_map.mp (hp5.mem_iff.mp h)
                  exact .inr ⟨e, he, hek⟩
                · exact .inl (List.mem_singleton.mp h)
          · obtain ⟨l1, l2⟩ := locked K V5 f
            refine ⟨⟨l1, by unfold tD; rw [List.length_map]; exact hn⟩, fun v H3 ⟨e3, k, u, kq, h1, h2, h3⟩ => ?_⟩
            subst e3 h2
            obtain ⟨e, he⟩ : ∃ e, S.ties[i]? = some e := ⟨_, List.getElem?_eq_getElem hn⟩
            have hke : k = kT e.k := by
              unfold tD at h1
              rw [List.getElem?_map, show (dr S n3 (k2 + 1)).ties[i]? = some e from he] at h1
              cases h1
              rfl
            subst hke
            refine ⟨rfl, ?_⟩
            show EB _ _ _ _ _ _
            refine fun s1 H5 C1 cl1 fp1 => we_ix ix_tup (we_var 9 rfl (we_int ⟨kq, _, 1, .str e.k.2, rfl, rfl, .inl (.inl h3), rfl, WW.Fr.refl _, ?_⟩))
            rw [hi, List.take_add_one, he, List.map_append]
            rfl
        have hl4 : PyData.eqv (.list (lw.map .str)) (.list []) = true ↔ lw = [] := eqv_nil lw
        refine w_if (wt_ww (ww_or (wt_cmp op_eqi rfl (we_bin op_modB (we_var 6 rfl (we_int ⟨pk, 9, rfl, rfl, by decide, fun z z0 z1 => we_int ⟨z, 0, rfl, rfl, _, rfl, ?_⟩⟩))))))
        by_cases hz0 : z = 0
        · rw [if_pos (decide_eq_true hz0), if_pos rfl]
          exact every H4 _ (WW.Fr.refl _) fun _ _ h => h
        · rw [if_neg (by rw [decide_eq_false hz0]; decide)]
          refine ww_or1 (wt_cmp (op_eqD (room_u64 hr)) rfl (we_var 7 rfl (we_lst (wa_nil ⟨by show 0 ≤ sizeLine; decide, fun pn hpn => ?_⟩))))
          have f5 : WW.Fr ts Nil H4 (upd H4 pn (.lst [])) := WW.Fr.new hpn
          have hp5 := f5.kp _ _ hp4 (fun z => z) rfl
          have hw5 := f5.kp _ _ hw4 (fun z => z) rfl
          have hn5 : upd H4 pn (.lst []) pn = some (.lst []) := upd_same
          generalize upd H4 pn _ = G5 at f5 hp5 hw5 hn5 ⊢
          refine ⟨.list (lw.map .str), .list [], .lst (.inl (.inl hp5)) (dps_strs _), .lst (.inl (.inl hn5)) .nil, shaped_strs _ (fun u hu => ?_), rfl, _, rfl, ?_⟩
          · obtain ⟨e, he, _, _, rfl⟩ := livW_mem (hpm.mem_iff.mp hu)
            exact wo.ok he
          by_cases hn : lw = []
          · rw [if_pos (hl4.mpr hn)]
            exact every G5 _ f5 fun _ _ h => h
          · rw [if_neg fun h => hn (hl4.mp h)]
            refine ws_one (w_expr (we_app (we_var 4 rfl ⟨⟨pw, _, rfl, hw5⟩, we_ix ix_list (we_var 7 rfl (we_bin op_modB (we_bin op_fdiv (we_var 6 rfl (we_int ⟨pk, 9, rfl, rfl, ⟨by decide, by decide⟩, ?_⟩)))))⟩)))
            refine we_callB call_len_seq A.n_len rfl (wa_cons (we_var 7 rfl (wa_nil ⟨p4, _, rfl, .inl (.inl (.inl hp5)), _, _, rfl, rfl, ?_, fun z z0 z1 => ?_⟩)))
            · rw [List.length_map]
              have := List.length_pos_iff.mpr hn
              omega
            · obtain ⟨u, hu1, hu2⟩ := atI_some _ z z0 z1
              refine ⟨p4, _, z, .str u, rfl, rfl, .inl (.inl hp5), hu2, pw, _, rfl, hw5, by rw [List.length_map]; omega, ?_⟩
              refine ⟨_, u, rfl, ?_, by rw [upd_same, List.map_append]; rfl, ?_⟩
              · exact (s03.trans (.beside V3 (f4.trans f5))).mut (Nw.of hpw) (fun h => ncw (wm_dr.mp h)) hw5
              · obtain ⟨e, he, _, _, hek⟩ := livW_mem (hpm.mem_iff.mp hu1)
                exact .inr ⟨e, he, hek⟩
      · obtain ⟨o8', u, rfl, s5, hw5, hwu⟩ := h5
        have V5 := s5.wat
        have elast : atI ((ws ++ [u]).map L2.V.str) (-1) = some (.str u) := by rw [List.map_append]; exact atI_last _ _
        refine ws_one (w_if (wt_val (we_ix ix_list (we_get2 (room_u hr) (we_wf 1 rfl (V5.at_ .w _ rfl) (v_ties a _) (room_u hr) ⟨a .t, rfl, .inr ⟨_, .inl (V5.at_ .t _ rfl)⟩, we_tup ?_⟩)))))
        refine wa_cons (we_var 2 rfl ?_)
        refine wa_cons (we_ix ix_list (we_var 4 rfl (we_un un_neg (we_int ⟨1, rfl, pw, _, -1, _, rfl, rfl, .inl (.inl hw5), elast, ?_⟩))))
        refine wa_nil ⟨by show 2 ≤ sizeLine; decide, fun kq hq => ?_⟩
        refine we_lst (wa_cons (we_int (wa_cons (we_str (wa_cons (we_bl (wa_nil ⟨by show 3 ≤ sizeLine; decide, fun lq hlq => ?_⟩)))))))
        have f6 : WW.Fr ts Nil H5 (upd (upd H5 kq (.tup [.int x', .str u])) lq (.lst [.int 0, .str "", .bl false])) := (WW.Fr.new hq).trans (WW.Fr.new hlq)
        have nkl : kq ≠ lq := fun z => by rw [← z, upd_same] at hlq; cases hlq
        have hk6 : upd (upd H5 kq (.tup [.int x', .str u])) lq (.lst [.int 0, .str "", .bl false]) kq = some (.tup ((kT (x', u)).map kV)) := by rw [upd_ne nkl]; exact upd_same
        have hl6 : upd (upd H5 kq (.tup [.int x', .str u])) lq (.lst [.int 0, .str "", .bl false]) lq = some (.lst [.int 0, .str "", .bl false]) := upd_same
        have hw6 := f6.kp _ _ hw5 (fun z => z) rfl
        generalize upd (upd H5 kq _) lq _ = G6 at f6 hk6 hl6 hw6 ⊢
        have V6 := V5.fr f6
        have out : ∀ (y : Int) (G7 : Hp), WW.Fr ts Nil H5 G7 → ∃ (x' : Int) (q5 q6 q7 q8 q9 : Option L2.V) (n' k' : Int) (ws' : List Str), [some (.ref (a .d)), some (.ref (a .w)), some (.int y), some (.int m), some (.ref pw), some (.int (0 + (i : Int))), some (.int pk), some (.ref p4), o8', o9] = [some (.ref (a .d)), some (.ref (a .w)), some (.int x'), some (.int m), some (.ref pw), q5, q6, q7, q8, q9] ∧ Stp K ts a S H a (dr S n' k') G7 ∧
            G7 pw = some (.lst (ws'.map L2.V.str)) ∧ ws'.length = i + 1 ∧ (∀ u ∈ ws', WayW S u) ∧ k' = S.dk + 1 + ((i + 1 : Nat) : Int) := fun y G7 f7 => by
          refine ⟨y, _, _, _, _, _, n3, k2 + 1, ws ++ [u], rfl, s5.trans (.beside V5 f7), f7.kp _ _ hw5 (fun z => z) rfl, by rw [List.length_append, hl]; rfl, fun v hv => ?_, by omega⟩
          rcases List.mem_append.mp hv with h | h
          · exact hu v h
          · rw [List.mem_singleton.mp h]
            exact hwu
        cases hf : findT S.ties (x', u) with
        | none =>
          refine ⟨none, .inr ⟨_, kT (x', u), kq, .inl (V6.at_ .t _ rfl), rfl, hk6, by rw [valV_tD, show findT (dr S n3 (k2 + 1)).ties (x', u) = none from hf]; rfl⟩, we_int ⟨lq, _, 2, .bl false, rfl, rfl, .inl (.inl hl6), rfl, false, rfl, ?_⟩⟩
          exact ws_nil (out x' G6 f6)
        | some e1 =>
          refine ⟨_, dg_tie V6 (show findT (dr S n3 (k2 + 1)).ties (x', u) = some e1 from hf) hk6, we_int ⟨a (.tie (x', u)), _, 2, .bl e1.l, rfl, rfl, .inl (.inl (tie_at V6 hf)), rfl, e1.l, rfl, ?_⟩⟩
          cases hl1 : e1.l with
          | false => exact ws_nil (out x' G6 f6)
          | true =>
            refine ws_one (w_set 2 (we_ix ix_list (we_dget (room_u hr) (we_wf 1 rfl (V6.at_ .w _ rfl) (v_ties a _) (room_u hr) (we_tup ?_)))) sc_way.nd)
            refine wa_cons (we_var 2 rfl ?_)
            refine wa_cons (we_ix ix_list (we_var 4 rfl (we_un un_neg (we_int ⟨1, rfl, pw, _, -1, _, rfl, rfl, .inl (.inl hw6), elast, ?_⟩))))
            refine wa_nil ⟨by show 2 ≤ sizeLine; decide, fun k7 hk7 => ?_⟩
            have f7 := f6.trans (WW.Fr.new (ts := ts) (m := Nil) (o := .tup [.int x', .str u]) hk7)
            have V7 := V5.fr f7
            exact ⟨a .t, _, rfl, dg_tie V7 (show findT (dr S n3 (k2 + 1)).ties (x', u) = some e1 from hf) upd_same, we_int ⟨a (.tie (x', u)), _, 0, .int e1.y, rfl, rfl, .inl (.inl (tie_at V7 hf)), rfl, out e1.y _ f7⟩⟩
end
end K05

set_option Elab.async false
set_option linter.all false
set_option maxRecDepth 100000
set_option maxHeartbeats 4000000
namespace K05
open PySem PySem.Spec PyProof.Rows L2 WW Wo
section
variable {P : Program} {w : World} {K : PySem.W.Frag} {mg : Str → Option Value} {base : Heap}
def spErrand (ts : List Addr) (K : PySem.W.Frag) : Sp := fun vs H Q _ => ∃ (A : Ad) (S : Wst) (n : Str) (x : Int) (pw : Addr) (way : List Str), vs = [.ref (A .d), .ref (A .w), .str n, .ref pw] ∧ WAt K H A S ∧ WordsOk S ∧ 0 ≤ S.dk ∧ S.dk ≤ 900000 ∧
  (S.own.map (·.1)).Nodup ∧ S.own.length ≤ 10 ∧ findB S.own n = some x ∧ S.marks.length ≤ 900 ∧ SqT K H pw (way.map V.str) ∧ way.length ≤ 100 ∧ (∀ u ∈ way, PyData.strOk u = true) ∧
  ∀ H' n' k' p e, Stp K ts A S H A (sgE (dr S n' k') e) H' → S.dk ≤ k' → k' ≤ S.dk + 3 → ErOk S n x way e → SqT K H' p ((erL e).map unS) → Q (.ref p) H'
theorem sc_errand : FnScope ["draws", "w", "name", "way", "pick", "trail", "backs", "came", "left", "kind", "key"] ["draws", "w", "name", "way"] (defScope s_law_errand) := ⟨rfl, rfl, rfl, by decide +kernel, rfl, by decide +kernel, by decide +kernel⟩
theorem k_errand (A : Facts K mg base) (ts : List Addr) : Fk P w K mg base 3 "_law_errand" ["draws", "w", "name", "way"] (spErrand ts K) := by
  refine def_ok (d := d_law_errand) A.f_law_errand rfl A.g_law_errand sc_errand (fun _ _ _ _ _ _ us hl => match us, hl with | [_, _, _, _], _ => rfl) (fun vs H Q E h => ?_) (fun A' outer s H vs Q E hr h => ?_)
  · obtain ⟨a, S, n, x, pw, way, rfl, _⟩ := h
    rfl
  · obtain ⟨a, S, n, x, pw, way, rfl, W, wo, d0, d1, nd, no, hx, hm, hw, hwl, hwo, q⟩ := h
    have hz : 2000 < sizeLine := by decide
    refine ws_cons (w_set 4 (we_f (k_next A) hr (wa_cons (we_var 0 rfl (wa_nil ⟨a .d, S.dn, S.dk, S.db, rfl, W.at_ .d _ rfl, d0, by omega, fun pk n' pk0 pk1 => ?_⟩)))) sc_errand.nd)
    have s0 : Stp K ts a S H a (dr S n' (S.dk + 1)) (upd H (a .d) (Wo.Dr n' (S.dk + 1) S.db)) := Stp.draw W n' (S.dk + 1) S.db
    change WS _ _ _ _ (upd H (a .d) (Wo.Dr n' (S.dk + 1) S.db))
    have hw0 := (s0.tkk W).sqt hw
    generalize upd H (a .d) _ = G at s0 hw0 ⊢
    have V := s0.wat
    refine ws_cons (w_un3 5 6 7 (we_f (k_gone A ts) hr (wa_cons (we_var 1 rfl ?_))) (by rfl) sc_errand.nd)
    refine wa_cons (we_f (k_person A ts) hr (wa_cons (we_var 1 rfl (wa_cons (we_var 2 rfl (wa_nil ⟨a, _, n, x, rfl, V, nd, no, hx, fun H5 f5 => ?_⟩))))))
    refine wa_cons (we_var 3 rfl ?_)
    refine wa_nil ⟨a, _, x, pw, way, rfl, V.fr f5, (TK.fr f5).sqt hw0, hwl, fun H6 p tl bt f6 ntl hp htl hbt => ⟨p, .ref tl, .ref bt, .bl (goP S.ties x way).2.2, rfl, .inl (.inl hp), ?_⟩⟩
    change H6 tl = some (.lst ((goP S.ties x way).1.map L2.V.int)) at htl
    have f56 := f5.trans f6
    have V6 := V.fr f56
    refine ws_cons (w1_of (ps_lock (ps_setLcT (i := 8) (own := [("key", 10)]) (g := gName 10) (by rfl) sc_errand.nd rfl rfl (sw_true rfl rfl rfl (by decide +kernel)) (pi_keys WW.pe)
      (blkOk_by (own := [("key", 10)]) (N := ["draws", "w", "name", "way", "pick", "trail", "backs", "came", "left", "kind", "key"]) (sc := defScope s_law_errand) (by decide +kernel)) (fun _ _ _ _ _ => pg_name (i := 10) sc_errand.nd rfl (Or.inl rfl)) tb eb)) ?_)
    refine ⟨a .m, _, V6.at_ .m _ rfl, trivial, fun od => we_wf 1 rfl (e := by rw [upd_ne (V6.ne (l := .w) (l' := .m) rfl rfl nofun)]; exact V6.at_ .w _ rfl) (v_marks a _) (room_u hr) ⟨a .m, od, rfl, .inr ⟨_, upd_same, ?_⟩⟩⟩
    refine lc_by ts S.marks.length (by omega) (fun D i acc H => acc = ((S.marks.take i).filter fun e => decide (e.1.1 = n)).map fun e => .int e.1.2) (fun _ _ _ _ => rfl) (fun _ _ _ _ _ _ _ _ h => h) (fun D acc H2 hD f hi hd => ?_) (fun D i acc H2 hn hD hd f hi => ?_) gn_mono tb_mono eb_mono
    · obtain ⟨l1, l2⟩ := lockedM K V6 f
      refine ⟨⟨l1, by unfold mD; rw [List.length_map]; exact Nat.le_refl _⟩, l1, ?_⟩
      rw [List.take_length] at hi
      have hD' : D ≠ a .m := fun z => by
        rw [z, upd_same] at hD
        cases hD
      have hm2 : acc = (leftM S n).map L2.V.int := by
        rw [hi]
        unfold leftM
        rw [List.map_map]
        rfl
      have f8 := f56.trans (fr_lock f (V6.at_ .m _ rfl) rfl)
      have hD8 : upd H2 (a .m) (.dT (mD (dr S n' (S.dk + 1)).marks)) D = some (.lst ((leftM S n).map L2.V.int)) := by rw [upd_ne hD', hd, hm2]
      have htl8 := (fr_lock f (V6.at_ .m _ rfl) rfl).kp _ _ htl (fun z => z) rfl
      generalize upd H2 (a .m) _ = G8 at f8 hD8 htl8 ⊢
      have V8 := V.fr f8
      have s8 := s0.trans (.beside V f8)
      have hw8 := (TK.fr f8).sqt hw0
      refine ws_cons (w_set 9 (we_bin op_modB (we_var 4 rfl (we_int ⟨pk, 16, rfl, rfl, by decide, fun kd kd0 kd1 => ?_⟩))) sc_errand.nd)
      -- told
      have tell : ∀ (G9 : Hp) (p : Addr) (e : Er), WW.Fr ts Nil G8 G9 → (∀ s, e ≠ .meet s) → ErOk S n x way e → SqT K G9 p ((erL e).map unS) → Q (.ref p) G9 := fun G9 p e f9 hne he hp => by
        refine q G9 n' (S.dk + 1) p e ?_ (by omega) (by omega) he hp
        have : sgE (dr S n' (S.dk + 1)) e = dr S n' (S.dk + 1) := by cases e <;> first | rfl | exact absurd rfl (hne _)
        rw [this]
        exact s8.trans (.beside V8 f9)
      -- kind < 3
      refine ws_cons (w_if0 (wt_cmp op_lt rfl (we_var 9 rfl (we_int ⟨kd, 3, rfl, rfl, _, rfl, ?_⟩))))
      by_cases c1 : kd < 3
      · rw [if_pos (decide_eq_true c1)]
        exact ws_one (w_ret (we_tup (wa_cons (we_str (wa_nil ⟨by show 1 ≤ sizeLine; decide, fun p hp => tell _ p .list (WW.Fr.new hp) (fun _ => nofun) trivial (.inl (.inl upd_same))⟩)))))
      rw [if_neg (by rw [decide_eq_false c1]; decide)]
      -- leave
      have lv : ∀ D0 : Ends, D0.rt = Q → WS (cx P w K mg base ["draws", "w", "name", "way", "pick", "trail", "backs", "came", "left", "kind", "key"] d_law_errand.qual d_law_errand.scope (He.ga K "_law_errand") (He.codeOf K d_law_errand.at_) A' outer s H E)
          (match (d_law_errand.body.getD 5 (.Pass ⟨0, 0, 0, 0⟩)) with | .If _ th _ _ => th | _ => []) D0 [some (.ref (a .d)), some (.ref (a .w)), some (.str n), some (.ref pw), some (.int pk), some (.ref tl), some (.ref bt), some (.bl (goP S.ties x way).2.2), some (.ref D), some (.int kd), none] G8 := fun D0 hD0 => by
        refine ws_one (w_ret (we_tup ?_))
        refine wa_cons (we_str ?_)
        refine wa_cons (we_bin op_mul (we_int (we_bin op_add (we_int ?_)))) 
        refine we_callB call_len_seq A.n_len rfl (wa_cons (we_var 8 rfl (wa_nil ⟨D, _, rfl, .inl (.inl (.inl hD8)), 1, _, rfl, rfl, 10, _, rfl, rfl, .inl ⟨by decide, by decide⟩, ?_⟩)))
        refine wa_nil ⟨by show 2 ≤ sizeLine; decide, fun p hp => ?_⟩
        rw [hD0]
        refine tell _ p (.leave (10 * (1 + ((leftM S n).length : Int)))) (WW.Fr.new hp) (fun _ => nofun) rfl (.inl (.inl ?_))
        rw [upd_same, List.length_map]
        rfl
      refine ws_seq (fun σ' H' => σ' = [some (.ref (a .d)), some (.ref (a .w)), some (.str n), some (.ref pw), some (.int pk), some (.ref tl), some (.ref bt), some (.bl (goP S.ties x way).2.2), some (.ref D), some (.int kd), none] ∧ H' = G8) (w_if0 (wt_ww (ww_and (wt_cmp op_lt rfl (we_var 9 rfl (we_int ⟨kd, 6, rfl, rfl, _, rfl, ?_⟩)))))) fun σ' H' ⟨h1, h2⟩ => ?_
      · by_cases c2 : kd < 6
        · rw [if_pos (decide_eq_true c2)]
          refine ww_and1 (wt_ww (ww_or (wt_val (we_var 7 rfl ⟨_, rfl, ?_⟩))))
          cases hc : (goP S.ties x way).2.2 with
          | true =>
            rw [if_pos rfl, if_pos rfl]
            rw [hc] at lv
            exact lv _ rfl
          | false =>
            rw [if_neg (by decide)]
            refine ww_or1 (wt_cmp op_eqi rfl (we_bin op_modB (we_bin op_fdiv (we_var 4 rfl (we_int ⟨pk, 16, rfl, rfl, ⟨by decide, by decide⟩, we_int ⟨_, 4, rfl, rfl, by decide, fun z z0 z1 => we_int ⟨z, 0, rfl, rfl, _, rfl, ?_⟩⟩⟩)))))
            by_cases c3 : z = 0
            · rw [if_pos (decide_eq_true c3)]
              rw [hc] at lv
              exact lv _ rfl
            · rw [if_neg (by rw [decide_eq_false c3]; decide)]
              exact ⟨rfl, rfl⟩
        · rw [if_neg (by rw [decide_eq_false c2]; decide), if_neg (by decide)]
          exact ⟨rfl, rfl⟩
      subst h1
      subst h2
      -- look for what was left
      refine ws_seq (fun σ' H'' => σ' = [some (.ref (a .d)), some (.ref (a .w)), some (.str n), some (.ref pw), some (.int pk), some (.ref tl), some (.ref bt), some (.bl (goP S.ties x way).2.2), some (.ref D), some (.int kd), none] ∧ WW.Fr ts Nil H' H'') (w_if0 (wt_ww (ww_and (wt_cmp op_lt rfl (we_var 9 rfl (we_int ⟨kd, 9, rfl, rfl, _, rfl, ?_⟩)))))) fun σ' G9 ⟨h1, f9⟩ => ?_
      · by_cases c2 : kd < 9
        · rw [if_pos (decide_eq_true c2)]
          refine ww_and1 (wt_cmp (op_neD (room_u64 hr)) rfl (we_var 8 rfl (we_lst (wa_nil ⟨by show 0 ≤ sizeLine; decide, fun pn hpn => ?_⟩))))
          have f5 : WW.Fr ts Nil H' (upd H' pn (.lst [])) := WW.Fr.new hpn
          have hp5 := f5.kp _ _ hD8 (fun z => z) rfl
          have hn5 : upd H' pn (.lst []) pn = some (.lst []) := upd_same
          generalize upd H' pn _ = G5 at f5 hp5 hn5 ⊢
          refine ⟨.list ((leftM S n).map .int), .list [], .lst (.inl (.inl hp5)) (dps_ints _), .lst (.inl (.inl hn5)) .nil, shaped_ints _, rfl, _, rfl, ?_⟩
          rw [eqv_nilL]
          cases hl : leftM S n with
          | nil =>
            exact ⟨rfl, f5⟩
          | cons y r =>
            rw [hl] at hp5
            refine ws_one (w_ret (we_tup ?_))
            refine wa_cons (we_str ?_)
            refine wa_cons (we_ix ix_list (we_var 8 rfl (we_bin op_modB (we_bin op_fdiv (we_var 4 rfl (we_int ⟨pk, 16, rfl, rfl, ⟨by decide, by decide⟩, ?_⟩))))))
            refine we_callB call_len_seq A.n_len rfl (wa_cons (we_var 8 rfl (wa_nil ⟨D, _, rfl, .inl (.inl (.inl hp5)), _, _, rfl, rfl, by rw [List.length_map, List.length_cons]; omega, fun z z0 z1 => ?_⟩)))
            obtain ⟨m, hm3⟩ : ∃ m, m ∈ y :: r ∧ atI ((y :: r).map L2.V.int) z = some (.int m) := by
              rw [List.length_map] at z1
              obtain ⟨k, rfl⟩ : ∃ k : Nat, z = k := ⟨z.toNat, by omega⟩
              have h : k < (y :: r).length := by omega
              exact ⟨(y :: r)[k], List.getElem_mem h, by rw [atI_pos, List.getElem?_map, List.getElem?_eq_getElem h]; rfl⟩
            refine ⟨D, _, z, _, rfl, rfl, .inl (.inl hp5), hm3.2, ?_⟩
            refine wa_nil ⟨by show 2 ≤ sizeLine; decide, fun p hp => ?_⟩
            exact tell _ p (.look m) (f5.trans (WW.Fr.new hp)) (fun _ => nofun) (.inl (by rw [hl]; exact hm3.1)) (.inl (.inl upd_same))
        · rw [if_neg (by rw [decide_eq_false c2]; decide), if_neg (by decide)]
          exact ⟨rfl, .refl _⟩
      subst h1
      -- look for whatever
      refine ws_cons (w_if0 (wt_cmp op_eqi rfl (we_var 9 rfl (we_int ⟨kd, 9, rfl, rfl, _, rfl, ?_⟩))))
      by_cases c4 : kd = 9
      · rw [if_pos (decide_eq_true c4)]
        refine ws_one (w_ret (we_tup ?_))
        refine wa_cons (we_str ?_)
        refine wa_cons (we_bin op_mul (we_int (we_bin op_add (we_int ?_))))
        refine we_bin op_modB (we_bin op_fdiv (we_var 4 rfl (we_int ⟨pk, 16, rfl, rfl, ⟨by decide, by decide⟩, ?_⟩)))
        refine we_int ⟨_, 5, rfl, rfl, by decide, fun z z0 z1 => ⟨1, z, rfl, rfl, 10, _, rfl, rfl, .inl ⟨by decide, by decide⟩, ?_⟩⟩
        exact wa_nil ⟨by show 2 ≤ sizeLine; decide, fun p hp => tell _ p (.look (10 * (1 + z))) (f9.trans (WW.Fr.new hp)) (fun _ => nofun) (.inr (by omega)) (.inl (.inl upd_same))⟩
      rw [if_neg (by rw [decide_eq_false c4]; decide)]
      -- part
      refine ws_seq (fun σ' H'' => σ' = [some (.ref (a .d)), some (.ref (a .w)), some (.str n), some (.ref pw), some (.int pk), some (.ref tl), some (.ref bt), some (.bl (goP S.ties x way).2.2), some (.ref D), some (.int kd), none] ∧ WW.Fr ts Nil H' H'') (w_if0 (wt_ww (ww_and (wt_cmp op_eqi rfl (we_var 9 rfl (we_int ⟨kd, 10, rfl, rfl, _, rfl, ?_⟩)))))) fun σ' G10 ⟨h1, f10⟩ => ?_
      · by_cases c5 : kd = 10
        · rw [if_pos (decide_eq_true c5)]
          refine ww_and (wt_val (we_var 7 rfl ⟨_, rfl, ?_⟩))
          cases hc : (goP S.ties x way).2.2 with
          | false =>
            rw [if_neg (by decide), if_neg (by decide)]
            exact ⟨rfl, f9⟩
          | true =>
            rw [if_pos rfl]
            refine ww_and1 (wt_cmp (op_neD (room_u64 hr)) rfl (we_var 3 rfl (we_tup (wa_nil ⟨by show 0 ≤ sizeLine; decide, fun pn hpn => ?_⟩))))
            have f5 : WW.Fr ts Nil G9 (upd G9 pn (.tup [])) := WW.Fr.new hpn
            have hn5 : upd G9 pn (.tup []) pn = some (.tup []) := upd_same
            generalize upd G9 pn _ = G5 at f5 hn5 ⊢
            have hw5 := (TK.fr (f9.trans f5)).sqt hw8
            refine ⟨.tuple (way.map .str), .tuple [], (td_strs hw5).is, .tup (.inl (.inl hn5)) .nil, shaped_strsT _ hwo, rfl, _, rfl, ?_⟩
            rw [eqv_nilT]
            cases hwy : way with
            | nil => exact ⟨rfl, f9.trans f5⟩
            | cons u r =>
              exact ws_one (w_ret (we_tup (wa_cons (we_str (wa_nil ⟨by show 1 ≤ sizeLine; decide, fun p hp => tell _ p .part ((f9.trans f5).trans (WW.Fr.new hp)) (fun _ => nofun) ⟨hc, by rw [hwy]; nofun⟩ (.inl (.inl upd_same))⟩)))))
        · rw [if_neg (by rw [decide_eq_false c5]; decide), if_neg (by decide)]
          exact ⟨rfl, f9⟩
      subst h1
      have V10 := V.fr (f8.trans f10)
      have s10 := s0.trans (.beside V (f8.trans f10))
      -- tie
      refine ws_seq (fun σ' H'' => σ' = [some (.ref (a .d)), some (.ref (a .w)), some (.str n), some (.ref pw), some (.int pk), some (.ref tl), some (.ref bt), some (.bl (goP S.ties x way).2.2), some (.ref D), some (.int kd), none] ∧ H'' = G10) (w_if0 (wt_ww (ww_and (wt_cmp op_lt rfl (we_var 9 rfl (we_int ⟨kd, 13, rfl, rfl, _, rfl, ?_⟩)))))) fun σ' G11 ⟨h1, h2⟩ => ?_
      · by_cases c6 : kd < 13
        · rw [if_pos (decide_eq_true c6)]
          refine ww_and1 (wt_val (we_var 7 rfl ⟨_, rfl, ?_⟩))
          cases hc : (goP S.ties x way).2.2 with
          | false =>
            rw [if_neg (by decide)]
            exact ⟨rfl, rfl⟩
          | true =>
            rw [if_pos rfl]
            obtain ⟨tr, htr⟩ := goP_head S.ties x way
            have htl10 := f10.kp _ _ htl8 (fun z => z) rfl
            have e0 : atI ((goP S.ties x way).1.map L2.V.int) ((0 : Nat) : Int) = some (.int x) := by rw [htr]; exact atI_pos _ 0
            have e1 := atI_lastV (goP S.ties x way).1 ⟨_, _, htr⟩
            have ncl : ¬ Wm a (dr S n' (S.dk + 1)) tl := (ntl.back f5).cell V
            refine ws_one (w_ret (we_tup ?_))
            refine wa_cons (we_str ?_)
            refine wa_cons (we_f (k_fresh A ts) hr (wa_cons (we_var 0 rfl (wa_cons (we_var 1 rfl ?_)))))
            refine wa_cons (we_ix ix_list (we_var 5 rfl (we_int ⟨tl, _, 0, _, rfl, rfl, .inl (.inl htl10), e0, ?_⟩)))
            refine wa_nil ⟨a, _, x, rfl, V10, wo, by show 0 ≤ S.dk + 1; omega, by show S.dk + 1 ≤ _; omega, fun H11 n2 u st hfu hwu => ?_⟩
            have htl11 := st.keep htl10 rfl ncl
            refine wa_cons (we_f (k_fresh A ts) hr (wa_cons (we_var 0 rfl (wa_cons (we_var 1 rfl ?_)))))
            refine wa_cons (we_ix ix_list (we_var 5 rfl (we_un un_neg (we_int ⟨1, rfl, tl, _, -1, _, rfl, rfl, .inl (.inl htl11), e1, ?_⟩))))
            refine wa_nil ⟨a, _, lastI (goP S.ties x way).1, rfl, st.wat, wo, by show 0 ≤ S.dk + 1 + 1; omega, by show S.dk + 1 + 1 ≤ _; omega, fun H12 n3 v st2 hfv hwv => ?_⟩
            refine wa_nil ⟨by show 3 ≤ sizeLine; decide, fun p hp => ?_⟩
            exact q _ n3 (S.dk + 1 + 1 + 1) p (.tie u v) (((s10.trans st).trans st2).trans (.beside st2.wat (WW.Fr.new hp))) (by omega) (by omega) ⟨hc, hfu, hfv, hwu, hwv⟩ (.inl (.inl upd_same))
        · rw [if_neg (by rw [decide_eq_false c6]; decide), if_neg (by decide)]
          exact ⟨rfl, rfl⟩
      subst h1
      subst h2
      -- meet
      refine ws_cons (w_if0 (wt_cmp op_eqi rfl (we_var 9 rfl (we_int ⟨kd, 13, rfl, rfl, _, rfl, ?_⟩))))
      by_cases c7 : kd = 13
      · rw [if_pos (decide_eq_true c7)]
        have hput : ∀ (A : Ad) (S : Wst) (n : Int), putK (wD A S) (.inr "signs") (.int n) = wD A { S with sg := n } := fun _ _ _ => rfl
        refine ws_cons (w_setD (room_u hr) (we_bin op_add (we_wf 1 rfl (V10.at_ .w _ rfl) (v_signs a _) (room_u hr) (we_int ⟨S.sg, 1, rfl, rfl, we_var 1 rfl (we_str ⟨a .w, _, rfl, DPut.k (k := .inr "signs") (V10.at_ .w _ rfl) (by show 8 < sizeLine; decide), ?_⟩)⟩))))
        rw [hput]
        have sg := s10.trans (Stp.signs V10 (S.sg + 1))
        change WS _ _ _ _ (upd _ (a .w) (.dK (wD a { dr S n' (S.dk + 1) with sg := S.sg + 1 })))
        generalize upd _ (a .w) _ = G12 at sg ⊢
        refine ws_one (w_ret (we_tup (wa_cons (we_str (wa_cons (we_wf 1 rfl (sg.wat.at_ .w _ rfl) (v_signs a _) (room_u hr) (wa_nil ⟨by show 2 ≤ sizeLine; decide, fun p hp => ?_⟩)))))))
        exact q _ n' (S.dk + 1) p (.meet (S.sg + 1)) (sg.trans (.beside sg.wat (WW.Fr.new hp))) (by omega) (by omega) rfl (.inl (.inl upd_same))
      rw [if_neg (by rw [decide_eq_false c7]; decide)]
      exact ws_one (w_ret (we_tup (wa_cons (we_str (wa_nil ⟨by show 1 ≤ sizeLine; decide, fun p hp => tell _ p .walk (f10.trans (WW.Fr.new hp)) (fun _ => nofun) trivial (.inl (.inl upd_same))⟩)))))
    · obtain ⟨l1, l2⟩ := lockedM K V6 f
      refine ⟨⟨l1, by unfold mD; rw [List.length_map]; exact hn⟩, fun v H3 ⟨e3, k, u, kq, h1, h2, h3⟩ => ?_⟩
      subst e3 h2
      obtain ⟨e, he⟩ : ∃ e, S.marks[i]? = some e := ⟨_, List.getElem?_eq_getElem hn⟩
      have hke : k = kM e.1 := by
        unfold mD at h1
        rw [List.getElem?_map, show (dr S n' (S.dk + 1)).marks[i]? = some e from he] at h1
        cases h1
        rfl
      subst hke
      have hci : List.map (fun e : (Str × Int) × L2.V => L2.V.int e.1.2) (List.filter (fun e => decide (e.1.1 = n)) (List.take (i + 1) S.marks)) = acc ++ (if decide (e.1.1 = n) = true then [.int e.1.2] else []) := by
        rw [List.take_add_one, he, List.filter_append, List.map_append, hi]
        show _ ++ List.map _ (List.filter _ [e]) = _
        rw [List.filter_cons]
        split <;> rfl
      refine ⟨rfl, fun s1 H5 C1 cl1 fp1 => wt_cmp op_eqs rfl (we_ix ix_tup (we_var 10 rfl (we_int ⟨kq, _, 0, .str e.1.1, rfl, rfl, .inl (.inl h3), rfl, we_var 2 rfl ⟨e.1.1, n, rfl, rfl, _, rfl, ?_⟩⟩)))⟩
      by_cases hx2 : e.1.1 = n
      · rw [if_pos (decide_eq_true hx2)]
        refine fun s1 H5 C1 cl1 fp1 => we_ix ix_tup (we_var 10 rfl (we_int ⟨kq, _, 1, .int e.1.2, rfl, rfl, .inl (.inl h3), rfl, WW.Fr.refl _, ?_⟩))
        rw [hci, if_pos (decide_eq_true hx2)]
      · rw [if_neg (by rw [decide_eq_false hx2]; decide)]
        refine ⟨WW.Fr.refl _, ?_⟩
        rw [hci, if_neg (by rw [decide_eq_false hx2]; decide), List.append_nil]
end
end K05

set_option Elab.async false
set_option linter.all false
set_option maxRecDepth 100000
set_option maxHeartbeats 4000000
namespace K05
open PySem PySem.Spec PyProof.Rows L2 WW Wo
section
variable {P : Program} {w : World} {K : PySem.W.Frag} {mg : Str → Option Value} {base : Heap}
def spTwo (ts : List Addr) (K : PySem.W.Frag) : Sp := fun vs H Q _ => ∃ (A : Ad) (S : Wst), vs = [.ref (A .d), .ref (A .w)] ∧ WAt K H A S ∧ 0 ≤ S.dk ∧ S.dk ≤ 900000 ∧ 2 ≤ S.ppl ∧
  ∀ H' n' p x y, Stp K ts A S H A (dr S n' (S.dk + 2)) H' → 0 ≤ x → x < S.ppl → 0 ≤ y → y < S.ppl → x ≠ y → SqT K H' p [.int x, .int y] → Q (.ref p) H'
theorem sc_two : FnScope ["draws", "w", "x"] ["draws", "w"] (defScope s_law_two) := ⟨rfl, rfl, rfl, by decide +kernel, rfl, by decide +kernel, by decide +kernel⟩
theorem mod_other {x r p : Int} (hx0 : 0 ≤ x) (hx : x < p) (hr : 0 ≤ r) (hrp : r < p - 1) : (x + 1 + r).fmod p ≠ x := by
  rw [Int.fmod_eq_emod_of_nonneg _ (by omega)]
  by_cases h : x + 1 + r < p
  · rw [Int.emod_eq_of_lt (by omega) h]
    omega
  · have : (x + 1 + r) % p = x + 1 + r - p := by
      rw [← Int.emod_eq_of_lt (a := x + 1 + r - p) (b := p) (by omega) (by omega)]
      exact (Int.sub_emod_right (x + 1 + r) p).symm
    rw [this]
    omega
theorem k_two (A : Facts K mg base) (ts : List Addr) : Fk P w K mg base 2 "_law_two" ["draws", "w"] (spTwo ts K) := by
  refine def_ok (d := d_law_two) A.f_law_two rfl A.g_law_two sc_two (fun _ _ _ _ _ _ us hl => match us, hl with | [_, _], _ => rfl) (fun vs H Q E h => ?_) (fun A' outer s H vs Q E hr h => ?_)
  · obtain ⟨a, S, rfl, _⟩ := h
    rfl
  · obtain ⟨a, S, rfl, W, d0, d1, hp, q⟩ := h
    refine ws_cons (w_set 2 (we_bin op_modB (we_f (k_next A) hr (wa_cons (we_var 0 rfl (wa_nil ⟨a .d, S.dn, S.dk, S.db, rfl, W.at_ .d _ rfl, d0, by omega, fun r n' r0 r1 => ?_⟩))))) sc_two.nd)
    have s0 : Stp K ts a S H a (dr S n' (S.dk + 1)) (upd H (a .d) (Wo.Dr n' (S.dk + 1) S.db)) := Stp.draw W n' (S.dk + 1) S.db
    change WE _ _ _ (upd H (a .d) (Wo.Dr n' (S.dk + 1) S.db)) _
    generalize upd H (a .d) _ = G at s0 ⊢
    have V := s0.wat
    refine we_wf 1 rfl (V.at_ .w _ rfl) (v_people a _) (room_u hr) ⟨r, S.ppl, rfl, rfl, by omega, fun x x0 x1 => ?_⟩
    refine ws_one (w_ret (we_tup (wa_cons (we_var 2 rfl ?_))))
    refine wa_cons (we_bin op_modN (we_bin op_add (we_bin op_add (we_var 2 rfl (we_int ⟨x, 1, rfl, rfl, ?_⟩)))))
    refine we_bin op_modB (we_f (k_next A) hr (wa_cons (we_var 0 rfl (wa_nil ⟨a .d, n', S.dk + 1, S.db, rfl, V.at_ .d _ rfl, by omega, by omega, fun r2 n2 r20 r21 => ?_⟩))))
    have s1 : Stp K ts a (dr S n' (S.dk + 1)) G a (dr S n2 (S.dk + 1 + 1)) (upd G (a .d) (Wo.Dr n2 (S.dk + 1 + 1) S.db)) := Stp.draw V n2 (S.dk + 1 + 1) S.db
    change WE _ _ _ (upd G (a .d) (Wo.Dr n2 (S.dk + 1 + 1) S.db)) _
    have s01 := s0.trans s1
    generalize upd G (a .d) _ = G1 at s01 ⊢
    have V1 := s01.wat
    refine we_bin op_sub (we_wf 1 rfl (V1.at_ .w _ rfl) (v_people a _) (room_u hr) (we_int ⟨S.ppl, 1, rfl, rfl, r2, S.ppl - 1, rfl, rfl, by omega, fun z z0 z1 => ⟨x + 1, z, rfl, rfl, ?_⟩⟩))
    refine we_wf 1 rfl (V1.at_ .w _ rfl) (v_people a _) (room_u hr) ⟨x + 1 + z, S.ppl, rfl, rfl, by omega, wa_nil ⟨by show 2 ≤ sizeLine; decide, fun p hp2 => ?_⟩⟩
    refine q _ n2 p x _ ?_ x0 x1 (Int.fmod_nonneg_of_pos _ (by omega)) (Int.fmod_lt_of_pos _ (by omega)) (mod_other x0 x1 z0 z1).symm (.inl (.inl upd_same))
    have e : S.dk + 1 + 1 = S.dk + 2 := by omega
    rw [e] at s01
    exact s01.trans (.beside s01.wat (WW.Fr.new hp2))
structure UnPre (S : Wst) : Prop where
  ne : S.ev.length ≤ 900
  wo : WordsOk S
  no : S.own.length ≤ 10
  nd : (S.own.map (·.1)).Nodup
  nm : S.marks.length ≤ 900
  pp : 2 ≤ S.ppl
  d0 : 0 ≤ S.dk
  d1 : S.dk ≤ 800000
  par : ∀ e ∈ S.ties, ∃ f, findT S.ties (e.y, e.v) = some f
/-- what may happen unseen -/
def UnOk (S : Wst) : Ev → Prop
  | .born x u y v => findT S.ties (x, u) = none ∧ findT S.ties (y, v) = none ∧ x ≠ y ∧ 0 ≤ x ∧ x < S.ppl ∧ 0 ≤ y ∧ y < S.ppl ∧ WordIn (S.ties.length + 2) u ∧ WordIn (S.ties.length + 2) v
  | .gone x u => ∃ e, findT S.ties (x, u) = some e ∧ e.l = true
  | _ => False
def spUnseen (ts : List Addr) (K : PySem.W.Frag) : Sp := fun vs H Q _ => ∃ (A : Ad) (S : Wst), vs = [.ref (A .d), .ref (A .w)] ∧ WAt K H A S ∧ UnPre S ∧
  ∀ H' A' n' k' v e S', Stp K ts A S H A' S' H' → S.dk ≤ k' → k' ≤ S.dk + 5 → UnOk S e → DoR (dr S n' k') v e S' → Q .non H'
theorem sc_unseen : FnScope ["draws", "w", "living", "pick", "x", "u", "y", "key"] ["draws", "w"] (defScope s_law_unseen) := ⟨rfl, rfl, rfl, by decide +kernel, rfl, by decide +kernel, by decide +kernel⟩
theorem k_unseen (A : Facts K mg base) (ts : List Addr) : Fk P w K mg base 4 "_law_unseen" ["draws", "w"] (spUnseen ts K) := by
  refine def_ok (d := d_law_unseen) A.f_law_unseen rfl A.g_law_unseen sc_unseen (fun _ _ _ _ _ _ us hl => match us, hl with | [_, _], _ => rfl) (fun vs H Q E h => ?_) (fun A' outer s H vs Q E hr h => ?_)
  · obtain ⟨a, S, rfl, _⟩ := h
    rfl
  · obtain ⟨a, S, rfl, W, pr, q⟩ := h
    have hz : 2000 < sizeLine := by decide
    refine ws_cons (w_set 2 (we_callB (cr_sortedK (room_u64 hr)) A.n_sorted rfl (wa_cons (we_of (pe_lock (pe_lcT (own := [("key", 7)]) (g := gName 7) (by rfl) sc_unseen.nd (pi_keys WW.pe) (blkOk_by (own := [("key", 7)]) (N := ["draws", "w", "living", "pick", "x", "u", "y", "key"]) (sc := defScope s_law_unseen) (by decide +kernel)) (fun _ _ _ _ _ => pg_name (i := 7) sc_unseen.nd rfl (Or.inl rfl)) tb eb)) ?_))) sc_unseen.nd)
    refine ⟨a .t, _, W.at_ .t _ rfl, trivial, fun od => we_wf 1 rfl (e := by rw [upd_ne (W.ne (l := .w) (l' := .t) rfl rfl nofun)]; exact W.at_ .w _ rfl) (v_ties a S) (room_u hr) ⟨a .t, od, rfl, .inr ⟨_, upd_same, ?_⟩⟩⟩
    refine lc_by ts S.ties.length (Nat.le_trans pr.wo.1 (by decide)) (fun D i acc H => ∃ ks : List (Addr × (Int × Str)), acc = ks.map (fun k => .ref k.1) ∧ ks.length ≤ i ∧ (∀ k ∈ ks, H k.1 = some (.tup ((kT k.2).map kV))) ∧ ∀ k ∈ ks, ∃ e, findT S.ties k.2 = some e ∧ e.l = true) (fun _ _ _ _ => ⟨[], rfl, Nat.le_refl _, by simp, by simp⟩)
      (fun D i acc zs H H' hd k ⟨ks, h1, h2, h3, h4⟩ => ⟨ks, h1, h2, fun x hx => k _ _ (fun z => by have := h3 x hx; rw [z, hd] at this; cases this) (h3 x hx), h4⟩) (fun D acc H2 hD f hi hd => ?_) (fun D i acc H2 hn hD hd f hi => ?_) gn_mono tb_mono eb_mono
    · obtain ⟨l1, l2⟩ := locked K W f
      refine ⟨⟨l1, by unfold tD; rw [List.length_map]; exact Nat.le_refl _⟩, l1, wa_nil ?_⟩
      obtain ⟨ks, rfl, k1, k2, k3⟩ := hi
      have hD' : D ≠ a .t := fun z => by
        rw [z, upd_same] at hD
        cases hD
      have fl := fr_lock f (W.at_ .t _ rfl) rfl
      have k2' : ∀ k ∈ ks, upd H2 (a .t) (.dT (tD a S.ties)) k.1 = some (.tup ((kT k.2).map kV)) := fun k hk => by
        have := k2 k hk
        rw [upd_ne fun z => by rw [z, l1] at this; cases this]
        exact this
      refine ⟨D, ks, rfl, by rw [upd_ne hD', hd], k2', by have := pr.wo.1; omega, fun ys p hpm hp => ?_⟩
      have f1 := fl.trans (WW.Fr.new (ts := ts) (m := Nil) (o := .lst (ys.map fun k => L2.V.ref k.1)) hp)
      have hk1 : ∀ k ∈ ys, upd (upd H2 (a .t) (.dT (tD a S.ties))) p (.lst (ys.map fun k => L2.V.ref k.1)) k.1 = some (.tup ((kT k.2).map kV)) := fun k hk => by
        have := k2' k (hpm.mem_iff.mp hk)
        rw [upd_ne (ne_of_none this hp)]
        exact this
      have hp1 : upd (upd H2 (a .t) (.dT (tD a S.ties))) p (.lst (ys.map fun k => L2.V.ref k.1)) p = some (.lst (ys.map fun k => L2.V.ref k.1)) := upd_same
      have hys : ∀ k ∈ ys, ∃ e, findT S.ties k.2 = some e ∧ e.l = true := fun k hk => k3 k (hpm.mem_iff.mp hk)
      generalize upd (upd H2 (a .t) _) p _ = G at f1 hk1 hp1 ⊢
      have npc : ¬ Wm a S p := ((Nw.of hp).back fl).cell W
      have V := W.fr f1
      refine ws_cons (w_set 3 (we_f (k_next A) hr (wa_cons (we_var 0 rfl (wa_nil ⟨a .d, S.dn, S.dk, S.db, rfl, V.at_ .d _ rfl, pr.d0, by have := pr.d1; omega, fun pk n' pk0 pk1 => ?_⟩)))) sc_unseen.nd)
      have s1 : Stp K ts a S G a (dr S n' (S.dk + 1)) (upd G (a .d) (Wo.Dr n' (S.dk + 1) S.db)) := Stp.draw V n' (S.dk + 1) S.db
      change WS _ _ _ _ (upd G (a .d) (Wo.Dr n' (S.dk + 1) S.db))
      have hp2 := s1.keep hp1 rfl npc
      have hk2 : ∀ k ∈ ys, upd G (a .d) (Wo.Dr n' (S.dk + 1) S.db) k.1 = some (.tup ((kT k.2).map kV)) := fun k hk => (s1.tkk V).t _ _ (hk1 k hk)
      generalize upd G (a .d) _ = G1 at s1 hp2 hk2 ⊢
      have s01 := (Stp.beside W f1).trans s1
      have V1 := s1.wat
      -- a birth
      have born : ∀ D0 : Ends, (∀ σ H', Q .non H' → D0.nx σ H') → WS (cx P w K mg base ["draws", "w", "living", "pick", "x", "u", "y", "key"] d_law_unseen.qual d_law_unseen.scope (He.ga K "_law_unseen") (He.codeOf K d_law_unseen.at_) A' outer s H E)
          (match (d_law_unseen.body.getD 2 (.Pass ⟨0, 0, 0, 0⟩)) with | .If _ _ el _ => el | _ => []) D0 [some (.ref (a .d)), some (.ref (a .w)), some (.ref p), some (.int pk), none, none, none, none] G1 := fun D0 hD0 => by
        refine ws_cons (w_un2 4 6 (we_f (k_two A ts) hr (wa_cons (we_var 0 rfl (wa_cons (we_var 1 rfl (wa_nil ⟨a, _, rfl, V1, by show 0 ≤ S.dk + 1; have := pr.d0; omega, by show S.dk + 1 ≤ _; have := pr.d1; omega, pr.pp, fun H5 n2 p2 x y st x0 x1 y0 y1 hxy hp2 => ⟨p2, _, _, rfl, hp2, ?_⟩⟩)))))) (by rfl) sc_unseen.nd)
        refine ws_one (w_expr (we_f (k_do A ts) hr (wa_cons (we_var 1 rfl (wa_cons (we_tup ?_))))))
        refine wa_cons (we_str ?_)
        refine wa_cons (we_var 4 rfl ?_)
        refine wa_cons (we_f (k_fresh A ts) hr (wa_cons (we_var 0 rfl (wa_cons (we_var 1 rfl (wa_cons (we_var 4 rfl (wa_nil ⟨a, _, x, rfl, st.wat, pr.wo, by show 0 ≤ S.dk + 1 + 2; have := pr.d0; omega, by show S.dk + 1 + 2 ≤ _; have := pr.d1; omega, fun H6 n3 u st2 hu hwu => ?_⟩))))))))
        refine wa_cons (we_var 6 rfl ?_)
        refine wa_cons (we_f (k_fresh A ts) hr (wa_cons (we_var 0 rfl (wa_cons (we_var 1 rfl (wa_cons (we_var 6 rfl (wa_nil ⟨a, _, y, rfl, st2.wat, pr.wo, by show 0 ≤ S.dk + 1 + 2 + 1; have := pr.d0; omega, by show S.dk + 1 + 2 + 1 ≤ _; have := pr.d1; omega, fun H7 n4 v st3 hv hwv => ?_⟩))))))))
        refine wa_nil ⟨by show 5 ≤ sizeLine; decide, fun pe hpe => ?_⟩
        have f8 : WW.Fr ts Nil H7 (upd H7 pe (.tup [.str "born", .int x, .str u, .int y, .str v])) := WW.Fr.new hpe
        have td : Td K (upd H7 pe (.tup [.str "born", .int x, .str u, .int y, .str v])) (.ref pe, evD (.born x u y v)) := td_flat (ds := [.str "born", .int x, .str u, .int y, .str v]) (.inl (.inl upd_same)) (by simp [scalD])
        have s8 := (((s01.trans st).trans st2).trans st3).trans (.beside st3.wat f8)
        refine wa_nil ⟨a, _, pe, .born x u y v, rfl, s8.wat, td, ⟨by have := pr.ne; show S.ev.length ≤ 1000; omega, pr.wo.1, pr.no, pr.nd, by have := pr.nm; show S.marks.length ≤ 999; omega, hu, hv, fun z => hxy (by injection z)⟩, fun H9 A2 S' st5 hdo => hD0 _ _ (q H9 A2 n4 (S.dk + 1 + 2 + 1 + 1) (.ref pe) (.born x u y v) S' (s8.trans st5) (by omega) (by omega) ⟨hu, hv, hxy, x0, x1, y0, y1, hwu, hwv⟩ hdo)⟩
      refine ws_one (w_if (wt_ww (ww_and (wt_cmp op_eqi rfl (we_bin op_modB (we_var 3 rfl (we_int ⟨pk, 3, rfl, rfl, by decide, fun z z0 z1 => we_int ⟨z, 0, rfl, rfl, _, rfl, ?_⟩⟩)))))))
      by_cases c0 : z = 0
      · rw [if_pos (decide_eq_true c0)]
        refine ww_and1 (wt_cmp op_gt rfl (we_callB call_len_seq A.n_len rfl (wa_cons (we_var 2 rfl (wa_nil ⟨p, _, rfl, .inl (.inl (.inl hp2)), we_int ⟨_, 4, rfl, rfl, _, rfl, ?_⟩⟩)))))
        by_cases c1 : (4 : Int) < ((ys.map fun k => L2.V.ref k.1).length : Nat)
        · rw [if_pos (decide_eq_true c1)]
          refine ws_cons (w_un2 4 5 (we_ix ix_list (we_var 2 rfl (we_bin op_modB (we_bin op_fdiv (we_var 3 rfl (we_int ⟨pk, 3, rfl, rfl, ⟨by decide, by decide⟩, ?_⟩)))))) (by rfl) sc_unseen.nd)
          refine we_callB call_len_seq A.n_len rfl (wa_cons (we_var 2 rfl (wa_nil ⟨p, _, rfl, .inl (.inl (.inl hp2)), _, _, rfl, rfl, by omega, fun z z0 z1 => ?_⟩)))
          obtain ⟨k, hk, hat⟩ : ∃ k ∈ ys, atI (ys.map fun k => L2.V.ref k.1) z = some (.ref k.1) := by
            rw [List.length_map] at z1
            obtain ⟨m, rfl⟩ : ∃ m : Nat, z = m := ⟨z.toNat, by omega⟩
            have h : m < ys.length := by omega
            exact ⟨ys[m], List.getElem_mem h, by rw [atI_pos, List.getElem?_map, List.getElem?_eq_getElem h]; rfl⟩
          refine ⟨p, _, z, _, rfl, rfl, .inl (.inl hp2), hat, k.1, _, _, rfl, .inl (.inl (hk2 k hk)), ?_⟩
          obtain ⟨e, he, hel⟩ := hys k hk
          refine ws_one (w_expr (we_f (k_do A ts) hr (wa_cons (we_var 1 rfl (wa_cons (we_tup ?_))))))
          refine wa_cons (we_str ?_)
          refine wa_cons (we_var 4 rfl ?_)
          refine wa_cons (we_var 5 rfl ?_)
          refine wa_nil ⟨by show 3 ≤ sizeLine; decide, fun pe hpe => ?_⟩
          have f8 : WW.Fr ts Nil G1 (upd G1 pe (.tup [.str "gone", .int k.2.1, .str k.2.2])) := WW.Fr.new hpe
          have td : Td K (upd G1 pe (.tup [.str "gone", .int k.2.1, .str k.2.2])) (.ref pe, evD (.gone k.2.1 k.2.2)) := td_flat (ds := [.str "gone", .int k.2.1, .str k.2.2]) (.inl (.inl upd_same)) (by simp [scalD])
          have s8 := s01.trans (.beside V1 f8)
          obtain ⟨e2, he2⟩ := pr.par e (findT_k he).2
          refine wa_nil ⟨a, _, pe, .gone k.2.1 k.2.2, rfl, s8.wat, td, ⟨by have := pr.ne; show S.ev.length ≤ 1000; omega, pr.wo.1, pr.no, pr.nd, by have := pr.nm; show S.marks.length ≤ 999; omega, e, e2, he, he2⟩, fun H9 A2 S' st5 hdo => q H9 A2 n' (S.dk + 1) (.ref pe) (.gone k.2.1 k.2.2) S' (s8.trans st5) (by omega) (by omega) ⟨e, he, hel⟩ hdo⟩
        · rw [if_neg (by rw [decide_eq_false c1]; decide)]
          exact born _ fun _ _ h => h
      · rw [if_neg (by rw [decide_eq_false c0]; decide), if_neg (by decide)]
        exact born _ fun _ _ h => h
    · obtain ⟨l1, l2⟩ := locked K W f
      refine ⟨⟨l1, by unfold tD; rw [List.length_map]; exact hn⟩, fun v H3 ⟨e3, k, u, kq, h1, h2, h3⟩ => ?_⟩
      subst e3 h2
      obtain ⟨e, he⟩ : ∃ e, S.ties[i]? = some e := ⟨_, List.getElem?_eq_getElem hn⟩
      have hke : k = kT e.k := by
        unfold tD at h1
        rw [List.getElem?_map, he] at h1
        cases h1
        rfl
      subst hke
      have hf := find_nd W.nd (List.mem_of_getElem? he)
      obtain ⟨ks, rfl, k1, k2, k3⟩ := hi
      refine ⟨rfl, fun s0 H0 C cl fp => wt_val (we_ix ix_list (we_dget (room_u hr) (we_wf 1 rfl (l2 .w _ nofun rfl) (v_ties a S) (room_u hr) (we_var 7 rfl ⟨a .t, .ref (a (.tie e.k)), rfl, .inr ⟨_, kT e.k, kq, .inr ⟨_, l1⟩, rfl, h3, by rw [valV_tD, hf]; rfl⟩, we_int ⟨a (.tie e.k), _, 2, .bl e.l, rfl, rfl, .inl (.inl (l2 (.tie e.k) _ nofun (by show (findT S.ties e.k).map tieO = _; rw [hf]; rfl))), rfl, e.l, rfl, ?_⟩⟩))))⟩
      cases hl : e.l with
      | true =>
        refine fun s1 H5 C1 cl1 fp1 => we_var 7 rfl ⟨WW.Fr.refl _, ks ++ [(kq, e.k)], by rw [List.map_append]; rfl, by rw [List.length_append]; exact Nat.succ_le_succ k1, fun k hk => ?_, fun k hk => ?_⟩
        · rcases List.mem_append.mp hk with h | h
          · exact k2 k h
          · rw [List.mem_singleton.mp h]
            exact h3
        · rcases List.mem_append.mp hk with h | h
          · exact k3 k h
          · rw [List.mem_singleton.mp h]
            exact ⟨e, hf, hl⟩
      | false => exact ⟨WW.Fr.refl _, ks, rfl, Nat.le_succ_of_le k1, k2, k3⟩
end
end K05

set_option Elab.async false
set_option linter.all false
set_option maxRecDepth 100000
set_option maxHeartbeats 4000000
namespace K05
open PySem PySem.Spec PyProof.Rows L2 WW Wo
section
variable {P : Program} {w : World} {K : PySem.W.Frag} {mg : Str → Option Value} {base : Heap}
def wst0 (n k : Int) (b : Bool) (ppl : Int) (own : List (Str × Int)) (ov : List V) : Wst := ⟨n, k, b, ppl, own, ov, [], [], [], 0, own.map fun o => (o.1, []), own.map fun o => (o.1, [])⟩
def spBegun (ts : List Addr) (K : PySem.W.Frag) : Sp := fun vs H Q _ => ∃ (ppl : Int) (po pd : Addr) (n k : Int) (b : Bool) (ov : List V) (own : List (Str × Int)), vs = [.int ppl, .ref po] ∧ H po = some (.lst ov) ∧ H pd = some (Wo.Dr n k b) ∧
  Paired (fun v p => Dp K H v (.tuple [.str p.1, .int p.2])) ov own ∧ (own.map (·.1)).Nodup ∧ own.length ≤ 10 ∧
  ∀ H' A, WAt K H' A (wst0 n k b ppl own ov) → A .d = pd → A .o = po → WW.Fr ts Nil H H' → (∀ l o, cell A (wst0 n k b ppl own ov) l = some o → A l = pd ∨ A l = po ∨ Nw H (A l)) → Q (.ref (A .w)) H'
theorem sc_begun : FnScope ["people", "owners", "w", "name", "person"] ["people", "owners"] (defScope s_law_begun) := ⟨rfl, rfl, rfl, by decide +kernel, rfl, by decide +kernel, by decide +kernel⟩
theorem k_begun (A : Facts K mg base) (ts : List Addr) : Fk P w K mg base 1 "_law_begun" ["people", "owners"] (spBegun ts K) := by
  refine def_ok (d := d_law_begun) A.f_law_begun rfl A.g_law_begun sc_begun (fun _ _ _ _ _ _ us hl => match us, hl with | [_, _], _ => rfl) (fun vs H Q E h => ?_) (fun A' outer s H vs Q E hr h => ?_)
  · obtain ⟨ppl, po, pd, n, k, b, ov, own, rfl, _⟩ := h
    rfl
  · obtain ⟨ppl, po, pd, n, k, b, ov, own, rfl, hpo, hpd, hov, nd, no, q⟩ := h
    have hz : 2000 < sizeLine := by decide
    have ndo : pd ≠ po := fun z => by
      rw [z, hpo] at hpd
      cases hov with
      | nil => cases hpd
      | cons h1 h2 =>
        cases hpd
        cases h1
    have c0 : Cs H [(.d, pd, Wo.Dr n k b), (.o, po, .lst ov)] := ⟨fun x hx => by
      rcases List.mem_cons.mp hx with rfl | hx
      · exact ⟨hpd, rfl⟩
      · rw [List.mem_singleton.mp hx]
        exact ⟨hpo, rfl⟩, by simp [ndo]⟩
    refine ws_cons (w_set 2 (we_of (pe_disp (pps_cons WW.pe WW.pe (pps_cons WW.pe WW.pe (pps_cons WW.pe pe_dnewT (pps_cons WW.pe pe_dnewT (pps_cons WW.pe WW.pe (pps_cons WW.pe WW.pe pps_nil)))))) rfl rfl (by simp) (by decide)) fun pw hpw => ?_) sc_begun.nd)
    refine we_str (we_var 0 rfl (we_str (we_var 1 rfl (we_str fun pt hpt => we_str fun pm hpm => we_str (we_lst (wa_nil ⟨by show 0 ≤ sizeLine; decide, fun pe hpe => we_str (we_int ?_)⟩))))))
    have c1 := c0.add (l := .w) (o := .dK []) hpw rfl
    have f1 : WW.Fr ts Nil H _ := WW.Fr.new (ts := ts) (m := Nil) (o := .dK []) hpw
    have c2 := c1.add (l := .t) (o := .dT []) hpt rfl
    have n2 := (Nw.of hpt).back f1
    have f2 := f1.trans (WW.Fr.new (ts := ts) (m := Nil) (o := .dT []) hpt)
    have c3 := c2.add (l := .m) (o := .dT []) hpm rfl
    have n3 := (Nw.of hpm).back f2
    have f3 := f2.trans (WW.Fr.new (ts := ts) (m := Nil) (o := .dT []) hpm)
    have c4 := c3.add (l := .e) (o := .lst []) hpe rfl
    have n4 := (Nw.of hpe).back f3
    have f4 := f3.trans (WW.Fr.new (ts := ts) (m := Nil) (o := .lst []) hpe)
    have c5 : Cs _ [(.w, pw, .dK []), (.e, pe, .lst []), (.m, pm, .dT []), (.t, pt, .dT []), (.d, pd, Wo.Dr n k b), (.o, po, .lst ov)] := c4.perm (by
      refine List.Perm.trans (l₂ := (.w, pw, .dK []) :: [(.e, pe, .lst []), (.m, pm, .dT []), (.t, pt, .dT [])] ++ [(.d, pd, Wo.Dr n k b), (.o, po, .lst ov)]) (.refl _) ?_
      exact (List.perm_middle (a := (Lb.w, pw, HO.dK [])) (l₁ := [(.e, pe, .lst []), (.m, pm, .dT []), (.t, pt, .dT [])]) (l₂ := [(.d, pd, Wo.Dr n k b), (.o, po, .lst ov)])).symm)
    refine ⟨(c5.at_ (.w, pw, .dK []) (List.mem_cons_self ..)).1, [(.inr "people", .int ppl), (.inr "owners", .ref po), (.inr "ties", .ref pt), (.inr "marks", .ref pm), (.inr "events", .ref pe), (.inr "signs", .int 0)], rfl, by show 6 ≤ 15; decide, ?_⟩
    rw [show mergeK [] [((.inr "people" : Key), V.int ppl), (.inr "owners", .ref po), (.inr "ties", .ref pt), (.inr "marks", .ref pm), (.inr "events", .ref pe), (.inr "signs", .int 0)] = [((.inr "people" : Key), V.int ppl), (.inr "owners", .ref po), (.inr "ties", .ref pt), (.inr "marks", .ref pm), (.inr "events", .ref pe), (.inr "signs", .int 0)] from rfl]
    have c6 := c5.wr (.dK [((.inr "people" : Key), V.int ppl), (.inr "owners", .ref po), (.inr "ties", .ref pt), (.inr "marks", .ref pm), (.inr "events", .ref pe), (.inr "signs", .int 0)]) rfl
    have f6 := fr_mut f4 (Nw.of hpw) (c5.at_ (.w, pw, .dK []) (List.mem_cons_self ..)).1 rfl (o := .dK [((.inr "people" : Key), V.int ppl), (.inr "owners", .ref po), (.inr "ties", .ref pt), (.inr "marks", .ref pm), (.inr "events", .ref pe), (.inr "signs", .int 0)])
    generalize upd _ pw (.dK [((.inr "people" : Key), V.int ppl), (.inr "owners", .ref po), (.inr "ties", .ref pt), (.inr "marks", .ref pm), (.inr "events", .ref pe), (.inr "signs", .int 0)]) = G at c6 f6 ⊢
    refine ws_cons (w_setD (room_u hr) (we_callTy (call_dictP (by rfl)) A.n_dict rfl (wa_cons (we_of (pe_lcT (own := [("name", 3), ("person", 4)]) (g := gTup K 2 (gCons (gName 3) (gCons (gName 4) gNil))) (tt := tYes) (by rfl) sc_begun.nd (pi_list WW.pe)
      (blkOk_by (own := [("name", 3), ("person", 4)]) (N := ["people", "owners", "w", "name", "person"]) (sc := defScope s_law_begun) (by decide +kernel)) (fun _ _ _ _ _ => pg_tup (by rfl) (pgs_cons (pg_name (i := 3) sc_begun.nd rfl (Or.inl rfl)) (pgs_cons (pg_name (i := 4) sc_begun.nd rfl (Or.inl rfl)) pgs_nil))) (fun _ _ _ _ _ => pts_nil) eb) ?_))))
    have hpoG : G po = some (.lst ov) := (c6.at_ (.o, po, .lst ov) (by simp)).1
    refine we_var 1 rfl ⟨po, rfl, ⟨_, .inl (.inl hpoG)⟩, ?_⟩
    refine lc_by ts own.length (by omega) (fun D i acc Hc => ∃ L : List (Str × Addr × Addr), acc = L.map (fun e => V.ref e.2.1) ∧ NmL G Hc D ((own.take i).map fun o : Str × Int => o.1) L) (fun D Hc _ _ => ⟨[], rfl, ⟨rfl, by simp, by simp⟩⟩) (fun D i acc zs Hc Hc' hd k ⟨L, e, h⟩ => ⟨L, e, h.kp hd k⟩) (fun D acc Hc hD fc hi hd => ?_) (fun D i acc Hc hn hD hd fc hi => ?_) gt2_mono yes_mono eb_mono
    rotate_left
    · obtain ⟨L, rfl, hL⟩ := hi
      obtain ⟨o, ho⟩ : ∃ o, own[i]? = some o := ⟨_, List.getElem?_eq_getElem hn⟩
      obtain ⟨v, hv1, hv2⟩ := paired_get hov i o ho
      obtain ⟨pk, rfl, hsq⟩ := dp_flat (dp_keep (TK.fr (f6.trans fc)) _ _ rfl hv2) (by simp [scalD])
      have hpoC := fc.kp _ _ hpoG (fun z => z) rfl
      refine ⟨⟨_, _, .inl (.inl hpoC), hv1⟩, fun v Hy ⟨eH, hv⟩ => ?_⟩
      subst eH
      have hv := hv _ (.inl (.inl hpoC))
      rw [hv1] at hv
      cases hv
      refine ⟨pk, _, rfl, hsq, rfl, _, _, rfl, _, _, rfl, rfl, rfl, ?_⟩
      show EB _ _ _ _ _ _
      refine fun s1 H5 C1 cl1 fp1 => we_tup (wa_cons (we_var 3 rfl (wa_cons (we_lst (wa_nil ⟨by show 0 ≤ sizeLine; decide, fun q hq => wa_nil ⟨by show 2 ≤ sizeLine; decide, fun t ht => ?_⟩⟩)))))
      refine ⟨(WW.Fr.new hq).trans (WW.Fr.new ht), L ++ [(o.1, t, q)], by rw [List.map_append]; rfl, ?_⟩
      rw [List.take_add_one, ho, List.map_append]
      exact hL.snoc fc hd hq ht
    obtain ⟨L, rfl, hL⟩ := hi
    rw [List.take_length] at hL
    have hpoC := fc.kp _ _ hpoG (fun z => z) rfl
    refine ⟨⟨_, .inl (.inl hpoC), by rw [paired_len hov]; exact Nat.le_refl _⟩, ?_⟩
    have ndL : (L.map (·.1)).Nodup := by rw [hL.nm]; exact nd
    refine wa_nil ⟨D, L.map (·.2.1), L.map (fun e => ((.inr e.1 : Key), V.ref e.2.2)), rfl, .inl (.inl (by rw [List.map_map]; exact hd)), paired_map _ _ L (fun e he => .inl (.inl (hL.at_ e he).1)), fun pb hpb => ?_⟩
    rw [mergeK_nd _ [] (by
      rw [List.nil_append, List.map_map]
      have : ((fun x : Key × V => x.1) ∘ fun e : Str × Addr × Addr => ((.inr e.1 : Key), V.ref e.2.2)) = (fun s : Str => (.inr s : Key)) ∘ (·.1) := rfl
      rw [this, ← List.map_map]
      exact ndL.map _ fun _ _ h z => h (Sum.inr.inj z)), List.nil_append]
    have d1 := c6.app fc (new := L.map fun e => ((.bk e.1 : Lb), e.2.2, HO.lst [])) (fun x hx => by
      obtain ⟨e, he, rfl⟩ := List.mem_map.mp hx
      exact ⟨(hL.at_ e he).2.1, rfl, (hL.at_ e he).2.2.2⟩) (by rw [List.map_map]; exact hL.nd)
    have npb := (Nw.of hpb).back (f6.trans fc)
    have nL : ∀ e ∈ L, Nw H e.2.2 := fun e he => (hL.at_ e he).2.2.2.back f6
    have d2 := d1.add (l := .b) (o := .dK (L.map (fun e => ((.inr e.1 : Key), V.ref e.2.2)))) hpb rfl
    have d3 := d2.perm (List.perm_middle (l₁ := (.b, pb, .dK (L.map (fun e => ((.inr e.1 : Key), V.ref e.2.2)))) :: L.map fun e => ((.bk e.1 : Lb), e.2.2, HO.lst []))).symm
    have g1 := (f6.trans fc).trans (WW.Fr.new (ts := ts) (m := Nil) (o := .dK (L.map (fun e => ((.inr e.1 : Key), V.ref e.2.2)))) hpb)
    refine we_var 2 rfl (we_str ⟨pw, _, rfl, DPut.k (k := .inr "books") (d3.at_ _ (List.mem_cons_self ..)).1 (by show 6 < sizeLine; decide), ?_⟩)
    have c7 := d3.wr (.dK ([((.inr "people" : Key), V.int ppl), (.inr "owners", .ref po), (.inr "ties", .ref pt), (.inr "marks", .ref pm), (.inr "events", .ref pe), (.inr "signs", .int 0), (.inr "books", .ref pb)])) rfl
    have f7 := fr_mut g1 (Nw.of hpw) (d3.at_ _ (List.mem_cons_self ..)).1 rfl (o := .dK ([((.inr "people" : Key), V.int ppl), (.inr "owners", .ref po), (.inr "ties", .ref pt), (.inr "marks", .ref pm), (.inr "events", .ref pe), (.inr "signs", .int 0), (.inr "books", .ref pb)]))
    rw [putK_new _ rfl]
    change WS _ _ _ _ (upd _ pw (.dK ([((.inr "people" : Key), V.int ppl), (.inr "owners", .ref po), (.inr "ties", .ref pt), (.inr "marks", .ref pm), (.inr "events", .ref pe), (.inr "signs", .int 0), (.inr "books", .ref pb)])))
    generalize upd _ pw (.dK ([((.inr "people" : Key), V.int ppl), (.inr "owners", .ref po), (.inr "ties", .ref pt), (.inr "marks", .ref pm), (.inr "events", .ref pe), (.inr "signs", .int 0), (.inr "books", .ref pb)])) = G7 at c7 f7 ⊢

    refine ws_cons (w_setD (room_u hr) (we_callTy (call_dictP (by rfl)) A.n_dict rfl (wa_cons (we_of (pe_lcT (own := [("name", 3), ("person", 4)]) (g := gTup K 2 (gCons (gName 3) (gCons (gName 4) gNil))) (tt := tYes) (by rfl) sc_begun.nd (pi_list WW.pe)
      (blkOk_by (own := [("name", 3), ("person", 4)]) (N := ["people", "owners", "w", "name", "person"]) (sc := defScope s_law_begun) (by decide +kernel)) (fun _ _ _ _ _ => pg_tup (by rfl) (pgs_cons (pg_name (i := 3) sc_begun.nd rfl (Or.inl rfl)) (pgs_cons (pg_name (i := 4) sc_begun.nd rfl (Or.inl rfl)) pgs_nil))) (fun _ _ _ _ _ => pts_nil) eb) ?_))))
    have hpoG : G7 po = some (.lst ov) := (c7.at_ (.o, po, .lst ov) (by simp)).1
    refine we_var 1 rfl ⟨po, rfl, ⟨_, .inl (.inl hpoG)⟩, ?_⟩
    refine lc_by ts own.length (by omega) (fun D i acc Hc => ∃ L : List (Str × Addr × Addr), acc = L.map (fun e => V.ref e.2.1) ∧ NmL G7 Hc D ((own.take i).map fun o : Str × Int => o.1) L) (fun D Hc _ _ => ⟨[], rfl, ⟨rfl, by simp, by simp⟩⟩) (fun D i acc zs Hc Hc' hd k ⟨L, e, h⟩ => ⟨L, e, h.kp hd k⟩) (fun D acc Hc hD fc hi hd => ?_) (fun D i acc Hc hn hD hd fc hi => ?_) gt2_mono yes_mono eb_mono
    rotate_left
    · obtain ⟨L, rfl, hL⟩ := hi
      obtain ⟨o, ho⟩ : ∃ o, own[i]? = some o := ⟨_, List.getElem?_eq_getElem hn⟩
      obtain ⟨v, hv1, hv2⟩ := paired_get hov i o ho
      obtain ⟨pk, rfl, hsq⟩ := dp_flat (dp_keep (TK.fr (f7.trans fc)) _ _ rfl hv2) (by simp [scalD])
      have hpoC := fc.kp _ _ hpoG (fun z => z) rfl
      refine ⟨⟨_, _, .inl (.inl hpoC), hv1⟩, fun v Hy ⟨eH, hv⟩ => ?_⟩
      subst eH
      have hv := hv _ (.inl (.inl hpoC))
      rw [hv1] at hv
      cases hv
      refine ⟨pk, _, rfl, hsq, rfl, _, _, rfl, _, _, rfl, rfl, rfl, ?_⟩
      show EB _ _ _ _ _ _
      refine fun s1 H5 C1 cl1 fp1 => we_tup (wa_cons (we_var 3 rfl (wa_cons (we_lst (wa_nil ⟨by show 0 ≤ sizeLine; decide, fun q hq => wa_nil ⟨by show 2 ≤ sizeLine; decide, fun t ht => ?_⟩⟩)))))
      refine ⟨(WW.Fr.new hq).trans (WW.Fr.new ht), L ++ [(o.1, t, q)], by rw [List.map_append]; rfl, ?_⟩
      rw [List.take_add_one, ho, List.map_append]
      exact hL.snoc fc hd hq ht
    obtain ⟨L2, rfl, hL2⟩ := hi
    rw [List.take_length] at hL2
    have hpoC := fc.kp _ _ hpoG (fun z => z) rfl
    refine ⟨⟨_, .inl (.inl hpoC), by rw [paired_len hov]; exact Nat.le_refl _⟩, ?_⟩
    have ndL2 : (L2.map (·.1)).Nodup := by rw [hL2.nm]; exact nd
    refine wa_nil ⟨D, L2.map (·.2.1), L2.map (fun e => ((.inr e.1 : Key), V.ref e.2.2)), rfl, .inl (.inl (by rw [List.map_map]; exact hd)), paired_map _ _ L2 (fun e he => .inl (.inl (hL2.at_ e he).1)), fun pr hpr => ?_⟩
    rw [mergeK_nd _ [] (by
      rw [List.nil_append, List.map_map]
      have : ((fun x : Key × V => x.1) ∘ fun e : Str × Addr × Addr => ((.inr e.1 : Key), V.ref e.2.2)) = (fun s : Str => (.inr s : Key)) ∘ (·.1) := rfl
      rw [this, ← List.map_map]
      exact ndL2.map _ fun _ _ h z => h (Sum.inr.inj z)), List.nil_append]
    have d1 := c7.app fc (new := L2.map fun e => ((.tr e.1 : Lb), e.2.2, HO.lst [])) (fun x hx => by
      obtain ⟨e, he, rfl⟩ := List.mem_map.mp hx
      exact ⟨(hL2.at_ e he).2.1, rfl, (hL2.at_ e he).2.2.2⟩) (by rw [List.map_map]; exact hL2.nd)
    have npr := (Nw.of hpr).back (f7.trans fc)
    have nL2 : ∀ e ∈ L2, Nw H e.2.2 := fun e he => (hL2.at_ e he).2.2.2.back f7
    have d2 := d1.add (l := .r) (o := .dK (L2.map (fun e => ((.inr e.1 : Key), V.ref e.2.2)))) hpr rfl
    have d3 := d2.perm (List.perm_middle (l₁ := (.r, pr, .dK (L2.map (fun e => ((.inr e.1 : Key), V.ref e.2.2)))) :: L2.map fun e => ((.tr e.1 : Lb), e.2.2, HO.lst []))).symm
    have g1 := (f7.trans fc).trans (WW.Fr.new (ts := ts) (m := Nil) (o := .dK (L2.map (fun e => ((.inr e.1 : Key), V.ref e.2.2)))) hpr)
    refine we_var 2 rfl (we_str ⟨pw, _, rfl, DPut.k (k := .inr "trails") (d3.at_ _ (List.mem_cons_self ..)).1 (by show 7 < sizeLine; decide), ?_⟩)
    have c8 := d3.wr (.dK ([((.inr "people" : Key), V.int ppl), (.inr "owners", .ref po), (.inr "ties", .ref pt), (.inr "marks", .ref pm), (.inr "events", .ref pe), (.inr "signs", .int 0), (.inr "books", .ref pb), (.inr "trails", .ref pr)])) rfl
    have f8 := fr_mut g1 (Nw.of hpw) (d3.at_ _ (List.mem_cons_self ..)).1 rfl (o := .dK ([((.inr "people" : Key), V.int ppl), (.inr "owners", .ref po), (.inr "ties", .ref pt), (.inr "marks", .ref pm), (.inr "events", .ref pe), (.inr "signs", .int 0), (.inr "books", .ref pb), (.inr "trails", .ref pr)]))
    rw [putK_new _ rfl]
    change WS _ _ _ _ (upd _ pw (.dK ([((.inr "people" : Key), V.int ppl), (.inr "owners", .ref po), (.inr "ties", .ref pt), (.inr "marks", .ref pm), (.inr "events", .ref pe), (.inr "signs", .int 0), (.inr "books", .ref pb), (.inr "trails", .ref pr)])))
    generalize upd _ pw (.dK ([((.inr "people" : Key), V.int ppl), (.inr "owners", .ref po), (.inr "ties", .ref pt), (.inr "marks", .ref pm), (.inr "events", .ref pe), (.inr "signs", .int 0), (.inr "books", .ref pb), (.inr "trails", .ref pr)])) = G8 at c8 f8 ⊢

    refine ws_one (w_ret (we_var 2 rfl ?_))
    let Af : Ad := fun l => match l with
      | .d => pd | .o => po | .w => pw | .t => pt | .m => pm | .e => pe | .b => pb | .r => pr
      | .bk n => adr L n | .tr n => adr L2 n | .tie _ => 0
    have names : ∀ {β : Type} (x : β) (M : List (Str × Addr × Addr)), M.map (·.1) = own.map (fun o : Str × Int => o.1) → (own.map fun o => (o.1, x)) = M.map fun e => (e.1, x) := fun {β} x M h => by
      have h1 : (own.map fun o => (o.1, x)) = (own.map fun o : Str × Int => o.1).map fun s => (s, x) := by rw [List.map_map]; rfl
      have h2 : (M.map fun e => (e.1, x)) = (M.map (·.1)).map fun s => (s, x) := by rw [List.map_map]; rfl
      rw [h1, h2, h]
    have look : ∀ {β : Type} (x : β) (M : List (Str × Addr × Addr)), M.map (·.1) = own.map (fun o : Str × Int => o.1) → ∀ n y, findB (own.map fun o => (o.1, x)) n = some y → y = x ∧ ∃ e ∈ M, e.1 = n := fun {β} x M h n y hf => by
      rw [names x M h] at hf
      have := findB_mem hf
      obtain ⟨e, he, hz⟩ := List.mem_map.mp this
      cases hz
      exact ⟨rfl, e, he, rfl⟩
    obtain ⟨cs, hcs, c9⟩ : ∃ cs, cs = _ ∧ Cs G8 cs := ⟨_, rfl, c8⟩
    have hcell : ∀ l o, cell Af (wst0 n k b ppl own ov) l = some o → (l, Af l, o) ∈ cs := fun l o hl => by
      rw [hcs]
      cases l with
      | d => cases hl; simp [Af, wst0]
      | w => cases hl; exact List.mem_cons_self ..
      | o => cases hl; simp [Af, wst0]
      | t => cases hl; simp [Af, tD, wst0]
      | m => cases hl; simp [Af, mD, wst0]
      | e => cases hl; simp [Af, wst0]
      | b =>
        cases hl
        have : bD (fun n => Af (.bk n)) (wst0 n k b ppl own ov).books = L.map (fun e => ((.inr e.1 : Key), V.ref e.2.2)) := by
          show bD (adr L) (own.map fun o => (o.1, [])) = _
          rw [names [] L hL.nm, bD_adr _ ndL]
        rw [this]
        simp [Af]
      | r =>
        cases hl
        have : bD (fun n => Af (.tr n)) (wst0 n k b ppl own ov).trails = L2.map (fun e => ((.inr e.1 : Key), V.ref e.2.2)) := by
          show bD (adr L2) (own.map fun o => (o.1, [])) = _
          rw [names [] L2 hL2.nm, bD_adr _ ndL2]
        rw [this]
        simp [Af]
      | tie j => cases hl
      | bk j =>
        obtain ⟨y, h1, h2⟩ := Option.map_eq_some_iff.mp (show (findB (own.map fun o => (o.1, ([] : List (V × PyData)))) j).map (fun rs => HO.lst (rs.map (·.1))) = some o from hl)
        obtain ⟨rfl, e, he, rfl⟩ := look [] L hL.nm j y h1
        cases h2
        have ha : Af (.bk e.1) = e.2.2 := adr_mem ndL e he
        rw [ha]
        have hm : ((.bk e.1 : Lb), e.2.2, HO.lst []) ∈ L.map fun e => ((.bk e.1 : Lb), e.2.2, HO.lst []) := List.mem_map.mpr ⟨e, he, rfl⟩
        exact List.mem_cons_of_mem _ (List.mem_append_right _ (List.mem_append_left _ (List.mem_cons_of_mem _ hm)))
      | tr j =>
        obtain ⟨y, h1, h2⟩ := Option.map_eq_some_iff.mp (show (findB (own.map fun o => (o.1, ([] : List V))) j).map HO.lst = some o from hl)
        obtain ⟨rfl, e, he, rfl⟩ := look [] L2 hL2.nm j y h1
        cases h2
        have ha : Af (.tr e.1) = e.2.2 := adr_mem ndL2 e he
        rw [ha]
        have hm : ((.tr e.1 : Lb), e.2.2, HO.lst []) ∈ L2.map fun e => ((.tr e.1 : Lb), e.2.2, HO.lst []) := List.mem_map.mpr ⟨e, he, rfl⟩
        exact List.mem_cons_of_mem _ (List.mem_append_left _ (List.mem_cons_of_mem _ hm))
    refine q G8 Af (c9.world hcell (by simp [wst0]) (paired_keep (TK.fr f8) hov) rfl (fun m rs hm => ?_)) rfl rfl f8 (fun l o hl => ?_)
    · obtain ⟨e, _, hz⟩ := List.mem_map.mp (show (m, rs) ∈ own.map fun o => (o.1, ([] : List (V × PyData))) from hm)
      cases hz
      rfl
    · cases l with
      | d => exact .inl rfl
      | o => exact .inr (.inl rfl)
      | w => exact .inr (.inr (Nw.of hpw))
      | t => exact .inr (.inr n2)
      | m => exact .inr (.inr n3)
      | e => exact .inr (.inr n4)
      | b => exact .inr (.inr npb)
      | r => exact .inr (.inr npr)
      | tie j => cases hl
      | bk j =>
        obtain ⟨y, h1, h2⟩ := Option.map_eq_some_iff.mp (show (findB (own.map fun o => (o.1, ([] : List (V × PyData)))) j).map (fun rs => HO.lst (rs.map (·.1))) = some o from hl)
        obtain ⟨rfl, e, he, rfl⟩ := look [] L hL.nm j y h1
        have ha : Af (.bk e.1) = e.2.2 := adr_mem ndL e he
        rw [ha]
        exact .inr (.inr (nL e he))
      | tr j =>
        obtain ⟨y, h1, h2⟩ := Option.map_eq_some_iff.mp (show (findB (own.map fun o => (o.1, ([] : List V))) j).map HO.lst = some o from hl)
        obtain ⟨rfl, e, he, rfl⟩ := look [] L2 hL2.nm j y h1
        have ha : Af (.tr e.1) = e.2.2 := adr_mem ndL2 e he
        rw [ha]
        exact .inr (.inr (nL2 e he))
end
end K05

set_option Elab.async false
set_option linter.all false
set_option maxRecDepth 100000
set_option maxHeartbeats 4000000
namespace K05
open PySem PySem.Spec PyProof.Rows L2 WW Wo
def ownN : List Str → Nat → List (Str × Int)
  | [], _ => []
  | x :: r, k => (x, (k : Int)) :: ownN r (k + 1)
theorem ownN_get : ∀ (xs : List Str) (k i : Nat), (ownN xs k)[i]? = xs[i]?.map fun x => (x, ((k + i : Nat) : Int))
  | [], k, i => by simp [ownN]
  | x :: r, k, 0 => rfl
  | x :: r, k, i + 1 => by
    show (ownN r (k + 1))[i]? = _
    rw [ownN_get r (k + 1) i]
    show Option.map _ r[i]? = Option.map _ r[i]?
    rw [show k + 1 + i = k + (i + 1) from by omega]
theorem ownN_len : ∀ (xs : List Str) (k : Nat), (ownN xs k).length = xs.length
  | [], _ => rfl
  | _ :: r, k => congrArg (· + 1) (ownN_len r (k + 1))
theorem ownN_names : ∀ (xs : List Str) (k : Nat), (ownN xs k).map (·.1) = xs
  | [], _ => rfl
  | x :: r, k => congrArg (x :: ·) (ownN_names r (k + 1))
theorem ownN_find : ∀ (xs : List Str) (k : Nat) (x : Str), x ∈ xs → ∃ i, findB (ownN xs k) x = some i
  | [], _, _, h => by cases h
  | y :: r, k, x, h => by
    unfold findB ownN
    rw [List.find?_cons]
    by_cases e : y = x
    · rw [decide_eq_true e]
      exact ⟨_, rfl⟩
    · rw [decide_eq_false e]
      rcases List.mem_cons.mp h with h | h
      · exact absurd h.symm e
      · exact ownN_find r (k + 1) x h
theorem paired_snoc {α β : Type} {R : α → β → Prop} : ∀ {l1 : List α} {l2 : List β}, Paired R l1 l2 → ∀ {a : α} {b : β}, R a b → Paired R (l1 ++ [a]) (l2 ++ [b])
  | _, _, .nil, _, _, h => .cons h .nil
  | _, _, .cons r t, _, _, h => .cons r (paired_snoc t h)
/-- what is kept true of the worlds that are drawn: after c moves -/
structure GenI (names : List Str) (WI : Nat → Wst → Prop) : Prop where
  start : ∀ n k b ppl ov, 2 ≤ ppl → WI 0 (wst0 n k b ppl (ownN names 0) ov)
  own : ∀ {c S}, WI c S → S.own = ownN names 0
  drw : ∀ {c S}, WI c S → ∀ n k, WI c (dr S n k)
  un : ∀ {c S e n k v S'}, c ≤ 29 → WI c S → UnOk S e → DoR (dr S n k) v e S' → WI (c + 1) S' ∧ S'.dk = k
  pre : ∀ {c S}, c ≤ 29 → WI c S → 0 ≤ S.dk → S.dk ≤ 800000 → UnPre S
  wok : ∀ {c S u}, WI c S → c ≤ 29 → WayW S u → PyData.strOk u = true
  er : ∀ {c S m x way e n k}, c ≤ 29 → WI c S → findB S.own m = some x → (∀ u ∈ way, WayW S u) → way.length ≤ 4 → ErOk S m x way e → DoPre (sgE (dr S n k) e) (.letter m way e)
  lt : ∀ {c S m x way e n k v S'}, c ≤ 29 → WI c S → findB S.own m = some x → (∀ u ∈ way, WayW S u) → way.length ≤ 4 → ErOk S m x way e → DoR (sgE (dr S n k) e) v (.letter m way e) S' → WI (c + 1) S' ∧ S'.dk = k
/-- a world that grew from the heap H, of which the draws at pd alone were -/
structure Og (K : PySem.W.Frag) (ts : List Addr) (pd pw : Addr) (H Hc : Hp) (a : Ad) (S : Wst) : Prop where
  wat : WAt K Hc a S
  d : a .d = pd
  w : a .w = pw
  fr : WW.Fr ts (fun x => x = pd) H Hc
  new : ∀ l o, cell a S l = some o → a l = pd ∨ Nw H (a l)
theorem Og.step {K : PySem.W.Frag} {ts : List Addr} {pd pw : Addr} {H Hc H2 : Hp} {a a2 : Ad} {S S2 : Wst} (g : Og K ts pd pw H Hc a S) (s : Stp K ts a S Hc a2 S2 H2) : Og K ts pd pw H H2 a2 S2 := by
  have nw : ∀ x u, H x = some u → x ≠ pd → nt u = true → ¬ Wm a S x := fun x u hx hp ht ⟨l, o, e, z⟩ => by
    rcases g.new l o e with h | h
    · exact hp (z.symm.trans h)
    · have := h u (by rw [z]; exact hx)
      rw [ht] at this
      cases this
  refine ⟨s.wat, ((s.ext .d _ rfl).1).trans g.d, ((s.ext .w _ rfl).1).trans g.w, ⟨fun x u hx hp ht => s.fr.kp x u (g.fr.kp x u hx hp ht) (nw x u hx hp ht) ht, fun h => s.fr.tb (g.fr.tb h)⟩, fun l o e => ?_⟩
  rcases s.new l o e with ⟨o1, e1⟩ | h
  · rw [(s.ext l o1 e1).1]
    exact g.new l o1 e1
  · by_cases hp : a2 l = pd
    · exact .inl hp
    · refine .inr fun u hu => ?_
      cases ht : nt u with
      | false => rfl
      | true =>
        have := h u (g.fr.kp _ u hu hp ht)
        rw [ht] at this
        exact this
section
variable {P : Program} {w : World} {K : PySem.W.Frag} {mg : Str → Option Value} {base : Heap}
def spWorld (names : List Str) (WI : Nat → Wst → Prop) (ts : List Addr) (K : PySem.W.Frag) : Sp := fun vs H Q _ => ∃ (pd pn : Addr) (n k : Int) (b : Bool) (ls : Int), vs = [.ref pd, .ref pn, .int ls] ∧ H pd = some (Wo.Dr n k b) ∧ H pn = some (.lst (names.map V.str)) ∧ 0 ≤ k ∧ k ≤ 500000 ∧ 0 ≤ ls ∧ ls ≤ 10 ∧
  ∀ H' A S c, WAt K H' A S → A .d = pd → WI c S → k ≤ S.dk → S.dk ≤ k + 1000 → WW.Fr ts (fun a => a = pd) H H' → (∀ l o, cell A S l = some o → A l = pd ∨ Nw H (A l)) → Q (.ref (A .w)) H'
theorem sc_world : FnScope ["draws", "owners", "letters", "people", "w", "k", "name", "way"] ["draws", "owners", "letters"] (defScope s_law_world) := ⟨rfl, rfl, rfl, by decide +kernel, rfl, by decide +kernel, by decide +kernel⟩
theorem k_world (names : List Str) (WI : Nat → Wst → Prop) (gi : GenI names WI) (hn1 : 1 ≤ names.length) (hn3 : names.length ≤ 3) (hnd : names.Nodup) (A : Facts K mg base) (ts : List Addr) : Fk P w K mg base 5 "_law_world" ["draws", "owners", "letters"] (spWorld names WI ts K) := by
  refine def_ok (d := d_law_world) A.f_law_world rfl A.g_law_world sc_world (fun _ _ _ _ _ _ us hl => match us, hl with | [_, _, _], _ => rfl) (fun vs H Q E h => ?_) (fun A' outer s H vs Q E hr h => ?_)
  · obtain ⟨pd, pn, n, k, b, ls, rfl, _⟩ := h
    rfl
  · obtain ⟨pd, pn, n, k, b, ls, rfl, hpd, hpn, k0, k1, l0, l1, q⟩ := h
    have hz : 2000 < sizeLine := by decide
    have ndn : pd ≠ pn := fun z => by
      rw [z, hpn] at hpd
      cases names with
      | nil => cases hpd
      | cons x r => cases hpd
    refine ws_cons (w_set 3 (we_bin op_add (we_callB (call_max2 (by rfl)) A.n_max rfl (wa_cons (we_int ?_)))) sc_world.nd)
    refine wa_cons (we_callB call_len_seq A.n_len rfl (wa_cons (we_var 1 rfl (wa_nil ⟨pn, _, rfl, .inl (.inl (.inl hpn)), ?_⟩))))
    rw [List.length_map]
    refine wa_nil ⟨2, _, rfl, ?_⟩
    refine we_bin op_modB (we_f (k_next A) hr (wa_cons (we_var 0 rfl (wa_nil ⟨pd, n, k, b, rfl, hpd, k0, by omega, fun r n' r0 r1 => ?_⟩))))
    refine we_int ⟨r, 4, rfl, rfl, by decide, fun z z0 z1 => ⟨_, z, rfl, rfl, ?_⟩⟩
    have hpp : (2 : Int) ≤ (if ((names.length : Nat) : Int) > 2 then ((names.length : Nat) : Int) else 2) + z := by split <;> omega
    obtain ⟨ppl, hppl⟩ : ∃ ppl, ppl = (if ((names.length : Nat) : Int) > 2 then ((names.length : Nat) : Int) else 2) + z := ⟨_, rfl⟩
    rw [← hppl] at hpp
    have g0 : WW.Fr ts (fun a => a = pd) H (upd H pd (K05.Dr n' (k + 1) b)) := WW.Fr.write rfl hpd rfl
    have hpd1 : upd H pd (K05.Dr n' (k + 1) b) pd = some (Wo.Dr n' (k + 1) b) := upd_same
    have hpn1 : upd H pd (K05.Dr n' (k + 1) b) pn = some (.lst (names.map V.str)) := by rw [upd_ne ndn.symm]; exact hpn
    generalize upd H pd _ = G at g0 hpd1 hpn1 ⊢
    refine ws_cons (w_set 4 (we_f (k_begun A ts) hr (wa_cons (we_var 3 rfl (wa_cons (we_of (pe_lcT (own := [("k", 5), ("name", 6)]) (g := gTup K 2 (gCons (gName 5) (gCons (gName 6) gNil))) (tt := tYes) (by rfl) sc_world.nd (pi_enum rfl A.n_enumerate pa)
      (blkOk_by (own := [("k", 5), ("name", 6)]) (N := ["draws", "owners", "letters", "people", "w", "k", "name", "way"]) (sc := defScope s_law_world) (by decide +kernel)) (fun _ _ _ _ _ => pg_tup (by rfl) (pgs_cons (pg_name (i := 5) sc_world.nd rfl (Or.inl rfl)) (pgs_cons (pg_name (i := 6) sc_world.nd rfl (Or.inl rfl)) pgs_nil))) (fun _ _ _ _ _ => pts_nil) eb) ?_))))) sc_world.nd)
    refine wa_cons (we_var 1 rfl (wa_nil ⟨pn, _, rfl, .inl (.inl hpn1), ?_⟩))
    refine lc_by ts names.length (by omega) (fun D i acc Hc => Paired (fun v (p : Str × Int) => Dp K Hc v (.tuple [.str p.1, .int p.2])) acc ((ownN names 0).take i)) (fun D Hc _ _ => .nil) (fun D i acc zs Hc Hc' hd kp h => L2.Paired.mapP h fun v o q => ?_) (fun D acc Hc hD fc hi hd => ?_) (fun D i acc Hc hn hD hd fc hi => ?_) gt2_mono yes_mono eb_mono
    · obtain ⟨p, rfl, hs⟩ := dp_flat q (by simp [scalD])
      refine (td_flat (ds := [.str o.1, .int o.2]) (p := p) ?_ (by simp [scalD])).is
      rcases hs with (h | ⟨ob, h⟩) | h
      · exact .inl (.inl (kp _ _ (fun z => by rw [z, hd] at h; cases h) h))
      · exact .inl (.inr ⟨ob, kp _ _ (fun z => by rw [z, hd] at h; cases h) h⟩)
      · exact .inr h
    rotate_left
    · obtain ⟨x, hx⟩ : ∃ x, names[i]? = some x := ⟨_, List.getElem?_eq_getElem hn⟩
      have hpnC := fc.kp _ _ hpn1 (fun z => z) rfl
      have hx' : (names.map V.str)[i]? = some (.str x) := by rw [List.getElem?_map, hx]; rfl
      refine ⟨⟨_, _, .inl (.inl hpnC), hx'⟩, fun v Hy ⟨T, y, h1, h2, h3, h4⟩ => ?_⟩
      have h4 := h4 _ (.inl (.inl hpnC))
      rw [hx'] at h4
      cases h4
      subst h1 h3
      refine ⟨T, _, rfl, .inl (.inl upd_same), rfl, _, _, rfl, _, _, rfl, rfl, rfl, ?_⟩
      show EB _ _ _ _ _ _
      refine fun s1 H5 C1 cl1 fp1 => we_tup (wa_cons (we_var 6 rfl (wa_cons (we_var 5 rfl (wa_nil ⟨by show 2 ≤ sizeLine; decide, fun t ht => ?_⟩)))))
      have fz := (WW.Fr.new (ts := ts) (m := Nil) (o := .tup [.int (i : Nat), .str x]) h2).trans (WW.Fr.new (ts := ts) (m := Nil) (o := .tup [.str x, .int (i : Nat)]) ht)
      refine ⟨fz, ?_⟩
      have hg : (ownN names 0)[i]? = some (x, ((i : Nat) : Int)) := by rw [ownN_get, hx, Option.map_some, Nat.zero_add]
      rw [List.take_add_one, hg]
      exact paired_snoc (paired_keep (TK.fr fz) hi) (td_flat (ds := [.str x, .int (i : Nat)]) (.inl (.inl upd_same)) (by simp [scalD])).is
    rw [← ownN_len names 0, List.take_length] at hi
    have hpnC := fc.kp _ _ hpn1 (fun z => z) rfl
    refine ⟨⟨_, .inl (.inl hpnC), by rw [List.length_map]; exact Nat.le_refl _⟩, ?_⟩
    refine wa_nil ⟨ppl, D, pd, n', k + 1, b, acc, ownN names 0, by rw [hppl], hd, fc.kp _ _ hpd1 (fun z => z) rfl, hi, by rw [ownN_names]; exact hnd, by rw [ownN_len]; omega, fun H1 a W hAd hAo f1 hnew => ?_⟩
    have nD : Nw H D := fun u hu => by
      cases ht : nt u with
      | false => rfl
      | true =>
        exfalso
        by_cases hdp : D = pd
        · rw [hdp, hpd1] at hD
          cases hD
        · have := g0.kp D u hu hdp ht
          rw [hD] at this
          cases this
    have g1 : WW.Fr ts (fun a => a = pd) H H1 := (g0.trans (fc.mono fun _ z => z.elim)).trans (f1.mono fun _ z => z.elim)
    have wi0 := gi.start n' (k + 1) b ppl acc hpp
    have new0 : ∀ l o, cell a (wst0 n' (k + 1) b ppl (ownN names 0) acc) l = some o → a l = pd ∨ Nw H (a l) := fun l o e => by
      rcases hnew l o e with h | h | h
      · exact .inl h
      · exact .inr (by rw [h]; exact nD)
      · refine .inr fun u hu => ?_
        cases ht : nt u with
        | false => rfl
        | true =>
          by_cases hap : a l = pd
          · have e1 := fc.kp _ _ hpd1 (fun z => z) rfl
            rw [hap] at h
            exact absurd (show true = false from h _ e1) (by decide)
          · have := h u (fc.kp _ _ (g0.kp _ u hu hap ht) (fun z => z) ht)
            rw [ht] at this
            exact this
    have og : Og K ts pd (a .w) H H1 a (wst0 n' (k + 1) b ppl (ownN names 0) acc) := ⟨W, hAd, rfl, g1, new0⟩
    have hmn : (2 : Int) ^ 62 = 4611686018427387904 := by decide
    refine ws_cons (w_for (pi_range1 rfl A.n_range pa) (pg_name (i := 5) sc_world.nd rfl (Or.inl rfl)) (by rfl) (wa_cons (we_bin op_add (we_int ?_))))
    refine we_bin op_modB (we_f (k_next A) hr (wa_cons (we_var 0 rfl (wa_nil ⟨pd, n', k + 1, b, rfl, by have := W.at_ .d _ rfl; rw [hAd] at this; exact this, by omega, by omega, fun r2 n2 r20 r21 => ?_⟩))))
    have st1 : Stp K ts a _ H1 a (dr (wst0 n' (k + 1) b ppl (ownN names 0) acc) n2 (k + 1 + 1)) (upd H1 (a .d) (Wo.Dr n2 (k + 1 + 1) b)) := Stp.draw W n2 (k + 1 + 1) b
    rw [hAd] at st1
    change WE _ _ _ (upd H1 pd (Wo.Dr n2 (k + 1 + 1) b)) _
    have og := og.step st1
    have wi0 := gi.drw wi0 n2 (k + 1 + 1)
    generalize upd H1 pd _ = H2 at og ⊢
    refine we_int ⟨r2, 6, rfl, rfl, by decide, fun m m0 m1 => ⟨2, m, rfl, rfl, wa_nil ⟨2 + m, rfl, by omega, by omega, ?_⟩⟩⟩
    refine for_by (2 + m).toNat (fun i σ Hc => ∃ (a2 : Ad) (S2 : Wst) (o5 o6 o7 : Option V), σ = [some (.ref pd), some (.ref pn), some (.int ls), some (.int ppl), some (.ref (a .w)), o5, o6, o7] ∧ Og K ts pd (a .w) H Hc a2 S2 ∧ WI i S2 ∧ k + 2 ≤ S2.dk ∧ S2.dk ≤ k + 2 + 5 * i) ⟨a, _, none, none, none, by rw [hppl]; rfl, og, wi0, by show k + 2 ≤ k + 1 + 1; omega, by show k + 1 + 1 ≤ _; omega⟩ (fun σ Hc hi => ?_) (fun i σ Hc hn hi => ?_)
    rotate_left
    · obtain ⟨a2, S2, o5, o6, o7, rfl, og2, wi2, lo, hi2⟩ := hi
      refine ⟨hn, fun v Hy ⟨eH, hv⟩ => ?_⟩
      subst eH
      refine ws_one (w_expr (we_f (k_unseen A ts) hr (wa_cons (we_var 0 rfl (wa_cons (we_var 4 rfl (wa_nil ⟨a2, S2, by rw [og2.d, og2.w], og2.wat, gi.pre (by omega) wi2 (by omega) (by omega), fun H4 a4 n4 k4 v4 e4 S4 st4 kl kh hun hdo => ?_⟩)))))))
      obtain ⟨w4, d4⟩ := gi.un (by omega) wi2 hun hdo
      exact ⟨a4, S4, _, o6, o7, rfl, og2.step st4, w4, by omega, by omega⟩
    obtain ⟨a2, S2, o5, o6, o7, rfl, og2, wi2, lo, hi2⟩ := hi
    refine ⟨Nat.le_refl _, ?_⟩
    have c7 : (2 + m).toNat ≤ 7 := by omega
    refine ws_cons (w_for (pi_range1 rfl A.n_range pa) (pg_name (i := 5) sc_world.nd rfl (Or.inl rfl)) (by rfl) (wa_cons (we_var 2 rfl (wa_nil ⟨ls, rfl, by omega, by omega, ?_⟩))))
    refine for_by ls.toNat (fun i σ Hc => ∃ (a2 : Ad) (S2 : Wst) (c : Nat) (o5 o6 o7 : Option V), σ = [some (.ref pd), some (.ref pn), some (.int ls), some (.int ppl), some (.ref (a .w)), o5, o6, o7] ∧ Og K ts pd (a .w) H Hc a2 S2 ∧ WI c S2 ∧ c ≤ 7 + 2 * i ∧ k + 2 ≤ S2.dk ∧ S2.dk ≤ k + 40 + 20 * i) ⟨a2, S2, _, o5, o6, o7, rfl, og2, wi2, by omega, lo, by omega⟩ (fun σ Hc hi => ?_) (fun i σ Hc hn hi => ?_)
    · obtain ⟨a3, S3, c, o5, o6, o7, rfl, og3, wi3, hc, lo3, hi3⟩ := hi
      refine ⟨Nat.le_refl _, ?_⟩
      refine ws_one (w_ret (we_var 4 rfl ?_))
      have := q Hc a3 S3 c og3.wat og3.d wi3 (by omega) (by omega) og3.fr og3.new
      rw [og3.w] at this
      exact this
    obtain ⟨a3, S3, c, o5, o6, o7, rfl, og3, wi3, hc, lo3, hi3⟩ := hi
    refine ⟨hn, fun v Hy ⟨eH, hv⟩ => ?_⟩
    subst eH
    subst hv
    have dat : ∀ {Hz : Hp} {az : Ad} {Sz : Wst}, Og K ts pd (a .w) H Hz az Sz → Hz pd = some (Wo.Dr Sz.dn Sz.dk Sz.db) := fun {Hz az Sz} g => by
      have := g.wat.at_ .d _ rfl
      rw [g.d] at this
      exact this
    have drw : ∀ {Hz : Hp} {az : Ad} {Sz : Wst}, Og K ts pd (a .w) H Hz az Sz → ∀ n, Og K ts pd (a .w) H (upd Hz pd (Wo.Dr n (Sz.dk + 1) Sz.db)) az (dr Sz n (Sz.dk + 1)) := fun {Hz az Sz} g n => by
      have := Stp.draw (ts := ts) g.wat n (Sz.dk + 1) Sz.db
      rw [g.d] at this
      exact g.step this
    refine ws_seq (fun σ' Hc' => ∃ (a4 : Ad) (S4 : Wst) (c4 : Nat), σ' = [some (.ref pd), some (.ref pn), some (.int ls), some (.int ppl), some (.ref (a .w)), some (.int (0 + (i : Int))), o6, o7] ∧ Og K ts pd (a .w) H Hc' a4 S4 ∧ WI c4 S4 ∧ c4 ≤ 8 + 2 * i ∧ k + 2 ≤ S4.dk ∧ S4.dk ≤ k + 46 + 20 * i) ?_ fun σ' Hc' ⟨a4, S4, c4, hσ, og4, wi4, hc4, lo4, hi4⟩ => ?_
    · refine w_if0 (wt_cmp op_eqi rfl (we_bin op_modB (we_f (k_next A) hr (wa_cons (we_var 0 rfl (wa_nil ⟨pd, _, _, _, rfl, dat og3, by omega, by omega, fun r5 n5 r50 r51 => ?_⟩))))))
      have og5 := drw og3 n5
      have wi5 := gi.drw wi3 n5 (S3.dk + 1)
      change WE _ _ _ (upd Hy pd (Wo.Dr n5 (S3.dk + 1) S3.db)) _
      generalize upd Hy pd _ = H5 at og5 ⊢
      refine we_int ⟨r5, 4, rfl, rfl, by decide, fun z z0 z1 => we_int ⟨z, 0, rfl, rfl, _, rfl, ?_⟩⟩
      by_cases hz0 : z = 0
      · rw [if_pos (decide_eq_true hz0)]
        refine ws_one (w_expr (we_f (k_unseen A ts) hr (wa_cons (we_var 0 rfl (wa_cons (we_var 4 rfl (wa_nil ⟨a3, _, by rw [og5.d, og5.w], og5.wat, gi.pre (by omega) wi5 (by show 0 ≤ S3.dk + 1; omega) (by show S3.dk + 1 ≤ _; omega), fun H6 a6 n6 k6 v6 e6 S6 st6 kl kh hun hdo => ?_⟩)))))))
        obtain ⟨w6, d6⟩ := gi.un (by omega) wi5 hun hdo
        have kl : S3.dk + 1 ≤ k6 := kl
        have kh : k6 ≤ S3.dk + 1 + 5 := kh
        exact ⟨a6, S6, c + 1, rfl, og5.step st6, w6, by omega, by omega, by omega⟩
      · rw [if_neg (by rw [decide_eq_false hz0]; decide)]
        exact ⟨a3, _, c, rfl, og5, wi5, by omega, by show k + 2 ≤ S3.dk + 1; omega, by show S3.dk + 1 ≤ _; omega⟩
    subst hσ
    have hpn4 := og4.fr.kp _ _ hpn (fun z => ndn z.symm) rfl
    -- whose letter
    refine ws_cons (w_set 6 (we_ix ix_list (we_var 1 rfl (we_bin op_modB (we_f (k_next A) hr (wa_cons (we_var 0 rfl (wa_nil ⟨pd, _, _, _, rfl, dat og4, by omega, by omega, fun r5 n5 r50 r51 => ?_⟩))))))) sc_world.nd)
    have og5 := drw og4 n5
    have wi5 := gi.drw wi4 n5 (S4.dk + 1)
    change WE _ _ _ (upd Hc' pd (Wo.Dr n5 (S4.dk + 1) S4.db)) _
    generalize upd Hc' pd _ = H5 at og5 ⊢
    have hpn5 := og5.fr.kp _ _ hpn (fun z => ndn z.symm) rfl
    refine we_callB call_len_seq A.n_len rfl (wa_cons (we_var 1 rfl (wa_nil ⟨pn, _, rfl, .inl (.inl (.inl hpn5)), r5, _, rfl, rfl, by rw [List.length_map]; omega, fun z z0 z1 => ?_⟩)))
    obtain ⟨x, hx1, hx2⟩ := atI_some names z z0 z1
    refine ⟨pn, _, z, .str x, rfl, rfl, .inl (.inl hpn5), hx2, ?_⟩
    obtain ⟨px, hpx⟩ := ownN_find names 0 x hx1
    have own5 : (dr S4 n5 (S4.dk + 1)).own = ownN names 0 := gi.own wi5
    have fx : findB (dr S4 n5 (S4.dk + 1)).own x = some px := by rw [own5]; exact hpx
    have pr5 := gi.pre (by omega) wi5 (by show 0 ≤ S4.dk + 1; omega) (by show S4.dk + 1 ≤ _; omega)
    -- the way
    refine ws_cons (w_set 7 (we_f (k_way A ts) hr (wa_cons (we_var 0 rfl (wa_cons (we_var 4 rfl ?_))))) sc_world.nd)
    refine wa_cons (we_f (k_person A ts) hr (wa_cons (we_var 4 rfl (wa_cons (we_var 6 rfl (wa_nil ⟨a4, _, x, px, by rw [og5.w], og5.wat, pr5.nd, pr5.no, fx, fun H6 f6 => ?_⟩))))))
    refine wa_cons (we_int (wa_nil ⟨a4, _, px, 4, by rw [og5.d, og5.w], og5.wat.fr f6, pr5.wo, by show 0 ≤ S4.dk + 1; omega, by show S4.dk + 1 ≤ _; omega, by decide, by decide, fun H7 n7 k7 pwy way st7 k70 k71 hwl hww hws => ?_⟩))
    have k70 : S4.dk + 1 ≤ k7 := k70
    have k71 : k7 ≤ S4.dk + 1 + 1 + 4 := k71
    have og7 := og5.step ((Stp.beside og5.wat f6).trans st7)
    have wi7 := gi.drw wi5 n7 k7
    have pr7 := gi.pre (by omega) wi7 (by show 0 ≤ k7; omega) (by show k7 ≤ _; omega)
    have hwl4 : way.length ≤ 4 := hwl
    -- the letter
    refine ws_one (w_expr (we_f (k_do A ts) hr (wa_cons (we_var 4 rfl (wa_cons (we_tup ?_))))))
    refine wa_cons (we_str ?_)
    refine wa_cons (we_var 6 rfl ?_)
    refine wa_cons (we_var 7 rfl ?_)
    refine wa_cons (we_f (k_errand A ts) hr (wa_cons (we_var 0 rfl ?_)))
    refine wa_cons (we_var 4 rfl ?_)
    refine wa_cons (we_var 6 rfl ?_)
    refine wa_cons (we_var 7 rfl ?_)
    refine wa_nil ⟨a4, _, x, px, pwy, way, by rw [og7.d, og7.w], og7.wat, pr7.wo, pr7.d0, by show k7 ≤ _; omega, pr7.nd, pr7.no, fx, pr7.nm, hws, by omega, fun u hu => gi.wok wi7 (by omega) (hww u hu), fun H8 n8 k8 per er st8 k80 k81 hok hper => ?_⟩
    have k80 : k7 ≤ k8 := k80
    have k81 : k8 ≤ k7 + 3 := k81
    have og8 := og7.step st8
    refine wa_nil ⟨by show 4 ≤ sizeLine; decide, fun pe hpe => ?_⟩
    have f9 : WW.Fr ts Nil H8 (upd H8 pe (.tup [.str "letter", .str x, .ref pwy, .ref per])) := WW.Fr.new hpe
    have hws9 := (TK.fr f9).sqt ((st8.tkk og7.wat).sqt hws)
    have hper9 := (TK.fr f9).sqt hper
    have td : Td K (upd H8 pe (.tup [.str "letter", .str x, .ref pwy, .ref per])) (.ref pe, evD (.letter x way er)) := by
      have t1 := td_strs hws9
      have t2 := td_flat hper9 (er_scal er)
      refine ⟨.tup (.inl (.inl upd_same)) (.cons (.str _) (.cons (.str _) (.cons t1.is (.cons t2.is .nil)))), ?_⟩
      have h1 : tupd (.tuple (way.map .str)) = true := t1.tp
      have h2 : tupd (.tuple (erL er)) = true := t2.tp
      show tupds [.str "letter", .str x, .tuple (way.map .str), .tuple (erL er)] = true
      simp only [tupds, h1, h2]
      rfl
    have og9 := og8.step (Stp.beside og8.wat f9)
    have dp := gi.er (n := n8) (k := k8) (by omega) wi7 fx hww hwl4 hok
    refine wa_nil ⟨a4, _, pe, .letter x way er, by rw [og9.w], og9.wat, td, dp, fun H10 a10 S10 st10 hdo => ?_⟩
    obtain ⟨w10, d10⟩ := gi.lt (by omega) wi7 fx hww hwl4 hok hdo
    exact ⟨a10, S10, c4 + 1, _, _, _, rfl, og9.step st10, w10, by omega, by omega, by omega⟩
end
end K05

set_option Elab.async false
set_option linter.all false
set_option maxRecDepth 100000
set_option maxHeartbeats 4000000
namespace K05
open PySem PySem.Spec PyProof.Rows L2 WW Wo
/-! what is kept true of the drawn worlds -/
inductive Rw where
  | met (b : Str) (s : Int)
  | lost (way : List Str) (e : Er) (bk : List Str)
  | came (way : List Str) (e : Er) (bk : List Str) (d : PyData)
def rwD : Rw → PyData
  | .met b s => metD b s
  | .lost way e bk => rowD way e (lostD bk)
  | .came way e bk d => rowD way e (cameD bk d)
def erClaim : Er → Option (Bool × Int)
  | .leave m => some (false, m)
  | .meet s => some (true, s)
  | _ => none
def claim : Rw → Option (Bool × Int)
  | .met _ s => some (true, s)
  | .lost _ e _ => erClaim e
  | .came _ e _ _ => erClaim e
inductive ThingOk : Er → PyData → Prop
  | walk : ThingOk .walk .none
  | list (ws : List Str) : ws.Nodup → sortedS ws = true → (∀ u ∈ ws, u ∈ allW) → ws.length ≤ 60 → ThingOk .list (.tuple (ws.map .str))
  | leave (m : Int) : ThingOk (.leave m) .none
  | look (m : Int) (b : Bool) : ThingOk (.look m) (.bool b)
  | self (u v : Str) : ThingOk (.tie u v) (.str "self")
  | tie (u v : Str) : u ∈ allW → v ∈ allW → ThingOk (.tie u v) (.tuple [.str u, .str v])
  | part : ThingOk .part .none
  | mnone (s : Int) : ThingOk (.meet s) .none
  | mself (s : Int) : ThingOk (.meet s) (.str "self")
  | met (s : Int) : ThingOk (.meet s) (.str "met")
def ErNum : Er → Prop
  | .leave m => 0 ≤ m ∧ m ≤ 999
  | .look m => 0 ≤ m ∧ m ≤ 999
  | .meet s => 0 ≤ s ∧ s ≤ 999
  | _ => True
def RwOk : Rw → Prop
  | .met b s => b ∈ allW ∧ 0 ≤ s ∧ s ≤ 999
  | .lost way e bk => (∀ u ∈ way, u ∈ allW) ∧ (∀ u ∈ bk, u ∈ allW) ∧ bk.length < way.length ∧ way.length ≤ 4 ∧ ErNum e
  | .came way e bk d => (∀ u ∈ way, u ∈ allW) ∧ (∀ u ∈ bk, u ∈ allW) ∧ bk.length = way.length ∧ way.length ≤ 4 ∧ ErNum e ∧ ThingOk e d ∧ (e = .part → way ≠ [])
def Held (S : Wst) (n : Str) : Bool × Int → Prop
  | (false, m) => m ∈ leftM S n
  | (true, s) => s ≤ S.sg
structure BkOk (S : Wst) (n : Str) (rws : List Rw) : Prop where
  ok : ∀ r ∈ rws, RwOk r
  nd : (rws.filterMap claim).Nodup
  bd : ∀ c ∈ rws.filterMap claim, Held S n c
structure WI (names : List Str) (c : Nat) (S : Wst) : Prop where
  own : S.own = ownN names 0
  nt : S.ties.length ≤ 2 * c
  nk : (S.ties.map (·.k)).Nodup
  wd : ∀ e ∈ S.ties, WordIn S.ties.length e.k.2 ∧ WordIn S.ties.length e.v
  par : ∀ e ∈ S.ties, ∃ f, findT S.ties (e.y, e.v) = some f
  ne : S.ev.length ≤ c
  nm : S.marks.length ≤ c
  pp : 2 ≤ S.ppl
  sg : 0 ≤ S.sg ∧ S.sg ≤ c
  mkk : ∀ p ∈ S.marks, p.2 = .non ∨ ∃ i, p.2 = .int i
  mb : ∀ n m, m ∈ leftM S n → 10 ≤ m ∧ m ≤ 10 * ((leftM S n).length : Int)
  bks : ∀ o ∈ names, ∃ rs qs rws, findB S.books o = some rs ∧ findB S.trails o = some qs ∧ rs.length ≤ c ∧ qs.length ≤ c ∧ rs.map (·.2) = rws.map rwD ∧ BkOk S o rws
section
variable {names : List Str} {c : Nat} {S : Wst}
theorem WI.words (h : WI names c S) (hc : c ≤ 30) : WordsOk S := ⟨by have := h.nt; omega, fun e he => (h.wd e he).1⟩
theorem WI.all (h : WI names c S) (hc : c ≤ 30) {e : Tie} (he : e ∈ S.ties) : e.k.2 ∈ allW ∧ e.v ∈ allW := by
  have := h.nt
  exact ⟨(h.wd e he).1.mem (by omega), (h.wd e he).2.mem (by omega)⟩
theorem WI.way (h : WI names c S) (hc : c ≤ 30) {u : Str} (hu : WayW S u) : u ∈ allW := by
  rcases hu with rfl | ⟨e, he, rfl⟩
  · decide +kernel
  · exact (h.all hc he).1
theorem findB_own (o : Str) (x : List (V × PyData)) (names : List Str) (k : Nat) (h : o ∈ names) : findB ((ownN names k).map fun p => (p.1, x)) o = some x := by
  induction names generalizing k with
  | nil => cases h
  | cons y r ih =>
    unfold findB ownN
    rw [List.map_cons, List.find?_cons]
    by_cases e : y = o
    · rw [decide_eq_true e]
      rfl
    · rw [decide_eq_false e]
      rcases List.mem_cons.mp h with h | h
      · exact absurd h.symm e
      · exact ih (k + 1) h
theorem findB_own2 (o : Str) (x : List V) (names : List Str) (k : Nat) (h : o ∈ names) : findB ((ownN names k).map fun p => (p.1, x)) o = some x := by
  induction names generalizing k with
  | nil => cases h
  | cons y r ih =>
    unfold findB ownN
    rw [List.map_cons, List.find?_cons]
    by_cases e : y = o
    · rw [decide_eq_true e]
      rfl
    · rw [decide_eq_false e]
      rcases List.mem_cons.mp h with h | h
      · exact absurd h.symm e
      · exact ih (k + 1) h
theorem WI.start (n k : Int) (b : Bool) (ppl : Int) (ov : List V) (hp : 2 ≤ ppl) : WI names 0 (wst0 n k b ppl (ownN names 0) ov) :=
  ⟨rfl, Nat.le_refl _, List.nodup_nil, by simp [wst0], by simp [wst0], Nat.le_refl _, Nat.le_refl _, hp, ⟨Int.le_refl _, Int.le_refl _⟩, by simp [wst0], by simp [wst0, leftM], fun o ho => ⟨[], [], [], findB_own o [] names 0 ho, findB_own2 o [] names 0 ho, Nat.le_refl _, Nat.le_refl _, rfl, ⟨by simp, by simp, by simp⟩⟩⟩
theorem WI.drw (h : WI names c S) (n k : Int) : WI names c (dr S n k) := ⟨h.own, h.nt, h.nk, h.wd, h.par, h.ne, h.nm, h.pp, h.sg, h.mkk, h.mb, fun o ho => by
  obtain ⟨rs, qs, rws, h1, h2, h3, h4, h5, h6⟩ := h.bks o ho
  exact ⟨rs, qs, rws, h1, h2, h3, h4, h5, ⟨h6.ok, h6.nd, h6.bd⟩⟩⟩
theorem WI.pre (h : WI names c S) (hc : c ≤ 29) (hn : names.length ≤ 3) (hnd : names.Nodup) (d0 : 0 ≤ S.dk) (d1 : S.dk ≤ 800000) : UnPre S :=
  ⟨by have := h.ne; omega, h.words (by omega), by rw [h.own, ownN_len]; omega, by rw [h.own, ownN_names]; exact hnd, by have := h.nm; omega, h.pp, d0, d1, h.par⟩
theorem WI.wok (h : WI names c S) (hc : c ≤ 29) {u : Str} (hu : WayW S u) : PyData.strOk u = true := (allW_ok u (h.way (by omega) hu)).1
end
end K05

set_option Elab.async false
set_option linter.all false
set_option maxRecDepth 100000
set_option maxHeartbeats 4000000
namespace K05
open PySem PySem.Spec PyProof.Rows L2 WW Wo
theorem len_dead (k : Int × Str) (ts : List Tie) : (dead k ts).length = ts.length := by unfold dead; rw [List.length_map]
theorem mem_dead {k : Int × Str} {ts : List Tie} {e : Tie} (h : e ∈ dead k ts) : ∃ e0 ∈ ts, e.k = e0.k ∧ e.y = e0.y ∧ e.v = e0.v := by
  obtain ⟨e0, h0, rfl⟩ := List.mem_map.mp h
  refine ⟨e0, h0, ?_⟩
  split <;> exact ⟨rfl, rfl, rfl⟩
/-- what must be kept true of the ties -/
structure TsOk (ts : List Tie) : Prop where
  nk : (ts.map (·.k)).Nodup
  wd : ∀ e ∈ ts, WordIn ts.length e.k.2 ∧ WordIn ts.length e.v
  par : ∀ e ∈ ts, ∃ f, findT ts (e.y, e.v) = some f
theorem WI.ts {names : List Str} {c : Nat} {S : Wst} (h : WI names c S) : TsOk S.ties := ⟨h.nk, h.wd, h.par⟩
theorem TsOk.dead {ts : List Tie} (h : TsOk ts) (k : Int × Str) : TsOk (dead k ts) := by
  refine ⟨by rw [nd_dead]; exact h.nk, fun e he => ?_, fun e he => ?_⟩ <;> obtain ⟨e0, h0, h1, h2, h3⟩ := mem_dead he
  · rw [len_dead, h1, h3]
    exact h.wd e0 h0
  · obtain ⟨f, hf⟩ := h.par e0 h0
    rw [h2, h3, find_dead, hf]
    exact ⟨_, rfl⟩
theorem TsOk.tie {ts : List Tie} (h : TsOk ts) {x y : Int} {u v : Str} (h1 : findT ts (x, u) = none) (h2 : findT ts (y, v) = none) (ne : (x, u) ≠ (y, v)) (wu : WordIn (ts.length + 2) u) (wv : WordIn (ts.length + 2) v) :
    TsOk (ts ++ [⟨(x, u), y, v, true⟩, ⟨(y, v), x, u, true⟩]) := by
  have e0 : ts ++ [⟨(x, u), y, v, true⟩, ⟨(y, v), x, u, true⟩] = (ts ++ [⟨(x, u), y, v, true⟩]) ++ [⟨(y, v), x, u, true⟩] := by rw [List.append_assoc]; rfl
  have h2' : findT (ts ++ [⟨(x, u), y, v, true⟩]) (y, v) = none := by
    rw [findT_snoc _ _ _ h1, if_neg fun z => ne z.symm]
    exact h2
  have fk : ∀ k, findT (ts ++ [⟨(x, u), y, v, true⟩, ⟨(y, v), x, u, true⟩]) k = if k = (y, v) then some ⟨(y, v), x, u, true⟩ else if k = (x, u) then some ⟨(x, u), y, v, true⟩ else findT ts k := fun k => by
    rw [e0, findT_snoc _ _ _ h2', findT_snoc _ _ _ h1]
  have ln : (ts ++ [⟨(x, u), y, v, true⟩, ⟨(y, v), x, u, true⟩] : List Tie).length = ts.length + 2 := by rw [List.length_append]; rfl
  refine ⟨?_, fun e he => ?_, fun e he => ?_⟩
  · rw [e0, List.map_append]
    refine nd_snoc ?_ fun hm => ?_
    · rw [List.map_append]
      refine nd_snoc h.nk fun hm => ?_
      obtain ⟨e, he, hk⟩ := List.mem_map.mp hm
      exact findT_none h1 e he hk
    · obtain ⟨e, he, hk⟩ := List.mem_map.mp hm
      exact findT_none h2' e he hk
  · rw [ln]
    rcases List.mem_append.mp he with he | he
    · exact ⟨(h.wd e he).1.mono (by omega), (h.wd e he).2.mono (by omega)⟩
    · rcases List.mem_cons.mp he with rfl | he
      · exact ⟨wu, wv⟩
      · rw [List.mem_singleton.mp he]
        exact ⟨wv, wu⟩
  · rw [fk]
    rcases List.mem_append.mp he with he | he
    · obtain ⟨f, hf⟩ := h.par e he
      split
      · exact ⟨_, rfl⟩
      · split
        · exact ⟨_, rfl⟩
        · exact ⟨f, hf⟩
    · rcases List.mem_cons.mp he with rfl | he
      · exact ⟨_, if_pos rfl⟩
      · rw [List.mem_singleton.mp he]
        exact ⟨⟨(x, u), y, v, true⟩, by rw [if_neg ne, if_pos rfl]⟩
section
variable {names : List Str} {c : Nat} {S : Wst}
theorem WI.moved (h : WI names c S) (n k : Int) (p : V × PyData) {ts : List Tie} (ht : TsOk ts) (hl : ts.length ≤ S.ties.length + 2) : WI names (c + 1) { dr S n k with ev := S.ev ++ [p], ties := ts } :=
  ⟨h.own, by have := h.nt; show ts.length ≤ 2 * (c + 1); omega, ht.nk, ht.wd, ht.par, by show (S.ev ++ [p]).length ≤ c + 1; rw [List.length_append]; exact Nat.succ_le_succ h.ne, Nat.le_succ_of_le h.nm, h.pp, ⟨h.sg.1, by have := h.sg.2; show S.sg ≤ ((c + 1 : Nat) : Int); omega⟩, h.mkk, h.mb, fun o ho => by
    obtain ⟨rs, qs, rws, h1, h2, h3, h4, h5, h6⟩ := h.bks o ho
    exact ⟨rs, qs, rws, h1, h2, Nat.le_succ_of_le h3, Nat.le_succ_of_le h4, h5, ⟨h6.ok, h6.nd, h6.bd⟩⟩⟩
theorem WI.un {e : Ev} {n k : Int} {v : V} {S' : Wst} (h : WI names c S) (hu : UnOk S e) (hd : DoR (dr S n k) v e S') : WI names (c + 1) S' ∧ S'.dk = k := by
  cases hd with
  | born x u y v' =>
    obtain ⟨h1, h2, h3, h4, h5, h6, h7, h8, h9⟩ := hu
    refine ⟨h.moved n k _ (h.ts.tie h1 h2 (fun z => h3 (by injection z)) h8 h9) ?_, rfl⟩
    rw [List.length_append]
    exact Nat.le_refl _
  | gone x u e he =>
    refine ⟨h.moved n k _ ((h.ts.dead (x, u)).dead (e.y, e.v)) ?_, rfl⟩
    rw [len_dead, len_dead]
    exact Nat.le_add_right _ _
  | calm => cases hu
  | lost => cases hu
  | came => cases hu
end
end K05

set_option Elab.async false
set_option linter.all false
set_option maxRecDepth 100000
set_option maxHeartbeats 4000000
namespace K05
open PySem PySem.Spec PyProof.Rows L2 WW Wo
structure GoF (ts : List Tie) (way : List Str) (g : List Int × List Str × Bool) : Prop where
  tl : g.1.length = g.2.1.length + 1
  ca : g.2.2 = true → g.2.1.length = way.length
  lo : g.2.2 = false → g.2.1.length < way.length
  bw : ∀ b ∈ g.2.1, ∃ e ∈ ts, e.v = b
  la : g.2.2 = true → way ≠ [] → ∃ x u f, g.1[g.1.length - 2]? = some x ∧ 2 ≤ g.1.length ∧ way.getLast? = some u ∧ findT ts (x, u) = some f
theorem goF (ts : List Tie) : ∀ (way : List Str) (x : Int), GoF ts way (goP ts x way)
  | [], x => ⟨rfl, fun _ => rfl, fun h => (by cases h), fun b hb => (by cases hb), fun _ h => absurd rfl h⟩
  | u :: r, x => by
    cases hf : findT ts (x, u) with
    | none =>
      rw [goP_dead fun e he => by rw [hf] at he; cases he]
      exact ⟨rfl, fun h => (by cases h), fun _ => Nat.succ_pos _, fun b hb => (by cases hb), fun h => (by cases h)⟩
    | some e =>
      cases hl : e.l with
      | false =>
        rw [goP_dead fun e' he => by rw [hf] at he; cases he; exact hl]
        exact ⟨rfl, fun h => (by cases h), fun _ => Nat.succ_pos _, fun b hb => (by cases hb), fun h => (by cases h)⟩
      | true =>
        rw [goP_live hf hl]
        have ih := goF ts r e.y
        refine ⟨congrArg (· + 1) ih.tl, fun h => congrArg (· + 1) (ih.ca h), fun h => Nat.succ_lt_succ (ih.lo h), fun b hb => ?_, fun h _ => ?_⟩
        · rcases List.mem_cons.mp hb with rfl | hb
          · exact ⟨e, (findT_k hf).2, rfl⟩
          · exact ih.bw b hb
        · cases r with
          | nil => exact ⟨x, u, e, rfl, Nat.le_refl _, rfl, hf⟩
          | cons u2 r2 =>
            obtain ⟨x2, u3, f, h1, h2, h3, h4⟩ := ih.la h (by simp)
            refine ⟨x2, u3, f, ?_, Nat.le_succ_of_le h2, by rw [← h3]; rfl, h4⟩
            show (x :: (goP ts e.y (u2 :: r2)).1)[(goP ts e.y (u2 :: r2)).1.length + 1 - 2]? = some x2
            rw [show (goP ts e.y (u2 :: r2)).1.length + 1 - 2 = ((goP ts e.y (u2 :: r2)).1.length - 2) + 1 from by omega, List.getElem?_cons_succ]
            exact h1
theorem ownN_ge : ∀ (names : List Str) (k : Nat), ∀ o ∈ ownN names k, (k : Int) ≤ o.2
  | [], _, o, h => by cases h
  | y :: r, k, o, h => by
    rcases List.mem_cons.mp h with rfl | h
    · exact Int.le_refl _
    · have := ownN_ge r (k + 1) o h
      omega
theorem ownN_mem {names : List Str} {k : Nat} {o : Str × Int} (h : o ∈ ownN names k) : o.1 ∈ names := by
  have h2 : o.1 ∈ (ownN names k).map (·.1) := List.mem_map.mpr ⟨o, h, rfl⟩
  rw [ownN_names] at h2
  exact h2
theorem own_others : ∀ (names : List Str) (k : Nat) (m : Str) (x : Int), names.Nodup → findB (ownN names k) m = some x → ((ownN names k).filter fun o => decide (o.2 = x)).map (·.1) = [m]
  | [], _, _, _, _, h => by cases h
  | y :: r, k, m, x, nd, h => by
    obtain ⟨n1, n2⟩ := List.nodup_cons.mp nd
    unfold findB ownN at h
    rw [List.find?_cons] at h
    show ((((y, (k : Int)) :: ownN r (k + 1)).filter fun o => decide (o.2 = x)).map (·.1)) = [m]
    rw [List.filter_cons]
    by_cases e : y = m
    · rw [decide_eq_true e] at h
      have hx : (k : Int) = x := by injection h
      rw [if_pos (decide_eq_true hx)]
      have : (ownN r (k + 1)).filter (fun o => decide (o.2 = x)) = [] := List.filter_eq_nil_iff.mpr fun o ho => by
        have := ownN_ge r (k + 1) o ho
        simp only [decide_eq_true_eq]
        omega
      rw [this, e]
      rfl
    · rw [decide_eq_false e] at h
      have h' : findB (ownN r (k + 1)) m = some x := h
      have hx : ¬ (k : Int) = x := fun z => by
        have := ownN_ge r (k + 1) _ (findB_mem h')
        omega
      rw [if_neg (by rw [decide_eq_false hx]; decide)]
      exact own_others r (k + 1) m x n2 h'
theorem mem_putK {κ : Type} [DecidableEq κ] {l : List (κ × V)} {k : κ} {v : V} {p : κ × V} (h : p ∈ putK l k v) : p ∈ l ∨ p.2 = v := by
  unfold putK at h
  split at h
  · obtain ⟨q, hq, rfl⟩ := List.mem_map.mp h
    split
    · exact .inr rfl
    · exact .inl hq
  · rcases List.mem_append.mp h with h | h
    · exact .inl h
    · rw [List.mem_singleton.mp h]
      exact .inr rfl
theorem len_putK {κ : Type} [DecidableEq κ] (l : List (κ × V)) (k : κ) (v : V) : (putK l k v).length ≤ l.length + 1 := by
  unfold putK
  split
  · rw [List.length_map]
    exact Nat.le_succ _
  · rw [List.length_append]
    exact Nat.le_refl _
theorem sgE_f (S : Wst) (e : Er) : (sgE S e).ties = S.ties ∧ (sgE S e).own = S.own ∧ (sgE S e).marks = S.marks ∧ (sgE S e).books = S.books ∧ (sgE S e).trails = S.trails ∧ (sgE S e).ev = S.ev ∧ (sgE S e).dk = S.dk ∧ (sgE S e).ppl = S.ppl := by
  cases e <;> exact ⟨rfl, rfl, rfl, rfl, rfl, rfl, rfl, rfl⟩
section
variable {names : List Str} {c : Nat} {S : Wst}
theorem WI.er {m : Str} {x : Int} {way : List Str} {e : Er} {n k : Int} (h : WI names c S) (hc : c ≤ 29) (hn : names.length ≤ 3) (hnd : names.Nodup) (hns : ∀ y ∈ names, PyData.strOk y = true) (hx : findB S.own m = some x) (hl : way.length ≤ 4) (hok : ErOk S m x way e) :
    DoPre (sgE (dr S n k) e) (.letter m way e) := by
  obtain ⟨t1, t2, t3, t4, t5, t6, _, _⟩ := sgE_f (dr S n k) e
  have hm : m ∈ names := by
    have := findB_mem hx
    rw [h.own] at this
    exact ownN_mem this
  have bks : ∀ o ∈ names, Bk (sgE (dr S n k) e) o := fun o ho => by
    obtain ⟨rs, qs, rws, h1, h2, h3, h4, _, _⟩ := h.bks o ho
    exact ⟨rs, qs, by rw [t4]; exact h1, by rw [t5]; exact h2, by omega, by omega⟩
  refine ⟨by rw [t6]; have := h.ne; show S.ev.length ≤ _; omega, by rw [t1]; have := h.nt; show S.ties.length ≤ _; omega, by rw [t2]; show S.own.length ≤ _; rw [h.own, ownN_len]; omega, by rw [t2]; show (S.own.map _).Nodup; rw [h.own, ownN_names]; exact hnd, by rw [t3]; have := h.nm; show S.marks.length ≤ _; omega, bks m hm, by omega, x, by rw [t2]; exact hx, ?_⟩
  rw [t1]
  show (goP S.ties x way).2.2 = true → _
  intro hcame v
  have gf := goF S.ties way x
  obtain ⟨r0, hr0⟩ := goP_head S.ties x way
  obtain ⟨b1, b2, b3, b4⟩ := mk2_bk (evS (sgE (dr S n k) e) v (.letter m way e)) m e
  have hties : (mk2 (evS (sgE (dr S n k) e) v (.letter m way e)) m e).ties = S.ties := b4.trans t1
  have hown : (mk2 (evS (sgE (dr S n k) e) v (.letter m way e)) m e).own = S.own := b3.trans t2
  have hmk : ∀ p ∈ (mk2 (evS (sgE (dr S n k) e) v (.letter m way e)) m e).marks, p ∈ S.marks ∨ p.2 = .non := fun p hp => by
    cases e <;> first | exact .inl hp | exact mem_putK hp
  have hml : (mk2 (evS (sgE (dr S n k) e) v (.letter m way e)) m e).marks.length ≤ S.marks.length + 1 := by
    cases e <;> first | exact Nat.le_succ _ | exact len_putK _ _ _
  show SeenPre _ m (goP S.ties x way).1 (goP S.ties x way).2.1 way e
  refine ⟨⟨_, _, hr0⟩, by rw [hties]; have := h.nt; omega, by rw [hown, h.own, ownN_len]; omega, fun p hp => ?_, by have := h.nm; omega, ⟨hns m hm, fun o ho => ?_⟩, fun u v' x0 he h0 hne => ?_, fun he => ?_, fun s he => ?_⟩
  · rcases hmk p hp with h1 | h1
    · exact h.mkk p h1
    · exact .inl h1
  · rw [hown, h.own] at ho
    exact hns _ (ownN_mem ho)
  · subst he
    rw [hties]
    rw [hr0] at h0
    cases h0
    exact ⟨hok.2.1, hok.2.2.1⟩
  · subst he
    rw [hties]
    obtain ⟨x', u', f, g1, g2, g3, g4⟩ := gf.la hcame hok.2
    obtain ⟨f2, hf2⟩ := h.par f (findT_k g4).2
    exact ⟨x', u', f, f2, g1, g2, g3, g4, hf2⟩
  · subst he
    have ho : others (mk2 (evS (sgE (dr S n k) (.meet s)) v (.letter m way (.meet s))) m (.meet s)) (lastI (goP S.ties x way).1) = others S (lastI (goP S.ties x way).1) := rfl
    rw [ho]
    cases hoth : others S (lastI (goP S.ties x way).1) with
    | nil => exact .inr (.inl rfl)
    | cons o r =>
      by_cases hw : way = []
      · refine .inl ?_
        rw [← hoth]
        subst hw
        show others S x = [m]
        unfold others
        rw [h.own]
        rw [h.own] at hx
        exact own_others names 0 m x hnd hx
      · refine .inr (.inr ?_)
        have hb : (goP S.ties x way).2.1 ≠ [] := fun z => by
          have := gf.ca hcame
          rw [z] at this
          exact hw (List.length_eq_zero_iff.mp this.symm)
        have hon : o ∈ names := by
          have : o ∈ others S (lastI (goP S.ties x way).1) := by rw [hoth]; exact List.mem_cons_self ..
          unfold others at this
          obtain ⟨p, hp, rfl⟩ := List.mem_map.mp this
          have hp := (List.mem_filter.mp hp).1
          rw [h.own] at hp
          exact ownN_mem hp
        obtain ⟨rs, qs, rws, h1, h2, h3, h4, _, _⟩ := h.bks o hon
        obtain ⟨b, hb2⟩ : ∃ b, (goP S.ties x way).2.1.getLast? = some b := by
          cases q : (goP S.ties x way).2.1.getLast? with
          | none => exact absurd (List.getLast?_eq_none_iff.mp q) hb
          | some b => exact ⟨b, rfl⟩
        exact ⟨o, r, b, rs, qs, rfl, hb2, h1, h2, by omega, by omega⟩
end
end K05

set_option Elab.async false
set_option linter.all false
set_option maxRecDepth 100000
set_option maxHeartbeats 4000000
namespace K05
open PySem PySem.Spec PyProof.Rows L2 WW Wo
theorem leftM_keys (S : Wst) (n : Str) : leftM S n = ((S.marks.map (·.1)).filter fun e => decide (e.1 = n)).map (·.2) := by
  unfold leftM
  rw [List.filter_map, List.map_map]
  rfl
theorem leftM_congr {S S' : Wst} (h : S'.marks.map (·.1) = S.marks.map (·.1)) (n : Str) : leftM S' n = leftM S n := by rw [leftM_keys, leftM_keys, h]
theorem putK_keys {κ : Type} [DecidableEq κ] {l : List (κ × V)} {k : κ} (v : V) {u : V} (h : valV l k = some u) : (putK l k v).map (·.1) = l.map (·.1) := by
  unfold putK
  rw [valV_any, h]
  show (l.map fun kv => if kv.1 = k then (kv.1, v) else kv).map (·.1) = _
  rw [List.map_map]
  refine List.map_congr_left fun e _ => ?_
  show (if e.1 = k then (e.1, v) else e).1 = e.1
  split <;> rfl
theorem valV_left {S : Wst} {n : Str} {m : Int} (h : m ∉ leftM S n) : valV S.marks (n, m) = none := by
  cases q : valV S.marks (n, m) with
  | none => rfl
  | some u =>
    exfalso
    have := valV_in q
    obtain ⟨e, he, hk⟩ := List.mem_map.mp this
    refine h ?_
    unfold leftM
    exact List.mem_map.mpr ⟨e, List.mem_filter.mpr ⟨he, by rw [hk]; exact decide_eq_true rfl⟩, by rw [hk]⟩
theorem leftM_new {S : Wst} {n : Str} {m : Int} (v : V) (h : m ∉ leftM S n) (o : Str) : leftM { S with marks := putK S.marks (n, m) v } o = leftM S o ++ (if n = o then [m] else []) := by
  unfold leftM
  show ((putK S.marks (n, m) v).filter _).map _ = _
  rw [putK_new _ (valV_left h), List.filter_append, List.map_append]
  show _ ++ List.map _ (List.filter _ [((n, m), v)]) = _
  rw [List.filter_cons]
  by_cases e : n = o
  · rw [if_pos (decide_eq_true e), if_pos e]
    rfl
  · rw [if_neg (by rw [decide_eq_false e]; decide), if_neg e]
    rfl
section
variable {names : List Str} {c : Nat} {S : Wst}
/-- the world ahead of what the letter sees: all that was claimed is old -/
structure Mid (names : List Str) (c : Nat) (S S1 : Wst) (m : Str) (e : Er) : Prop where
  wi : WI names (c + 1) S1
  nt : S1.ties.length ≤ 2 * c
  bks : ∀ o ∈ names, ∃ rs qs rws, findB S1.books o = some rs ∧ findB S1.trails o = some qs ∧ rs.length ≤ c ∧ qs.length ≤ c ∧ rs.map (·.2) = rws.map rwD ∧ BkOk S o rws
  cl : ∀ x, erClaim e = some x → Held S1 m x ∧ ∀ o, ((∃ y, x = (true, y)) ∨ o = m) → ¬ Held S o x
  ld : ∀ o x, Held S o x → Held S1 o x
theorem Held.mono {S S1 : Wst} (h1 : ∀ o m, m ∈ leftM S o → m ∈ leftM S1 o) (h2 : S.sg ≤ S1.sg) : ∀ o x, Held S o x → Held S1 o x
  | o, (false, m), h => h1 o m h
  | o, (true, s), h => Int.le_trans h h2
theorem WI.mid {m : Str} {x : Int} {way : List Str} {e : Er} {n k : Int} {v : V} (h : WI names c S) (hok : ErOk S m x way e) : Mid names c S (mk2 (evS (sgE (dr S n k) e) v (.letter m way e)) m e) m e := by
  have base : ∀ (S1 : Wst), S1.own = S.own → S1.ties = S.ties → S1.ppl = S.ppl → S1.books = S.books → S1.trails = S.trails → S1.ev.length ≤ c + 1 → S1.marks.length ≤ c + 1 → (S.sg ≤ S1.sg ∧ S1.sg ≤ S.sg + 1) → (∀ p ∈ S1.marks, p.2 = .non ∨ ∃ i, p.2 = .int i) →
      (∀ n m, m ∈ leftM S1 n → 10 ≤ m ∧ m ≤ 10 * ((leftM S1 n).length : Int)) → (∀ o m, m ∈ leftM S o → m ∈ leftM S1 o) →
      (∀ x, erClaim e = some x → Held S1 m x ∧ ∀ o, ((∃ y, x = (true, y)) ∨ o = m) → ¬ Held S o x) → Mid names c S S1 m e := fun S1 a1 a2 a3 a4 a5 a6 a7 a8 a9 a10 a11 a12 => by
    have ld := Held.mono a11 a8.1
    refine ⟨⟨a1.trans h.own, by rw [a2]; have := h.nt; omega, by rw [a2]; exact h.nk, by rw [a2]; exact h.wd, by rw [a2]; exact h.par, a6, a7, by rw [a3]; exact h.pp, ⟨by have := h.sg.1; have := a8.1; omega, by have := h.sg.2; have := a8.2; show S1.sg ≤ ((c + 1 : Nat) : Int); omega⟩, a9, a10, fun o ho => ?_⟩, by rw [a2]; exact h.nt, fun o ho => by rw [a4, a5]; exact h.bks o ho, a12, ld⟩
    rw [a4, a5]
    obtain ⟨rs, qs, rws, h1, h2, h3, h4, h5, h6⟩ := h.bks o ho
    exact ⟨rs, qs, rws, h1, h2, Nat.le_succ_of_le h3, Nat.le_succ_of_le h4, h5, ⟨h6.ok, h6.nd, fun x hx => ld o x (h6.bd x hx)⟩⟩
  have evl : (S.ev ++ [(v, evD (.letter m way e))]).length ≤ c + 1 := by rw [List.length_append]; exact Nat.succ_le_succ h.ne
  have same : ∀ (S1 : Wst), S1 = { dr S n k with ev := S.ev ++ [(v, evD (.letter m way e))] } → erClaim e = none → Mid names c S S1 m e := fun S1 hS hc => by
    subst hS
    exact base _ rfl rfl rfl rfl rfl evl (Nat.le_succ_of_le h.nm) ⟨Int.le_refl _, by show S.sg ≤ S.sg + 1; omega⟩ h.mkk h.mb (fun _ _ h => h) fun x hx => by rw [hc] at hx; cases hx
  cases e with
  | walk => exact same _ rfl rfl
  | list => exact same _ rfl rfl
  | look a => exact same _ rfl rfl
  | tie a b => exact same _ rfl rfl
  | part => exact same _ rfl rfl
  | leave a =>
    have hnew : a ∉ leftM S m := fun hm => by
      have := (h.mb m a hm).2
      have hok : a = 10 * (1 + ((leftM S m).length : Int)) := hok
      omega
    have hL : ∀ o, leftM (mk2 (evS (sgE (dr S n k) (.leave a)) v (.letter m way (.leave a))) m (.leave a)) o = leftM S o ++ (if m = o then [a] else []) := fun o => leftM_new (S := evS (dr S n k) v (.letter m way (.leave a))) .non hnew o
    refine base _ rfl rfl rfl rfl rfl evl ?_ ⟨Int.le_refl _, by show S.sg ≤ S.sg + 1; omega⟩ (fun p hp => ?_) (fun o b hb => ?_) (fun o b hb => ?_) fun x hx => ?_
    · have := len_putK S.marks (m, a) .non
      have := h.nm
      show (putK S.marks (m, a) .non).length ≤ c + 1
      omega
    · rcases mem_putK (show p ∈ putK S.marks (m, a) .non from hp) with h1 | h1
      · exact h.mkk p h1
      · exact .inl h1
    · rw [hL] at hb ⊢
      have hok : a = 10 * (1 + ((leftM S m).length : Int)) := hok
      rw [List.length_append]
      rcases List.mem_append.mp hb with hb | hb
      · have := h.mb o b hb
        omega
      · by_cases e : m = o
        · rw [if_pos e] at hb ⊢
          rw [List.mem_singleton.mp hb]
          subst e
          show 10 ≤ a ∧ a ≤ 10 * (((leftM S m).length + 1 : Nat) : Int)
          omega
        · rw [if_neg e] at hb
          cases hb
    · rw [hL]
      exact List.mem_append_left _ hb
    · cases hx
      refine ⟨?_, fun o ho => ?_⟩
      · show a ∈ leftM _ m
        rw [hL, if_pos rfl]
        exact List.mem_append_right _ (List.mem_singleton.mpr rfl)
      · rcases ho with ⟨_, z⟩ | z
        · cases z
        · rw [z]
          exact hnew
  | meet s =>
    have hok : s = S.sg + 1 := hok
    refine base _ rfl rfl rfl rfl rfl evl (Nat.le_succ_of_le h.nm) ⟨by show S.sg ≤ S.sg + 1; omega, Int.le_refl _⟩ h.mkk h.mb (fun _ _ h => h) fun x hx => ?_
    cases hx
    refine ⟨by show s ≤ S.sg + 1; omega, fun o _ hh => ?_⟩
    have hh : s ≤ S.sg := hh
    omega
end
end K05

set_option Elab.async false
set_option linter.all false
set_option maxRecDepth 100000
set_option maxHeartbeats 4000000
namespace K05
open PySem PySem.Spec PyProof.Rows L2 WW Wo
theorem nd_snoc2 {α : Type} {l : List α} {a : α} (h : l.Nodup) (n : ¬ a ∈ l) : (l ++ [a]).Nodup := List.nodup_append.mpr ⟨h, by simp, fun x hx y hy z => n (by rw [List.mem_singleton.mp hy] at z; rw [← z]; exact hx)⟩
section
variable {names : List Str} {c : Nat} {S : Wst}
theorem WI.ties (h : WI names c S) {ts : List Tie} (ht : TsOk ts) (hl : ts.length ≤ 2 * c) : WI names c { S with ties := ts } := ⟨h.own, hl, ht.nk, ht.wd, ht.par, h.ne, h.nm, h.pp, h.sg, h.mkk, h.mb, fun o ho => by
  obtain ⟨rs, qs, rws, h1, h2, h3, h4, h5, h6⟩ := h.bks o ho
  exact ⟨rs, qs, rws, h1, h2, h3, h4, h5, ⟨h6.ok, h6.nd, h6.bd⟩⟩⟩
theorem WI.marks (h : WI names c S) {n : Str} {m : Int} {u : V} (i : Int) (hu : valV S.marks (n, m) = some u) : WI names c { S with marks := putK S.marks (n, m) (.int i) } := by
  have hk := putK_keys (.int i) hu
  have hL : ∀ o, leftM { S with marks := putK S.marks (n, m) (.int i) } o = leftM S o := fun o => leftM_congr (S := S) (S' := { S with marks := putK S.marks (n, m) (.int i) }) hk o
  have hl : (putK S.marks (n, m) (.int i)).length = S.marks.length := by
    have := congrArg List.length hk
    rw [List.length_map, List.length_map] at this
    exact this
  refine ⟨h.own, h.nt, h.nk, h.wd, h.par, h.ne, by show (putK S.marks (n, m) (.int i)).length ≤ c; rw [hl]; exact h.nm, h.pp, h.sg, fun p hp => ?_, fun o b hb => ?_, fun o ho => ?_⟩
  · rcases mem_putK (show p ∈ putK S.marks (n, m) (.int i) from hp) with h1 | h1
    · exact h.mkk p h1
    · exact .inr ⟨i, h1⟩
  · rw [hL] at hb ⊢
    exact h.mb o b hb
  · obtain ⟨rs, qs, rws, h1, h2, h3, h4, h5, h6⟩ := h.bks o ho
    refine ⟨rs, qs, rws, h1, h2, h3, h4, h5, ⟨h6.ok, h6.nd, fun x hx => ?_⟩⟩
    have := h6.bd x hx
    obtain ⟨b, y⟩ := x
    cases b with
    | true => exact this
    | false =>
      show y ∈ leftM _ o
      rw [hL]
      exact this
theorem WI.row (h : WI names c S) {m : Str} {rs : List (V × PyData)} {qs : List V} {rws : List Rw} (h1 : findB S.books m = some rs) (h2 : findB S.trails m = some qs) (h3 : rs.length + 1 ≤ c) (h4 : qs.length + 1 ≤ c) (h5 : rs.map (·.2) = rws.map rwD) (h6 : BkOk S m rws)
    (r : Rw) (p q : V) (hr : RwOk r) (hc : ∀ x, claim r = some x → Held S m x ∧ x ∉ rws.filterMap claim) : WI names c (addRow S m rs qs (p, rwD r) q) := by
  refine ⟨h.own, h.nt, h.nk, h.wd, h.par, h.ne, h.nm, h.pp, h.sg, h.mkk, h.mb, fun o ho => ?_⟩
  obtain ⟨rs0, qs0, rws0, a1, a2, a3, a4, a5, a6⟩ := h.bks o ho
  show ∃ rs' qs' rws', findB (setB S.books m (rs ++ [(p, rwD r)])) o = some rs' ∧ findB (setB S.trails m (qs ++ [q])) o = some qs' ∧ _
  rw [findB_setB, findB_setB, a1, a2, Option.map_some, Option.map_some]
  by_cases hom : o = m
  · subst hom
    rw [if_pos rfl, if_pos rfl]
    refine ⟨_, _, rws ++ [r], rfl, rfl, by rw [List.length_append]; exact h3, by rw [List.length_append]; exact h4, by rw [List.map_append, List.map_append, h5]; rfl, fun x hx => ?_, ?_, fun x hx => ?_⟩
    · rcases List.mem_append.mp hx with hx | hx
      · exact h6.ok x hx
      · rw [List.mem_singleton.mp hx]
        exact hr
    · rw [List.filterMap_append]
      cases hcl : claim r with
      | none =>
        rw [show List.filterMap claim [r] = [] from by simp [hcl], List.append_nil]
        exact h6.nd
      | some x =>
        rw [show List.filterMap claim [r] = [x] from by simp [hcl]]
        exact nd_snoc2 h6.nd (hc x hcl).2
    · rw [List.filterMap_append] at hx
      rcases List.mem_append.mp hx with hx | hx
      · exact h6.bd x hx
      · cases hcl : claim r with
        | none =>
          rw [show List.filterMap claim [r] = [] from by simp [hcl]] at hx
          cases hx
        | some y =>
          rw [show List.filterMap claim [r] = [y] from by simp [hcl]] at hx
          rw [List.mem_singleton.mp hx]
          exact (hc y hcl).1
  · rw [if_neg hom, if_neg hom]
    exact ⟨rs0, qs0, rws0, rfl, rfl, a3, a4, a5, ⟨a6.ok, a6.nd, a6.bd⟩⟩
theorem livW_nd (h : WI names c S) (x : Int) : (livW S x).Nodup := by
  unfold livW
  have hn := h.nk
  revert hn
  generalize S.ties = ts
  intro hn
  induction ts with
  | nil => exact List.nodup_nil
  | cons e ts ih =>
    have hn : (e.k :: ts.map (·.k)).Nodup := hn
    obtain ⟨n1, n2⟩ := List.nodup_cons.mp hn
    rw [List.filter_cons]
    split
    · rename_i hc
      refine List.nodup_cons.mpr ⟨fun hm => ?_, ih n2⟩
      obtain ⟨f, hf, hk⟩ := List.mem_map.mp hm
      obtain ⟨hf1, hf2⟩ := List.mem_filter.mp hf
      obtain ⟨c1, _⟩ := Bool.and_eq_true_iff.mp hc
      obtain ⟨c2, _⟩ := Bool.and_eq_true_iff.mp hf2
      refine n1 (List.mem_map.mpr ⟨f, hf1, Prod.ext ?_ hk⟩)
      rw [of_decide_eq_true c1, of_decide_eq_true c2]
    · exact ih n2
end
end K05

set_option Elab.async false
set_option linter.all false
set_option maxRecDepth 100000
set_option maxHeartbeats 4000000
namespace K05
open PySem PySem.Spec PyProof.Rows L2 WW Wo
theorem mk2_dk (S : Wst) (n k : Int) (v : V) (m : Str) (way : List Str) (e : Er) : (mk2 (evS (sgE (dr S n k) e) v (.letter m way e)) m e).dk = k := by cases e <;> rfl
section
variable {names : List Str} {c : Nat} {S : Wst}
theorem WI.left_len (h : WI names c S) (n : Str) : (leftM S n).length ≤ c := by
  unfold leftM
  rw [List.length_map]
  exact Nat.le_trans (List.length_filter_le _ _) h.nm
theorem WI.ernum {m : Str} {x : Int} {way : List Str} {e : Er} (h : WI names c S) (hc : c ≤ 29) (hok : ErOk S m x way e) : ErNum e := by
  have hl := h.left_len m
  cases e with
  | leave a =>
    have hok : a = 10 * (1 + ((leftM S m).length : Int)) := hok
    show 0 ≤ a ∧ a ≤ 999
    omega
  | look a =>
    show 0 ≤ a ∧ a ≤ 999
    rcases hok with hok | hok
    · have := h.mb m a hok
      omega
    · omega
  | meet s =>
    have hok : s = S.sg + 1 := hok
    have := h.sg
    show 0 ≤ s ∧ s ≤ 999
    omega
  | _ => exact True.intro
theorem seen_ok {m : Str} {x : Int} {way : List Str} {e : Er} {S1 S3 : Wst} {d : PyData} (h : WI names c S) (hc : c ≤ 29) (hnd : names.Nodup) (hx : findB S.own m = some x) (hok : ErOk S m x way e) (hca : (goP S.ties x way).2.2 = true)
    (md : Mid names c S S1 m e) (ht : S1.ties = S.ties) (ho : S1.own = S.own) (hmk : ∀ a, e = .leave a → valV S1.marks (m, a) = some .non) (hS : SeenR S1 m (goP S.ties x way).1 (goP S.ties x way).2.1 way e S3 d) {rs : List (V × PyData)} {qs : List V} (h1 : findB S1.books m = some rs) (h2 : findB S1.trails m = some qs) :
    WI names (c + 1) S3 ∧ S3.dk = S1.dk ∧ findB S3.books m = some rs ∧ findB S3.trails m = some qs ∧ (∀ y, Held S1 m y → Held S3 m y) ∧ ThingOk e d := by
  obtain ⟨r0, hr0⟩ := goP_head S.ties x way
  have hts : TsOk S1.ties := by rw [ht]; exact h.ts
  have hall : ∀ t ∈ S.ties, t.k.2 ∈ allW ∧ t.v ∈ allW := fun t ht => h.all (by omega) ht
  cases hS with
  | walk => exact ⟨md.wi, rfl, h1, h2, fun _ z => z, .walk⟩
  | list ws hp hs =>
    refine ⟨md.wi, rfl, h1, h2, fun _ z => z, .list ws (hp.nodup_iff.mpr (livW_nd md.wi _)) hs (fun u hu => ?_) ?_⟩
    · obtain ⟨t, ht1, _, _, rfl⟩ := livW_mem (hp.mem_iff.mp hu)
      rw [ht] at ht1
      exact (hall t ht1).1
    · rw [hp.length_eq]
      unfold livW
      rw [List.length_map]
      have := List.length_filter_le (fun e => decide (e.k.1 = lastI (goP S.ties x way).1) && e.l) S1.ties
      have := md.nt
      omega
  | leave a =>
    have hv := hmk a rfl
    have hL : ∀ o, leftM { S1 with marks := putK S1.marks (m, a) (.int (lastI (goP S.ties x way).1)) } o = leftM S1 o := fun o => leftM_congr (S := S1) (S' := { S1 with marks := putK S1.marks (m, a) (.int (lastI (goP S.ties x way).1)) }) (putK_keys _ hv) o
    refine ⟨md.wi.marks _ hv, rfl, h1, h2, fun y hy => ?_, .leave a⟩
    obtain ⟨b, y⟩ := y
    cases b with
    | true => exact hy
    | false =>
      show y ∈ leftM _ m
      rw [hL]
      exact hy
  | look a => exact ⟨md.wi, rfl, h1, h2, fun _ z => z, .look a _⟩
  | self u v _ => exact ⟨md.wi, rfl, h1, h2, fun _ z => z, .self u v⟩
  | tie u v x0 h0 hne =>
    obtain ⟨_, k1, k2, k3, k4⟩ := hok
    rw [hr0] at h0
    cases h0
    have k1 : findT S1.ties (x, u) = none := by rw [ht]; exact k1
    have k2 : findT S1.ties (lastI (goP S.ties x way).1, v) = none := by rw [ht]; exact k2
    have k3 : WordIn (S1.ties.length + 2) u := by rw [ht]; exact k3
    have k4 : WordIn (S1.ties.length + 2) v := by rw [ht]; exact k4
    have hnt := md.nt
    refine ⟨md.wi.ties (hts.tie k1 k2 (fun z => hne (by injection z with z _; exact z.symm)) k3 k4) (by rw [List.length_append]; show S1.ties.length + 2 ≤ 2 * (c + 1); omega), rfl, h1, h2, fun _ z => z, .tie u v (k3.mem (by omega)) (k4.mem (by omega))⟩
  | part x' u' f _ _ hf =>
    refine ⟨md.wi.ties ((hts.dead (x', u')).dead (f.y, f.v)) (by rw [len_dead, len_dead]; have := md.nt; omega), rfl, h1, h2, fun _ z => z, .part⟩
  | mself s _ => exact ⟨md.wi, rfl, h1, h2, fun _ z => z, .mself s⟩
  | mnone s _ => exact ⟨md.wi, rfl, h1, h2, fun _ z => z, .mnone s⟩
  | met s o r b p q rs1 qs1 e1 e2 e3 e4 e5 =>
    have hown := h.own
    have hom : o ≠ m := fun z => by
      subst z
      have hmem : o ∈ others S1 (lastI (goP S.ties x way).1) := by rw [e1]; exact List.mem_cons_self ..
      have : others S1 (lastI (goP S.ties x way).1) = [o] := by
        unfold others at hmem ⊢
        rw [ho, hown] at hmem ⊢
        rw [hown] at hx
        obtain ⟨pr, hpr, hpo⟩ := List.mem_map.mp hmem
        obtain ⟨hp1, hp2⟩ := List.mem_filter.mp hpr
        have hlast : pr.2 = lastI (goP S.ties x way).1 := of_decide_eq_true hp2
        have hfx : findB (ownN names 0) o = some pr.2 := by
          have nd2 : ((ownN names 0).map (·.1)).Nodup := by rw [ownN_names]; exact hnd
          have hin := findB_mem hx
          have : pr = (o, x) := nodup_inj nd2 pr hp1 (o, x) hin hpo
          rw [this]
          exact hx
        rw [← hlast]
        exact own_others names 0 o pr.2 hnd hfx
      rw [e1] at this
      exact e2 this
    have hon : o ∈ names := by
      have hmem : o ∈ others S1 (lastI (goP S.ties x way).1) := by rw [e1]; exact List.mem_cons_self ..
      unfold others at hmem
      obtain ⟨pr, hpr, rfl⟩ := List.mem_map.mp hmem
      have hp1 := (List.mem_filter.mp hpr).1
      rw [ho, hown] at hp1
      exact ownN_mem hp1
    obtain ⟨rs2, qs2, rws2, a1, a2, a3, a4, a5, a6⟩ := md.bks o hon
    rw [e3] at a1
    rw [e4] at a2
    cases a1
    cases a2
    obtain ⟨c1, c2⟩ := md.cl (true, s) rfl
    have hb : b ∈ allW := by
      have hbm : b ∈ (goP S.ties x way).2.1 := List.mem_of_getLast? e5
      obtain ⟨t, ht1, rfl⟩ := (goF S.ties way x).bw b hbm
      exact (hall t ht1).2
    have num := h.ernum hc hok
    have w := md.wi.row e3 e4 (Nat.succ_le_succ a3) (Nat.succ_le_succ a4) a5 ⟨a6.ok, a6.nd, fun y hy => md.ld o y (a6.bd y hy)⟩ (.met b s) p q ⟨hb, num.1, num.2⟩ fun y hy => by
      cases hy
      exact ⟨c1, fun hm => c2 o (.inl ⟨s, rfl⟩) (a6.bd _ hm)⟩
    refine ⟨w, rfl, ?_, ?_, fun _ z => z, .met s⟩
    · show findB (setB S1.books o _) m = _
      rw [findB_setB, h1, Option.map_some, if_neg fun z => hom z.symm]
    · show findB (setB S1.trails o _) m = _
      rw [findB_setB, h2, Option.map_some, if_neg fun z => hom z.symm]
end
end K05

set_option Elab.async false
set_option linter.all false
set_option maxRecDepth 100000
set_option maxHeartbeats 4000000
namespace K05
open PySem PySem.Spec PyProof.Rows L2 WW Wo
section
variable {names : List Str} {c : Nat} {S : Wst}
theorem addRow_dk (S : Wst) (m : Str) (rs : List (V × PyData)) (qs : List V) (r : V × PyData) (q : V) : (addRow S m rs qs r q).dk = S.dk := rfl
theorem WI.lt {m : Str} {x : Int} {way : List Str} {e : Er} {n k : Int} {v : V} {S' : Wst} (h : WI names c S) (hc : c ≤ 29) (hnd : names.Nodup) (hx : findB S.own m = some x) (hway : ∀ u ∈ way, WayW S u) (hl : way.length ≤ 4) (hok : ErOk S m x way e)
    (hd : DoR (sgE (dr S n k) e) v (.letter m way e) S') : WI names (c + 1) S' ∧ S'.dk = k := by
  have md := h.mid (n := n) (k := k) (v := v) hok
  have hdk := mk2_dk S n k v m way e
  obtain ⟨t1, t2, t3, t4, t5, _, _, _⟩ := sgE_f (dr S n k) e
  obtain ⟨b1, b2, b3, b4⟩ := mk2_bk (evS (sgE (dr S n k) e) v (.letter m way e)) m e
  have e1 : (mk2 (evS (sgE (dr S n k) e) v (.letter m way e)) m e).ties = S.ties := b4.trans t1
  have e2 : (mk2 (evS (sgE (dr S n k) e) v (.letter m way e)) m e).own = S.own := b3.trans t2
  have e3 : (mk2 (evS (sgE (dr S n k) e) v (.letter m way e)) m e).books = (sgE (dr S n k) e).books := b1
  have e4 : (mk2 (evS (sgE (dr S n k) e) v (.letter m way e)) m e).trails = (sgE (dr S n k) e).trails := b2
  have hmk : ∀ a, e = .leave a → valV (mk2 (evS (sgE (dr S n k) e) v (.letter m way e)) m e).marks (m, a) = some .non := fun a he => by
    subst he
    show valV (putK S.marks (m, a) .non) (m, a) = _
    rw [valV_put, if_pos rfl]
  have hm : m ∈ names := by
    have := findB_mem hx
    rw [h.own] at this
    exact ownN_mem this
  have gf := goF S.ties way x
  have hallw : ∀ u ∈ way, u ∈ allW := fun u hu => h.way (by omega) (hway u hu)
  have hallb : ∀ b ∈ (goP S.ties x way).2.1, b ∈ allW := fun b hb => by
    obtain ⟨t, ht, rfl⟩ := gf.bw b hb
    exact (h.all (by omega) ht).2
  have num := h.ernum hc hok
  obtain ⟨rs1, qs1, rws, a1, a2, a3, a4, a5, a6⟩ := md.bks m hm
  have fresh : ∀ y, erClaim e = some y → y ∉ rws.filterMap claim := fun y hy hmem => (md.cl y hy).2 m (.inr rfl) (a6.bd y hmem)
  generalize hS1 : mk2 (evS (sgE (dr S n k) e) v (.letter m way e)) m e = S1 at md hdk e1 e2 e3 e4 hmk a1 a2
  cases hd with
  | lost _ _ _ x' rs qs p q hx' hlo hrs hqs =>
    rw [t2] at hx'
    have hxx : x' = x := by
      have : findB S.own m = some x' := hx'
      rw [hx] at this
      exact (Option.some.inj this).symm
    subst hxx
    rw [t1] at hlo ⊢
    have hlo : (goP S.ties x' way).2.2 = false := hlo
    rw [hS1]
    rw [← e3, a1] at hrs
    rw [← e4, a2] at hqs
    cases hrs
    cases hqs
    refine ⟨md.wi.row a1 a2 (Nat.succ_le_succ a3) (Nat.succ_le_succ a4) a5 ⟨a6.ok, a6.nd, fun y hy => md.ld m y (a6.bd y hy)⟩ (.lost way e (goP S.ties x' way).2.1) p q ⟨hallw, hallb, gf.lo hlo, hl, num⟩ fun y hy => ⟨(md.cl y hy).1, fresh y hy⟩, hdk⟩
  | came _ _ _ x' S3 d rs qs p q hx' hca hS hrs hqs =>
    rw [t2] at hx'
    have hxx : x' = x := by
      have : findB S.own m = some x' := hx'
      rw [hx] at this
      exact (Option.some.inj this).symm
    subst hxx
    rw [t1] at hca hS ⊢
    have hca : (goP S.ties x' way).2.2 = true := hca
    rw [hS1] at hS
    obtain ⟨w3, d3, r1, r2, r3, r4⟩ := seen_ok h hc hnd hx hok hca md e1 e2 hmk hS a1 a2
    rw [r1] at hrs
    rw [r2] at hqs
    cases hrs
    cases hqs
    refine ⟨w3.row r1 r2 (Nat.succ_le_succ a3) (Nat.succ_le_succ a4) a5 ⟨a6.ok, a6.nd, fun y hy => r3 y (md.ld m y (a6.bd y hy))⟩ (.came way e (goP S.ties x' way).2.1 d) p q ⟨hallw, hallb, gf.ca hca, hl, num, r4, fun he => ?_⟩ fun y hy => ⟨r3 y (md.cl y hy).1, fresh y hy⟩, d3.trans hdk⟩
    subst he
    exact hok.2
/-- the drawn worlds keep the invariant -/
theorem genI (names : List Str) (hn : names.length ≤ 3) (hnd : names.Nodup) (hns : ∀ y ∈ names, PyData.strOk y = true) : GenI names (WI names) where
  start := fun n k b ppl ov hp => WI.start n k b ppl ov hp
  own := fun h => h.own
  drw := fun h n k => h.drw n k
  un := fun hc h hu hd => h.un hu hd
  pre := fun hc h d0 d1 => h.pre hc hn hnd d0 d1
  wok := fun h hc hu => h.wok hc hu
  er := fun hc h hx hw hl hok => h.er hc hn hnd hns hx hl hok
  lt := fun hc h hx hw hl hok hd => h.lt hc hnd hx hw hl hok hd
end
end K05

set_option Elab.async false
set_option linter.all false
set_option maxRecDepth 100000
set_option maxHeartbeats 4000000
namespace K05
open PySem PySem.Spec PyProof.Rows L2 WW Wo
/-- the rows of a book: right by form, nothing claimed twice -/
structure BookV (rws : List Rw) : Prop where
  ok : ∀ r ∈ rws, RwOk r
  nd : (rws.filterMap claim).Nodup
theorem BookV.take {rws : List Rw} (h : BookV rws) (n : Nat) : BookV (rws.take n) :=
  ⟨fun r hr => h.ok r (List.mem_of_mem_take hr), h.nd.sublist ((List.take_sublist n rws).filterMap claim)⟩
structure BookAt (K : PySem.W.Frag) (H : Hp) (p : Addr) (rws : List Rw) : Prop where
  ex : ∃ rs : List (V × PyData), H p = some (.lst (rs.map (·.1))) ∧ (∀ r ∈ rs, Td K H r) ∧ rs.map (·.2) = rws.map rwD
  v : BookV rws
section
variable {P : Program} {w : World} {K : PySem.W.Frag} {mg : Str → Option Value} {base : Heap}
def spBook (ts : List Addr) (K : PySem.W.Frag) (B : Int) : Sp := fun vs H Q _ => ∃ (pd : Addr) (n k : Int) (b : Bool), vs = [.ref pd] ∧ H pd = some (Wo.Dr n k b) ∧ 0 ≤ k ∧ k ≤ B ∧
  ∀ H' p rws n' k' b', WW.Fr ts (fun a => a = pd) H H' → H' pd = some (Wo.Dr n' k' b') → k ≤ k' → k' ≤ k + 1100 → Nw H p → p ≠ pd → rws.length ≤ 10 → BookAt K H' p rws → Q (.ref p) H'
theorem sc_drawn_book : FnScope ["draws", "owners", "w"] ["draws"] (defScope s_law_drawn_book) := ⟨rfl, rfl, rfl, by decide +kernel, rfl, by decide +kernel, by decide +kernel⟩
theorem k_drawn_book (A : Facts K mg base) (ts : List Addr) : Fk P w K mg base 6 "_law_drawn_book" ["draws"] (spBook ts K 400000) := by
  refine def_ok (d := d_law_drawn_book) A.f_law_drawn_book rfl A.g_law_drawn_book sc_drawn_book (fun _ _ _ _ _ _ us hl => match us, hl with | [_], _ => rfl) (fun vs H Q E h => ?_) (fun A' outer s H vs Q E hr h => ?_)
  · obtain ⟨pd, n, k, b, rfl, _⟩ := h
    rfl
  · obtain ⟨pd, n, k, b, rfl, hpd, k0, k1, q⟩ := h
    refine ws_cons (w_set 1 (we_slTo (we_lst (wa_cons (we_str (wa_cons (we_str (wa_cons (we_str (wa_nil ⟨by show 3 ≤ sizeLine; decide, fun p3 hp3 => ?_⟩))))))))) sc_drawn_book.nd)
    refine we_ix ix_list (we_lst (wa_cons (we_int (wa_cons (we_int (wa_cons (we_int (wa_cons (we_int (wa_nil ⟨by show 4 ≤ sizeLine; decide, fun p4 hp4 => ?_⟩))))))))))
    have f4 : WW.Fr ts Nil H _ := (WW.Fr.new (ts := ts) (m := Nil) (o := .lst [.str "a", .str "bo", .str "c"]) hp3).trans (WW.Fr.new (ts := ts) (m := Nil) (o := .lst [.int 1, .int 1, .int 2, .int 3]) hp4)
    have h33 : upd (upd H p3 (.lst [.str "a", .str "bo", .str "c"])) p4 (.lst [.int 1, .int 1, .int 2, .int 3]) p3 = some (.lst [.str "a", .str "bo", .str "c"]) := by rw [upd_ne (ne_of_none upd_same hp4)]; exact upd_same
    have h44 : upd (upd H p3 (.lst [.str "a", .str "bo", .str "c"])) p4 (.lst [.int 1, .int 1, .int 2, .int 3]) p4 = some (.lst [.int 1, .int 1, .int 2, .int 3]) := upd_same
    generalize upd (upd H p3 _) p4 _ = G at f4 h33 h44 ⊢
    have hpdG := f4.kp _ _ hpd (fun z => z) rfl
    refine we_bin op_modB (we_f (k_next A) hr (wa_cons (we_var 0 rfl (wa_nil ⟨pd, n, k, b, rfl, hpdG, k0, by omega, fun r n1 r0 r1 => ?_⟩))))
    have g1 : WW.Fr ts (fun a => a = pd) H (upd G pd (K05.Dr n1 (k + 1) b)) := (f4.mono fun _ z => z.elim).trans (WW.Fr.write rfl hpdG rfl)
    have hpd1 : upd G pd (K05.Dr n1 (k + 1) b) pd = some (Wo.Dr n1 (k + 1) b) := upd_same
    have n3 : p3 ≠ pd := fun z => by rw [z, hpdG] at h33; cases h33
    have n4 : p4 ≠ pd := fun z => by rw [z, hpdG] at h44; cases h44
    have h3 : upd G pd (K05.Dr n1 (k + 1) b) p3 = some (.lst [.str "a", .str "bo", .str "c"]) := by rw [upd_ne n3]; exact h33
    have h4 : upd G pd (K05.Dr n1 (k + 1) b) p4 = some (.lst [.int 1, .int 1, .int 2, .int 3]) := by rw [upd_ne n4]; exact h44
    generalize upd G pd _ = G1 at g1 hpd1 h3 h4 ⊢
    refine we_int ⟨r, 4, rfl, rfl, by decide, fun z z0 z1 => ?_⟩
    obtain ⟨j, hj1, hj3, hj⟩ : ∃ j : Int, 1 ≤ j ∧ j ≤ 3 ∧ atI [V.int 1, .int 1, .int 2, .int 3] z = some (.int j) := by
      have : z = 0 ∨ z = 1 ∨ z = 2 ∨ z = 3 := by omega
      rcases this with rfl | rfl | rfl | rfl
      · exact ⟨1, by decide, by decide, rfl⟩
      · exact ⟨1, by decide, by decide, rfl⟩
      · exact ⟨2, by decide, by decide, rfl⟩
      · exact ⟨3, by decide, by decide, rfl⟩
    refine ⟨p4, _, z, _, rfl, rfl, .inl (.inl h4), hj, j, rfl, p3, _, rfl, .inl (.inl h3), fun pn hpn => ?_⟩
    rw [cut_to _ _ (by omega)]
    obtain ⟨names, hnm, hn1, hn3, hnd, hns, ha⟩ : ∃ names : List Str, List.take j.toNat [V.str "a", .str "bo", .str "c"] = names.map V.str ∧ 1 ≤ names.length ∧ names.length ≤ 3 ∧ names.Nodup ∧ (∀ y ∈ names, PyData.strOk y = true) ∧ ("a" : Str) ∈ names := by
      have : j = 1 ∨ j = 2 ∨ j = 3 := by omega
      rcases this with rfl | rfl | rfl
      · exact ⟨["a"], rfl, by decide, by decide, by decide +kernel, by decide +kernel, by decide +kernel⟩
      · exact ⟨["a", "bo"], rfl, by decide, by decide, by decide +kernel, by decide +kernel, by decide +kernel⟩
      · exact ⟨["a", "bo", "c"], rfl, by decide, by decide, by decide +kernel, by decide +kernel, by decide +kernel⟩
    rw [hnm]
    have g2 : WW.Fr ts (fun a => a = pd) H (upd G1 pn (.lst (names.map V.str))) := g1.trans (WW.Fr.new hpn)
    have hpd2 : upd G1 pn (.lst (names.map V.str)) pd = some (Wo.Dr n1 (k + 1) b) := by rw [upd_ne (ne_of_none hpd1 hpn)]; exact hpd1
    have hpn2 : upd G1 pn (.lst (names.map V.str)) pn = some (.lst (names.map V.str)) := upd_same
    generalize upd G1 pn _ = G2 at g2 hpd2 hpn2 ⊢
    have nn : pn ≠ pd := fun z => by rw [z, hpd1] at hpn; cases hpn
    refine ws_cons (w_set 2 (we_f (k_world names (WI names) (genI names hn3 hnd hns) hn1 hn3 hnd A ts) hr (wa_cons (we_var 0 rfl (wa_cons (we_var 1 rfl ?_))))) sc_drawn_book.nd)
    refine wa_cons (we_bin op_add (we_int (we_bin op_modB (we_f (k_next A) hr (wa_cons (we_var 0 rfl (wa_nil ⟨pd, n1, k + 1, b, rfl, hpd2, by omega, by omega, fun r2 n2 r20 r21 => ?_⟩)))))))
    have g3 : WW.Fr ts (fun a => a = pd) H (upd G2 pd (K05.Dr n2 (k + 1 + 1) b)) := g2.trans (WW.Fr.write rfl hpd2 rfl)
    have hpd3 : upd G2 pd (K05.Dr n2 (k + 1 + 1) b) pd = some (Wo.Dr n2 (k + 1 + 1) b) := upd_same
    have hpn3 : upd G2 pd (K05.Dr n2 (k + 1 + 1) b) pn = some (.lst (names.map V.str)) := by rw [upd_ne nn]; exact hpn2
    generalize upd G2 pd _ = G3 at g3 hpd3 hpn3 ⊢
    refine we_int ⟨r2, 9, rfl, rfl, by decide, fun m m0 m1 => ⟨2, m, rfl, rfl, ?_⟩⟩
    refine wa_nil ⟨pd, pn, n2, k + 1 + 1, b, 2 + m, rfl, hpd3, hpn3, by omega, by omega, by omega, by omega, fun H4 a S c W hAd wi lo hi fw new => ?_⟩
    obtain ⟨rs, qs, rws, b1, b2, b3, b4, b5, b6⟩ := wi.bks "a" ha
    refine ws_one (w_ret (we_slTo (we_dget (room_u hr) (we_wf 2 rfl (W.at_ .w _ rfl) (v_books a S) (room_u hr) (we_str ⟨a .b, _, rfl, (dg_bk W b1).1, we_int ⟨10, rfl, a (.bk "a"), _, rfl, .inl (.inl (dg_bk W b1).2), fun p hp => ?_⟩⟩)))))
    rw [cut_to _ _ (by decide)]
    have g4 := (g3.trans fw).trans (WW.Fr.new (ts := ts) (m := fun a => a = pd) (o := .lst ((rs.map (·.1)).take (10 : Int).toNat)) hp)
    have hpdw : H4 pd = some (Wo.Dr S.dn S.dk S.db) := by
      have := W.at_ .d _ rfl
      rw [hAd] at this
      exact this
    have ff : WW.Fr ts Nil H4 (upd H4 p (.lst ((rs.map (·.1)).take (10 : Int).toNat))) := WW.Fr.new hp
    refine q _ p (rws.take 10) S.dn S.dk S.db g4 (ff.kp _ _ hpdw (fun z => z) rfl) (by omega) (by omega) (fun u hu => ?_) (fun z => by rw [z, hpdw] at hp; cases hp) (by rw [List.length_take]; omega) ⟨⟨rs.take 10, by rw [upd_same, List.map_take]; rfl, fun r hr => (W.dbk "a" rs (findB_mem b1) r (List.mem_of_mem_take hr)).keep (TK.fr ff), by rw [List.map_take, List.map_take, b5]⟩, BookV.take ⟨b6.ok, b6.nd⟩ 10⟩
    cases ht : nt u with
    | false => rfl
    | true =>
      have hpp : p ≠ pd := fun z => by rw [z, hpdw] at hp; cases hp
      have := (g3.trans fw).kp p u hu hpp ht
      rw [hp] at this
      cases this
end
end K05

set_option Elab.async false
set_option linter.all false
set_option maxRecDepth 100000
set_option maxHeartbeats 4000000
namespace K05
open PySem PySem.Spec PyProof.Rows L2 WW Wo
def shE : Er → Er
  | .leave m => .leave (m + 1000)
  | .look m => .look (m + 1000)
  | .meet s => .meet (s + 1000)
  | e => e
def shR : Rw → Rw
  | .met b s => .met b (s + 1000)
  | .lost way e bk => .lost way (shE e) bk
  | .came way e bk d => .came way (shE e) bk d
theorem rer_scal (e : Er) : ∀ d ∈ rerL e, scalD d = true := by cases e <;> simp [rerL, erL, scalD]
/-- a letter's row, read -/
theorem row_at {K : PySem.W.Frag} {H : Hp} {v : V} {way : List Str} {e : Er} {sd : PyData} (h : Td K H (v, rowD way e sd)) :
    ∃ p pw pr vs, v = .ref p ∧ SqT K H p [.ref pw, .ref pr, vs] ∧ SqT K H pw (way.map V.str) ∧ SqT K H pr ((rerL e).map unS) ∧ Td K H (vs, sd) := by
  have h1 := h.is
  have h2 := h.tp
  change Dp K H v (.tuple [.tuple (way.map .str), .tuple (rerL e), sd]) at h1
  have ht : tupd sd = true := by
    have h2 : tupds [.tuple (way.map .str), .tuple (rerL e), sd] = true := h2
    simp only [tupds, Bool.and_eq_true] at h2
    exact h2.2.2.1
  cases h1 with
  | tup hs hd =>
    cases hd with
    | cons d1 r1 => cases r1 with
      | cons d2 r2 => cases r2 with
        | cons d3 r3 =>
          cases r3
          obtain ⟨pw, rfl, hw⟩ := dp_flat d1 (fun d hd => by obtain ⟨x, _, rfl⟩ := List.mem_map.mp hd; rfl)
          obtain ⟨pr, rfl, hr⟩ := dp_flat d2 (rer_scal e)
          rw [List.map_map] at hw
          exact ⟨_, pw, pr, _, rfl, hs, hw, hr, d3, ht⟩
section
variable {P : Program} {w : World} {K : PySem.W.Frag} {mg : Str → Option Value} {base : Heap}
def spShifted (ts : List Addr) (K : PySem.W.Frag) : Sp := fun vs H Q _ => ∃ (v : V) (r : Rw), vs = [v] ∧ Td K H (v, rwD r) ∧ RwOk r ∧ ∀ H' v', WW.Fr ts Nil H H' → Td K H' (v', rwD (shR r)) → Q v' H'
theorem sc_shifted : FnScope ["row"] ["row"] (defScope s_law_shifted) := ⟨rfl, rfl, rfl, by decide +kernel, rfl, by decide +kernel, by decide +kernel⟩
theorem k_shifted (A : Facts K mg base) (ts : List Addr) : Fk P w K mg base 1 "_law_shifted" ["row"] (spShifted ts K) := by
  refine def_ok (d := d_law_shifted) A.f_law_shifted rfl A.g_law_shifted sc_shifted (fun _ _ _ _ _ _ us hl => match us, hl with | [_], _ => rfl) (fun vs H Q E h => ?_) (fun A' outer s H vs Q E hr h => ?_)
  · obtain ⟨v, r, rfl, _⟩ := h
    rfl
  · obtain ⟨v, r, rfl, ht, hok, q⟩ := h
    have hu65 : A'.units + 3 + 65 < cLine := by
      have := hr.un
      change A'.units + 3 + 16 * 0 + 200 < cLine at this
      omega
    -- a letter's row
    have letter : ∀ (way : List Str) (e : Er) (sd : PyData), Td K H (v, rowD way e sd) → (∀ u ∈ way, u ∈ allW) → (∀ H' v', WW.Fr ts Nil H H' → Td K H' (v', rowD way (shE e) sd) → Q v' H') → WS (cx P w K mg base ["row"] d_law_shifted.qual d_law_shifted.scope (He.ga K "_law_shifted") (He.codeOf K d_law_shifted.at_) A' outer s H E) d_law_shifted.body { nx := fun _ H' => Q .non H', rt := Q } (L2.start ["row"] [v]) H := fun way e sd ht hw q => by
      obtain ⟨p, pw, pr, vs, rfl, h1, h2, h3, h4⟩ := row_at ht
      refine ws_cons (w_if0 (wt_cmp (op_eqD (room_u64 hr)) rfl (we_ix ix_tup (we_var 0 rfl (we_int ⟨p, _, 0, .ref pw, rfl, rfl, h1, rfl, we_str ⟨.tuple (way.map .str), .str "met", (td_strs h2).is, .str _, shaped_strsT _ (fun u hu => (allW_ok u (hw u hu)).1), by decide +kernel, false, rfl, ?_⟩⟩)))))
      rw [if_neg (by decide)]
      obtain ⟨wd, hwd⟩ : ∃ wd : Str, ((rerL e).map unS)[0]? = some (.str wd) := by cases e <;> exact ⟨_, rfl⟩
      have hwok : SeqAt.shaped (.str wd) = true := by cases e <;> cases hwd <;> decide +kernel
      refine ws_cons (w_if0 (wt_cmp (op_inD hu65) rfl (we_ix ix_tup (we_ix ix_tup (we_var 0 rfl (we_int ⟨p, _, 1, .ref pr, rfl, rfl, h1, rfl, we_int ⟨pr, _, 0, .str wd, rfl, rfl, h3, (atI_pos _ 0).trans hwd, ?_⟩⟩))))))
      refine we_lst (wa_cons (we_str (wa_cons (we_str (wa_cons (we_str (wa_nil ⟨by show 3 ≤ sizeLine; decide, fun pl hpl => ?_⟩)))))))
      have f1 : WW.Fr ts Nil H (upd H pl (.lst [.str "leave", .str "look", .str "meet"])) := WW.Fr.new hpl
      refine ⟨.str wd, [.str "leave", .str "look", .str "meet"], .str wd, .lst (.inl (.inl upd_same)) (dps_strs ["leave", "look", "meet"]), hwok, by decide +kernel, _, rfl, ?_⟩
      generalize upd H pl _ = G at f1 ⊢
      have k1 := TK.fr f1
      have g1 := k1.sqt h1
      have g3 := k1.sqt h3
      have num : ∀ (a : Int) (D0 : Ends), D0.rt = Q → (rerL e).map unS = [.str wd, .int a] → rerL (shE e) = [.str wd, .int (a + 1000)] → WS (cx P w K mg base ["row"] d_law_shifted.qual d_law_shifted.scope (He.ga K "_law_shifted") (He.codeOf K d_law_shifted.at_) A' outer s H E) (match (d_law_shifted.body.getD 1 (.Pass ⟨0, 0, 0, 0⟩)) with | .If _ th _ _ => th | _ => []) D0 (L2.start ["row"] [.ref p]) G := fun a D0 hD0 ha hsh => by
        rw [ha] at g3
        refine ws_one (w_ret (we_tup ?_))
        refine wa_cons (we_ix ix_tup (we_var 0 rfl (we_int ⟨p, _, 0, .ref pw, rfl, rfl, g1, rfl, ?_⟩)))
        refine wa_cons (we_tup ?_)
        refine wa_cons (we_ix ix_tup (we_ix ix_tup (we_var 0 rfl (we_int ⟨p, _, 1, .ref pr, rfl, rfl, g1, rfl, we_int ⟨pr, _, 0, .str wd, rfl, rfl, g3, rfl, ?_⟩⟩))))
        refine wa_cons (we_bin op_add (we_ix ix_tup (we_ix ix_tup (we_var 0 rfl (we_int ⟨p, _, 1, .ref pr, rfl, rfl, g1, rfl, we_int ⟨pr, _, 1, .int a, rfl, rfl, g3, rfl, we_int ⟨a, 1000, rfl, rfl, ?_⟩⟩⟩)))))
        refine wa_nil ⟨by show 2 ≤ sizeLine; decide, fun pe hpe => ?_⟩
        have f2 : WW.Fr ts Nil G (upd G pe (.tup [.str wd, .int (a + 1000)])) := WW.Fr.new hpe
        have k2 := TK.fr f2
        have he2 : SqT K (upd G pe (.tup [.str wd, .int (a + 1000)])) pe ((rerL (shE e)).map unS) := by rw [hsh]; exact .inl (.inl upd_same)
        change WA _ _ _ (upd G pe (.tup [.str wd, .int (a + 1000)])) _
        generalize upd G pe _ = G2 at f2 k2 he2 ⊢
        refine wa_cons (we_ix ix_tup (we_var 0 rfl (we_int ⟨p, _, 2, vs, rfl, rfl, k2.sqt g1, rfl, ?_⟩)))
        refine wa_nil ⟨by show 3 ≤ sizeLine; decide, fun pt hpt => ?_⟩
        have f3 : WW.Fr ts Nil G2 (upd G2 pt (.tup [.ref pw, .ref pe, vs])) := WW.Fr.new hpt
        have k3 := TK.fr f3
        rw [hD0]
        exact q _ (.ref pt) ((f1.trans f2).trans f3) (td_tup3 (.inl (.inl upd_same)) (td_strs (k3.sqt (k2.sqt (k1.sqt h2)))) (td_flat (k3.sqt he2) (rer_scal _)) (((h4.keep k1).keep k2).keep k3))
      have same : shE e = e → WS (cx P w K mg base ["row"] d_law_shifted.qual d_law_shifted.scope (He.ga K "_law_shifted") (He.codeOf K d_law_shifted.at_) A' outer s H E) [d_law_shifted.body.getD 2 (.Pass ⟨0, 0, 0, 0⟩)] { nx := fun _ H' => Q .non H', rt := Q } (L2.start ["row"] [.ref p]) G := fun hs => by
        rw [hs] at q
        exact ws_one (w_ret (we_var 0 rfl (q _ _ f1 (ht.keep k1))))
      cases e with
      | leave a => cases hwd; rw [if_pos (by decide +kernel)]; exact num a _ rfl rfl rfl
      | look a => cases hwd; rw [if_pos (by decide +kernel)]; exact num a _ rfl rfl rfl
      | meet a => cases hwd; rw [if_pos (by decide +kernel)]; exact num a _ rfl rfl rfl
      | walk => cases hwd; rw [if_neg (by decide +kernel)]; exact same rfl
      | list => cases hwd; rw [if_neg (by decide +kernel)]; exact same rfl
      | part => cases hwd; rw [if_neg (by decide +kernel)]; exact same rfl
      | tie a b => cases hwd; rw [if_neg (by decide +kernel)]; exact same rfl
    cases r with
    | lost way e bk => exact letter way e (lostD bk) ht hok.1 q
    | came way e bk d => exact letter way e (cameD bk d) ht hok.1 q
    | met b s =>
      obtain ⟨p, rfl, h1⟩ := dp_flat (ds := [.str "met", .str b, .int s]) ht.is (by simp [scalD])
      refine ws_cons (w_if0 (wt_cmp (op_eqD (room_u64 hr)) rfl (we_ix ix_tup (we_var 0 rfl (we_int ⟨p, _, 0, .str "met", rfl, rfl, h1, rfl, we_str ⟨.str "met", .str "met", .str _, .str _, by decide +kernel, by decide +kernel, true, by decide +kernel, ?_⟩⟩)))))
      rw [if_pos rfl]
      refine ws_one (w_ret (we_tup (wa_cons (we_str ?_))))
      refine wa_cons (we_ix ix_tup (we_var 0 rfl (we_int ⟨p, _, 1, .str b, rfl, rfl, h1, rfl, ?_⟩)))
      refine wa_cons (we_bin op_add (we_ix ix_tup (we_var 0 rfl (we_int ⟨p, _, 2, .int s, rfl, rfl, h1, rfl, we_int ⟨s, 1000, rfl, rfl, ?_⟩⟩))))
      refine wa_nil ⟨by show 3 ≤ sizeLine; decide, fun pt hpt => ?_⟩
      exact q _ (.ref pt) (WW.Fr.new hpt) (td_flat (ds := [.str "met", .str b, .int (s + 1000)]) (.inl (.inl upd_same)) (by simp [scalD]))
end
end K05

set_option Elab.async false
set_option linter.all false
set_option maxRecDepth 100000
set_option maxHeartbeats 4000000
namespace K05
open PySem PySem.Spec PyProof.Rows L2 WW Wo
def ErNumM : Er → Prop
  | .leave m => 0 ≤ m ∧ m ≤ 1999
  | .look m => 0 ≤ m ∧ m ≤ 1999
  | .meet s => 0 ≤ s ∧ s ≤ 1999
  | _ => True
/-- a row of one history's book or of another's, shifted -/
def RwM : Rw → Prop
  | .met b s => b ∈ allW ∧ 0 ≤ s ∧ s ≤ 1999
  | .lost way e bk => (∀ u ∈ way, u ∈ allW) ∧ (∀ u ∈ bk, u ∈ allW) ∧ bk.length < way.length ∧ way.length ≤ 4 ∧ ErNumM e
  | .came way e bk d => (∀ u ∈ way, u ∈ allW) ∧ (∀ u ∈ bk, u ∈ allW) ∧ bk.length = way.length ∧ way.length ≤ 4 ∧ ErNumM e ∧ ThingOk e d ∧ (e = .part → way ≠ [])
theorem ErNum.m {e : Er} (h : ErNum e) : ErNumM e := by
  cases e with
  | leave m => exact ⟨h.1, Int.le_trans h.2 (by decide)⟩
  | look m => exact ⟨h.1, Int.le_trans h.2 (by decide)⟩
  | meet m => exact ⟨h.1, Int.le_trans h.2 (by decide)⟩
  | _ => exact True.intro
theorem ErNum.sh {e : Er} (h : ErNum e) : ErNumM (shE e) := by
  cases e with
  | leave m =>
    have h : 0 ≤ m ∧ m ≤ 999 := h
    show 0 ≤ m + 1000 ∧ m + 1000 ≤ 1999
    omega
  | look m =>
    have h : 0 ≤ m ∧ m ≤ 999 := h
    show 0 ≤ m + 1000 ∧ m + 1000 ≤ 1999
    omega
  | meet m =>
    have h : 0 ≤ m ∧ m ≤ 999 := h
    show 0 ≤ m + 1000 ∧ m + 1000 ≤ 1999
    omega
  | _ => exact True.intro
theorem RwOk.m {r : Rw} (h : RwOk r) : RwM r := by
  cases r with
  | met b s => exact ⟨h.1, h.2.1, Int.le_trans h.2.2 (by decide)⟩
  | lost way e bk => exact ⟨h.1, h.2.1, h.2.2.1, h.2.2.2.1, h.2.2.2.2.m⟩
  | came way e bk d => exact ⟨h.1, h.2.1, h.2.2.1, h.2.2.2.1, h.2.2.2.2.1.m, h.2.2.2.2.2⟩
theorem ThingOk.sh {e : Er} {d : PyData} (h : ThingOk e d) : ThingOk (shE e) d := by
  cases h with
  | walk => exact .walk
  | list ws a b c d => exact .list ws a b c d
  | leave m => exact .leave _
  | look m b => exact .look _ b
  | self u v => exact .self u v
  | tie u v a b => exact .tie u v a b
  | part => exact .part
  | mnone s => exact .mnone _
  | mself s => exact .mself _
  | met s => exact .met _
theorem RwOk.sh {r : Rw} (h : RwOk r) : RwM (shR r) := by
  cases r with
  | met b s =>
    have h2 : 0 ≤ s ∧ s ≤ 999 := h.2
    exact ⟨h.1, by omega, by omega⟩
  | lost way e bk => exact ⟨h.1, h.2.1, h.2.2.1, h.2.2.2.1, h.2.2.2.2.sh⟩
  | came way e bk d => exact ⟨h.1, h.2.1, h.2.2.1, h.2.2.2.1, h.2.2.2.2.1.sh, h.2.2.2.2.2.1.sh, fun z => h.2.2.2.2.2.2 (by cases e <;> first | rfl | cases z)⟩
theorem claim_num {r : Rw} (h : RwOk r) {b : Bool} {x : Int} (hc : claim r = some (b, x)) : 0 ≤ x ∧ x ≤ 999 := by
  have er : ∀ e : Er, ErNum e → erClaim e = some (b, x) → 0 ≤ x ∧ x ≤ 999 := fun e he hc => by
    cases e <;> cases hc <;> exact he
  cases r with
  | met _ s =>
    cases hc
    exact h.2
  | lost way e bk => exact er e h.2.2.2.2 hc
  | came way e bk d => exact er e h.2.2.2.2.1 hc
theorem claim_sh (r : Rw) : claim (shR r) = (claim r).map fun p => (p.1, p.2 + 1000) := by
  have er : ∀ e : Er, erClaim (shE e) = (erClaim e).map fun p => (p.1, p.2 + 1000) := fun e => by cases e <;> rfl
  cases r with
  | met b s => rfl
  | lost way e bk => exact er e
  | came way e bk d => exact er e
structure BookM (rws : List Rw) : Prop where
  ok : ∀ r ∈ rws, RwM r
  nd : (rws.filterMap claim).Nodup
theorem BookV.m {rws : List Rw} (h : BookV rws) : BookM rws := ⟨fun r hr => (h.ok r hr).m, h.nd⟩
theorem BookM.perm {a b : List Rw} (h : BookM a) (p : b.Perm a) : BookM b := ⟨fun r hr => h.ok r (p.mem_iff.mp hr), (p.filterMap claim).nodup_iff.mpr h.nd⟩
theorem BookV.mix {a b : List Rw} (ha : BookV a) (hb : BookV b) : BookM (a ++ b.map shR) := by
  refine ⟨fun r hr => ?_, ?_⟩
  · rcases List.mem_append.mp hr with h | h
    · exact (ha.ok r h).m
    · obtain ⟨r0, h0, rfl⟩ := List.mem_map.mp h
      exact (hb.ok r0 h0).sh
  · rw [List.filterMap_append, List.filterMap_map]
    have e : List.filterMap (claim ∘ shR) b = (List.filterMap claim b).map fun p => (p.1, p.2 + 1000) := by
      rw [List.map_filterMap]
      refine congrArg (fun f => List.filterMap f b) ?_
      funext r
      exact claim_sh r
    rw [e]
    refine List.nodup_append.mpr ⟨ha.nd, hb.nd.map _ fun x y h z => ?_, fun x hx y hy z => ?_⟩
    · obtain ⟨x1, x2⟩ := x
      obtain ⟨y1, y2⟩ := y
      injection z with z1 z2
      have z1 : x1 = y1 := z1
      have z2 : x2 + 1000 = y2 + 1000 := z2
      exact h (Prod.ext z1 (by show x2 = y2; omega))
    · obtain ⟨r, hr, hc⟩ := List.mem_filterMap.mp hx
      obtain ⟨p, hp, rfl⟩ := List.mem_map.mp hy
      obtain ⟨r2, hr2, hc2⟩ := List.mem_filterMap.mp hp
      obtain ⟨b1, x1⟩ := x
      obtain ⟨b2, x2⟩ := p
      have h1 := claim_num (ha.ok r hr) hc
      have h2 := claim_num (hb.ok r2 hr2) hc2
      injection z with _ z
      have z : x1 = x2 + 1000 := z
      omega
structure BookAtM (K : PySem.W.Frag) (H : Hp) (p : Addr) (rws : List Rw) : Prop where
  ex : ∃ rs : List (V × PyData), H p = some (.lst (rs.map (·.1))) ∧ (∀ r ∈ rs, Td K H r) ∧ rs.map (·.2) = rws.map rwD
  v : BookM rws
end K05

set_option Elab.async false
set_option linter.all false
set_option maxRecDepth 100000
set_option maxHeartbeats 4000000
namespace K05
open PySem PySem.Spec PyProof.Rows L2 WW Wo
theorem tk_but {H H' : Hp} {D : Addr} {zs : List V} (hd : H D = some (.lst zs)) (k : ∀ a o, a ≠ D → H a = some o → H' a = some o) : TK H H' :=
  ⟨fun a xs h => k a _ (fun z => by rw [z, hd] at h; cases h) h, fun a o xs h => k a _ (fun z => by rw [z, hd] at h; cases h) h⟩
theorem tk_draw {H : Hp} {pd : Addr} {n k : Int} {b : Bool} (h : H pd = some (Wo.Dr n k b)) (o : HO) : TK H (upd H pd o) := TK.wr h (fun _ => nofun) fun _ _ => nofun
theorem tk_pd {ts : List Addr} {H H' : Hp} {pd : Addr} {n k : Int} {b : Bool} (h : H pd = some (Wo.Dr n k b)) (f : WW.Fr ts (fun a => a = pd) H H') : TK H H' :=
  ⟨fun a xs e => f.kp a _ e (fun z => by rw [z, h] at e; cases e) rfl, fun a o xs e => f.kp a _ e (fun z => by rw [z, h] at e; cases e) rfl⟩
section
variable {P : Program} {w : World} {K : PySem.W.Frag} {mg : Str → Option Value} {base : Heap}
def spMixed (ts : List Addr) (K : PySem.W.Frag) (B : Int) : Sp := fun vs H Q _ => ∃ (pd : Addr) (n k : Int) (b : Bool), vs = [.ref pd] ∧ H pd = some (Wo.Dr n k b) ∧ 0 ≤ k ∧ k ≤ B ∧
  ∀ H' p rws n' k' b', WW.Fr ts (fun a => a = pd) H H' → H' pd = some (Wo.Dr n' k' b') → k ≤ k' → k' ≤ k + 2300 → Nw H p → p ≠ pd → rws.length ≤ 10 → BookAtM K H' p rws → Q (.ref p) H'
theorem sc_mixed_book : FnScope ["draws", "one", "other", "told", "k", "at", "row"] ["draws"] (defScope s_law_mixed_book) := ⟨rfl, rfl, rfl, by decide +kernel, rfl, by decide +kernel, by decide +kernel⟩
theorem k_mixed_book (A : Facts K mg base) (ts : List Addr) : Fk P w K mg base 7 "_law_mixed_book" ["draws"] (spMixed ts K 300000) := by
  refine def_ok (d := d_law_mixed_book) A.f_law_mixed_book rfl A.g_law_mixed_book sc_mixed_book (fun _ _ _ _ _ _ us hl => match us, hl with | [_], _ => rfl) (fun vs H Q E h => ?_) (fun A' outer s H vs Q E hr h => ?_)
  · obtain ⟨pd, n, k, b, rfl, _⟩ := h
    rfl
  · obtain ⟨pd, n, k, b, rfl, hpd, k0, k1, q⟩ := h
    have hz : 1000 < sizeLine := by decide
    refine ws_cons (w_set 1 (we_f (k_drawn_book A ts) hr (wa_cons (we_var 0 rfl (wa_nil ⟨pd, n, k, b, rfl, hpd, k0, by omega, fun H1 p1 rws1 n1 kk1 b1 f1 hpd1 lo1 hi1 nw1 np1 hl1 hb1 => ?_⟩)))) sc_mixed_book.nd)
    obtain ⟨⟨rs1, e1, t1, m1⟩, v1⟩ := hb1
    refine ws_cons (w_if0 (wt_cmp op_gt rfl (we_bin op_modB (we_f (k_next A) hr (wa_cons (we_var 0 rfl (wa_nil ⟨pd, n1, kk1, b1, rfl, hpd1, by omega, by omega, fun r2 n2 r20 r21 => ?_⟩)))))))
    have f2 : WW.Fr ts (fun a => a = pd) H (upd H1 pd (K05.Dr n2 (kk1 + 1) b1)) := f1.trans (WW.Fr.write rfl hpd1 rfl)
    have k2 : TK H1 (upd H1 pd (K05.Dr n2 (kk1 + 1) b1)) := tk_draw hpd1 _
    have hpd2 : upd H1 pd (K05.Dr n2 (kk1 + 1) b1) pd = some (Wo.Dr n2 (kk1 + 1) b1) := upd_same
    have e2 : upd H1 pd (K05.Dr n2 (kk1 + 1) b1) p1 = some (.lst (rs1.map (·.1))) := by rw [upd_ne np1]; exact e1
    generalize upd H1 pd _ = H2 at f2 k2 hpd2 e2 ⊢
    have t2 : ∀ r ∈ rs1, Td K H2 r := fun r hr => (t1 r hr).keep k2
    refine we_int ⟨r2, 3, rfl, rfl, by decide, fun z z0 z1 => we_int ⟨z, 0, rfl, rfl, _, rfl, ?_⟩⟩
    by_cases hz0 : (0 : Int) < z
    · rw [if_pos (decide_eq_true hz0)]
      exact ws_one (w_ret (we_var 1 rfl (q H2 p1 rws1 n2 (kk1 + 1) b1 f2 hpd2 (by omega) (by omega) nw1 np1 hl1 ⟨⟨rs1, e2, t2, m1⟩, v1.m⟩)))
    rw [if_neg (by rw [decide_eq_false hz0]; decide)]
    -- another history's rows, shifted
    refine ws_cons (w1_of (ps_setLcT (i := 2) (own := [("row", 6)]) (g := gName 6) (tt := tYes) (by rfl) sc_mixed_book.nd rfl rfl (sw_true rfl rfl rfl (by decide +kernel)) (pi_list WW.pe)
      (blkOk_by (own := [("row", 6)]) (N := ["draws", "one", "other", "told", "k", "at", "row"]) (sc := defScope s_law_mixed_book) (by decide +kernel)) (fun _ _ _ _ _ => pg_name (i := 6) sc_mixed_book.nd rfl (Or.inl rfl)) (fun _ _ _ _ _ => pts_nil) eb) ?_)
    refine we_f (k_drawn_book A ts) hr (wa_cons (we_var 0 rfl (wa_nil ⟨pd, n2, kk1 + 1, b1, rfl, hpd2, by omega, by omega, fun H3 p3 rws3 n3 kk3 b3 f3 hpd3 lo3 hi3 nw3 np3 hl3 hb3 => ?_⟩)))
    obtain ⟨⟨rs3, e3, t3, m3⟩, v3⟩ := hb3
    have hlen3 : rs3.length = rws3.length := by
      have := congrArg List.length m3
      rw [List.length_map, List.length_map] at this
      exact this
    refine ⟨p3, rfl, ⟨_, .inl (.inl e3)⟩, ?_⟩
    refine lc_by ts rs3.length (by omega) (fun D i acc Hc => ∃ rs' : List (V × PyData), acc = rs'.map (fun r : V × PyData => r.1) ∧ (∀ r ∈ rs', Td K Hc r) ∧ rs'.map (fun r : V × PyData => r.2) = ((rws3.take i).map shR).map rwD) (fun D Hc _ _ => ⟨[], rfl, by simp, rfl⟩)
      (fun D i acc zs Hc Hc' hd kp ⟨rs', a1, a2, a3⟩ => ⟨rs', a1, fun r hr => (a2 r hr).keep (tk_but hd kp), a3⟩) (fun D acc Hc hD fc hi hd => ?_) (fun D i acc Hc hn hD hd fc hi => ?_) gn_mono yes_mono eb_mono
    rotate_left
    · obtain ⟨rs', rfl, a2, a3⟩ := hi
      have e3c := fc.kp _ _ e3 (fun z => z) rfl
      obtain ⟨r, hr3⟩ : ∃ r, rs3[i]? = some r := ⟨_, List.getElem?_eq_getElem hn⟩
      obtain ⟨x, hx3⟩ : ∃ x, rws3[i]? = some x := ⟨_, List.getElem?_eq_getElem (by omega)⟩
      have hrx : r.2 = rwD x := by
        have h1 : (rs3.map (·.2))[i]? = some r.2 := by rw [List.getElem?_map, hr3]; rfl
        rw [m3, List.getElem?_map, hx3] at h1
        exact (Option.some.inj h1).symm
      have hv1 : (rs3.map (·.1))[i]? = some r.1 := by rw [List.getElem?_map, hr3]; rfl
      refine ⟨⟨_, _, .inl (.inl e3c), hv1⟩, fun v Hy ⟨eH, hv⟩ => ?_⟩
      subst eH
      have hv := hv _ (.inl (.inl e3c))
      rw [hv1] at hv
      cases hv
      have htd : Td K Hy (r.1, rwD x) := by
        rw [← hrx]
        exact (t3 r (List.mem_of_getElem? hr3)).keep (TK.fr fc)
      refine ⟨rfl, ?_⟩
      show EB _ _ _ _ _ _
      refine fun s1 H5 C1 cl1 fp1 => we_f (k_shifted A ts) hr (wa_cons (we_var 6 rfl (wa_nil ⟨r.1, x, rfl, htd, v3.ok x (List.mem_of_getElem? hx3), fun H6 v' f6 ht6 => ⟨f6, rs' ++ [(v', rwD (shR x))], by rw [List.map_append]; rfl, fun y hy => ?_, ?_⟩⟩)))
      · rcases List.mem_append.mp hy with hy | hy
        · exact (a2 y hy).keep (TK.fr f6)
        · rw [List.mem_singleton.mp hy]
          exact ht6
      · rw [List.take_add_one, hx3, List.map_append, List.map_append, List.map_append, a3]
        rfl
    obtain ⟨rs', rfl, a2, a3⟩ := hi
    rw [hlen3, List.take_length] at a3
    have e3c := fc.kp _ _ e3 (fun z => z) rfl
    refine ⟨⟨_, .inl (.inl e3c), by rw [List.length_map]; exact Nat.le_refl _⟩, ?_⟩
    have f4 : WW.Fr ts (fun a => a = pd) H Hc := (f2.trans f3).trans (fc.mono fun _ z => z.elim)
    have hpd4 := fc.kp _ _ hpd3 (fun z => z) rfl
    have e4 : Hc p1 = some (.lst (rs1.map (·.1))) := fc.kp _ _ (f3.kp _ _ e2 np1 rfl) (fun z => z) rfl
    have t4 : ∀ r ∈ rs1, Td K Hc r := fun r hr => ((t2 r hr).keep (tk_pd hpd2 f3)).keep (TK.fr fc)
    -- some of both
    refine ws_cons (w_set 3 (we_bin op_cat (we_slTo (we_var 1 rfl (we_int ⟨5, rfl, p1, _, rfl, .inl (.inl e4), fun pa hpa => ?_⟩)))) sc_mixed_book.nd)
    have dD : D ≠ pd := fun z => by rw [z, hpd3] at hD; cases hD
    have fa : WW.Fr ts Nil Hc (upd Hc pa (.lst (cutV (rs1.map (·.1)) none (some 5)))) := WW.Fr.new hpa
    have hda := fa.kp _ _ hd (fun z => z) rfl
    have ha1 : upd Hc pa (.lst (cutV (rs1.map (·.1)) none (some 5))) pa = some (.lst (cutV (rs1.map (·.1)) none (some 5))) := upd_same
    generalize upd Hc pa _ = Ga at fa hda ha1 ⊢
    refine we_slTo (we_var 2 rfl (we_int ⟨5, rfl, D, _, rfl, .inl (.inl hda), fun pb hpb => ?_⟩))
    have fb : WW.Fr ts Nil Ga (upd Ga pb (.lst (cutV (rs'.map (fun r : V × PyData => r.1)) none (some 5)))) := WW.Fr.new hpb
    have hab := fb.kp _ _ ha1 (fun z => z) rfl
    have hbb : upd Ga pb (.lst (cutV (rs'.map (fun r : V × PyData => r.1)) none (some 5))) pb = some (.lst (cutV (rs'.map (fun r : V × PyData => r.1)) none (some 5))) := upd_same
    generalize upd Ga pb _ = Gb at fb hab hbb ⊢
    rw [cut_to _ _ (by decide)] at hab hbb
    have l1 : (List.take (5 : Int).toNat (rs1.map (·.1))).length ≤ 5 := by rw [List.length_take]; exact Nat.min_le_left _ _
    have l2 : (List.take (5 : Int).toNat (rs'.map (fun r : V × PyData => r.1))).length ≤ 5 := by rw [List.length_take]; exact Nat.min_le_left _ _
    refine ⟨pa, pb, _, _, rfl, rfl, hab, hbb, by omega, fun pt hpt => ?_⟩
    have ft : WW.Fr ts Nil Hc (upd Gb pt (.lst (List.take (5 : Int).toNat (rs1.map (·.1)) ++ List.take (5 : Int).toNat (rs'.map (fun r : V × PyData => r.1))))) := (fa.trans fb).trans (WW.Fr.new hpt)
    have het : upd Gb pt (.lst (List.take (5 : Int).toNat (rs1.map (·.1)) ++ List.take (5 : Int).toNat (rs'.map (fun r : V × PyData => r.1)))) pt = some (.lst ((rs1.take 5 ++ rs'.take 5).map (fun r : V × PyData => r.1))) := by
      rw [upd_same, List.map_append, List.map_take, List.map_take]
      rfl
    have nwpd : ∀ {Hx : Hp} {px : Addr}, WW.Fr ts (fun a => a = pd) H Hx → Hx px = none → px ≠ pd → Nw H px := fun {Hx px} fx hx hne u hu => by
      cases ht : nt u with
      | false => rfl
      | true =>
        have := fx.kp px u hu hne ht
        rw [hx] at this
        cases this
    have hpdb := (fa.trans fb).kp _ _ hpd4 (fun z => z) rfl
    have npt : pt ≠ pd := fun z => by rw [z, hpdb] at hpt; cases hpt
    have nwt := nwpd (f4.trans ((fa.trans fb).mono fun _ z => z.elim)) hpt npt
    have f5 : WW.Fr ts (fun a => a = pd) H _ := f4.trans (ft.mono fun _ z => z.elim)
    have hpd5 := ft.kp _ _ hpd4 (fun z => z) rfl
    have t5 : ∀ r ∈ rs1.take 5 ++ rs'.take 5, Td K (upd Gb pt (.lst (List.take (5 : Int).toNat (rs1.map (·.1)) ++ List.take (5 : Int).toNat (rs'.map (fun r : V × PyData => r.1))))) r := fun r hr => by
      rcases List.mem_append.mp hr with hr | hr
      · exact (t4 r (List.mem_of_mem_take hr)).keep (TK.fr ft)
      · exact (a2 r (List.mem_of_mem_take hr)).keep (TK.fr ft)
    have m5 : (rs1.take 5 ++ rs'.take 5).map (fun r : V × PyData => r.2) = (rws1.take 5 ++ (rws3.take 5).map shR).map rwD := by
      rw [List.map_append, List.map_append, List.map_take, List.map_take, a3, m1, List.map_take, List.map_take, List.map_take]
    have v5 : BookM (rws1.take 5 ++ (rws3.take 5).map shR) := (v1.take 5).mix (v3.take 5)
    have len5 : (rws1.take 5 ++ (rws3.take 5).map shR).length ≤ 10 := by
      rw [List.length_append, List.length_map, List.length_take, List.length_take]
      omega
    generalize upd Gb pt _ = G5 at f5 hpd5 het t5 ⊢
    generalize rs1.take 5 ++ rs'.take 5 = rsT at het t5 m5
    generalize rws1.take 5 ++ (rws3.take 5).map shR = rwsT at m5 v5 len5
    refine ws_cons (w_for (pi_range1 rfl A.n_range WW.pa) (pg_name (i := 4) sc_mixed_book.nd rfl (Or.inl rfl)) (by rfl) (wa_cons (we_bin op_modB (we_f (k_next A) hr (wa_cons (we_var 0 rfl (wa_nil ⟨pd, n3, kk3, b3, rfl, hpd5, by omega, by omega, fun r6 n6 r60 r61 => ?_⟩)))))))
    have f6 : WW.Fr ts (fun a => a = pd) H (upd G5 pd (K05.Dr n6 (kk3 + 1) b3)) := f5.trans (WW.Fr.write rfl hpd5 rfl)
    have k6 : TK G5 (upd G5 pd (K05.Dr n6 (kk3 + 1) b3)) := tk_draw hpd5 _
    have hpd6 : upd G5 pd (K05.Dr n6 (kk3 + 1) b3) pd = some (Wo.Dr n6 (kk3 + 1) b3) := upd_same
    have e6 : upd G5 pd (K05.Dr n6 (kk3 + 1) b3) pt = some (.lst (rsT.map (fun r : V × PyData => r.1))) := by rw [upd_ne npt]; exact het
    generalize upd G5 pd _ = G6 at f6 k6 hpd6 e6 ⊢
    have t6 : ∀ r ∈ rsT, Td K G6 r := fun r hr => (t5 r hr).keep k6
    refine we_int ⟨r6, 3, rfl, rfl, by decide, fun y y0 y1 => wa_nil ⟨y, rfl, by omega, by omega, ?_⟩⟩
    refine for_by y.toNat (fun i σ Hx => ∃ (px : Addr) (rsX : List (V × PyData)) (rwsX : List Rw) (nx kx : Int) (bx : Bool) (o4 o5 o6 : Option V), σ = [some (.ref pd), some (.ref p1), some (.ref D), some (.ref px), o4, o5, o6] ∧ WW.Fr ts (fun a => a = pd) H Hx ∧ Hx pd = some (Wo.Dr nx kx bx) ∧ Nw H px ∧ px ≠ pd ∧
      Hx px = some (.lst (rsX.map (fun r : V × PyData => r.1))) ∧ (∀ r ∈ rsX, Td K Hx r) ∧ rsX.map (fun r : V × PyData => r.2) = rwsX.map rwD ∧ rwsX.Perm rwsT ∧ kk3 + 1 ≤ kx ∧ kx ≤ kk3 + 1 + i) ⟨pt, rsT, rwsT, n6, kk3 + 1, b3, none, none, none, rfl, f6, hpd6, nwt, npt, e6, t6, m5, .refl _, by omega, by omega⟩ (fun σ Hx hi => ?_) (fun i σ Hx hn hi => ?_)
    · obtain ⟨px, rsX, rwsX, nx, kx, bx, o4, o5, o6, rfl, fx, hpx, nwx, npx, ex, tx, mx, pmx, lox, hix⟩ := hi
      refine ⟨Nat.le_refl _, ?_⟩
      exact ws_one (w_ret (we_var 3 rfl (q Hx px rwsX nx kx bx fx hpx (by omega) (by omega) nwx npx (by rw [pmx.length_eq]; exact len5) ⟨⟨rsX, ex, tx, mx⟩, v5.perm pmx⟩)))
    obtain ⟨px, rsX, rwsX, nx, kx, bx, o4, o5, o6, rfl, fx, hpx, nwx, npx, ex, tx, mx, pmx, lox, hix⟩ := hi
    refine ⟨hn, fun v Hy ⟨eH, hv⟩ => ?_⟩
    subst eH
    subst hv
    have lenX : rsX.length ≤ 10 := by
      have := congrArg List.length mx
      rw [List.length_map, List.length_map, pmx.length_eq] at this
      omega
    refine ws_cons (w_set 5 (we_bin op_modB (we_f (k_next A) hr (wa_cons (we_var 0 rfl (wa_nil ⟨pd, nx, kx, bx, rfl, hpx, by omega, by omega, fun r7 n7 r70 r71 => ?_⟩))))) sc_mixed_book.nd)
    have f7 : WW.Fr ts (fun a => a = pd) H (upd Hy pd (K05.Dr n7 (kx + 1) bx)) := fx.trans (WW.Fr.write rfl hpx rfl)
    have k7 : TK Hy (upd Hy pd (K05.Dr n7 (kx + 1) bx)) := tk_draw hpx _
    have hpd7 : upd Hy pd (K05.Dr n7 (kx + 1) bx) pd = some (Wo.Dr n7 (kx + 1) bx) := upd_same
    have e7 : upd Hy pd (K05.Dr n7 (kx + 1) bx) px = some (.lst (rsX.map (fun r : V × PyData => r.1))) := by rw [upd_ne npx]; exact ex
    generalize upd Hy pd _ = G7 at f7 k7 hpd7 e7 ⊢
    have t7 : ∀ r ∈ rsX, Td K G7 r := fun r hr => (tx r hr).keep k7
    refine we_callB (call_max2 (by rfl)) A.n_max rfl (wa_cons (we_int (wa_cons (we_callB call_len_seq A.n_len rfl (wa_cons (we_var 3 rfl (wa_nil ⟨px, _, rfl, .inl (.inl (.inl e7)), ?_⟩)))))))
    refine wa_nil ⟨1, _, rfl, r7, _, rfl, rfl, by split <;> omega, fun at1 at0 at2 => ?_⟩
    -- turned about
    refine ws_one (w_set 3 (we_bin op_cat (we_slFr (we_var 3 rfl (we_var 5 rfl ⟨at1, rfl, px, _, rfl, .inl (.inl e7), fun pa hpa => ?_⟩)))) sc_mixed_book.nd)
    have fa : WW.Fr ts Nil G7 (upd G7 pa (.lst (cutV (rsX.map (fun r : V × PyData => r.1)) (some at1) none))) := WW.Fr.new hpa
    have e8 := fa.kp _ _ e7 (fun z => z) rfl
    have ha1 : upd G7 pa (.lst (cutV (rsX.map (fun r : V × PyData => r.1)) (some at1) none)) pa = some (.lst (cutV (rsX.map (fun r : V × PyData => r.1)) (some at1) none)) := upd_same
    generalize upd G7 pa _ = Ga at fa e8 ha1 ⊢
    refine we_slTo (we_var 3 rfl (we_var 5 rfl ⟨at1, rfl, px, _, rfl, .inl (.inl e8), fun pb hpb => ?_⟩))
    have fb : WW.Fr ts Nil Ga (upd Ga pb (.lst (cutV (rsX.map (fun r : V × PyData => r.1)) none (some at1)))) := WW.Fr.new hpb
    have hab := fb.kp _ _ ha1 (fun z => z) rfl
    have hbb : upd Ga pb (.lst (cutV (rsX.map (fun r : V × PyData => r.1)) none (some at1))) pb = some (.lst (cutV (rsX.map (fun r : V × PyData => r.1)) none (some at1))) := upd_same
    generalize upd Ga pb _ = Gb at fb hab hbb ⊢
    rw [cut_fr _ _ at0] at hab
    rw [cut_to _ _ at0] at hbb
    refine ⟨pa, pb, _, _, rfl, rfl, hab, hbb, by rw [List.length_drop, List.length_take, List.length_map]; omega, fun pz hpz => ?_⟩
    have fz : WW.Fr ts Nil G7 (upd Gb pz (.lst (List.drop at1.toNat (rsX.map (fun r : V × PyData => r.1)) ++ List.take at1.toNat (rsX.map (fun r : V × PyData => r.1))))) := (fa.trans fb).trans (WW.Fr.new hpz)
    have hpdb := (fa.trans fb).kp _ _ hpd7 (fun z => z) rfl
    have npz : pz ≠ pd := fun z => by rw [z, hpdb] at hpz; cases hpz
    refine ⟨pz, rsX.drop at1.toNat ++ rsX.take at1.toNat, rwsX.drop at1.toNat ++ rwsX.take at1.toNat, n7, kx + 1, bx, _, _, o6, rfl, f7.trans (fz.mono fun _ z => z.elim), fz.kp _ _ hpd7 (fun z => z) rfl, nwpd (f7.trans ((fa.trans fb).mono fun _ z => z.elim)) hpz npz, npz, ?_, fun r hr => ?_, ?_, ?_, by omega, by omega⟩
    · rw [upd_same, List.map_append, List.map_drop, List.map_take]
    · rcases List.mem_append.mp hr with hr | hr
      · exact (t7 r (List.mem_of_mem_drop hr)).keep (TK.fr fz)
      · exact (t7 r (List.mem_of_mem_take hr)).keep (TK.fr fz)
    · rw [List.map_append, List.map_append, List.map_drop, List.map_take, mx, List.map_drop, List.map_take]
    · refine List.Perm.trans (List.perm_append_comm) ?_
      rw [List.take_append_drop]
      exact pmx
end
end K05

set_option Elab.async false
set_option linter.all false
set_option maxRecDepth 100000
set_option maxHeartbeats 4000000
/-! forms.py, at values that are right -/
namespace K05
open PySem PySem.Spec PyProof.Rows L2 WW Wo Pa
def signs : Str := "abcdefghijklmnopqrstuvwxyz0123456789"
/-- a word -/
structure WordOk (u : Str) : Prop where
  lo : 1 ≤ u.length
  hi : u.length ≤ 6
  sg : ∀ c ∈ u.cps.toList, c ∈ signs.cps.toList
  ok : PyData.strOk u = true
/-- a number from 0 up to the marks' end -/
def MarkOk (m : Int) : Prop := 0 ≤ m ∧ m < 10 ^ 30
section
variable {P : Program} {w : World} {K : PySem.W.Frag} {mg : Str → Option Value} {base : Heap}
/-- True is told, and only new things are made -/
def Yes (ts : List Addr) (b : Bool) (H : Hp) (Q : VK) : Prop := ∀ H', WW.Fr ts Nil H H' → Q (.bl b) H'
theorem tb_ts (A : Facts K mg base) : ∀ {p}, p ∈ tfL → (He.cT K p).2 ∈ tsK K := fun h => List.mem_map.mpr ⟨_, h, rfl⟩
theorem sc_is_whole : FnScope ["thing"] ["thing"] (defScope s_is_whole) := ⟨rfl, rfl, rfl, by decide +kernel, rfl, by decide +kernel, by decide +kernel⟩
theorem sc_is_below : FnScope ["thing", "end"] ["thing", "end"] (defScope s_is_below) := ⟨rfl, rfl, rfl, by decide +kernel, rfl, by decide +kernel, by decide +kernel⟩
theorem sc_is_spelled : FnScope ["thing", "longest", "signs"] ["thing", "longest", "signs"] (defScope s_is_spelled) := ⟨rfl, rfl, rfl, by decide +kernel, rfl, by decide +kernel, by decide +kernel⟩
theorem sc_is_word : FnScope ["thing"] ["thing"] (defScope s_is_word) := ⟨rfl, rfl, rfl, by decide +kernel, rfl, by decide +kernel, by decide +kernel⟩
theorem sc_is_mark : FnScope ["thing"] ["thing"] (defScope s_is_mark) := ⟨rfl, rfl, rfl, by decide +kernel, rfl, by decide +kernel, by decide +kernel⟩
theorem sc_is_way : FnScope ["thing"] ["thing"] (defScope s_is_way) := ⟨rfl, rfl, rfl, by decide +kernel, rfl, by decide +kernel, by decide +kernel⟩
def spWhole : Sp := fun vs H Q _ => ∃ i : Int, vs = [.int i] ∧ Q (.bl true) H
theorem k_is_whole (A : Facts K mg base) : Fk P w K mg base 1 "is_whole" ["thing"] spWhole := by
  refine def_ok (d := d_is_whole) A.f_is_whole rfl A.g_is_whole sc_is_whole (fun _ _ _ _ _ _ us hl => match us, hl with | [_], _ => rfl) (fun vs H Q E h => ?_) (fun A' outer s H vs Q E hr h => ?_)
  · obtain ⟨i, rfl, _⟩ := h
    rfl
  · obtain ⟨i, rfl, q⟩ := h
    refine ws_one (w_ret (we_and (we_isi (we_var 0 rfl ⟨_, true, .base (.int i), kit_eq _ _, true, rfl, ?_⟩) A.n_isinstance A.n_int rfl)))
    rw [if_pos rfl]
    exact we_last (we_not (we_isi (we_var 0 rfl ⟨_, false, .base (.int i), kit_bi, false, rfl, q⟩) A.n_isinstance A.n_bool rfl))
def spBelow : Sp := fun vs H Q _ => ∃ i e : Int, vs = [.int i, .int e] ∧ 0 ≤ i ∧ i < e ∧ Q (.bl true) H
theorem k_is_below (A : Facts K mg base) : Fk P w K mg base 2 "is_below" ["thing", "end"] spBelow := by
  refine def_ok (d := d_is_below) A.f_is_below rfl A.g_is_below sc_is_below (fun _ _ _ _ _ _ us hl => match us, hl with | [_, _], _ => rfl) (fun vs H Q E h => ?_) (fun A' outer s H vs Q E hr h => ?_)
  · obtain ⟨i, e, rfl, _⟩ := h
    rfl
  · obtain ⟨i, e, rfl, h0, h1, q⟩ := h
    refine ws_one (w_ret (we_and (we_f (k_is_whole A) hr (wa_cons (we_var 0 rfl (wa_nil ⟨i, rfl, true, rfl, ?_⟩))))))
    rw [if_pos rfl]
    refine we_last (we_chain op_le op_lt (we_int (we_var 0 rfl ⟨0, i, rfl, rfl, true, congrArg V.bl (decide_eq_true h0), ?_⟩)))
    rw [if_pos rfl]
    refine we_var 1 rfl ⟨i, e, rfl, rfl, ?_⟩
    show Q (.bl (decide (i < e))) H
    rw [decide_eq_true h1]
    exact q
def spMark : Sp := fun vs H Q _ => ∃ i : Int, vs = [.int i] ∧ MarkOk i ∧ Q (.bl true) H
theorem k_is_mark (A : Facts K mg base) : Fk P w K mg base 3 "is_mark" ["thing"] spMark := by
  refine def_ok (d := d_is_mark) A.f_is_mark rfl A.g_is_mark sc_is_mark (fun _ _ _ _ _ _ us hl => match us, hl with | [_], _ => rfl) (fun vs H Q E h => ?_) (fun A' outer s H vs Q E hr h => ?_)
  · obtain ⟨i, rfl, _⟩ := h
    rfl
  · obtain ⟨i, rfl, hm, q⟩ := h
    obtain ⟨t, ht⟩ := A.c_MARK_END
    exact ws_one (w_ret (we_f (k_is_below A) hr (wa_cons (we_var 0 rfl (wa_cons (we_glob (v := .int 1000000000000000000000000000000) ht ⟨t, rfl⟩ (wa_nil ⟨i, _, rfl, hm.1, hm.2, q⟩)))))))
/-- an element of a generator expression, in whatever frame -/
def ET (X : Cx) (elt iter : Expr) (x : Str) (px : Pos) (scope : Scope) (gpos : Pos) (fr : List Str) : TE := fun σ H Q => ∀ (s1 : Shared) (H1 : Hp) (C it : Addr) (code : Value), WE (GA.gcx X s1 H1 (x :: fr) (GA.gEnv X scope C code builtinsNs) (GA.gA X.A elt iter x px scope gpos (.ref it) (GA.gEnv X scope C code builtinsNs))) elt σ H Q
theorem et {X : Cx} {elt iter : Expr} {x : Str} {px gpos : Pos} {scope : Scope} {fr : List Str} : GA.EltAt X elt iter x px scope gpos fr (ET X elt iter x px scope gpos fr) :=
  fun s1 H1 C it code => ⟨fun pins s σ H Q I h => h s1 H1 C it code pins s I⟩
/-- the turns of all(..), where each answers True and keeps what was -/
theorem all_by {P0 : Addr} {js : List Nat} {te : TE} {n : Nat} {item : Nat → V → Prop} {Ok : Hp → Prop} {σ : L2.St} {H1 : Hp} {Q : VK} {ts : List Addr} (hP : P0 ∈ ts) (tb : Tbs ts H1) (ok : ∀ H, WW.Fr ts Nil H1 H → Ok H)
    (turn : ∀ i y H, i < n → item i y → WW.Fr ts Nil H1 H → te (some y :: js.map (NdefX.slotAt σ)) H fun b H' => b = .bl true ∧ WW.Fr ts Nil H1 H') (q : ∀ H, WW.Fr ts Nil H1 H → Q (.bl true) H) : GA.tTurns P0 js te n item Ok σ H1 Q := by
  refine ⟨tb _ hP, fun _ H => WW.Fr ts Nil H1 H, fun _ => true, fun H2 ⟨t1, t2⟩ => ⟨fun a o e _ hn => ?_, fun tb p hp => ?_⟩, fun i H _ f => ok H f, fun i y H hi hy _ f => turn i y H hi hy f, fun i H _ _ z _ => (by cases z), fun H _ f => q H f⟩
  · have ne : a ≠ P0 := fun z => by
      obtain ⟨ps, e2, _⟩ := tb _ hP
      rw [z, e2] at e
      cases e
      cases hn
    rw [t2 a ne]
    exact e
  · by_cases z : p = P0
    · rw [z]
      exact t1
    · obtain ⟨ps, e2, e3⟩ := tb p hp
      exact ⟨ps, by rw [t2 p z]; exact e2, e3⟩
theorem fr_spelled : ∀ y ∈ ([(".0", .local), ("sign", .local), ("signs", .free)] : List (Str × NameKind)), y.2 = .free → (defScope s_is_spelled).names.lookup y.1 = some .cell ∨ (defScope s_is_spelled).names.lookup y.1 = some .free := by decide +kernel
def spSpelled (ts : List Addr) (K : PySem.W.Frag) : Sp := fun vs H Q _ => ∃ u : Str, vs = [.str u, .int 6, .str signs] ∧ WordOk u ∧ Tbs ts H ∧ Yes ts true H Q
theorem k_is_spelled (A : Facts K mg base) : Fk P w K mg base 4 "is_spelled" ["thing", "longest", "signs"] (spSpelled (tsK K) K) := by
  refine def_ok (d := d_is_spelled) A.f_is_spelled rfl A.g_is_spelled sc_is_spelled (fun _ _ _ _ _ _ us hl => match us, hl with | [_, _, _], _ => rfl) (fun vs H Q E h => ?_) (fun A' outer s H vs Q E hr h => ?_)
  · obtain ⟨u, rfl, _⟩ := h
    rfl
  · obtain ⟨u, rfl, hu, tb, q⟩ := h
    refine ws_one (w_ret (we_and (we_isi (we_var 0 rfl ⟨_, true, .base (.str u), kit_eq _ _, true, rfl, ?_⟩) A.n_isinstance A.n_str rfl)))
    rw [if_pos rfl]
    refine we_and (we_chain op_le op_le (we_int (we_callB call_len_str A.n_len rfl (wa_cons (we_var 0 rfl (wa_nil ⟨u, rfl, Nat.le_trans hu.hi (by decide), 1, _, rfl, rfl, true, congrArg V.bl (decide_eq_true (by have := hu.lo; omega)), ?_⟩))))))
    rw [if_pos rfl]
    refine we_var 1 rfl ⟨_, 6, rfl, rfl, true, congrArg V.bl (decide_eq_true (by have := hu.hi; omega)), ?_⟩
    rw [if_pos rfl]
    refine we_last (we_of (GA.pe_allZ (fr := ["signs"]) (js := [2]) hr rfl A.n_all A.tb_is_spelled rfl ⟨rfl, rfl, by decide +kernel, rfl, rfl, fr_spelled, by decide +kernel, rfl, by decide +kernel⟩ pe et) ?_)
    refine we_var 0 rfl ⟨u, rfl, all_by (tb_ts A (p := ("is_spelled", none)) (by decide +kernel)) tb (fun _ _ => True.intro) (fun i y H' hi ⟨c, hc, hy⟩ f => ?_) q⟩
    subst hy
    refine fun s1 H1 C it code => ?_
    refine we_cmp op_in_sign rfl (we_var 0 rfl (we_var 1 rfl ⟨c, signs, rfl, rfl, ?_⟩))
    rw [decide_eq_true (hu.sg c (by rw [← Array.getElem?_toList] at hc; exact List.mem_of_getElem? hc))]
    exact ⟨rfl, f⟩
def spIsWord (ts : List Addr) (K : PySem.W.Frag) : Sp := fun vs H Q _ => ∃ u : Str, vs = [.str u] ∧ WordOk u ∧ Tbs ts H ∧ Yes ts true H Q
theorem k_is_word (A : Facts K mg base) : Fk P w K mg base 5 "is_word" ["thing"] (spIsWord (tsK K) K) := by
  refine def_ok (d := d_is_word) A.f_is_word rfl A.g_is_word sc_is_word (fun _ _ _ _ _ _ us hl => match us, hl with | [_], _ => rfl) (fun vs H Q E h => ?_) (fun A' outer s H vs Q E hr h => ?_)
  · obtain ⟨u, rfl, _⟩ := h
    rfl
  · obtain ⟨u, rfl, hu, tb, q⟩ := h
    obtain ⟨t1, h1⟩ := A.c_LONGEST_WORD
    obtain ⟨t2, h2⟩ := A.c_WORD_SIGNS
    exact ws_one (w_ret (we_f (k_is_spelled A) hr (wa_cons (we_var 0 rfl (wa_cons (we_glob (v := .int 6) h1 ⟨t1, rfl⟩ (wa_cons (we_glob (v := .str signs) h2 ⟨t2, rfl⟩ (wa_nil ⟨u, rfl, hu, tb, q⟩)))))))))
/-- a tuple of words -/
def WayOk (ws : List Str) : Prop := ∀ u ∈ ws, WordOk u
theorem fr_isway : ∀ y ∈ ([(".0", .local), ("word", .local), ("is_word", .globalImplicit)] : List (Str × NameKind)), y.2 = .free → (defScope s_is_way).names.lookup y.1 = some .cell ∨ (defScope s_is_way).names.lookup y.1 = some .free := by decide +kernel
def spIsWay (ts : List Addr) (K : PySem.W.Frag) : Sp := fun vs H Q _ => (∃ (p : Addr) (ws : List Str), vs = [.ref p] ∧ SqT K H p (ws.map V.str) ∧ WayOk ws ∧ Tbs ts H ∧ Yes ts true H Q) ∨ ∃ (v : V) (t : Value), vs = [v] ∧ TyX K H v t ∧ PySem.W.kitOne K t (.type "tuple") = some false ∧ Q (.bl false) H
theorem k_is_way (A : Facts K mg base) : Fk P w K mg base 8 "is_way" ["thing"] (spIsWay (tsK K) K) := by
  refine def_ok (d := d_is_way) A.f_is_way rfl A.g_is_way sc_is_way (fun _ _ _ _ _ _ us hl => match us, hl with | [_], _ => rfl) (fun vs H Q E h => ?_) (fun A' outer s H vs Q E hr h => ?_)
  · rcases h with ⟨p, ws, rfl, _⟩ | ⟨v, t, rfl, _⟩ <;> rfl
  rcases h with ⟨p, ws, rfl, hp, hw, tb, q⟩ | ⟨v, t, rfl, ht, hk, q⟩
  · refine ws_one (w_ret (we_and (we_isi (we_var 0 rfl ⟨_, true, ty_tup hp, kit_eq _ _, true, rfl, ?_⟩) A.n_isinstance A.n_tuple rfl)))
    rw [if_pos rfl]
    refine we_last (we_of (GA.pe_allT (fr := []) (js := []) hr rfl A.n_all A.tb_is_way rfl ⟨rfl, rfl, by decide +kernel, rfl, rfl, fr_isway, by decide +kernel, rfl, by decide +kernel⟩ pe et) ?_)
    refine we_var 0 rfl ⟨p, _, rfl, hp, all_by (tb_ts A (p := ("is_way", none)) (by decide +kernel)) tb (fun H f => (TK.fr f).sqt hp) (fun i y H' hi hy f => ?_) q⟩
    rw [List.getElem?_map] at hy
    obtain ⟨u, hu, rfl⟩ := Option.map_eq_some_iff.mp hy
    refine fun s1 H1 C it code => ?_
    refine we_f (k_is_word A) (j := 5) (GA.gRoom (k := 5) (hr.mono (by decide))) (wa_cons (we_var 0 rfl (wa_nil ⟨u, rfl, hw u (List.mem_of_getElem? hu), f.tb tb, fun H2 f2 => ⟨rfl, f.trans f2⟩⟩)))
  · refine ws_one (w_ret (we_and (we_isi (we_var 0 rfl ⟨t, false, ht, hk, false, rfl, ?_⟩) A.n_isinstance A.n_tuple rfl)))
    rw [if_neg (by decide)]
    exact q
end
end K05

set_option Elab.async false
set_option linter.all false
set_option maxRecDepth 100000
set_option maxHeartbeats 4000000
/-! books.py: errands and what they bring, at rows that are right -/
namespace K05
open PySem PySem.Spec PyProof.Rows L2 WW Wo Pa
def ErF : Er → Prop
  | .leave m => MarkOk m
  | .look m => MarkOk m
  | .meet s => MarkOk s
  | _ => True
def Rise (ws : List Str) : Prop := ∀ (i : Nat) (u v : Str), ws[i]? = some u → ws[i + 1]? = some v → u.cps.toList < v.cps.toList
inductive ThingF : Er → PyData → Prop
  | walk : ThingF .walk .none
  | list (ws : List Str) : Rise ws → WayOk ws → ws.length ≤ 60 → ThingF .list (.tuple (ws.map .str))
  | leave (m : Int) : ThingF (.leave m) .none
  | look (m : Int) (b : Bool) : ThingF (.look m) (.bool b)
  | self (u v : Str) : ThingF (.tie u v) (.str "self")
  | tie (u v : Str) (a b : Str) : WordOk a → WordOk b → ThingF (.tie u v) (.tuple [.str a, .str b])
  | part : ThingF .part .none
  | mnone (s : Int) : ThingF (.meet s) .none
  | mself (s : Int) : ThingF (.meet s) (.str "self")
  | met (s : Int) : ThingF (.meet s) (.str "met")
/-- a row that is right by its form -/
def RwF : Rw → Prop
  | .met b s => WordOk b ∧ MarkOk s
  | .lost way e bk => WayOk way ∧ WayOk bk ∧ bk.length < way.length ∧ way.length ≤ 8 ∧ ErF e ∧ (e = .part → way ≠ [])
  | .came way e bk d => WayOk way ∧ WayOk bk ∧ bk.length = way.length ∧ way.length ≤ 8 ∧ ErF e ∧ ThingF e d ∧ (e = .part → way ≠ [])
theorem allW_word : ∀ u ∈ allW, WordOk u := by
  have h : ∀ u ∈ allW, 1 ≤ u.length ∧ u.length ≤ 6 ∧ (∀ c ∈ u.cps.toList, c ∈ signs.cps.toList) ∧ PyData.strOk u = true := by decide +kernel
  exact fun u hu => ⟨(h u hu).1, (h u hu).2.1, (h u hu).2.2.1, (h u hu).2.2.2⟩
theorem allW_way {ws : List Str} (h : ∀ u ∈ ws, u ∈ allW) : WayOk ws := fun u hu => allW_word u (h u hu)
theorem ErNumM.f {e : Er} (h : ErNumM e) : ErF e := by
  cases e with
  | leave m => exact ⟨h.1, Int.lt_of_le_of_lt h.2 (by decide)⟩
  | look m => exact ⟨h.1, Int.lt_of_le_of_lt h.2 (by decide)⟩
  | meet m => exact ⟨h.1, Int.lt_of_le_of_lt h.2 (by decide)⟩
  | _ => exact True.intro
theorem cps_lt {u v : Str} (h : ltCps v.cps.toList u.cps.toList = false) (n : u ≠ v) : u.cps.toList < v.cps.toList := by
  rw [ltCps_eq] at h
  have h1 : ¬ v.cps.toList < u.cps.toList := of_decide_eq_false h
  have h2 : u.cps.toList ≠ v.cps.toList := fun z => n (by
    cases u
    cases v
    simp only at z
    exact congrArg Str.mk (Array.toList_inj.mp z))
  rcases List.le_iff_lt_or_eq.mp (List.not_lt.mp h1) with q | q
  · exact q
  · exact absurd q h2
theorem rise_from : ∀ (p : Str) (ws : List Str), (p :: ws).Nodup → risingS p ws = true → Rise (p :: ws)
  | p, [], _, _, i, u, v, _, h2 => by cases i <;> simp at h2
  | p, x :: r, nd, hs, i, u, v, h1, h2 => by
    have hs : (!ltCps x.cps.toList p.cps.toList && risingS x r) = true := hs
    rw [Bool.and_eq_true, Bool.not_eq_true'] at hs
    cases i with
    | zero =>
      cases h1
      cases h2
      exact cps_lt hs.1 fun z => by
        rw [List.nodup_cons] at nd
        exact nd.1 (by rw [z]; exact List.mem_cons_self ..)
    | succ j => exact rise_from x r (List.nodup_cons.mp nd).2 hs.2 j u v h1 h2
theorem rise_of {ws : List Str} (nd : ws.Nodup) (hs : sortedS ws = true) : Rise ws := by
  cases ws with
  | nil => intro i u v h1 _; simp at h1
  | cons x r => exact rise_from x r nd hs
theorem ThingOk.f {e : Er} {d : PyData} (h : ThingOk e d) : ThingF e d := by
  cases h with
  | walk => exact .walk
  | list ws a b c d => exact .list ws (rise_of a b) (allW_way c) d
  | leave m => exact .leave _
  | look m b => exact .look _ b
  | self u v => exact .self u v
  | tie u v a b => exact .tie u v u v (allW_word u a) (allW_word v b)
  | part => exact .part
  | mnone s => exact .mnone _
  | mself s => exact .mself _
  | met s => exact .met _
theorem RwM.f {r : Rw} (h : RwM r) : RwF r := by
  cases r with
  | met b s => exact ⟨allW_word b h.1, h.2.1, Int.lt_of_le_of_lt h.2.2 (by decide)⟩
  | lost way e bk =>
    refine ⟨allW_way h.1, allW_way h.2.1, h.2.2.1, Nat.le_trans h.2.2.2.1 (by decide), h.2.2.2.2.f, fun _ z => ?_⟩
    have := h.2.2.1
    rw [z] at this
    exact absurd this (Nat.not_lt_zero _)
  | came way e bk d => exact ⟨allW_way h.1, allW_way h.2.1, h.2.2.1, Nat.le_trans h.2.2.2.1 (by decide), h.2.2.2.2.1.f, h.2.2.2.2.2.1.f, h.2.2.2.2.2.2⟩
def isTie : Er → Bool
  | .tie _ _ => true
  | _ => false
section
variable {P : Program} {w : World} {K : PySem.W.Frag} {mg : Str → Option Value} {base : Heap}
theorem sc_is_shared_errand : FnScope ["thing"] ["thing"] (defScope s_is_shared_errand) := ⟨rfl, rfl, rfl, by decide +kernel, rfl, by decide +kernel, by decide +kernel⟩
theorem sc_is_row_errand : FnScope ["thing"] ["thing"] (defScope s_is_row_errand) := ⟨rfl, rfl, rfl, by decide +kernel, rfl, by decide +kernel, by decide +kernel⟩
def spShared (K : PySem.W.Frag) : Sp := fun vs H Q _ => ∃ (p : Addr) (e : Er), vs = [.ref p] ∧ SqT K H p ((rerL e).map unS) ∧ ErF e ∧ Q (.bl (!isTie e)) H
theorem k_is_shared_errand (A : Facts K mg base) : Fk P w K mg base 4 "is_shared_errand" ["thing"] (spShared K) := by
  refine def_ok (d := d_is_shared_errand) A.f_is_shared_errand rfl A.g_is_shared_errand sc_is_shared_errand (fun _ _ _ _ _ _ us hl => match us, hl with | [_], _ => rfl) (fun vs H Q E h => ?_) (fun A' outer s H vs Q E hr h => ?_)
  · obtain ⟨p, e, rfl, _⟩ := h
    rfl
  · obtain ⟨p, e, rfl, hp, he, q⟩ := h
    refine ws_cons (w_if0 (wt_not (wt_val (we_isi (we_var 0 rfl ⟨_, true, ty_tup hp, kit_eq _ _, true, rfl, ?_⟩) A.n_isinstance A.n_tuple rfl))))
    rw [if_neg (by decide)]
    have len1 : ∀ (x : Str) (b : Bool), (rerL e).map unS = [.str x] → (inV (.str x) [V.str "walk", V.str "list", V.str "part"]) = b → (!isTie e) = b → WS (cx P w K mg base ["thing"] d_is_shared_errand.qual d_is_shared_errand.scope (He.ga K "is_shared_errand") (He.codeOf K d_is_shared_errand.at_) A' outer s H E) (d_is_shared_errand.body.drop 1) { nx := fun _ H' => Q .non H', rt := Q } (L2.start ["thing"] [.ref p]) H := fun x b hx hb hq => by
      rw [hx] at hp
      rw [hq] at q
      refine ws_cons (w_if0 (wt_cmp op_eqi rfl (we_callB call_len_seq A.n_len rfl (wa_cons (we_var 0 rfl (wa_nil ⟨p, _, rfl, .inr hp, we_int ⟨1, 1, rfl, rfl, true, rfl, ?_⟩⟩))))))
      rw [if_pos rfl]
      refine ws_one (w_ret (we_cmp op_in_seq rfl (we_ix ix_tup (we_var 0 rfl (we_int ⟨p, _, 0, .str x, rfl, rfl, hp, rfl, we_glob (v := .ref (He.ga K "BARE_ERRANDS")) A.c_BARE_ERRANDS rfl ⟨_, _, rfl, .inr (A.t_BARE_ERRANDS H), rfl, rfl, ?_⟩⟩)))))
      show Q (.bl (inV (.str x) [V.str "walk", V.str "list", V.str "part"])) H
      rw [hb]
      exact q
    have len2 : ∀ (x : Str) (m : Int), (rerL e).map unS = [.str x, .int m] → MarkOk m → inV (.str x) [V.str "leave", V.str "look", V.str "meet"] = true → (!isTie e) = true → WS (cx P w K mg base ["thing"] d_is_shared_errand.qual d_is_shared_errand.scope (He.ga K "is_shared_errand") (He.codeOf K d_is_shared_errand.at_) A' outer s H E) (d_is_shared_errand.body.drop 1) { nx := fun _ H' => Q .non H', rt := Q } (L2.start ["thing"] [.ref p]) H := fun x m hx hm hb hq => by
      rw [hx] at hp
      rw [hq] at q
      refine ws_cons (w_if0 (wt_cmp op_eqi rfl (we_callB call_len_seq A.n_len rfl (wa_cons (we_var 0 rfl (wa_nil ⟨p, _, rfl, .inr hp, we_int ⟨2, 1, rfl, rfl, false, rfl, ?_⟩⟩))))))
      rw [if_neg (by decide)]
      refine ws_one (w_ret (we_and (we_cmp op_eqi rfl (we_callB call_len_seq A.n_len rfl (wa_cons (we_var 0 rfl (wa_nil ⟨p, _, rfl, .inr hp, we_int ⟨2, 2, rfl, rfl, true, rfl, ?_⟩⟩)))))))
      rw [if_pos rfl]
      refine we_and (we_cmp op_in_seq rfl (we_ix ix_tup (we_var 0 rfl (we_int ⟨p, _, 0, .str x, rfl, rfl, hp, rfl, we_glob (v := .ref (He.ga K "NUMBERED_ERRANDS")) A.c_NUMBERED_ERRANDS rfl ⟨_, _, rfl, .inr (A.t_NUMBERED_ERRANDS H), rfl, rfl, true, congrArg V.bl hb, ?_⟩⟩))))
      rw [if_pos rfl]
      exact we_last (we_f (k_is_mark A) hr (wa_cons (we_ix ix_tup (we_var 0 rfl (we_int ⟨p, _, 1, .int m, rfl, rfl, hp, rfl, wa_nil ⟨m, rfl, hm, q⟩⟩)))))
    cases e with
    | walk => exact len1 "walk" true rfl (by decide +kernel) rfl
    | list => exact len1 "list" true rfl (by decide +kernel) rfl
    | part => exact len1 "part" true rfl (by decide +kernel) rfl
    | tie u v => exact len1 "tie" false rfl (by decide +kernel) rfl
    | leave m => exact len2 "leave" m rfl he (by decide +kernel) rfl
    | look m => exact len2 "look" m rfl he (by decide +kernel) rfl
    | meet m => exact len2 "meet" m rfl he (by decide +kernel) rfl
end
end K05

set_option Elab.async false
set_option linter.all false
set_option maxRecDepth 100000
set_option maxHeartbeats 4000000
namespace K05
open PySem PySem.Spec PyProof.Rows L2 WW Wo Pa
section
variable {P : Program} {w : World} {K : PySem.W.Frag} {mg : Str → Option Value} {base : Heap}
def kindOf : Er → Str
  | .walk => "walk"
  | .list => "list"
  | .leave _ => "leave"
  | .look _ => "look"
  | .tie _ _ => "tie"
  | .part => "part"
  | .meet _ => "meet"
theorem shaped_rer {e : Er} : SeqAt.shaped (.tuple (rerL e)) = true := by
  cases e <;> simp [SeqAt.shaped, rerL, erL, PyData.canLay0, PyData.canLayAll0, PyData.depth, PyData.depthAll] <;> decide +kernel
theorem kind_at (e : Er) : atI ((rerL e).map unS) 0 = some (.str (kindOf e)) := by cases e <;> rfl
def spRowEr (ts : List Addr) (K : PySem.W.Frag) : Sp := fun vs H Q _ => ∃ (p : Addr) (e : Er), vs = [.ref p] ∧ SqT K H p ((rerL e).map unS) ∧ ErF e ∧ Yes ts true H Q
theorem k_is_row_errand (A : Facts K mg base) : Fk P w K mg base 5 "is_row_errand" ["thing"] (spRowEr (tsK K) K) := by
  refine def_ok (d := d_is_row_errand) A.f_is_row_errand rfl A.g_is_row_errand sc_is_row_errand (fun _ _ _ _ _ _ us hl => match us, hl with | [_], _ => rfl) (fun vs H Q E h => ?_) (fun A' outer s H vs Q E hr h => ?_)
  · obtain ⟨p, e, rfl, _⟩ := h
    rfl
  · obtain ⟨p, e, rfl, hp, he, q⟩ := h
    refine ws_one (w_ret (we_or (we_f (k_is_shared_errand A) hr (wa_cons (we_var 0 rfl (wa_nil ⟨p, e, rfl, hp, he, !isTie e, rfl, ?_⟩))))))
    by_cases ht : isTie e = true
    · rw [if_neg (by rw [ht]; decide)]
      refine we_last (we_cmp (op_eqD (room_u64 hr)) rfl (we_var 0 rfl (we_tup (wa_cons (we_str (wa_nil ⟨by show 1 ≤ sizeLine; decide, fun pt hpt => ?_⟩))))))
      have f := WW.Fr.new (ts := tsK K) (m := Nil) (o := .tup [.str "tie"]) hpt
      refine ⟨.tuple (rerL e), .tuple [.str "tie"], (td_flat ((TK.fr f).sqt hp) (rer_scal e)).is, (td_flat (ds := [.str "tie"]) (.inl (.inl upd_same)) (by simp [scalD])).is, shaped_rer, by decide +kernel, ?_⟩
      have z : PyData.eqv (.tuple (rerL e)) (.tuple [.str "tie"]) = true := by
        cases e <;> first | (cases ht; done) | (show PyData.eqv (.tuple [.str "tie"]) (.tuple [.str "tie"]) = true; decide +kernel)
      rw [z]
      exact q _ f
    · rw [if_pos (by rw [Bool.not_eq_true] at ht; rw [ht]; rfl)]
      exact q _ (WW.Fr.refl _)
theorem sc_is_brought : FnScope ["thing", "kind", "one", "two"] ["thing", "kind"] (defScope s_is_brought) := ⟨rfl, rfl, rfl, by decide +kernel, rfl, by decide +kernel, by decide +kernel⟩
def spBrought (ts : List Addr) (K : PySem.W.Frag) : Sp := fun vs H Q _ => ∃ (v : V) (e : Er) (d : PyData), vs = [v, .str (kindOf e)] ∧ Td K H (v, d) ∧ ThingF e d ∧ Tbs ts H ∧ Yes ts true H Q
theorem k_is_brought (A : Facts K mg base) : Fk P w K mg base 9 "is_brought" ["thing", "kind"] (spBrought (tsK K) K) := by
  refine def_ok (d := d_is_brought) A.f_is_brought rfl A.g_is_brought sc_is_brought (fun _ _ _ _ _ _ us hl => match us, hl with | [_, _], _ => rfl) (fun vs H Q E h => ?_) (fun A' outer s H vs Q E hr h => ?_)
  · obtain ⟨v, e, d, rfl, _⟩ := h
    rfl
  · obtain ⟨v, e, d, rfl, hd, ht, tb, q⟩ := h
    have q0 : ∀ b : Bool, b = true → Q (.bl b) H := fun b hb => by
      rw [hb]
      exact q _ (WW.Fr.refl _)
    have hz : 1000 < sizeLine := by decide
    have non : ∀ σ : L2.St, σ = L2.start ["thing", "kind", "one", "two"] [v, .str (kindOf e)] → v = .non → WS (cx P w K mg base ["thing", "kind", "one", "two"] d_is_brought.qual d_is_brought.scope (He.ga K "is_brought") (He.codeOf K d_is_brought.at_) A' outer s H E) (d_is_brought.body.drop 4) { nx := fun _ H' => Q .non H', rt := Q } σ H := fun σ hσ hv => by
      subst hσ
      subst hv
      exact ws_one (w_ret (we_cmp op_isN rfl (we_var 0 rfl (we_non ⟨rfl, q0 _ rfl⟩))))
    cases ht with
    | walk =>
      have hv : v = .non := dp_scal hd.is rfl
      refine ws_cons (w_if0 (wt_cmp op_eq rfl (we_var 1 rfl (we_str ⟨rfl, false, congrArg V.bl (by decide +kernel), ?_⟩))))
      rw [if_neg (by decide)]
      refine ws_cons (w_if0 (wt_cmp op_eq rfl (we_var 1 rfl (we_str ⟨rfl, false, congrArg V.bl (by decide +kernel), ?_⟩))))
      rw [if_neg (by decide)]
      refine ws_cons (w_if0 (wt_cmp op_eq rfl (we_var 1 rfl (we_str ⟨rfl, false, congrArg V.bl (by decide +kernel), ?_⟩))))
      rw [if_neg (by decide)]
      refine ws_cons (w_if0 (wt_cmp op_eq rfl (we_var 1 rfl (we_str ⟨rfl, false, congrArg V.bl (by decide +kernel), ?_⟩))))
      rw [if_neg (by decide)]
      exact non _ rfl hv
    | leave m =>
      have hv : v = .non := dp_scal hd.is rfl
      have k : kindOf (.leave m) = "leave" := rfl
      rw [k] at non ⊢
      refine ws_cons (w_if0 (wt_cmp op_eq rfl (we_var 1 rfl (we_str ⟨rfl, false, congrArg V.bl (by decide +kernel), ?_⟩))))
      rw [if_neg (by decide)]
      refine ws_cons (w_if0 (wt_cmp op_eq rfl (we_var 1 rfl (we_str ⟨rfl, false, congrArg V.bl (by decide +kernel), ?_⟩))))
      rw [if_neg (by decide)]
      refine ws_cons (w_if0 (wt_cmp op_eq rfl (we_var 1 rfl (we_str ⟨rfl, false, congrArg V.bl (by decide +kernel), ?_⟩))))
      rw [if_neg (by decide)]
      refine ws_cons (w_if0 (wt_cmp op_eq rfl (we_var 1 rfl (we_str ⟨rfl, false, congrArg V.bl (by decide +kernel), ?_⟩))))
      rw [if_neg (by decide)]
      exact non _ rfl hv
    | part =>
      have hv : v = .non := dp_scal hd.is rfl
      refine ws_cons (w_if0 (wt_cmp op_eq rfl (we_var 1 rfl (we_str ⟨rfl, false, congrArg V.bl (by decide +kernel), ?_⟩))))
      rw [if_neg (by decide)]
      refine ws_cons (w_if0 (wt_cmp op_eq rfl (we_var 1 rfl (we_str ⟨rfl, false, congrArg V.bl (by decide +kernel), ?_⟩))))
      rw [if_neg (by decide)]
      refine ws_cons (w_if0 (wt_cmp op_eq rfl (we_var 1 rfl (we_str ⟨rfl, false, congrArg V.bl (by decide +kernel), ?_⟩))))
      rw [if_neg (by decide)]
      refine ws_cons (w_if0 (wt_cmp op_eq rfl (we_var 1 rfl (we_str ⟨rfl, false, congrArg V.bl (by decide +kernel), ?_⟩))))
      rw [if_neg (by decide)]
      exact non _ rfl hv
    | look m b =>
      have hv : v = .bl b := dp_scal hd.is rfl
      subst hv
      have k : kindOf (.look m) = "look" := rfl
      rw [k]
      refine ws_cons (w_if0 (wt_cmp op_eq rfl (we_var 1 rfl (we_str ⟨rfl, false, congrArg V.bl (by decide +kernel), ?_⟩))))
      rw [if_neg (by decide)]
      refine ws_cons (w_if0 (wt_cmp op_eq rfl (we_var 1 rfl (we_str ⟨rfl, true, congrArg V.bl (by decide +kernel), ?_⟩))))
      rw [if_pos rfl]
      exact ws_one (w_ret (we_isi (we_var 0 rfl ⟨_, true, .base (.bl b), kit_eq _ _, q0 _ rfl⟩) A.n_isinstance A.n_bool rfl))
    | self u1 u2 =>
      have hv : v = .str "self" := dp_scal hd.is rfl
      subst hv
      have k : kindOf (.tie u1 u2) = "tie" := rfl
      rw [k]
      refine ws_cons (w_if0 (wt_cmp op_eq rfl (we_var 1 rfl (we_str ⟨rfl, false, congrArg V.bl (by decide +kernel), ?_⟩))))
      rw [if_neg (by decide)]
      refine ws_cons (w_if0 (wt_cmp op_eq rfl (we_var 1 rfl (we_str ⟨rfl, false, congrArg V.bl (by decide +kernel), ?_⟩))))
      rw [if_neg (by decide)]
      refine ws_cons (w_if0 (wt_cmp op_eq rfl (we_var 1 rfl (we_str ⟨rfl, true, congrArg V.bl (by decide +kernel), ?_⟩))))
      rw [if_pos rfl]
      refine ws_one (w_ret (we_or (we_cmp op_eq rfl (we_var 0 rfl (we_str ⟨rfl, true, congrArg V.bl (by decide +kernel), ?_⟩)))))
      rw [if_pos rfl]
      exact q0 _ rfl
    | tie u1 u2 a b ha hb =>
      obtain ⟨p, rfl, hp⟩ := dp_flat hd.is (by simp [scalD])
      have hp : SqT K H p [.str a, .str b] := hp
      have k : kindOf (.tie u1 u2) = "tie" := rfl
      rw [k]
      refine ws_cons (w_if0 (wt_cmp op_eq rfl (we_var 1 rfl (we_str ⟨rfl, false, congrArg V.bl (by decide +kernel), ?_⟩))))
      rw [if_neg (by decide)]
      refine ws_cons (w_if0 (wt_cmp op_eq rfl (we_var 1 rfl (we_str ⟨rfl, false, congrArg V.bl (by decide +kernel), ?_⟩))))
      rw [if_neg (by decide)]
      refine ws_cons (w_if0 (wt_cmp op_eq rfl (we_var 1 rfl (we_str ⟨rfl, true, congrArg V.bl (by decide +kernel), ?_⟩))))
      rw [if_pos rfl]
      refine ws_one (w_ret (we_or (we_cmp (op_eqD (room_u64 hr)) rfl (we_var 0 rfl (we_str ⟨_, .str "self", hd.is, .str _, shaped_strsT [a, b] (by simp [ha.ok, hb.ok]), by decide +kernel, false, congrArg V.bl (by simp [PyData.eqv]), ?_⟩)))))
      rw [if_neg (by decide)]
      refine we_last (we_and (we_f (k_is_way A) hr (wa_cons (we_var 0 rfl (wa_nil (.inl ⟨p, [a, b], rfl, hp, by simp [WayOk, ha, hb], tb, fun H1 f1 => ⟨true, rfl, ?_⟩⟩))))))
      rw [if_pos rfl]
      refine we_last (we_cmp op_eqi rfl (we_callB call_len_seq A.n_len rfl (wa_cons (we_var 0 rfl (wa_nil ⟨p, _, rfl, .inr ((TK.fr f1).sqt hp), we_int ⟨2, 2, rfl, rfl, ?_⟩⟩)))))
      exact q _ f1
    | mnone m =>
      have hv : v = .non := dp_scal hd.is rfl
      subst hv
      have k : kindOf (.meet m) = "meet" := rfl
      rw [k]
      refine ws_cons (w_if0 (wt_cmp op_eq rfl (we_var 1 rfl (we_str ⟨rfl, false, congrArg V.bl (by decide +kernel), ?_⟩))))
      rw [if_neg (by decide)]
      refine ws_cons (w_if0 (wt_cmp op_eq rfl (we_var 1 rfl (we_str ⟨rfl, false, congrArg V.bl (by decide +kernel), ?_⟩))))
      rw [if_neg (by decide)]
      refine ws_cons (w_if0 (wt_cmp op_eq rfl (we_var 1 rfl (we_str ⟨rfl, false, congrArg V.bl (by decide +kernel), ?_⟩))))
      rw [if_neg (by decide)]
      refine ws_cons (w_if0 (wt_cmp op_eq rfl (we_var 1 rfl (we_str ⟨rfl, true, congrArg V.bl (by decide +kernel), ?_⟩))))
      rw [if_pos rfl]
      refine ws_one (w_ret (we_or (we_cmp op_isN rfl (we_var 0 rfl (we_non ⟨rfl, true, rfl, ?_⟩)))))
      rw [if_pos rfl]
      exact q0 _ rfl
    | mself m =>
      have hv : v = .str "self" := dp_scal hd.is rfl
      subst hv
      have k : kindOf (.meet m) = "meet" := rfl
      rw [k]
      refine ws_cons (w_if0 (wt_cmp op_eq rfl (we_var 1 rfl (we_str ⟨rfl, false, congrArg V.bl (by decide +kernel), ?_⟩))))
      rw [if_neg (by decide)]
      refine ws_cons (w_if0 (wt_cmp op_eq rfl (we_var 1 rfl (we_str ⟨rfl, false, congrArg V.bl (by decide +kernel), ?_⟩))))
      rw [if_neg (by decide)]
      refine ws_cons (w_if0 (wt_cmp op_eq rfl (we_var 1 rfl (we_str ⟨rfl, false, congrArg V.bl (by decide +kernel), ?_⟩))))
      rw [if_neg (by decide)]
      refine ws_cons (w_if0 (wt_cmp op_eq rfl (we_var 1 rfl (we_str ⟨rfl, true, congrArg V.bl (by decide +kernel), ?_⟩))))
      rw [if_pos rfl]
      refine ws_one (w_ret (we_or (we_cmp op_isN rfl (we_var 0 rfl (we_non ⟨rfl, false, congrArg V.bl (by decide +kernel), ?_⟩)))))
      rw [if_neg (by decide)]
      refine we_last (we_cmp op_in_seq rfl (we_var 0 rfl (we_tup (wa_cons (we_str (wa_cons (we_str (wa_nil ⟨by show 2 ≤ sizeLine; decide, fun pt hpt => ?_⟩))))))))
      refine ⟨pt, [.str "self", .str "met"], rfl, .inr (.inl (.inl upd_same)), rfl, rfl, ?_⟩
      have z : inV (V.str "self") [.str "self", .str "met"] = true := by decide +kernel
      show Q (.bl (inV (V.str "self") [.str "self", .str "met"])) _
      rw [z]
      exact q _ (WW.Fr.new hpt)
    | met m =>
      have hv : v = .str "met" := dp_scal hd.is rfl
      subst hv
      have k : kindOf (.meet m) = "meet" := rfl
      rw [k]
      refine ws_cons (w_if0 (wt_cmp op_eq rfl (we_var 1 rfl (we_str ⟨rfl, false, congrArg V.bl (by decide +kernel), ?_⟩))))
      rw [if_neg (by decide)]
      refine ws_cons (w_if0 (wt_cmp op_eq rfl (we_var 1 rfl (we_str ⟨rfl, false, congrArg V.bl (by decide +kernel), ?_⟩))))
      rw [if_neg (by decide)]
      refine ws_cons (w_if0 (wt_cmp op_eq rfl (we_var 1 rfl (we_str ⟨rfl, false, congrArg V.bl (by decide +kernel), ?_⟩))))
      rw [if_neg (by decide)]
      refine ws_cons (w_if0 (wt_cmp op_eq rfl (we_var 1 rfl (we_str ⟨rfl, true, congrArg V.bl (by decide +kernel), ?_⟩))))
      rw [if_pos rfl]
      refine ws_one (w_ret (we_or (we_cmp op_isN rfl (we_var 0 rfl (we_non ⟨rfl, false, congrArg V.bl (by decide +kernel), ?_⟩)))))
      rw [if_neg (by decide)]
      refine we_last (we_cmp op_in_seq rfl (we_var 0 rfl (we_tup (wa_cons (we_str (wa_cons (we_str (wa_nil ⟨by show 2 ≤ sizeLine; decide, fun pt hpt => ?_⟩))))))))
      refine ⟨pt, [.str "self", .str "met"], rfl, .inr (.inl (.inl upd_same)), rfl, rfl, ?_⟩
      have z : inV (V.str "met") [.str "self", .str "met"] = true := by decide +kernel
      show Q (.bl (inV (V.str "met") [.str "self", .str "met"])) _
      rw [z]
      exact q _ (WW.Fr.new hpt)
    | list ws h1 h2 h3 =>
      obtain ⟨p, rfl, hp⟩ := dp_flat hd.is (fun d hd => by obtain ⟨x, _, rfl⟩ := List.mem_map.mp hd; rfl)
      rw [List.map_map] at hp
      have hp : SqT K H p (ws.map V.str) := hp
      refine ws_cons (w_if0 (wt_cmp op_eq rfl (we_var 1 rfl (we_str ⟨rfl, true, congrArg V.bl (by decide +kernel), ?_⟩))))
      rw [if_pos rfl]
      refine ws_one (w_ret (we_and (we_f (k_is_way A) hr (wa_cons (we_var 0 rfl (wa_nil (.inl ⟨p, ws, rfl, hp, h2, tb, fun H1 f1 => ⟨true, rfl, ?_⟩⟩)))))))
      rw [if_pos rfl]
      have hp1 := (TK.fr f1).sqt hp
      refine we_last (we_callB (cr_all (by rfl)) A.n_all rfl (wa_cons (we_of (pe_lcT (own := [("one", 2), ("two", 3)]) (g := gTup K 2 (gCons (gName 2) (gCons (gName 3) gNil))) (tt := tYes) (by rfl) sc_is_brought.nd (RZ.pi_zipA rfl A.n_zip WW.pa)
        (blkOk_by (own := [("one", 2), ("two", 3)]) (N := ["thing", "kind", "one", "two"]) (sc := defScope s_is_brought) (by decide +kernel)) (fun _ _ _ _ _ => pg_tup (by rfl) (pgs_cons (pg_name (i := 2) sc_is_brought.nd rfl (Or.inl rfl)) (pgs_cons (pg_name (i := 3) sc_is_brought.nd rfl (Or.inl rfl)) pgs_nil))) (fun _ _ _ _ _ => pts_nil) eb) ?_)))
      refine wa_cons (we_var 0 rfl (wa_cons (we_slFrT (tsK K) (we_var 0 rfl (we_int ⟨1, p, _, rfl, by decide, rfl, hp1, fun pt H2 f2 hpt => ?_⟩)))))
      have hp2 := (TK.fr f2).sqt hp1
      have hpt : SqT K H2 pt ((ws.drop 1).map V.str) := by
        rw [List.map_drop]
        exact hpt
      refine wa_nil ⟨p, pt, _, _, rfl, .inr ⟨hp2, hpt, ?_⟩⟩
      refine lc_by (tsK K) (ws.length - 1) (by omega) (fun D i acc Hc => acc = (List.replicate i true).map V.bl) (fun D Hc _ _ => rfl) (fun D i acc zs Hc Hc' _ _ h => h) (fun D acc Hc hD fc hi hd => ?_) (fun D i acc Hc hn hD hd fc hi => ?_) gt2_mono yes_mono eb_mono
      · refine ⟨⟨_, _, (TK.fr fc).sqt hp2, (TK.fr fc).sqt hpt, .inr (by rw [List.length_map, List.length_drop]; exact Nat.le_refl _)⟩, ?_⟩
        refine wa_nil ⟨D, List.replicate (ws.length - 1) true, rfl, ?_, ?_⟩
        · rw [← hi]
          exact .inl (.inl hd)
        · have z : (List.replicate (ws.length - 1) true).all id = true := by
            rw [List.all_eq_true]
            intro x hx
            rw [(List.mem_replicate.mp hx).2]
            rfl
          rw [z]
          exact q _ ((f1.trans f2).trans fc)
      · obtain ⟨u, hu⟩ : ∃ u, ws[i]? = some u := ⟨_, List.getElem?_eq_getElem (by omega)⟩
        obtain ⟨v, hv⟩ : ∃ v, ws[i + 1]? = some v := ⟨_, List.getElem?_eq_getElem (by omega)⟩
        have e1 : (ws.map V.str)[i]? = some (.str u) := by rw [List.getElem?_map, hu]; rfl
        have e2 : ((ws.drop 1).map V.str)[i]? = some (.str v) := by rw [List.getElem?_map, List.getElem?_drop, Nat.add_comm, hv]; rfl
        refine ⟨⟨_, _, _, _, (TK.fr fc).sqt hp2, (TK.fr fc).sqt hpt, e1, e2⟩, fun y Hy ⟨T, x1, x2, k1, k2, k3, k4, k5⟩ => ?_⟩
        have k4 := k4 _ ((TK.fr fc).sqt hp2)
        have k5 := k5 _ ((TK.fr fc).sqt hpt)
        rw [e1] at k4
        rw [e2] at k5
        cases k4
        cases k5
        subst k1 k3
        refine ⟨T, _, rfl, .inl (.inl upd_same), rfl, _, _, rfl, _, _, rfl, rfl, rfl, ?_⟩
        show EB _ _ _ _ _ _
        refine fun s1 H5 C1 cl1 fp1 => we_cmp op_lt_str rfl (we_var 2 rfl (we_var 3 rfl ⟨u, v, rfl, rfl, WW.Fr.new k2, ?_⟩))
        rw [hi, decide_eq_true (h1 i u v hu hv), ← List.map_singleton (f := V.bl), ← List.map_append]
        refine congrArg (List.map V.bl) ?_
        rw [List.replicate_succ']
end
end K05

set_option Elab.async false
set_option linter.all false
set_option maxRecDepth 100000
set_option maxHeartbeats 4000000
namespace K05
open PySem PySem.Spec PyProof.Rows L2 WW Wo Pa
/-- a row of a book; a calm one, too -/
inductive Rc where
  | rw (r : Rw)
  | calm (i : Int)
def rcD : Rc → PyData
  | .rw r => rwD r
  | .calm i => calmD i
def RcF : Rc → Prop
  | .rw r => RwF r
  | .calm i => True
inductive SeenF (n : Nat) (e : Er) : PyData → Prop
  | lost (bk : List Str) : WayOk bk → bk.length < n → SeenF n e (lostD bk)
  | came (bk : List Str) (d : PyData) : WayOk bk → bk.length = n → ThingF e d → SeenF n e (cameD bk d)
section
variable {P : Program} {w : World} {K : PySem.W.Frag} {mg : Str → Option Value} {base : Heap}
theorem lost_at {H : Hp} {v : V} {bk : List Str} (h : Td K H (v, lostD bk)) : ∃ p pb, v = .ref p ∧ SqT K H p [.str "lost", .ref pb] ∧ SqT K H pb (bk.map V.str) := by
  have h1 : Dp K H v (.tuple [.str "lost", .tuple (bk.map .str)]) := h.is
  cases h1 with
  | tup hs hd =>
    cases hd with
    | cons d1 r1 => cases r1 with
      | cons d2 r2 =>
        cases r2
        obtain ⟨pb, rfl, hb⟩ := dp_flat d2 (fun d hd => by obtain ⟨x, _, rfl⟩ := List.mem_map.mp hd; rfl)
        rw [List.map_map] at hb
        rw [dp_scal d1 rfl] at hs
        exact ⟨_, pb, rfl, hs, hb⟩
theorem came_at {H : Hp} {v : V} {bk : List Str} {d : PyData} (h : Td K H (v, cameD bk d)) : ∃ p pb vd, v = .ref p ∧ SqT K H p [.str "came", .ref pb, vd] ∧ SqT K H pb (bk.map V.str) ∧ Td K H (vd, d) := by
  have h1 : Dp K H v (.tuple [.str "came", .tuple (bk.map .str), d]) := h.is
  have ht : tupd d = true := by
    have h2 : tupds [.str "came", .tuple (bk.map .str), d] = true := h.tp
    simp only [tupds, Bool.and_eq_true] at h2
    exact h2.2.2.1
  cases h1 with
  | tup hs hd =>
    cases hd with
    | cons d1 r1 => cases r1 with
      | cons d2 r2 => cases r2 with
        | cons d3 r3 =>
          cases r3
          obtain ⟨pb, rfl, hb⟩ := dp_flat d2 (fun d hd => by obtain ⟨x, _, rfl⟩ := List.mem_map.mp hd; rfl)
          rw [List.map_map] at hb
          rw [dp_scal d1 rfl] at hs
          exact ⟨_, pb, _, rfl, hs, hb, d3, ht⟩
theorem sc_is_seen : FnScope ["thing", "steps", "kind", "backs"] ["thing", "steps", "kind"] (defScope s_is_seen) := ⟨rfl, rfl, rfl, by decide +kernel, rfl, by decide +kernel, by decide +kernel⟩
def spIsSeen (ts : List Addr) (K : PySem.W.Frag) : Sp := fun vs H Q _ => ∃ (v : V) (n : Nat) (e : Er) (d : PyData), vs = [v, .int n, .str (kindOf e)] ∧ Td K H (v, d) ∧ SeenF n e d ∧ Tbs ts H ∧ Yes ts true H Q
theorem k_is_seen (A : Facts K mg base) : Fk P w K mg base 10 "is_seen" ["thing", "steps", "kind"] (spIsSeen (tsK K) K) := by
  refine def_ok (d := d_is_seen) A.f_is_seen rfl A.g_is_seen sc_is_seen (fun _ _ _ _ _ _ us hl => match us, hl with | [_, _, _], _ => rfl) (fun vs H Q E h => ?_) (fun A' outer s H vs Q E hr h => ?_)
  · obtain ⟨v, n, e, d, rfl, _⟩ := h
    rfl
  · obtain ⟨v, n, e, d, rfl, hd, hs, tb, q⟩ := h
    cases hs with
    | lost bk hb hn =>
      obtain ⟨p, pb, rfl, h1, h2⟩ := lost_at hd
      refine ws_cons (w_if0 (wt_ww (ww_or (wt_not (wt_val (we_isi (we_var 0 rfl ⟨_, true, ty_tup h1, kit_eq _ _, true, rfl, ?_⟩) A.n_isinstance A.n_tuple rfl))))))
      rw [if_neg (by decide)]
      refine ww_or (wt_cmp op_lt rfl (we_callB call_len_seq A.n_len rfl (wa_cons (we_var 0 rfl (wa_nil ⟨p, _, rfl, .inr h1, we_int ⟨2, 2, rfl, rfl, false, rfl, ?_⟩⟩)))))
      rw [if_neg (by decide)]
      refine ww_or1 (wt_not (wt_val (we_f (k_is_way A) hr (wa_cons (we_ix ix_tup (we_var 0 rfl (we_int ⟨p, _, 1, .ref pb, rfl, rfl, h1, rfl, ?_⟩)))))))
      refine wa_nil (.inl ⟨pb, bk, rfl, h2, hb, tb, fun H1 f1 => ⟨true, rfl, ?_⟩⟩)
      rw [if_neg (by decide)]
      have g1 := (TK.fr f1).sqt h1
      have g2 := (TK.fr f1).sqt h2
      refine ws_cons (w_set 3 (we_callB call_len_seq A.n_len rfl (wa_cons (we_ix ix_tup (we_var 0 rfl (we_int ⟨p, _, 1, .ref pb, rfl, rfl, g1, rfl, ?_⟩))))) sc_is_seen.nd)
      refine wa_nil ⟨pb, _, rfl, .inr g2, ?_⟩
      refine ws_cons (w_if0 (wt_cmp op_eq rfl (we_ix ix_tup (we_var 0 rfl (we_int ⟨p, _, 0, .str "lost", rfl, rfl, g1, rfl, we_str ⟨rfl, true, congrArg V.bl (by decide +kernel), ?_⟩⟩)))))
      rw [if_pos rfl]
      refine ws_one (w_ret (we_and (we_cmp op_eqi rfl (we_callB call_len_seq A.n_len rfl (wa_cons (we_var 0 rfl (wa_nil ⟨p, _, rfl, .inr g1, we_int ⟨2, 2, rfl, rfl, true, rfl, ?_⟩⟩)))))))
      rw [if_pos rfl]
      refine we_last (we_cmp op_lt rfl (we_var 3 rfl (we_var 1 rfl ⟨_, _, rfl, rfl, ?_⟩)))
      have z : decide ((((bk.map V.str).length : Nat) : Int) < (n : Int)) = true := decide_eq_true (by rw [List.length_map]; omega)
      show Q (.bl (decide ((((bk.map V.str).length : Nat) : Int) < (n : Int)))) H1
      rw [z]
      exact q _ f1
    | came bk dd hb hn ht =>
      obtain ⟨p, pb, vd, rfl, h1, h2, h3⟩ := came_at hd
      refine ws_cons (w_if0 (wt_ww (ww_or (wt_not (wt_val (we_isi (we_var 0 rfl ⟨_, true, ty_tup h1, kit_eq _ _, true, rfl, ?_⟩) A.n_isinstance A.n_tuple rfl))))))
      rw [if_neg (by decide)]
      refine ww_or (wt_cmp op_lt rfl (we_callB call_len_seq A.n_len rfl (wa_cons (we_var 0 rfl (wa_nil ⟨p, _, rfl, .inr h1, we_int ⟨3, 2, rfl, rfl, false, rfl, ?_⟩⟩)))))
      rw [if_neg (by decide)]
      refine ww_or1 (wt_not (wt_val (we_f (k_is_way A) hr (wa_cons (we_ix ix_tup (we_var 0 rfl (we_int ⟨p, _, 1, .ref pb, rfl, rfl, h1, rfl, ?_⟩)))))))
      refine wa_nil (.inl ⟨pb, bk, rfl, h2, hb, tb, fun H1 f1 => ⟨true, rfl, ?_⟩⟩)
      rw [if_neg (by decide)]
      have g1 := (TK.fr f1).sqt h1
      have g2 := (TK.fr f1).sqt h2
      refine ws_cons (w_set 3 (we_callB call_len_seq A.n_len rfl (wa_cons (we_ix ix_tup (we_var 0 rfl (we_int ⟨p, _, 1, .ref pb, rfl, rfl, g1, rfl, ?_⟩))))) sc_is_seen.nd)
      refine wa_nil ⟨pb, _, rfl, .inr g2, ?_⟩
      refine ws_cons (w_if0 (wt_cmp op_eq rfl (we_ix ix_tup (we_var 0 rfl (we_int ⟨p, _, 0, .str "came", rfl, rfl, g1, rfl, we_str ⟨rfl, false, congrArg V.bl (by decide +kernel), ?_⟩⟩)))))
      rw [if_neg (by decide)]
      refine ws_one (w_ret (we_and (we_cmp op_eq rfl (we_ix ix_tup (we_var 0 rfl (we_int ⟨p, _, 0, .str "came", rfl, rfl, g1, rfl, we_str ⟨rfl, true, congrArg V.bl (by decide +kernel), ?_⟩⟩))))))
      rw [if_pos rfl]
      refine we_and (we_cmp op_eqi rfl (we_callB call_len_seq A.n_len rfl (wa_cons (we_var 0 rfl (wa_nil ⟨p, _, rfl, .inr g1, we_int ⟨3, 3, rfl, rfl, true, rfl, ?_⟩⟩)))))
      rw [if_pos rfl]
      refine we_and (we_cmp op_eqi rfl (we_var 3 rfl (we_var 1 rfl ⟨_, _, rfl, rfl, true, congrArg V.bl (decide_eq_true (by rw [List.length_map, hn])), ?_⟩)))
      rw [if_pos rfl]
      refine we_last (we_f (k_is_brought A) hr (wa_cons (we_ix ix_tup (we_var 0 rfl (we_int ⟨p, _, 2, vd, rfl, rfl, g1, rfl, ?_⟩)))))
      exact wa_cons (we_var 2 rfl (wa_nil ⟨vd, e, dd, rfl, h3.keep (TK.fr f1), ht, f1.tb tb, fun H2 f2 => q _ (f1.trans f2)⟩))
end
end K05

set_option Elab.async false
set_option linter.all false
set_option maxRecDepth 100000
set_option maxHeartbeats 4000000
namespace K05
open PySem PySem.Spec PyProof.Rows L2 WW Wo Pa
section
variable {P : Program} {w : World} {K : PySem.W.Frag} {mg : Str → Option Value} {base : Heap}
theorem sc_is_letter : FnScope ["thing", "way", "errand", "seen"] ["thing"] (defScope s_is_letter) := ⟨rfl, rfl, rfl, by decide +kernel, rfl, by decide +kernel, by decide +kernel⟩
theorem sc_is_met : FnScope ["thing"] ["thing"] (defScope s_is_met) := ⟨rfl, rfl, rfl, by decide +kernel, rfl, by decide +kernel, by decide +kernel⟩
theorem sc_is_calm : FnScope ["thing"] ["thing"] (defScope s_is_calm) := ⟨rfl, rfl, rfl, by decide +kernel, rfl, by decide +kernel, by decide +kernel⟩
theorem sc_is_row : FnScope ["thing"] ["thing"] (defScope s_is_row) := ⟨rfl, rfl, rfl, by decide +kernel, rfl, by decide +kernel, by decide +kernel⟩
def isLet : Rc → Bool
  | .rw (.met _ _) => false
  | .rw _ => true
  | .calm _ => false
def isMet : Rc → Bool
  | .rw (.met _ _) => true
  | _ => false
theorem calm_at {H : Hp} {v : V} {i : Int} (h : Td K H (v, calmD i)) : ∃ p, v = .ref p ∧ SqT K H p [.str "calm", .int i] := dp_flat (ds := [.str "calm", .int i]) h.is (by simp [scalD])
theorem met_at {H : Hp} {v : V} {b : Str} {s : Int} (h : Td K H (v, metD b s)) : ∃ p, v = .ref p ∧ SqT K H p [.str "met", .str b, .int s] := dp_flat (ds := [.str "met", .str b, .int s]) h.is (by simp [scalD])
theorem kind_part (e : Er) (h : e ≠ .part) : decide (V.str (kindOf e) = V.str "part") = false := by
  cases e with
  | walk => decide +kernel
  | list => decide +kernel
  | part => exact absurd rfl h
  | leave m => exact (by decide +kernel : decide (V.str "leave" = V.str "part") = false)
  | look m => exact (by decide +kernel : decide (V.str "look" = V.str "part") = false)
  | tie u v => exact (by decide +kernel : decide (V.str "tie" = V.str "part") = false)
  | meet m => exact (by decide +kernel : decide (V.str "meet" = V.str "part") = false)
def spRowIs (ts : List Addr) (K : PySem.W.Frag) (f : Rc → Bool) : Sp := fun vs H Q _ => ∃ (v : V) (r : Rc), vs = [v] ∧ Td K H (v, rcD r) ∧ RcF r ∧ Tbs ts H ∧ Yes ts (f r) H Q
theorem k_is_letter (A : Facts K mg base) : Fk P w K mg base 11 "is_letter" ["thing"] (spRowIs (tsK K) K isLet) := by
  refine def_ok (d := d_is_letter) A.f_is_letter rfl A.g_is_letter sc_is_letter (fun _ _ _ _ _ _ us hl => match us, hl with | [_], _ => rfl) (fun vs H Q E h => ?_) (fun A' outer s H vs Q E hr h => ?_)
  · obtain ⟨v, r, rfl, _⟩ := h
    rfl
  · obtain ⟨v, r, rfl, hd, hf, tb, q⟩ := h
    have letter : ∀ (way : List Str) (e : Er) (sd : PyData), Td K H (v, rowD way e sd) → WayOk way → ErF e → SeenF way.length e sd → (e = .part → way ≠ []) → Yes (tsK K) true H Q → WS (cx P w K mg base ["thing", "way", "errand", "seen"] d_is_letter.qual d_is_letter.scope (He.ga K "is_letter") (He.codeOf K d_is_letter.at_) A' outer s H E) d_is_letter.body { nx := fun _ H' => Q .non H', rt := Q } (L2.start ["thing", "way", "errand", "seen"] [v]) H := fun way e sd hd hw he hs hp q => by
      obtain ⟨p, pw, pe, vs, rfl, h1, h2, h3, h4⟩ := row_at hd
      refine ws_cons (w_if0 (wt_ww (ww_or (wt_not (wt_val (we_isi (we_var 0 rfl ⟨_, true, ty_tup h1, kit_eq _ _, true, rfl, ?_⟩) A.n_isinstance A.n_tuple rfl))))))
      rw [if_neg (by decide)]
      refine ww_or1 (wt_cmp op_ne rfl (we_callB call_len_seq A.n_len rfl (wa_cons (we_var 0 rfl (wa_nil ⟨p, _, rfl, .inr h1, we_int ⟨rfl, false, rfl, ?_⟩⟩)))))
      rw [if_neg (by decide)]
      refine ws_cons (w_un3 1 2 3 (we_var 0 rfl ⟨p, _, _, _, rfl, h1, ?_⟩) (by rfl) sc_is_letter.nd)
      refine ws_cons (w_if0 (wt_ww (ww_or (wt_not (wt_val (we_f (k_is_way A) hr (wa_cons (we_var 1 rfl (wa_nil (.inl ⟨pw, way, rfl, h2, hw, tb, fun H1 f1 => ⟨true, rfl, ?_⟩⟩))))))))))
      rw [if_neg (by decide)]
      refine ww_or1 (wt_not (wt_val (we_f (k_is_row_errand A) hr (wa_cons (we_var 2 rfl (wa_nil ⟨pe, e, rfl, (TK.fr f1).sqt h3, he, fun H2 f2 => ⟨true, rfl, ?_⟩⟩))))))
      rw [if_neg (by decide)]
      have f12 := f1.trans f2
      have g2 := (TK.fr f12).sqt h2
      have g3 := (TK.fr f12).sqt h3
      have tail : WS (cx P w K mg base ["thing", "way", "errand", "seen"] d_is_letter.qual d_is_letter.scope (He.ga K "is_letter") (He.codeOf K d_is_letter.at_) A' outer s H E) (d_is_letter.body.drop 4) { nx := fun _ H' => Q .non H', rt := Q } [some (.ref p), some (.ref pw), some (.ref pe), some vs] H2 := by
        refine ws_one (w_ret (we_f (k_is_seen A) hr (wa_cons (we_var 3 rfl (wa_cons (we_callB call_len_seq A.n_len rfl (wa_cons (we_var 1 rfl (wa_nil ⟨pw, _, rfl, .inr g2, ?_⟩)))))))))
        refine wa_cons (we_ix ix_tup (we_var 2 rfl (we_int ⟨pe, _, 0, .str (kindOf e), rfl, rfl, g3, kind_at e, ?_⟩)))
        refine wa_nil ⟨vs, way.length, e, sd, by rw [List.length_map], h4.keep (TK.fr f12), hs, f12.tb tb, fun H3 f3 => q _ (f12.trans f3)⟩
      by_cases hpart : e = .part
      · subst hpart
        refine ws_cons (w_if0 (wt_ww (ww_and (wt_cmp op_eq rfl (we_ix ix_tup (we_var 2 rfl (we_int ⟨pe, _, 0, .str "part", rfl, rfl, g3, rfl, we_str ⟨rfl, true, congrArg V.bl (by decide +kernel), ?_⟩⟩)))))))
        rw [if_pos rfl]
        have hne := hp rfl
        refine ww_and1 (wt_cmp op_eqi rfl (we_callB call_len_seq A.n_len rfl (wa_cons (we_var 1 rfl (wa_nil ⟨pw, _, rfl, .inr g2, we_int ⟨_, 0, rfl, rfl, false, congrArg V.bl (decide_eq_false ?_), ?_⟩⟩)))))
        · rw [List.length_map]
          cases way with
          | nil => exact absurd rfl hne
          | cons x r => exact fun z => by rw [List.length_cons] at z; omega
        rw [if_neg (by decide)]
        exact tail
      · refine ws_cons (w_if0 (wt_ww (ww_and (wt_cmp op_eq rfl (we_ix ix_tup (we_var 2 rfl (we_int ⟨pe, _, 0, .str (kindOf e), rfl, rfl, g3, kind_at e, we_str ⟨rfl, false, congrArg V.bl ?_, ?_⟩⟩)))))))
        · exact kind_part e hpart
        rw [if_neg (by decide), if_neg (by decide)]
        exact tail
    cases r with
    | rw r =>
      cases r with
      | lost way e bk => exact letter way e (lostD bk) hd hf.1 hf.2.2.2.2.1 (.lost bk hf.2.1 hf.2.2.1) hf.2.2.2.2.2 q
      | came way e bk d => exact letter way e (cameD bk d) hd hf.1 hf.2.2.2.2.1 (.came bk d hf.2.1 hf.2.2.1 hf.2.2.2.2.2.1) hf.2.2.2.2.2.2 q
      | met b s =>
        obtain ⟨p, rfl, h1⟩ := met_at hd
        refine ws_cons (w_if0 (wt_ww (ww_or (wt_not (wt_val (we_isi (we_var 0 rfl ⟨_, true, ty_tup h1, kit_eq _ _, true, rfl, ?_⟩) A.n_isinstance A.n_tuple rfl))))))
        rw [if_neg (by decide)]
        refine ww_or1 (wt_cmp op_ne rfl (we_callB call_len_seq A.n_len rfl (wa_cons (we_var 0 rfl (wa_nil ⟨p, _, rfl, .inr h1, we_int ⟨rfl, false, rfl, ?_⟩⟩)))))
        rw [if_neg (by decide)]
        refine ws_cons (w_un3 1 2 3 (we_var 0 rfl ⟨p, _, _, _, rfl, h1, ?_⟩) (by rfl) sc_is_letter.nd)
        refine ws_cons (w_if0 (wt_ww (ww_or (wt_not (wt_val (we_f (k_is_way A) hr (wa_cons (we_var 1 rfl (wa_nil (.inr ⟨_, _, rfl, .base (.str _), kit_tt, false, rfl, ?_⟩))))))))))
        rw [if_pos (by decide), if_pos (by decide)]
        exact ws_one (w_ret (we_bl (q _ (WW.Fr.refl _))))
    | calm i =>
      obtain ⟨p, rfl, h1⟩ := calm_at hd
      refine ws_cons (w_if0 (wt_ww (ww_or (wt_not (wt_val (we_isi (we_var 0 rfl ⟨_, true, ty_tup h1, kit_eq _ _, true, rfl, ?_⟩) A.n_isinstance A.n_tuple rfl))))))
      rw [if_neg (by decide)]
      refine ww_or1 (wt_cmp op_ne rfl (we_callB call_len_seq A.n_len rfl (wa_cons (we_var 0 rfl (wa_nil ⟨p, _, rfl, .inr h1, we_int ⟨rfl, true, rfl, ?_⟩⟩)))))
      rw [if_pos rfl]
      exact ws_one (w_ret (we_bl (q _ (WW.Fr.refl _))))
end
end K05

set_option Elab.async false
set_option linter.all false
set_option maxRecDepth 100000
set_option maxHeartbeats 4000000
namespace K05
open PySem PySem.Spec PyProof.Rows L2 WW Wo Pa
section
variable {P : Program} {w : World} {K : PySem.W.Frag} {mg : Str → Option Value} {base : Heap}
def spMet (ts : List Addr) (K : PySem.W.Frag) : Sp := fun vs H Q _ => ∃ (v : V) (r : Rc), vs = [v] ∧ isLet r = false ∧ Td K H (v, rcD r) ∧ RcF r ∧ Tbs ts H ∧ Yes ts (isMet r) H Q
theorem k_is_met (A : Facts K mg base) : Fk P w K mg base 6 "is_met" ["thing"] (spMet (tsK K) K) := by
  refine def_ok (d := d_is_met) A.f_is_met rfl A.g_is_met sc_is_met (fun _ _ _ _ _ _ us hl => match us, hl with | [_], _ => rfl) (fun vs H Q E h => ?_) (fun A' outer s H vs Q E hr h => ?_)
  · obtain ⟨v, r, rfl, _⟩ := h
    rfl
  · obtain ⟨v, r, rfl, hl, hd, hf, tb, q⟩ := h
    cases r with
    | rw r =>
      cases r with
      | lost way e bk => cases hl
      | came way e bk d => cases hl
      | met b s =>
        obtain ⟨p, rfl, h1⟩ := met_at hd
        refine ws_cons (w_if0 (wt_ww (ww_or (wt_not (wt_val (we_isi (we_var 0 rfl ⟨_, true, ty_tup h1, kit_eq _ _, true, rfl, ?_⟩) A.n_isinstance A.n_tuple rfl))))))
        rw [if_neg (by decide)]
        refine ww_or1 (wt_cmp op_ne rfl (we_callB call_len_seq A.n_len rfl (wa_cons (we_var 0 rfl (wa_nil ⟨p, _, rfl, .inr h1, we_int ⟨rfl, false, rfl, ?_⟩⟩)))))
        rw [if_neg (by decide)]
        refine ws_one (w_ret (we_and (we_cmp op_eq rfl (we_ix ix_tup (we_var 0 rfl (we_int ⟨p, _, 0, .str "met", rfl, rfl, h1, rfl, we_str ⟨rfl, true, congrArg V.bl (by decide +kernel), ?_⟩⟩))))))
        rw [if_pos rfl]
        refine we_and (we_f (k_is_word A) hr (wa_cons (we_ix ix_tup (we_var 0 rfl (we_int ⟨p, _, 1, .str b, rfl, rfl, h1, rfl, wa_nil ⟨b, rfl, hf.1, tb, fun H1 f1 => ⟨true, rfl, ?_⟩⟩⟩)))))
        rw [if_pos rfl]
        exact we_last (we_f (k_is_mark A) hr (wa_cons (we_ix ix_tup (we_var 0 rfl (we_int ⟨p, _, 2, .int s, rfl, rfl, (TK.fr f1).sqt h1, rfl, wa_nil ⟨s, rfl, hf.2, q _ f1⟩⟩)))))
    | calm i =>
      obtain ⟨p, rfl, h1⟩ := calm_at hd
      refine ws_cons (w_if0 (wt_ww (ww_or (wt_not (wt_val (we_isi (we_var 0 rfl ⟨_, true, ty_tup h1, kit_eq _ _, true, rfl, ?_⟩) A.n_isinstance A.n_tuple rfl))))))
      rw [if_neg (by decide)]
      refine ww_or1 (wt_cmp op_ne rfl (we_callB call_len_seq A.n_len rfl (wa_cons (we_var 0 rfl (wa_nil ⟨p, _, rfl, .inr h1, we_int ⟨rfl, true, rfl, ?_⟩⟩)))))
      rw [if_pos rfl]
      exact ws_one (w_ret (we_bl (q _ (WW.Fr.refl _))))
def spCalm (K : PySem.W.Frag) : Sp := fun vs H Q _ => ∃ (v : V) (i : Int), vs = [v] ∧ Td K H (v, calmD i) ∧ Q (.bl true) H
theorem k_is_calm (A : Facts K mg base) : Fk P w K mg base 2 "is_calm" ["thing"] (spCalm K) := by
  refine def_ok (d := d_is_calm) A.f_is_calm rfl A.g_is_calm sc_is_calm (fun _ _ _ _ _ _ us hl => match us, hl with | [_], _ => rfl) (fun vs H Q E h => ?_) (fun A' outer s H vs Q E hr h => ?_)
  · obtain ⟨v, i, rfl, _⟩ := h
    rfl
  · obtain ⟨v, i, rfl, hd, q⟩ := h
    obtain ⟨p, rfl, h1⟩ := calm_at hd
    refine ws_one (w_ret (we_and (we_isi (we_var 0 rfl ⟨_, true, ty_tup h1, kit_eq _ _, true, rfl, ?_⟩) A.n_isinstance A.n_tuple rfl)))
    rw [if_pos rfl]
    refine we_and (we_cmp op_eqi rfl (we_callB call_len_seq A.n_len rfl (wa_cons (we_var 0 rfl (wa_nil ⟨p, _, rfl, .inr h1, we_int ⟨2, 2, rfl, rfl, true, rfl, ?_⟩⟩)))))
    rw [if_pos rfl]
    refine we_and (we_cmp op_eq rfl (we_ix ix_tup (we_var 0 rfl (we_int ⟨p, _, 0, .str "calm", rfl, rfl, h1, rfl, we_str ⟨rfl, true, congrArg V.bl (by decide +kernel), ?_⟩⟩))))
    rw [if_pos rfl]
    exact we_last (we_f (k_is_whole A) hr (wa_cons (we_ix ix_tup (we_var 0 rfl (we_int ⟨p, _, 1, .int i, rfl, rfl, h1, rfl, wa_nil ⟨i, rfl, q⟩⟩)))))
theorem k_is_row (A : Facts K mg base) : Fk P w K mg base 12 "is_row" ["thing"] (spRowIs (tsK K) K fun _ => true) := by
  refine def_ok (d := d_is_row) A.f_is_row rfl A.g_is_row sc_is_row (fun _ _ _ _ _ _ us hl => match us, hl with | [_], _ => rfl) (fun vs H Q E h => ?_) (fun A' outer s H vs Q E hr h => ?_)
  · obtain ⟨v, r, rfl, _⟩ := h
    rfl
  · obtain ⟨v, r, rfl, hd, hf, tb, q⟩ := h
    refine ws_one (w_ret (we_or (we_f (k_is_letter A) hr (wa_cons (we_var 0 rfl (wa_nil ⟨v, r, rfl, hd, hf, tb, fun H1 f1 => ⟨_, rfl, ?_⟩⟩))))))
    by_cases hl : isLet r = true
    · rw [if_pos hl]
      exact q _ f1
    rw [if_neg hl]
    have d1 := hd.keep (TK.fr f1)
    refine we_or (we_f (k_is_met A) hr (wa_cons (we_var 0 rfl (wa_nil ⟨v, r, rfl, by simpa using hl, d1, hf, f1.tb tb, fun H2 f2 => ⟨_, rfl, ?_⟩⟩))))
    by_cases hm : isMet r = true
    · rw [if_pos hm]
      exact q _ (f1.trans f2)
    rw [if_neg hm]
    cases r with
    | rw r => cases r <;> first | exact absurd rfl hl | exact absurd rfl hm
    | calm i => exact we_last (we_f (k_is_calm A) hr (wa_cons (we_var 0 rfl (wa_nil ⟨v, i, rfl, d1.keep (TK.fr f2), q _ (f1.trans f2)⟩))))
theorem sc_is_sent : FnScope ["row"] ["row"] (defScope s_is_sent) := ⟨rfl, rfl, rfl, by decide +kernel, rfl, by decide +kernel, by decide +kernel⟩
theorem sc_claim_of : FnScope ["row"] ["row"] (defScope s_claim_of) := ⟨rfl, rfl, rfl, by decide +kernel, rfl, by decide +kernel, by decide +kernel⟩
theorem sc_backs_of : FnScope ["row"] ["row"] (defScope s_backs_of) := ⟨rfl, rfl, rfl, by decide +kernel, rfl, by decide +kernel, by decide +kernel⟩
theorem sc_made_tie : FnScope ["row"] ["row"] (defScope s_made_tie) := ⟨rfl, rfl, rfl, by decide +kernel, rfl, by decide +kernel, by decide +kernel⟩
theorem sc_ties_of : FnScope ["row", "steps"] ["row"] (defScope s_ties_of) := ⟨rfl, rfl, rfl, by decide +kernel, rfl, by decide +kernel, by decide +kernel⟩
theorem beq_dec (x s : Str) : (x == s) = decide (s = x) := by
  rw [Bool.eq_iff_iff, decide_eq_true_iff, beq_iff_eq]
  exact eq_comm
theorem beq_sym (x s : Str) : (s == x) = (x == s) := by rw [Bool.eq_iff_iff, beq_iff_eq, beq_iff_eq, eq_comm]
/-- the first item of a row -/
theorem row0 {K : PySem.W.Frag} {H : Hp} {v : V} {r : Rc} (hd : Td K H (v, rcD r)) (hf : RcF r) : ∃ p xs x d, v = .ref p ∧ SqT K H p xs ∧ atI xs 0 = some x ∧ Td K H (x, d) ∧ SeqAt.shaped d = true ∧ (∀ s : Str, PyData.eqv d (.str s) = decide ((isMet r = true ∧ s = "met") ∨ (isLet r = false ∧ isMet r = false ∧ s = "calm"))) ∧ (∀ s : Str, PyData.eqv (.str s) d = PyData.eqv d (.str s)) := by
  cases r with
  | rw r =>
    cases r with
    | met b s =>
      obtain ⟨p, rfl, h1⟩ := met_at hd
      exact ⟨p, _, _, _, rfl, h1, rfl, td_scal (d := .str "met") rfl, by decide +kernel, fun s => by simp [PyData.eqv, isMet, isLet, beq_dec], fun s => by simp only [PyData.eqv]; exact beq_sym _ _⟩
    | lost way e bk =>
      obtain ⟨p, pw, pe, vs, rfl, h1, h2, h3, h4⟩ := row_at hd
      exact ⟨p, _, _, _, rfl, h1, rfl, td_strs h2, shaped_strsT _ fun u hu => (hf.1 u hu).ok, fun s => by simp [PyData.eqv, isMet, isLet], fun s => by simp [PyData.eqv]⟩
    | came way e bk d =>
      obtain ⟨p, pw, pe, vs, rfl, h1, h2, h3, h4⟩ := row_at hd
      exact ⟨p, _, _, _, rfl, h1, rfl, td_strs h2, shaped_strsT _ fun u hu => (hf.1 u hu).ok, fun s => by simp [PyData.eqv, isMet, isLet], fun s => by simp [PyData.eqv]⟩
  | calm i =>
    obtain ⟨p, rfl, h1⟩ := calm_at hd
    exact ⟨p, _, _, _, rfl, h1, rfl, td_scal (d := .str "calm") rfl, by decide +kernel, fun s => by simp [PyData.eqv, isMet, isLet, beq_dec], fun s => by simp only [PyData.eqv]; exact beq_sym _ _⟩
theorem eqv_calm_met {r : Rc} {d : PyData} (h : ∀ s : Str, PyData.eqv d (.str s) = decide ((isMet r = true ∧ s = "met") ∨ (isLet r = false ∧ isMet r = false ∧ s = "calm"))) : PyData.eqv d (.str "met") = isMet r ∧ PyData.eqv d (.str "calm") = (!isLet r && !isMet r) := by
  rw [h, h]
  have n1 : ("met" : Str) ≠ "calm" := by decide +kernel
  have n2 : ("calm" : Str) ≠ "met" := by decide +kernel
  constructor
  · cases isMet r <;> simp [n1]
  · cases isMet r <;> cases isLet r <;> simp [n2]
/-- a row of a letter is told -/
def spSent (ts : List Addr) (K : PySem.W.Frag) : Sp := fun vs H Q _ => ∃ (v : V) (r : Rc), vs = [v] ∧ Td K H (v, rcD r) ∧ RcF r ∧ Yes ts (isLet r) H Q
theorem let_met (r : Rc) : isLet r = true → isMet r = false := by
  cases r with
  | rw r => cases r <;> simp [isLet, isMet]
  | calm i => simp [isLet]
theorem k_is_sent (A : Facts K mg base) (ts : List Addr) : Fk P w K mg base 1 "is_sent" ["row"] (spSent ts K) := by
  refine def_ok (d := d_is_sent) A.f_is_sent rfl A.g_is_sent sc_is_sent (fun _ _ _ _ _ _ us hl => match us, hl with | [_], _ => rfl) (fun vs H Q E h => ?_) (fun A' outer s H vs Q E hr h => ?_)
  · obtain ⟨v, r, rfl, _⟩ := h
    rfl
  · obtain ⟨v, r, rfl, hd, hf, q⟩ := h
    have hu65 : A'.units + 3 + 65 < cLine := by
      have := hr.un
      change A'.units + 3 + 16 * 0 + 200 < cLine at this
      omega
    obtain ⟨p, xs, x, d, rfl, h1, h2, h3, h4, h5, h6⟩ := row0 hd hf
    obtain ⟨e1, e2⟩ := eqv_calm_met h5
    refine ws_one (w_ret (we_cmp (op_notInT hu65) rfl (we_ix ix_tup (we_var 0 rfl (we_int ⟨p, xs, 0, x, rfl, rfl, h1, h2, we_tup (wa_cons (we_str (wa_cons (we_str (wa_nil ⟨by show 2 ≤ sizeLine; decide, fun pt hpt => ?_⟩)))))⟩)))))
    have f := WW.Fr.new (ts := ts) (m := Nil) (o := .tup [.str "met", .str "calm"]) hpt
    refine ⟨d, [.str "met", .str "calm"], (h3.keep (TK.fr f)).is, (td_flat (ds := [.str "met", .str "calm"]) (.inl (.inl upd_same)) (by simp [scalD])).is, h4, by decide +kernel, ?_⟩
    have z : (if true = true then !([.str "met", .str "calm"] : List PyData).any (fun z => PyData.eqv z d) else ([.str "met", .str "calm"] : List PyData).any fun z => PyData.eqv z d) = isLet r := by
      rw [if_pos rfl]
      simp only [List.any_cons, List.any_nil, Bool.or_false]
      rw [h6, h6, e1, e2]
      have := let_met r
      cases hl : isLet r <;> cases hm : isMet r <;> simp_all
    show Q (.bl (if true = true then !([.str "met", .str "calm"] : List PyData).any (fun z => PyData.eqv z d) else ([.str "met", .str "calm"] : List PyData).any fun z => PyData.eqv z d)) _
    rw [z]
    exact q _ f
end
end K05

set_option Elab.async false
set_option linter.all false
set_option maxRecDepth 100000
set_option maxHeartbeats 4000000
namespace K05
open PySem PySem.Spec PyProof.Rows L2 WW Wo Pa
def claimC : Rc → Option (Bool × Int)
  | .rw r => claim r
  | .calm _ => none
def clK (c : Bool × Int) : List Key := [.inr (if c.1 = true then "sign" else "mark"), .inl c.2]
def bkOf : Rc → List Str
  | .rw (.lost _ _ bk) => bk
  | .rw (.came _ _ bk _) => bk
  | _ => []
def mtOf : Rc → Bool
  | .rw (.came _ e _ d) => isTie e && !PyData.eqv d (.str "self")
  | _ => false
theorem ThingF.shaped {e : Er} {d : PyData} (h : ThingF e d) : SeqAt.shaped d = true := by
  cases h with
  | list ws a b c => exact shaped_strsT ws fun u hu => (b u hu).ok
  | tie u v a b ha hb => exact shaped_strsT [a, b] (by simp [ha.ok, hb.ok])
  | _ => first | decide +kernel | rfl
theorem beq_is (x s : Str) : (x == s) = decide (x = s) := by rw [Bool.eq_iff_iff, decide_eq_true_iff, beq_iff_eq]
theorem kind_meet {e : Er} (h : kindOf e = "meet") : ∃ s, e = .meet s := by
  cases e with
  | meet s => exact ⟨s, rfl⟩
  | walk => exact absurd h (by decide +kernel)
  | list => exact absurd h (by decide +kernel)
  | part => exact absurd h (by decide +kernel)
  | leave m => exact absurd (show ("leave" : Str) = "meet" from h) (by decide +kernel)
  | look m => exact absurd (show ("look" : Str) = "meet" from h) (by decide +kernel)
  | tie u v => exact absurd (show ("tie" : Str) = "meet" from h) (by decide +kernel)
theorem kind_leave {e : Er} (h : kindOf e = "leave") : ∃ s, e = .leave s := by
  cases e with
  | leave s => exact ⟨s, rfl⟩
  | walk => exact absurd h (by decide +kernel)
  | list => exact absurd h (by decide +kernel)
  | part => exact absurd h (by decide +kernel)
  | meet m => exact absurd (show ("meet" : Str) = "leave" from h) (by decide +kernel)
  | look m => exact absurd (show ("look" : Str) = "leave" from h) (by decide +kernel)
  | tie u v => exact absurd (show ("tie" : Str) = "leave" from h) (by decide +kernel)
theorem kind_no {e : Er} (h1 : kindOf e ≠ "meet") (h2 : kindOf e ≠ "leave") : erClaim e = none := by
  cases e with
  | meet m => exact absurd rfl h1
  | leave m => exact absurd rfl h2
  | _ => rfl
section
variable {P : Program} {w : World} {K : PySem.W.Frag} {mg : Str → Option Value} {base : Heap}
def spClaim (ts : List Addr) (K : PySem.W.Frag) : Sp := fun vs H Q _ => ∃ (v : V) (r : Rc), vs = [v] ∧ Td K H (v, rcD r) ∧ RcF r ∧ (claimC r = none → ∀ H', WW.Fr ts Nil H H' → Q .non H') ∧ ∀ c, claimC r = some c → ∀ H' p, WW.Fr ts Nil H H' → H' p = some (.tup ((clK c).map kV)) → Q (.ref p) H'
theorem k_claim_of (A : Facts K mg base) (ts : List Addr) : Fk P w K mg base 2 "claim_of" ["row"] (spClaim ts K) := by
  refine def_ok (d := d_claim_of) A.f_claim_of rfl A.g_claim_of sc_claim_of (fun _ _ _ _ _ _ us hl => match us, hl with | [_], _ => rfl) (fun vs H Q E h => ?_) (fun A' outer s H vs Q E hr h => ?_)
  · obtain ⟨v, r, rfl, _⟩ := h
    rfl
  · obtain ⟨v, r, rfl, hd, hf, q0, q1⟩ := h
    obtain ⟨p, xs, x, d, rfl, h1, h2, h3, h4, h5, h6⟩ := row0 hd hf
    obtain ⟨e1, e2⟩ := eqv_calm_met h5
    refine ws_cons (w_if0 (wt_cmp (op_eqD (room_u64 hr)) rfl (we_ix ix_tup (we_var 0 rfl (we_int ⟨p, xs, 0, x, rfl, rfl, h1, h2, we_str ⟨d, .str "met", h3.is, .str _, h4, by decide +kernel, isMet r, congrArg V.bl e1, ?_⟩⟩)))))
    -- a letter's row
    have letter : ∀ (way : List Str) (e : Er) (sd : PyData), Td K H (.ref p, rowD way e sd) → isLet r = true → (erClaim e = none → ∀ H', WW.Fr ts Nil H H' → Q .non H') → (∀ c, erClaim e = some c → ∀ H' p, WW.Fr ts Nil H H' → H' p = some (.tup ((clK c).map kV)) → Q (.ref p) H') →
        WS (cx P w K mg base ["row"] d_claim_of.qual d_claim_of.scope (He.ga K "claim_of") (He.codeOf K d_claim_of.at_) A' outer s H E) (d_claim_of.body.drop 1) { nx := fun _ H' => Q .non H', rt := Q } (L2.start ["row"] [.ref p]) H := fun way e sd hd2 hl q0 q1 => by
      obtain ⟨p2, pw, pe, vs, hp2, g1, g2, g3, g4⟩ := row_at hd2
      cases hp2
      refine ws_cons (w_if0 (wt_ww (ww_and (wt_val (we_f (k_is_sent A ts) hr (wa_cons (we_var 0 rfl (wa_nil ⟨.ref p, r, rfl, hd, hf, fun H1 f1 => ⟨_, rfl, ?_⟩⟩))))))))
      rw [if_pos hl]
      have k1 := TK.fr f1
      refine ww_and1 (wt_cmp op_eq rfl (we_ix ix_tup (we_ix ix_tup (we_var 0 rfl (we_int ⟨p, _, 1, .ref pe, rfl, rfl, k1.sqt g1, rfl, we_int ⟨pe, _, 0, .str (kindOf e), rfl, rfl, k1.sqt g3, kind_at e, we_str ⟨rfl, decide (kindOf e = "meet"), congrArg V.bl (by rw [dec_str]; exact beq_is _ _), ?_⟩⟩⟩)))))
      by_cases km : kindOf e = "meet"
      · rw [if_pos (decide_eq_true km)]
        obtain ⟨s1, rfl⟩ := kind_meet km
        refine ws_one (w_ret (we_tup (wa_cons (we_str (wa_cons (we_ix ix_tup (we_ix ix_tup (we_var 0 rfl (we_int ⟨p, _, 1, .ref pe, rfl, rfl, k1.sqt g1, rfl, we_int ⟨pe, _, 1, .int s1, rfl, rfl, k1.sqt g3, rfl, wa_nil ⟨by show 2 ≤ sizeLine; decide, fun pt hpt => ?_⟩⟩⟩)))))))))
        exact q1 (true, s1) rfl _ pt (f1.trans (WW.Fr.new hpt)) upd_same
      rw [if_neg (by rw [decide_eq_false km]; decide)]
      refine ws_cons (w_if0 (wt_ww (ww_and (wt_val (we_f (k_is_sent A ts) hr (wa_cons (we_var 0 rfl (wa_nil ⟨.ref p, r, rfl, hd.keep k1, hf, fun H2 f2 => ⟨_, rfl, ?_⟩⟩))))))))
      rw [if_pos hl]
      have f12 := f1.trans f2
      have k2 := TK.fr f12
      refine ww_and1 (wt_cmp op_eq rfl (we_ix ix_tup (we_ix ix_tup (we_var 0 rfl (we_int ⟨p, _, 1, .ref pe, rfl, rfl, k2.sqt g1, rfl, we_int ⟨pe, _, 0, .str (kindOf e), rfl, rfl, k2.sqt g3, kind_at e, we_str ⟨rfl, decide (kindOf e = "leave"), congrArg V.bl (by rw [dec_str]; exact beq_is _ _), ?_⟩⟩⟩)))))
      by_cases kl : kindOf e = "leave"
      · rw [if_pos (decide_eq_true kl)]
        obtain ⟨s1, rfl⟩ := kind_leave kl
        refine ws_one (w_ret (we_tup (wa_cons (we_str (wa_cons (we_ix ix_tup (we_ix ix_tup (we_var 0 rfl (we_int ⟨p, _, 1, .ref pe, rfl, rfl, k2.sqt g1, rfl, we_int ⟨pe, _, 1, .int s1, rfl, rfl, k2.sqt g3, rfl, wa_nil ⟨by show 2 ≤ sizeLine; decide, fun pt hpt => ?_⟩⟩⟩)))))))))
        exact q1 (false, s1) rfl _ pt (f12.trans (WW.Fr.new hpt)) upd_same
      rw [if_neg (by rw [decide_eq_false kl]; decide)]
      exact ws_one (w_ret (we_non (q0 (kind_no km kl) _ f12)))
    cases r with
    | rw r =>
      cases r with
      | met b s1 =>
        rw [show isMet (.rw (.met b s1)) = true from rfl, if_pos rfl]
        obtain ⟨p2, hp2, g1⟩ := met_at hd
        cases hp2
        refine ws_one (w_ret (we_tup (wa_cons (we_str (wa_cons (we_ix ix_tup (we_var 0 rfl (we_int ⟨p, _, 2, .int s1, rfl, rfl, g1, rfl, wa_nil ⟨by show 2 ≤ sizeLine; decide, fun pt hpt => ?_⟩⟩))))))))
        exact q1 (true, s1) rfl _ pt (WW.Fr.new hpt) upd_same
      | lost way e bk =>
        rw [show isMet (.rw (.lost way e bk)) = false from rfl, if_neg (by decide)]
        exact letter way e _ hd rfl q0 q1
      | came way e bk d =>
        rw [show isMet (.rw (.came way e bk d)) = false from rfl, if_neg (by decide)]
        exact letter way e _ hd rfl q0 q1
    | calm i =>
      have kl : isLet (.calm i) = false := rfl
      rw [show isMet (.calm i) = false from rfl, if_neg (by decide)]
      refine ws_cons (w_if0 (wt_ww (ww_and (wt_val (we_f (k_is_sent A ts) hr (wa_cons (we_var 0 rfl (wa_nil ⟨.ref p, .calm i, rfl, hd, hf, fun H1 f1 => ⟨_, rfl, ?_⟩⟩))))))))
      rw [kl, if_neg (by decide), if_neg (by decide)]
      refine ws_cons (w_if0 (wt_ww (ww_and (wt_val (we_f (k_is_sent A ts) hr (wa_cons (we_var 0 rfl (wa_nil ⟨.ref p, .calm i, rfl, hd.keep (TK.fr f1), hf, fun H2 f2 => ⟨_, rfl, ?_⟩⟩))))))))
      rw [kl, if_neg (by decide), if_neg (by decide)]
      exact ws_one (w_ret (we_non (q0 rfl _ (f1.trans f2))))
end
end K05

set_option Elab.async false
set_option linter.all false
set_option maxRecDepth 100000
set_option maxHeartbeats 4000000
namespace K05
open PySem PySem.Spec PyProof.Rows L2 WW Wo Pa
section
variable {P : Program} {w : World} {K : PySem.W.Frag} {mg : Str → Option Value} {base : Heap}
def spBacks (ts : List Addr) (K : PySem.W.Frag) : Sp := fun vs H Q _ => ∃ (v : V) (r : Rc), vs = [v] ∧ Td K H (v, rcD r) ∧ RcF r ∧ ∀ H' p, WW.Fr ts Nil H H' → SqT K H' p ((bkOf r).map V.str) → Q (.ref p) H'
theorem k_backs_of (A : Facts K mg base) (ts : List Addr) : Fk P w K mg base 2 "backs_of" ["row"] (spBacks ts K) := by
  refine def_ok (d := d_backs_of) A.f_backs_of rfl A.g_backs_of sc_backs_of (fun _ _ _ _ _ _ us hl => match us, hl with | [_], _ => rfl) (fun vs H Q E h => ?_) (fun A' outer s H vs Q E hr h => ?_)
  · obtain ⟨v, r, rfl, _⟩ := h
    rfl
  · obtain ⟨v, r, rfl, hd, hf, q⟩ := h
    refine ws_one (w_ret (we_if (wt_val (we_f (k_is_sent A ts) hr (wa_cons (we_var 0 rfl (wa_nil ⟨v, r, rfl, hd, hf, fun H1 f1 => ⟨_, rfl, ?_⟩⟩)))))))
    have k1 := TK.fr f1
    cases r with
    | rw r =>
      cases r with
      | met b s1 =>
        rw [show isLet (.rw (.met b s1)) = false from rfl, if_neg (by decide)]
        exact we_tup (wa_nil ⟨by show 0 ≤ sizeLine; decide, fun pt hpt => q _ pt (f1.trans (WW.Fr.new hpt)) (.inl (.inl upd_same))⟩)
      | lost way e bk =>
        obtain ⟨p, pw, pe, vs, rfl, g1, g2, g3, g4⟩ := row_at hd
        obtain ⟨ps, pb, rfl, l1, l2⟩ := lost_at g4
        rw [show isLet (.rw (.lost way e bk)) = true from rfl, if_pos rfl]
        exact we_ix ix_tup (we_ix ix_tup (we_var 0 rfl (we_int ⟨p, _, 2, .ref ps, rfl, rfl, k1.sqt g1, rfl, we_int ⟨ps, _, 1, .ref pb, rfl, rfl, k1.sqt l1, rfl, q _ pb f1 (k1.sqt l2)⟩⟩)))
      | came way e bk d =>
        obtain ⟨p, pw, pe, vs, rfl, g1, g2, g3, g4⟩ := row_at hd
        obtain ⟨ps, pb, vd, rfl, l1, l2, l3⟩ := came_at g4
        rw [show isLet (.rw (.came way e bk d)) = true from rfl, if_pos rfl]
        exact we_ix ix_tup (we_ix ix_tup (we_var 0 rfl (we_int ⟨p, _, 2, .ref ps, rfl, rfl, k1.sqt g1, rfl, we_int ⟨ps, _, 1, .ref pb, rfl, rfl, k1.sqt l1, rfl, q _ pb f1 (k1.sqt l2)⟩⟩)))
    | calm i =>
      rw [show isLet (.calm i) = false from rfl, if_neg (by decide)]
      exact we_tup (wa_nil ⟨by show 0 ≤ sizeLine; decide, fun pt hpt => q _ pt (f1.trans (WW.Fr.new hpt)) (.inl (.inl upd_same))⟩)
theorem eqv_tie (e : Er) : PyData.eqv (.tuple (rerL e)) (.tuple [.str "tie"]) = isTie e := by
  cases e with
  | tie u v => exact (by decide +kernel : PyData.eqv (.tuple [.str "tie"]) (.tuple [.str "tie"]) = true)
  | walk => decide +kernel
  | list => decide +kernel
  | part => decide +kernel
  | leave m => simp [rerL, erL, PyData.eqv, PyData.eqvAll, isTie]
  | look m => simp [rerL, erL, PyData.eqv, PyData.eqvAll, isTie]
  | meet m => simp [rerL, erL, PyData.eqv, PyData.eqvAll, isTie]
def spMade (ts : List Addr) (K : PySem.W.Frag) : Sp := fun vs H Q _ => ∃ (v : V) (r : Rc), vs = [v] ∧ Td K H (v, rcD r) ∧ RcF r ∧ Yes ts (mtOf r) H Q
theorem k_made_tie (A : Facts K mg base) (ts : List Addr) : Fk P w K mg base 2 "made_tie" ["row"] (spMade ts K) := by
  refine def_ok (d := d_made_tie) A.f_made_tie rfl A.g_made_tie sc_made_tie (fun _ _ _ _ _ _ us hl => match us, hl with | [_], _ => rfl) (fun vs H Q E h => ?_) (fun A' outer s H vs Q E hr h => ?_)
  · obtain ⟨v, r, rfl, _⟩ := h
    rfl
  · obtain ⟨v, r, rfl, hd, hf, q⟩ := h
    refine ws_one (w_ret (we_and (we_f (k_is_sent A ts) hr (wa_cons (we_var 0 rfl (wa_nil ⟨v, r, rfl, hd, hf, fun H1 f1 => ⟨_, rfl, ?_⟩⟩))))))
    have k1 := TK.fr f1
    have letter : ∀ (way : List Str) (e : Er) (sd : PyData) (b : Bool), Td K H (v, rowD way e sd) → isLet r = true → (isTie e = false → b = false) → Yes ts b H Q → (∀ (p ps : Addr) (H2 : Hp) (σ : L2.St), isTie e = true → σ = [some (.ref p)] → WW.Fr ts Nil H H2 → (∃ pw pe vs, v = .ref p ∧ SqT K H2 p [.ref pw, .ref pe, vs] ∧ Td K H2 (vs, sd)) → WE (cx P w K mg base ["row"] d_made_tie.qual d_made_tie.scope (He.ga K "made_tie") (He.codeOf K d_made_tie.at_) A' outer s H E) (match d_made_tie.body with | [.Return (some (.BoolOp op (_ :: _ :: rest) pos)) _] => .BoolOp op rest pos | _ => .Constant .none 0 default) σ H2 Q) →
        if isLet r = true then WE (cx P w K mg base ["row"] d_made_tie.qual d_made_tie.scope (He.ga K "made_tie") (He.codeOf K d_made_tie.at_) A' outer s H E) (match d_made_tie.body with | [.Return (some (.BoolOp op (_ :: rest) pos)) _] => .BoolOp op rest pos | _ => .Constant .none 0 default) (L2.start ["row"] [v]) H1 Q else Q (.bl false) H1 := fun way e sd b hd hl hb q g => by
      rw [if_pos hl]
      obtain ⟨p, pw, pe, vs, rfl, g1, g2, g3, g4⟩ := row_at hd
      refine we_and (we_cmp (op_eqD (room_u64 hr)) rfl (we_ix ix_tup (we_var 0 rfl (we_int ⟨p, _, 1, .ref pe, rfl, rfl, k1.sqt g1, rfl, we_tup (wa_cons (we_str (wa_nil ⟨by show 1 ≤ sizeLine; decide, fun pt hpt => ?_⟩)))⟩))))
      have f2 := f1.trans (WW.Fr.new (ts := ts) (m := Nil) (o := .tup [.str "tie"]) hpt)
      refine ⟨.tuple (rerL e), .tuple [.str "tie"], (td_flat ((TK.fr f2).sqt g3) (rer_scal e)).is, (td_flat (ds := [.str "tie"]) (.inl (.inl upd_same)) (by simp [scalD])).is, shaped_rer, by decide +kernel, isTie e, congrArg V.bl (eqv_tie e), ?_⟩
      by_cases ht : isTie e = true
      · rw [if_pos ht]
        exact g p pt _ _ ht rfl f2 ⟨pw, pe, vs, rfl, (TK.fr f2).sqt g1, g4.keep (TK.fr f2)⟩
      · rw [if_neg ht]
        rw [Bool.not_eq_true] at ht
        have := q _ f2
        rw [hb ht] at this
        exact this
    cases r with
    | rw r =>
      cases r with
      | met b s1 =>
        rw [show isLet (.rw (.met b s1)) = false from rfl, if_neg (by decide)]
        exact q _ f1
      | lost way e bk =>
        refine letter way e (lostD bk) false hd rfl (fun _ => rfl) q fun p ps H2 σ ht hσ f2 ⟨pw, pe, vs, hv, g1, g4⟩ => ?_
        subst hσ
        obtain ⟨ps, pb, rfl, l1, l2⟩ := lost_at g4
        refine we_and (we_cmp op_eq rfl (we_ix ix_tup (we_ix ix_tup (we_var 0 rfl (we_int ⟨p, _, 2, .ref ps, rfl, rfl, g1, rfl, we_int ⟨ps, _, 0, .str "lost", rfl, rfl, l1, rfl, we_str ⟨rfl, false, congrArg V.bl (by decide +kernel), ?_⟩⟩⟩)))))
        rw [if_neg (by decide)]
        exact q _ f2
      | came way e bk d =>
        refine letter way e (cameD bk d) (mtOf (.rw (.came way e bk d))) hd rfl (fun z => by simp [mtOf, z]) q fun p ps H2 σ ht hσ f2 ⟨pw, pe, vs, hv, g1, g4⟩ => ?_
        subst hσ
        obtain ⟨ps, pb, vd, rfl, l1, l2, l3⟩ := came_at g4
        refine we_and (we_cmp op_eq rfl (we_ix ix_tup (we_ix ix_tup (we_var 0 rfl (we_int ⟨p, _, 2, .ref ps, rfl, rfl, g1, rfl, we_int ⟨ps, _, 0, .str "came", rfl, rfl, l1, rfl, we_str ⟨rfl, true, congrArg V.bl (by decide +kernel), ?_⟩⟩⟩)))))
        rw [if_pos rfl]
        refine we_last (we_cmp (op_neD (room_u64 hr)) rfl (we_ix ix_tup (we_ix ix_tup (we_var 0 rfl (we_int ⟨p, _, 2, .ref ps, rfl, rfl, g1, rfl, we_int ⟨ps, _, 2, vd, rfl, rfl, l1, rfl, we_str ⟨d, .str "self", l3.is, .str _, hf.2.2.2.2.2.1.shaped, by decide +kernel, ?_⟩⟩⟩)))))
        have z : mtOf (.rw (.came way e bk d)) = !PyData.eqv d (.str "self") := by simp [mtOf, ht]
        rw [← z]
        exact q _ f2
    | calm i =>
      rw [show isLet (.calm i) = false from rfl, if_neg (by decide)]
      exact q _ f1
def tiOf (r : Rc) : Nat := if mtOf r = true then (bkOf r).length + 1 else (bkOf r).length
def spTiesOf (ts : List Addr) (K : PySem.W.Frag) : Sp := fun vs H Q _ => ∃ (v : V) (r : Rc), vs = [v] ∧ Td K H (v, rcD r) ∧ RcF r ∧ ∀ H', WW.Fr ts Nil H H' → Q (.int (tiOf r)) H'
theorem k_ties_of (A : Facts K mg base) (ts : List Addr) : Fk P w K mg base 3 "ties_of" ["row"] (spTiesOf ts K) := by
  refine def_ok (d := d_ties_of) A.f_ties_of rfl A.g_ties_of sc_ties_of (fun _ _ _ _ _ _ us hl => match us, hl with | [_], _ => rfl) (fun vs H Q E h => ?_) (fun A' outer s H vs Q E hr h => ?_)
  · obtain ⟨v, r, rfl, _⟩ := h
    rfl
  · obtain ⟨v, r, rfl, hd, hf, q⟩ := h
    refine ws_cons (w_set 1 (we_callB call_len_seq A.n_len rfl (wa_cons (we_f (k_backs_of A ts) hr (wa_cons (we_var 0 rfl (wa_nil ⟨v, r, rfl, hd, hf, fun H1 p f1 hp => wa_nil ⟨p, _, rfl, .inr hp, ?_⟩⟩)))))) sc_ties_of.nd)
    refine ws_one (w_ret (we_if (wt_val (we_f (k_made_tie A ts) hr (wa_cons (we_var 0 rfl (wa_nil ⟨v, r, rfl, hd.keep (TK.fr f1), hf, fun H2 f2 => ⟨_, rfl, ?_⟩⟩)))))))
    have qq := q H2 (f1.trans f2)
    unfold tiOf at qq
    by_cases hm : mtOf r = true
    · rw [if_pos hm] at qq ⊢
      refine we_bin op_add (we_var 1 rfl (we_int ⟨_, 1, rfl, rfl, ?_⟩))
      show Q (.int ((((bkOf r).map V.str).length : Nat) + 1)) H2
      rw [List.length_map]
      exact qq
    · rw [if_neg hm] at qq ⊢
      refine we_var 1 rfl ?_
      rw [List.length_map]
      exact qq
end
end K05

set_option Elab.async false
set_option linter.all false
set_option maxRecDepth 100000
set_option maxHeartbeats 4000000
namespace K05
open PySem PySem.Spec PyProof.Rows L2 WW Wo Pa
/-- the first row to which a calm may reach back, behind n rows -/
def cfN (rcs : List Rc) : Nat → Nat
  | 0 => 0
  | n + 1 => if (rcs[n]?).any isMet = true then n + 1 else cfN rcs n
structure BookF (rcs : List Rc) : Prop where
  ok : ∀ r ∈ rcs, RcF r
  nd : (rcs.filterMap claimC).Nodup
  cm : ∀ n i, rcs[n]? = some (.calm i) → (cfN rcs n : Int) ≤ i ∧ i < n
  len : rcs.length ≤ 20
/-- the book at p -/
structure BookC (K : PySem.W.Frag) (H : Hp) (p : Addr) (rcs : List Rc) : Prop where
  ex : ∃ rs : List (V × PyData), H p = some (.lst (rs.map (·.1))) ∧ (∀ r ∈ rs, Td K H r) ∧ rs.map (·.2) = rcs.map rcD
  f : BookF rcs
theorem BookC.keep {K : PySem.W.Frag} {H H' : Hp} {p : Addr} {rcs : List Rc} {ts : List Addr} (h : BookC K H p rcs) (f : WW.Fr ts Nil H H') : BookC K H' p rcs := by
  obtain ⟨⟨rs, a, b, c⟩, d⟩ := h
  exact ⟨⟨rs, f.kp _ _ a (fun z => z) rfl, fun r hr => (b r hr).keep (TK.fr f), c⟩, d⟩
theorem BookC.len {K : PySem.W.Frag} {H : Hp} {p : Addr} {rcs : List Rc} {rs : List (V × PyData)} (h : rs.map (·.2) = rcs.map rcD) : rs.length = rcs.length := by
  have := congrArg List.length h
  rw [List.length_map, List.length_map] at this
  exact this
section
variable {P : Program} {w : World} {K : PySem.W.Frag} {mg : Str → Option Value} {base : Heap}
theorem sc_first_bad_row : FnScope ["rows", "claimed", "calm_from", "number", "row", "claim"] ["rows"] (defScope s_first_bad_row) := ⟨rfl, rfl, rfl, by decide +kernel, rfl, by decide +kernel, by decide +kernel⟩
theorem putK_len {κ : Type} [DecidableEq κ] {kvs : List (κ × V)} {k : κ} {v : V} (h : valV kvs k = none) : (putK kvs k v).length = kvs.length + 1 := by
  unfold putK
  rw [valV_any, h]
  simp
theorem clK_inj {a b : Bool × Int} (h : clK a = clK b) : a = b := by
  obtain ⟨a1, a2⟩ := a
  obtain ⟨b1, b2⟩ := b
  have n1 : ("sign" : Str) ≠ "mark" := by decide +kernel
  simp only [clK, List.cons.injEq, Sum.inl.injEq, Sum.inr.injEq, and_true] at h
  obtain ⟨h1, h2⟩ := h
  subst h2
  cases a1 <;> cases b1 <;> simp_all
def spFirst (ts : List Addr) (K : PySem.W.Frag) : Sp := fun vs H Q _ => ∃ (p : Addr) (rcs : List Rc), vs = [.ref p] ∧ BookC K H p rcs ∧ Tbs ts H ∧ ∀ H', WW.Fr ts Nil H H' → Q .non H'
theorem k_first_bad_row (A : Facts K mg base) : Fk P w K mg base 13 "first_bad_row" ["rows"] (spFirst (tsK K) K) := by
  refine def_ok (d := d_first_bad_row) A.f_first_bad_row rfl A.g_first_bad_row sc_first_bad_row (fun _ _ _ _ _ _ us hl => match us, hl with | [_], _ => rfl) (fun vs H Q E h => ?_) (fun A' outer s H vs Q E hr h => ?_)
  · obtain ⟨p, rcs, rfl, _⟩ := h
    rfl
  · obtain ⟨p, rcs, rfl, ⟨⟨rs, hp, hrs, hds⟩, bf⟩, tb, q⟩ := h
    have hz : 1000 < sizeLine := by decide
    have hlen := BookC.len (K := K) (H := H) (p := p) hds
    have hl20 := bf.len
    refine ws_cons (w_set 1 (we_of pe_dnewT fun pc hpc => ?_) sc_first_bad_row.nd)
    have f1 : WW.Fr (tsK K) Nil H (upd H pc (.dT [])) := WW.Fr.new hpc
    have hpcH := hpc
    have hc1 : upd H pc (.dT []) pc = some (.dT []) := upd_same
    generalize upd H pc (.dT []) = H1 at f1 hc1 ⊢
    refine ws_cons (w_set 2 (we_int ?_) sc_first_bad_row.nd)
    refine ws_cons (w_for (pi_enum rfl A.n_enumerate WW.pa) (pg_tup (by rfl) (pgs_cons (pg_name (i := 3) sc_first_bad_row.nd rfl (Or.inl rfl)) (pgs_cons (pg_name (i := 4) sc_first_bad_row.nd rfl (Or.inl rfl)) pgs_nil))) (by rfl) (wa_cons (we_var 0 rfl (wa_nil ⟨p, _, rfl, .inl (.inl (f1.kp _ _ hp (fun z => z) rfl)), ?_⟩))))
    refine for_by rs.length (fun i σ Hx => ∃ (kvs : List (List Key × V)) (o3 o4 o5 : Option V), σ = [some (.ref p), some (.ref pc), some (.int (cfN rcs i : Nat)), o3, o4, o5] ∧ WW.Fr (tsK K) Nil H Hx ∧ Hx pc = some (.dT kvs) ∧ kvs.length ≤ i ∧ ∀ c, (valV kvs (clK c)).isSome = true → c ∈ (rcs.take i).filterMap claimC)
      ⟨[], none, none, none, rfl, f1, hc1, Nat.le_refl _, fun c z => by rw [valV_nil] at z; cases z⟩ (fun σ Hx hi => ?_) (fun i σ Hx hn hi => ?_)
    · obtain ⟨kvs, o3, o4, o5, rfl, fx, hpx, hkl, hk⟩ := hi
      refine ⟨⟨_, .inl (.inl (fx.kp _ _ hp (fun z => z) rfl)), by rw [List.length_map]; exact Nat.le_refl _⟩, ?_⟩
      exact ws_one (w_ret (we_non (q _ fx)))
    · obtain ⟨kvs, o3, o4, o5, rfl, fx, hpx, hkl, hk⟩ := hi
      obtain ⟨rv, hrv⟩ : ∃ r, rs[i]? = some r := ⟨_, List.getElem?_eq_getElem hn⟩
      obtain ⟨r, hr1⟩ : ∃ r, rcs[i]? = some r := ⟨_, List.getElem?_eq_getElem (by omega)⟩
      have hd2 : rv.2 = rcD r := by
        have e1 : (rs.map (·.2))[i]? = some rv.2 := by rw [List.getElem?_map, hrv]; rfl
        rw [hds, List.getElem?_map, hr1] at e1
        exact (Option.some.inj e1).symm
      have hv1 : (rs.map (·.1))[i]? = some rv.1 := by rw [List.getElem?_map, hrv]; rfl
      have hpX := fx.kp _ _ hp (fun z => z) rfl
      have hrf := bf.ok r (List.mem_of_getElem? hr1)
      refine ⟨⟨_, _, .inl (.inl hpX), hv1⟩, fun v Hy ⟨T, y, e1, e2, e3, e4⟩ => ?_⟩
      have e4 := e4 _ (.inl (.inl hpX))
      rw [hv1] at e4
      cases e4
      subst e1 e3
      refine ⟨T, _, rfl, .inl (.inl upd_same), rfl, _, _, rfl, _, _, rfl, rfl, ?_⟩
      have fT : WW.Fr (tsK K) Nil Hx (upd Hx T (.tup [.int (i : Nat), rv.1])) := WW.Fr.new e2
      have hpT := fT.kp _ _ hpx (fun z => z) rfl
      have f2 := fx.trans fT
      generalize upd Hx T _ = H2 at fT hpT f2 ⊢
      have htd : Td K H2 (rv.1, rcD r) := by
        rw [← hd2]
        exact (hrs rv (List.mem_of_getElem? hrv)).keep (TK.fr f2)
      refine ws_cons (w_if0 (wt_not (wt_val (we_f (k_is_row A) hr (wa_cons (we_var 4 rfl (wa_nil ⟨rv.1, r, rfl, htd, hrf, f2.tb tb, fun H3 f3 => ⟨true, rfl, ?_⟩⟩)))))))
      rw [if_neg (by decide)]
      have f23 := f2.trans f3
      have htd3 := htd.keep (TK.fr f3)
      have hp3 := f3.kp _ _ hpT (fun z => z) rfl
      -- from the test of the claim on
      have tail : ∀ (D : Ends), D.nx = (fun σ Hx => ∃ (kvs : List (List Key × V)) (o3 o4 o5 : Option V), σ = [some (.ref p), some (.ref pc), some (.int (cfN rcs (i + 1) : Nat)), o3, o4, o5] ∧ WW.Fr (tsK K) Nil H Hx ∧ Hx pc = some (.dT kvs) ∧ kvs.length ≤ i + 1 ∧ ∀ c, (valV kvs (clK c)).isSome = true → c ∈ (rcs.take (i + 1)).filterMap claimC) → ∀ (H4 : Hp) (kvs' : List (List Key × V)) (o5 : Option V), WW.Fr (tsK K) Nil H H4 → H4 pc = some (.dT kvs') → kvs'.length ≤ i + 1 → (∀ c, (valV kvs' (clK c)).isSome = true → c ∈ (rcs.take (i + 1)).filterMap claimC) → Td K H4 (rv.1, rcD r) →
          WS (cx P w K mg base ["rows", "claimed", "calm_from", "number", "row", "claim"] d_first_bad_row.qual d_first_bad_row.scope (He.ga K "first_bad_row") (He.codeOf K d_first_bad_row.at_) A' outer s H E) (match (d_first_bad_row.body.getD 2 (.Pass ⟨0, 0, 0, 0⟩)) with | .For _ _ b _ _ => b.drop 4 | _ => []) D [some (.ref p), some (.ref pc), some (.int (cfN rcs i : Nat)), some (.int (i : Nat)), some rv.1, o5] H4 := fun D hD H4 kvs' o5 f4 hp4 hl4 hk4 htd4 => by
        have hrow := row0 htd4 hrf
        obtain ⟨px, xs, x, dx, hpv, h1, h2, h3, h4, h5, h6⟩ := hrow
        obtain ⟨em, ec⟩ := eqv_calm_met h5
        have tk4 : rcs.take (i + 1) = rcs.take i ++ [r] := by rw [List.take_add_one, hr1]; rfl
        have cfS : cfN rcs (i + 1) = if isMet r = true then i + 1 else cfN rcs i := by
          show (if (rcs[i]?).any isMet = true then i + 1 else cfN rcs i) = _
          rw [hr1] <;> rfl
        refine ws_seq (fun σ' H' => H' = H4 ∧ σ' = [some (.ref p), some (.ref pc), some (.int (cfN rcs (i + 1) : Nat)), some (.int (i : Nat)), some rv.1, o5]) ?_ fun σ' H' ⟨eH, eσ⟩ => ?_
        · refine w_if0 (wt_cmp (op_eqD (room_u64 hr)) rfl (we_ix ix_tup (we_var 4 rfl (we_int ⟨px, xs, 0, x, hpv, rfl, h1, h2, we_str ⟨dx, .str "met", h3.is, .str _, h4, by decide +kernel, isMet r, congrArg V.bl em, ?_⟩⟩))))
          by_cases hm : isMet r = true
          · rw [if_pos hm]
            refine ws_one (w_set 2 (we_bin op_add (we_var 3 rfl (we_int ⟨_, 1, rfl, rfl, ?_⟩))) sc_first_bad_row.nd)
            refine ⟨rfl, ?_⟩
            rw [cfS, if_pos hm]
            rfl
          · rw [if_neg hm]
            refine ⟨rfl, ?_⟩
            rw [cfS, if_neg hm]
        subst eH eσ
        refine ws_one (w_if0 (wt_ww (ww_and (wt_cmp (op_eqD (room_u64 hr)) rfl (we_ix ix_tup (we_var 4 rfl (we_int ⟨px, xs, 0, x, hpv, rfl, h1, h2, we_str ⟨dx, .str "calm", h3.is, .str _, h4, by decide +kernel, _, congrArg V.bl ec, ?_⟩⟩)))))))
        by_cases hcalm : (!isLet r && !isMet r) = true
        · rw [if_pos hcalm]
          cases r with
          | rw r => cases r <;> cases hcalm
          | calm j =>
            obtain ⟨c1, c2⟩ := bf.cm i j hr1
            obtain ⟨px2, hp2, g1⟩ := calm_at htd4
            rw [hpv] at hp2
            cases hp2
            have cfe : cfN rcs (i + 1) = cfN rcs i := by rw [cfS, show isMet (.calm j) = false from rfl, if_neg (by decide)]
            refine ww_and1 (wt_not (wt_chain op_le op_lt (we_var 2 rfl (we_ix ix_tup (we_var 4 rfl (we_int ⟨px, _, 1, .int j, hpv, rfl, g1, rfl, ⟨_, j, rfl, rfl, true, congrArg V.bl (decide_eq_true (by rw [cfe]; exact c1)), ?_⟩⟩)))) rI0_mono))
            rw [if_pos rfl]
            refine we_var 3 rfl ⟨j, _, rfl, rfl, true, congrArg V.bl (decide_eq_true c2), ?_⟩
            rw [if_neg (by decide)]
            exact (congrFun (congrFun hD _) _).mpr ⟨kvs', _, _, _, rfl, f4, hp4, hl4, hk4⟩
        · rw [if_neg hcalm, if_neg (by decide)]
          exact (congrFun (congrFun hD _) _).mpr ⟨kvs', _, _, _, rfl, f4, hp4, hl4, hk4⟩
      refine ws_cons (w_set 5 (we_f (k_claim_of A (tsK K)) hr (wa_cons (we_var 4 rfl (wa_nil ⟨rv.1, r, rfl, htd3, hrf, fun hno H4 f4 => ?_, fun c hc H4 pk f4 hpk => ?_⟩)))) sc_first_bad_row.nd)
      · have hp4 := f4.kp _ _ hp3 (fun z => z) rfl
        refine ws_cons (w_if0 (Wn.wt_inNone (room_u hr) (we_var 5 rfl ⟨rfl, we_var 1 rfl ⟨pc, kvs, rfl, .inl hp4, ?_⟩⟩)))
        rw [if_neg (by decide)]
        refine ws_cons (w_if0 (wt_cmp op_notN rfl (we_var 5 rfl (we_non ⟨rfl, false, rfl, ?_⟩))))
        rw [if_neg (by decide)]
        refine tail _ rfl H4 kvs _ (f23.trans f4) hp4 (Nat.le_succ_of_le hkl) (fun c hc => ?_) (htd3.keep (TK.fr f4))
        rw [List.take_add_one, List.filterMap_append]
        exact List.mem_append_left _ (hk c hc)
      · have hp4 := f4.kp _ _ hp3 (fun z => z) rfl
        have hno : valV kvs (clK c) = none := by
          cases hv : valV kvs (clK c) with
          | none => rfl
          | some v =>
            exfalso
            have hm := hk c (by rw [hv]; rfl)
            have e1 : rcs = rcs.take i ++ rcs.drop i := (List.take_append_drop i rcs).symm
            have nd := bf.nd
            rw [e1, List.filterMap_append, List.nodup_append] at nd
            refine nd.2.2 c hm c ?_ rfl
            refine List.mem_filterMap.mpr ⟨r, ?_, hc⟩
            exact List.mem_of_getElem? (i := 0) (by rw [List.getElem?_drop]; exact hr1)
        refine ws_cons (w_if0 (wt_in (room_u hr) (we_var 5 rfl (we_var 1 rfl ⟨pc, _, rfl, .inr ⟨kvs, clK c, pk, .inl hp4, rfl, hpk, rfl⟩, false, by rw [hno]; rfl, ?_⟩))))
        rw [if_neg (by decide)]
        refine ws_cons (w_if0 (wt_cmp op_notN rfl (we_var 5 rfl (we_non ⟨rfl, true, rfl, ?_⟩))))
        rw [if_pos rfl]
        refine ws_one (w_setD (room_u hr) (we_bl (we_var 1 rfl (we_var 5 rfl ⟨pc, _, rfl, DPut.t hp4 hpk (by omega), ?_⟩))))
        have fw : WW.Fr (tsK K) Nil H (upd H4 pc (.dT (putK kvs (clK c) (.bl true)))) := (f23.trans f4).mut hpcH hp4 rfl
        refine tail _ rfl _ (putK kvs (clK c) (.bl true)) _ fw upd_same (by rw [putK_len hno]; omega) (fun c' hc' => ?_) ((htd3.keep (TK.fr f4)).keep (TK.wr hp4 (fun _ => nofun) fun _ _ => nofun))
        rw [valV_put] at hc'
        rw [List.take_add_one, List.filterMap_append, hr1]
        by_cases e : clK c' = clK c
        · rw [clK_inj e]
          exact List.mem_append_right _ (List.mem_filterMap.mpr ⟨r, List.mem_singleton.mpr rfl, hc⟩)
        · rw [if_neg e] at hc'
          exact List.mem_append_left _ (hk c' hc')
end
end K05

set_option Elab.async false
set_option linter.all false
set_option maxRecDepth 100000
set_option maxHeartbeats 4000000
namespace K05
open PySem PySem.Spec PyProof.Rows L2 WW Wo Pa
section
variable {P : Program} {w : World} {K : PySem.W.Frag} {mg : Str → Option Value} {base : Heap}
theorem sc_check_book : FnScope ["book", "number"] ["book"] (defScope s_check_book) := ⟨rfl, rfl, rfl, by decide +kernel, rfl, by decide +kernel, by decide +kernel⟩
theorem sc_places : FnScope ["book", "number", "row", "step"] ["book"] (defScope s_places) := ⟨rfl, rfl, rfl, by decide +kernel, rfl, by decide +kernel, by decide +kernel⟩
theorem sc_ties : FnScope ["book", "number", "row", "step"] ["book"] (defScope s_ties) := ⟨rfl, rfl, rfl, by decide +kernel, rfl, by decide +kernel, by decide +kernel⟩
theorem k_check_book (A : Facts K mg base) : Fk P w K mg base 14 "check_book" ["book"] (spFirst (tsK K) K) := by
  refine def_ok (d := d_check_book) A.f_check_book rfl A.g_check_book sc_check_book (fun _ _ _ _ _ _ us hl => match us, hl with | [_], _ => rfl) (fun vs H Q E h => ?_) (fun A' outer s H vs Q E hr h => ?_)
  · obtain ⟨p, rcs, rfl, _⟩ := h
    rfl
  · obtain ⟨p, rcs, rfl, hb, tb, q⟩ := h
    obtain ⟨rs, hp, _⟩ := hb.ex
    refine ws_cons (w_if0 (wt_not (wt_val (we_isi (we_var 0 rfl ⟨_, true, ty_lst (.inl (.inl hp)), kit_eq _ _, true, rfl, ?_⟩) A.n_isinstance A.n_list rfl))))
    rw [if_neg (by decide)]
    refine ws_cons (w_set 1 (we_f (k_first_bad_row A) hr (wa_cons (we_var 0 rfl (wa_nil ⟨p, rcs, rfl, hb, tb, fun H1 f1 => ?_⟩)))) sc_check_book.nd)
    refine ws_one (w_if0 (wt_cmp op_notN rfl (we_var 1 rfl (we_non ⟨rfl, false, rfl, ?_⟩))))
    rw [if_neg (by decide)]
    exact q _ f1
/-- a list of arguments within a comprehension -/
def AB (X : Cx) (scope : Scope) (es : List Expr) : TA := fun σ H Q => ∀ (s : Shared) (H0 : Hp) (C : Addr) (cl : List (Str × Addr)) (fp : List Addr), WA (X.blk s H0 scope (compEnvC scope cl C X.env) fp) es σ H Q
theorem ab {X : Cx} {scope : Scope} {es : List Expr} : ∀ (s : Shared) (H : Hp) (C : Addr) (cl : List (Str × Addr)) (fp : List Addr), PA (X.blk s H scope (compEnvC scope cl C X.env) fp) es (AB X scope es) :=
  fun s H0 C cl fp => ⟨fun pos pins s' σ H Q I h => h s H0 C cl fp pos pins s' I⟩
def pdD (q : Int × Int) : PyData := .tuple [.int q.1, .int q.2]
/-- numbers (n, lo) .. (n, lo + c - 1) -/
def runL (n lo : Int) (c : Nat) : List (Int × Int) := (List.range c).map fun (k : Nat) => (n, lo + (k : Int))
def plN (rcs : List Rc) : Nat → List (Int × Int)
  | 0 => []
  | n + 1 => plN rcs n ++ runL n 0 (((rcs[n]?).map fun r => (bkOf r).length + 1).getD 0)
def tiN (rcs : List Rc) : Nat → List (Int × Int)
  | 0 => []
  | n + 1 => tiN rcs n ++ runL n 1 (((rcs[n]?).map tiOf).getD 0)
/-- a list of pairs of numbers at D -/
def PairsAt (K : PySem.W.Frag) (H : Hp) (D : Addr) (qs : List (Int × Int)) : Prop := ∃ as : List (V × PyData), H D = some (.lst (as.map (·.1))) ∧ (∀ a ∈ as, Td K H a) ∧ as.map (·.2) = qs.map pdD
def spPairs (ts : List Addr) (K : PySem.W.Frag) (f : List Rc → List (Int × Int)) : Sp := fun vs H Q _ => ∃ (p : Addr) (rcs : List Rc), vs = [.ref p] ∧ BookC K H p rcs ∧ Tbs ts H ∧ ∀ H' D, WW.Fr ts Nil H H' → Nw H D → PairsAt K H' D (f rcs) → Q (.ref D) H'
theorem runL_len (n lo : Int) (c : Nat) : (runL n lo c).length = c := by simp [runL]
theorem runL_succ (n lo : Int) (c : Nat) : runL n lo (c + 1) = runL n lo c ++ [(n, lo + (c : Int))] := by simp [runL, List.range_succ]
theorem bk_len {r : Rc} (h : RcF r) : (bkOf r).length ≤ 8 := by
  cases r with
  | rw r =>
    cases r with
    | met b s => exact Nat.zero_le _
    | lost way e bk => exact Nat.le_of_lt (Nat.lt_of_lt_of_le h.2.2.1 h.2.2.2.1)
    | came way e bk d => exact Nat.le_trans (Nat.le_of_eq h.2.2.1) h.2.2.2.1
  | calm i => exact Nat.zero_le _
theorem plN_len {rcs : List Rc} (h : ∀ r ∈ rcs, RcF r) : ∀ i, (plN rcs i).length ≤ 9 * i
  | 0 => Nat.le_refl _
  | i + 1 => by
    have ih := plN_len h i
    unfold plN
    rw [List.length_append, runL_len]
    cases hr : rcs[i]? with
    | none => simp; omega
    | some r =>
      have := bk_len (h r (List.mem_of_getElem? hr))
      simp
      omega
theorem nw_of {ts : List Addr} {H H1 : Hp} {p : Addr} (f : WW.Fr ts Nil H H1) (h : H1 p = none) : Nw H p := fun u hu => by
  cases ht : nt u with
  | false => rfl
  | true =>
    have := f.kp p u hu (fun z => z) ht
    rw [h] at this
    cases this
/-- pairs so far -/
structure PAt (K : PySem.W.Frag) (ts : List Addr) (H1 H : Hp) (D : Addr) (qs : List (Int × Int)) : Prop where
  ex : PairsAt K H D qs
  fr : WW.Fr ts Nil H1 H
theorem PAt.step {K : PySem.W.Frag} {ts : List Addr} {H1 H H2 : Hp} {D : Addr} {qs : List (Int × Int)} (h : PAt K ts H1 H D qs) (f : WW.Fr ts Nil H H2) : PAt K ts H1 H2 D qs := by
  obtain ⟨⟨as, a, b, c⟩, f1⟩ := h
  exact ⟨⟨as, f.kp _ _ a (fun z => z) rfl, fun x hx => (b x hx).keep (TK.fr f), c⟩, f1.trans f⟩
theorem PAt.add {K : PySem.W.Frag} {ts : List Addr} {H1 H : Hp} {D p : Addr} {qs : List (Int × Int)} {q : Int × Int} (h : PAt K ts H1 H D qs) (hD : H1 D = none) (hp : H p = some (.tup [.int q.1, .int q.2])) :
    ∃ acc, H D = some (.lst acc) ∧ acc.length = qs.length ∧ PAt K ts H1 (upd H D (.lst (acc ++ [.ref p]))) D (qs ++ [q]) := by
  obtain ⟨⟨as, a, b, c⟩, f1⟩ := h
  have k : TK H (upd H D (.lst (as.map (·.1) ++ [.ref p]))) := TK.wr a (fun _ => nofun) fun _ _ => nofun
  refine ⟨_, a, ?_, ⟨⟨as ++ [(.ref p, pdD q)], ?_, fun x hx => ?_, ?_⟩, f1.mut hD a rfl⟩⟩
  · have := congrArg List.length c
    rw [List.length_map, List.length_map] at this
    rw [List.length_map, this]
  · rw [upd_same, List.map_append] <;> rfl
  · rcases List.mem_append.mp hx with hx | hx
    · exact (b x hx).keep k
    · rw [List.mem_singleton.mp hx]
      exact (td_flat (ds := [.int q.1, .int q.2]) (.inl (.inl hp)) (by simp [scalD])).keep k
  · rw [List.map_append, List.map_append, c] <;> rfl
theorem k_placesB (A : Facts K mg base) : WK.Fb P w K mg base 15 "places" "book" (spPairs (tsK K) K fun rcs => plN rcs rcs.length) := by
  refine WK.def_okB (d := d_places) A.f_places rfl A.g_places sc_places (fun _ _ _ _ _ _ us hl => match us, hl with | [_], _ => rfl) (fun _ _ _ _ _ _ _ => rfl) (fun vs H Q E h => ?_) (fun A' outer s H vs Q E hr h => ?_)
  · obtain ⟨p, rcs, rfl, _⟩ := h
    rfl
  · obtain ⟨p, rcs, rfl, hb, tb, q⟩ := h
    refine ws_cons (w_expr (we_f (k_check_book A) hr (wa_cons (we_var 0 rfl (wa_nil ⟨p, rcs, rfl, hb, tb, fun H1 f1 => ?_⟩)))))
    have hb1 := hb.keep f1
    obtain ⟨⟨rs, hp, hrs, hds⟩, bf⟩ := hb1
    have hlen := BookC.len (K := K) (H := H) (p := p) hds
    have hl20 := bf.len
    have hz : 10000 < sizeLine := by decide
    refine ws_one (w_ret (we_of (pe_lc2 (own := [("number", 1), ("row", 2), ("step", 3)]) (vs1 := [3]) (g := gTup K 2 (gCons (gName 1) (gCons (gName 2) gNil))) (g1 := gName 3) (tt := tYes) (tt1 := tYes) (by rfl) sc_places.nd (pi_enum rfl A.n_enumerate WW.pa)
      (blkOk_by (own := [("number", 1), ("row", 2), ("step", 3)]) (N := ["book", "number", "row", "step"]) (sc := defScope s_places) (by decide +kernel)) (by decide +kernel) (fun _ _ _ _ _ => pg_tup (by rfl) (pgs_cons (pg_name (i := 1) sc_places.nd rfl (Or.inl rfl)) (pgs_cons (pg_name (i := 2) sc_places.nd rfl (Or.inl rfl)) pgs_nil))) (fun _ _ _ _ _ => pts_nil)
      (fun s H C cl fp => pi_range1 rfl A.n_range (ab s H C cl fp)) (fun _ _ _ _ _ => pg_name (i := 3) sc_places.nd rfl (Or.inl rfl)) (fun _ _ _ _ _ => pts_nil) eb) ?_))
    refine wa_cons (we_var 0 rfl (wa_nil ⟨p, _, rfl, .inl (.inl hp), fun D hD => ?_⟩))
    have p0 : PAt K (tsK K) H1 (upd H1 D (.lst [])) D [] := ⟨⟨[], upd_same, by simp, rfl⟩, WW.Fr.new hD⟩
    refine ⟨fun i m Hx => i + m = rs.length ∧ PAt K (tsK K) H1 Hx D (plN rcs i), ⟨rs.length, by omega, p0⟩, fun i m Hx ⟨hm, hP⟩ => ?_⟩
    have hpX := hP.fr.kp _ _ hp (fun z => z) rfl
    by_cases hm0 : m = 0
    · have hi : i = rs.length := by omega
      refine .inl ⟨⟨_, .inl (.inl hpX), by rw [List.length_map]; omega⟩, ?_⟩
      have hDH : Nw H D := nw_of f1 hD
      rw [hi, hlen] at hP
      exact q Hx D (f1.trans hP.fr) hDH hP.ex
    have hn : i < rs.length := by omega
    obtain ⟨rv, hrv⟩ : ∃ r, rs[i]? = some r := ⟨_, List.getElem?_eq_getElem hn⟩
    obtain ⟨r, hr1⟩ : ∃ r, rcs[i]? = some r := ⟨_, List.getElem?_eq_getElem (by omega)⟩
    have hd2 : rv.2 = rcD r := by
      have e1 : (rs.map (·.2))[i]? = some rv.2 := by rw [List.getElem?_map, hrv]; rfl
      rw [hds, List.getElem?_map, hr1] at e1
      exact (Option.some.inj e1).symm
    have hv1 : (rs.map (·.1))[i]? = some rv.1 := by rw [List.getElem?_map, hrv]; rfl
    have hrf := bf.ok r (List.mem_of_getElem? hr1)
    refine .inr ⟨⟨_, _, .inl (.inl hpX), hv1⟩, fun H' => PAt K (tsK K) H1 H' D (plN rcs (i + 1)), fun H' h' => ⟨m - 1, by omega, by omega, h'⟩, fun x H' ⟨T, y, e1, e2, e3, e4⟩ => ?_⟩
    have e4 := e4 _ (.inl (.inl hpX))
    rw [hv1] at e4
    cases e4
    subst e1 e3
    have hP2 := hP.step (WW.Fr.new (ts := tsK K) (o := .tup [.int (i : Nat), rv.1]) e2)
    refine ⟨T, _, rfl, .inl (.inl upd_same), rfl, _, _, rfl, _, _, rfl, rfl, rfl, ?_⟩
    generalize upd Hx T _ = H2 at hP2 ⊢
    unfold tYes
    dsimp only
    rw [if_pos rfl]
    unfold iRng1
    refine fun s1 H5 C1 cl1 fp1 => wa_cons (we_bin op_add (we_callB call_len_seq A.n_len rfl (wa_cons (we_f (k_backs_of A (tsK K)) hr (wa_cons (we_var 2 rfl (wa_nil ⟨rv.1, r, rfl, by rw [← hd2]; exact (hrs rv (List.mem_of_getElem? hrv)).keep (TK.fr hP2.fr), hrf, fun H3 pb f3 hpb => ?_⟩)))))))
    have hbl := bk_len hrf
    refine wa_nil ⟨pb, _, rfl, .inr hpb, we_int ⟨_, 1, rfl, rfl, ?_⟩⟩
    rw [List.length_map]
    refine wa_nil ⟨_, rfl, by omega, by omega, ?_⟩
    have hP3 := hP2.step f3
    have eN : (((bkOf r).length : Int) + 1).toNat = (bkOf r).length + 1 := by omega
    rw [eN]
    refine ⟨fun j k H' => j + k = (bkOf r).length + 1 ∧ PAt K (tsK K) H1 H' D (plN rcs i ++ runL i 0 j), ⟨(bkOf r).length + 1, by omega, by rw [show runL (i : Int) 0 0 = [] from rfl, List.append_nil]; exact hP3⟩, fun j k H' ⟨hk, hQ⟩ => ?_⟩
    by_cases hk0 : k = 0
    · refine .inl ⟨by show (bkOf r).length + 1 ≤ j; omega, ?_⟩
      have hj : j = (bkOf r).length + 1 := by omega
      subst hj
      show PAt K (tsK K) H1 H' D (plN rcs i ++ runL i 0 (((rcs[i]?).map fun r => (bkOf r).length + 1).getD 0))
      rw [hr1]
      exact hQ
    refine .inr ⟨by show j < (bkOf r).length + 1; omega, fun H' => PAt K (tsK K) H1 H' D (plN rcs i ++ runL i 0 (j + 1)), fun H' h' => ⟨k - 1, by omega, by omega, h'⟩, fun x Hz ⟨eH, hx⟩ => ?_⟩
    subst eH hx
    refine ⟨rfl, ?_⟩
    show EB _ _ _ _ _ _
    refine fun s1 H5 C1 cl1 fp1 => we_tup (wa_cons (we_var 1 rfl (wa_cons (we_var 3 rfl (wa_nil ⟨by show 2 ≤ sizeLine; decide, fun pt hpt => ?_⟩)))))
    have hQ2 := hQ.step (WW.Fr.new (ts := tsK K) (o := .tup [.int (i : Nat), .int (0 + (j : Int))]) hpt)
    obtain ⟨acc, ha, hal, hR⟩ := hQ2.add (q := ((i : Nat), 0 + (j : Int))) hD upd_same
    have hpl := plN_len bf.ok i
    refine ⟨acc, ha, by rw [hal, List.length_append, runL_len]; omega, ?_⟩
    rw [runL_succ, ← List.append_assoc]
    exact hR
theorem ti_len {r : Rc} (h : RcF r) : tiOf r ≤ 9 := by
  have := bk_len h
  unfold tiOf
  split <;> omega
theorem tiN_len {rcs : List Rc} (h : ∀ r ∈ rcs, RcF r) : ∀ i, (tiN rcs i).length ≤ 9 * i
  | 0 => Nat.le_refl _
  | i + 1 => by
    have ih := tiN_len h i
    unfold tiN
    rw [List.length_append, runL_len]
    cases hr : rcs[i]? with
    | none => simp; omega
    | some r =>
      have := ti_len (h r (List.mem_of_getElem? hr))
      simp
      omega
theorem k_tiesB (A : Facts K mg base) : WK.Fb P w K mg base 15 "ties" "book" (spPairs (tsK K) K fun rcs => tiN rcs rcs.length) := by
  refine WK.def_okB (d := d_ties) A.f_ties rfl A.g_ties sc_ties (fun _ _ _ _ _ _ us hl => match us, hl with | [_], _ => rfl) (fun _ _ _ _ _ _ _ => rfl) (fun vs H Q E h => ?_) (fun A' outer s H vs Q E hr h => ?_)
  · obtain ⟨p, rcs, rfl, _⟩ := h
    rfl
  · obtain ⟨p, rcs, rfl, hb, tb, q⟩ := h
    refine ws_cons (w_expr (we_f (k_check_book A) hr (wa_cons (we_var 0 rfl (wa_nil ⟨p, rcs, rfl, hb, tb, fun H1 f1 => ?_⟩)))))
    have hb1 := hb.keep f1
    obtain ⟨⟨rs, hp, hrs, hds⟩, bf⟩ := hb1
    have hlen := BookC.len (K := K) (H := H) (p := p) hds
    have hl20 := bf.len
    have hz : 10000 < sizeLine := by decide
    refine ws_one (w_ret (we_of (pe_lc2 (own := [("number", 1), ("row", 2), ("step", 3)]) (vs1 := [3]) (g := gTup K 2 (gCons (gName 1) (gCons (gName 2) gNil))) (g1 := gName 3) (tt := tYes) (tt1 := tYes) (by rfl) sc_ties.nd (pi_enum rfl A.n_enumerate WW.pa)
      (blkOk_by (own := [("number", 1), ("row", 2), ("step", 3)]) (N := ["book", "number", "row", "step"]) (sc := defScope s_ties) (by decide +kernel)) (by decide +kernel) (fun _ _ _ _ _ => pg_tup (by rfl) (pgs_cons (pg_name (i := 1) sc_ties.nd rfl (Or.inl rfl)) (pgs_cons (pg_name (i := 2) sc_ties.nd rfl (Or.inl rfl)) pgs_nil))) (fun _ _ _ _ _ => pts_nil)
      (fun s H C cl fp => pi_range2 rfl A.n_range (ab s H C cl fp)) (fun _ _ _ _ _ => pg_name (i := 3) sc_ties.nd rfl (Or.inl rfl)) (fun _ _ _ _ _ => pts_nil) eb) ?_))
    refine wa_cons (we_var 0 rfl (wa_nil ⟨p, _, rfl, .inl (.inl hp), fun D hD => ?_⟩))
    have p0 : PAt K (tsK K) H1 (upd H1 D (.lst [])) D [] := ⟨⟨[], upd_same, by simp, rfl⟩, WW.Fr.new hD⟩
    refine ⟨fun i m Hx => i + m = rs.length ∧ PAt K (tsK K) H1 Hx D (tiN rcs i), ⟨rs.length, by omega, p0⟩, fun i m Hx ⟨hm, hP⟩ => ?_⟩
    have hpX := hP.fr.kp _ _ hp (fun z => z) rfl
    by_cases hm0 : m = 0
    · have hi : i = rs.length := by omega
      refine .inl ⟨⟨_, .inl (.inl hpX), by rw [List.length_map]; omega⟩, ?_⟩
      have hDH : Nw H D := nw_of f1 hD
      rw [hi, hlen] at hP
      exact q Hx D (f1.trans hP.fr) hDH hP.ex
    have hn : i < rs.length := by omega
    obtain ⟨rv, hrv⟩ : ∃ r, rs[i]? = some r := ⟨_, List.getElem?_eq_getElem hn⟩
    obtain ⟨r, hr1⟩ : ∃ r, rcs[i]? = some r := ⟨_, List.getElem?_eq_getElem (by omega)⟩
    have hd2 : rv.2 = rcD r := by
      have e1 : (rs.map (·.2))[i]? = some rv.2 := by rw [List.getElem?_map, hrv]; rfl
      rw [hds, List.getElem?_map, hr1] at e1
      exact (Option.some.inj e1).symm
    have hv1 : (rs.map (·.1))[i]? = some rv.1 := by rw [List.getElem?_map, hrv]; rfl
    have hrf := bf.ok r (List.mem_of_getElem? hr1)
    refine .inr ⟨⟨_, _, .inl (.inl hpX), hv1⟩, fun H' => PAt K (tsK K) H1 H' D (tiN rcs (i + 1)), fun H' h' => ⟨m - 1, by omega, by omega, h'⟩, fun x H' ⟨T, y, e1, e2, e3, e4⟩ => ?_⟩
    have e4 := e4 _ (.inl (.inl hpX))
    rw [hv1] at e4
    cases e4
    subst e1 e3
    have hP2 := hP.step (WW.Fr.new (ts := tsK K) (o := .tup [.int (i : Nat), rv.1]) e2)
    refine ⟨T, _, rfl, .inl (.inl upd_same), rfl, _, _, rfl, _, _, rfl, rfl, rfl, ?_⟩
    generalize upd Hx T _ = H2 at hP2 ⊢
    unfold tYes
    dsimp only
    rw [if_pos rfl]
    unfold iRng2
    refine fun s1 H5 C1 cl1 fp1 => wa_cons (we_int (wa_cons (we_bin op_add (we_f (k_ties_of A (tsK K)) hr (wa_cons (we_var 2 rfl (wa_nil ⟨rv.1, r, rfl, by rw [← hd2]; exact (hrs rv (List.mem_of_getElem? hrv)).keep (TK.fr hP2.fr), hrf, fun H3 f3 => ?_⟩)))))))
    have hbl := ti_len hrf
    refine we_int ⟨_, 1, rfl, rfl, ?_⟩
    refine wa_nil ⟨1, _, rfl, ⟨by decide, by decide, by omega, by omega⟩, ?_⟩
    have hP3 := hP2.step f3
    have eN : (((tiOf r : Nat) : Int) + 1 - 1).toNat = tiOf r := by omega
    rw [eN]
    refine ⟨fun j k H' => j + k = tiOf r ∧ PAt K (tsK K) H1 H' D (tiN rcs i ++ runL i 1 j), ⟨tiOf r, by omega, by rw [show runL (i : Int) 1 0 = [] from rfl, List.append_nil]; exact hP3⟩, fun j k H' ⟨hk, hQ⟩ => ?_⟩
    by_cases hk0 : k = 0
    · refine .inl ⟨by show tiOf r ≤ j; omega, ?_⟩
      have hj : j = tiOf r := by omega
      subst hj
      show PAt K (tsK K) H1 H' D (tiN rcs i ++ runL i 1 (((rcs[i]?).map tiOf).getD 0))
      rw [hr1]
      exact hQ
    refine .inr ⟨by show j < tiOf r; omega, fun H' => PAt K (tsK K) H1 H' D (tiN rcs i ++ runL i 1 (j + 1)), fun H' h' => ⟨k - 1, by omega, by omega, h'⟩, fun x Hz ⟨eH, hx⟩ => ?_⟩
    subst eH hx
    refine ⟨rfl, ?_⟩
    show EB _ _ _ _ _ _
    refine fun s1 H5 C1 cl1 fp1 => we_tup (wa_cons (we_var 1 rfl (wa_cons (we_var 3 rfl (wa_nil ⟨by show 2 ≤ sizeLine; decide, fun pt hpt => ?_⟩)))))
    have hQ2 := hQ.step (WW.Fr.new (ts := tsK K) (o := .tup [.int (i : Nat), .int (1 + (j : Int))]) hpt)
    obtain ⟨acc, ha, hal, hR⟩ := hQ2.add (q := ((i : Nat), 1 + (j : Int))) hD upd_same
    have hpl := tiN_len bf.ok i
    refine ⟨acc, ha, by rw [hal, List.length_append, runL_len]; omega, ?_⟩
    rw [runL_succ, ← List.append_assoc]
    exact hR
end
end K05

set_option Elab.async false
set_option linter.all false
set_option maxRecDepth 100000
set_option maxHeartbeats 4000000
/-! what a drawn book shows as a text -/
namespace K05
open PySem PySem.Spec PyProof.Rows L2 WW Wo Pa Sh
theorem sh_words : ∀ u ∈ allW, short (.str u) = true := by
  have h : ∀ u ∈ allW, decide ((reprText u).length ≤ 14) = true := by decide +kernel
  intro u hu
  simpa only [short] using h u hu
theorem sh_nat : ∀ n : Nat, n ≤ 1999 → short (.int n) = true := by
  have h : ∀ n : Nat, n ≤ 1999 → (decide ((PyData.shown (.int n)).length ≤ 31) && decide ((n : Int).natAbs.log2 < 1920)) = true := by decide +kernel
  intro n hn
  simpa only [short] using h n hn
theorem sh_int {i : Int} (h0 : 0 ≤ i) (h1 : i ≤ 1999) : short (.int i) = true := by
  have e : i = ((i.toNat : Nat) : Int) := by omega
  rw [e]
  exact sh_nat _ (by omega)
theorem sh_strs : ∀ {ws : List Str}, (∀ u ∈ ws, u ∈ allW) → shorts (ws.map .str) = true ∧ nodess (ws.map .str) = ws.length
  | [], _ => ⟨rfl, rfl⟩
  | u :: r, h => by
    have h1 := sh_words u (h u (List.mem_cons_self ..))
    have h2 := sh_strs (ws := r) fun x hx => h x (List.mem_cons_of_mem _ hx)
    constructor
    · simp only [List.map_cons, shorts, h1, h2.1, Bool.and_self]
    · simp only [List.map_cons, nodess, nodes, h2.2, List.length_cons]
      omega
theorem sh_rer {e : Er} (h : ErNumM e) : shorts (rerL e) = true ∧ nodess (rerL e) ≤ 2 := by
  have k : ∀ x ∈ (["walk", "list", "leave", "look", "tie", "part", "meet"] : List Str), short (.str x) = true := by
    have h : ∀ x ∈ (["walk", "list", "leave", "look", "tie", "part", "meet"] : List Str), decide ((reprText x).length ≤ 14) = true := by decide +kernel
    intro x hx
    simpa only [short] using h x hx
  cases e with
  | leave m => exact ⟨shorts_cons (k "leave" (by simp)) (shorts_cons (sh_int h.1 h.2) shorts_nil), by simp [rerL, erL, nodess, nodes]⟩
  | look m => exact ⟨shorts_cons (k "look" (by simp)) (shorts_cons (sh_int h.1 h.2) shorts_nil), by simp [rerL, erL, nodess, nodes]⟩
  | meet m => exact ⟨shorts_cons (k "meet" (by simp)) (shorts_cons (sh_int h.1 h.2) shorts_nil), by simp [rerL, erL, nodess, nodes]⟩
  | walk => exact ⟨shorts_cons (k "walk" (by simp)) shorts_nil, by simp [rerL, erL, nodess, nodes]⟩
  | list => exact ⟨shorts_cons (k "list" (by simp)) shorts_nil, by simp [rerL, erL, nodess, nodes]⟩
  | part => exact ⟨shorts_cons (k "part" (by simp)) shorts_nil, by simp [rerL, erL, nodess, nodes]⟩
  | tie u v => exact ⟨shorts_cons (k "tie" (by simp)) shorts_nil, by simp [rerL, erL, nodess, nodes]⟩
theorem sh_lit : ∀ x ∈ (["met", "lost", "came", "calm", "self"] : List Str), short (.str x) = true := by
  have h : ∀ x ∈ (["met", "lost", "came", "calm", "self"] : List Str), decide ((reprText x).length ≤ 14) = true := by decide +kernel
  intro x hx
  simpa only [short] using h x hx
theorem sh_thing {e : Er} {d : PyData} (h : ThingOk e d) : short d = true ∧ nodes d ≤ 61 := by
  cases h with
  | list ws a b c l =>
    obtain ⟨h1, h2⟩ := sh_strs c
    exact ⟨short_of h1, by simp only [nodes, h2]; omega⟩
  | self u v => exact ⟨sh_lit _ (by simp), by simp [nodes]⟩
  | mself s => exact ⟨sh_lit _ (by simp), by simp [nodes]⟩
  | met s => exact ⟨sh_lit _ (by simp), by simp [nodes]⟩
  | tie u v a b => exact ⟨short_of (shorts_cons (sh_words u a) (shorts_cons (sh_words v b) shorts_nil)), by simp [nodes, nodess]⟩
  | look m b => exact ⟨rfl, by simp [nodes]⟩
  | _ => exact ⟨rfl, by simp [nodes]⟩
theorem sh_row {r : Rw} (h : RwM r) : short (rwD r) = true ∧ nodes (rwD r) ≤ 90 := by
  cases r with
  | met b s => exact ⟨short_of (shorts_cons (sh_lit "met" (by simp)) (shorts_cons (sh_words b h.1) (shorts_cons (sh_int h.2.1 h.2.2) shorts_nil))), by simp [rwD, metD, nodes, nodess]⟩
  | lost way e bk =>
    obtain ⟨w1, w2⟩ := sh_strs h.1
    obtain ⟨b1, b2⟩ := sh_strs h.2.1
    obtain ⟨e1, e2⟩ := sh_rer h.2.2.2.2
    have := h.2.2.1
    have := h.2.2.2.1
    refine ⟨short_of (shorts_cons (short_of w1) (shorts_cons (short_of e1) (shorts_cons (short_of (shorts_cons (sh_lit "lost" (by simp)) (shorts_cons (short_of b1) shorts_nil))) shorts_nil))), ?_⟩
    simp only [rwD, rowD, lostD, nodes, nodess, w2, b2]
    omega
  | came way e bk d =>
    obtain ⟨w1, w2⟩ := sh_strs h.1
    obtain ⟨b1, b2⟩ := sh_strs h.2.1
    obtain ⟨e1, e2⟩ := sh_rer h.2.2.2.2.1
    obtain ⟨t1, t2⟩ := sh_thing h.2.2.2.2.2.1
    have := h.2.2.1
    have := h.2.2.2.1
    refine ⟨short_of (shorts_cons (short_of w1) (shorts_cons (short_of e1) (shorts_cons (short_of (shorts_cons (sh_lit "came" (by simp)) (shorts_cons (short_of b1) (shorts_cons t1 shorts_nil)))) shorts_nil))), ?_⟩
    simp only [rwD, rowD, cameD, nodes, nodess, w2, b2]
    omega
/-- a row of a book as the law makes it -/
def RcM : Rc → Prop
  | .rw r => RwM r
  | .calm i => 0 ≤ i ∧ i ≤ 1999
theorem sh_rc {r : Rc} (h : RcM r) : short (rcD r) = true ∧ nodes (rcD r) ≤ 90 := by
  cases r with
  | rw r => exact sh_row h
  | calm i => exact ⟨short_of (shorts_cons (sh_lit "calm" (by simp)) (shorts_cons (sh_int h.1 h.2) shorts_nil)), by simp [rcD, calmD, nodes, nodess]⟩
theorem sh_rcs : ∀ {rs : List Rc}, (∀ r ∈ rs, RcM r) → shorts (rs.map rcD) = true ∧ nodess (rs.map rcD) ≤ 90 * rs.length
  | [], _ => ⟨rfl, Nat.le_refl _⟩
  | r :: l, h => by
    obtain ⟨h1, h2⟩ := sh_rc (h r (List.mem_cons_self ..))
    obtain ⟨h3, h4⟩ := sh_rcs (rs := l) fun x hx => h x (List.mem_cons_of_mem _ hx)
    refine ⟨shorts_cons h1 h3, ?_⟩
    simp only [List.map_cons, nodess, List.length_cons]
    omega
theorem dp_rc {r : Rc} (h : RcM r) : (rcD r).depth ≤ 4 := by
  have sts : ∀ ws : List Str, PyData.depthAll (ws.map .str) ≤ 0 := fun ws => by
    induction ws with
    | nil => simp [PyData.depthAll]
    | cons u r ih => simp only [List.map_cons, PyData.depthAll, PyData.depth]; omega
  have rer : ∀ e : Er, PyData.depthAll (rerL e) ≤ 0 := fun e => by cases e <;> simp [rerL, erL, PyData.depthAll, PyData.depth]
  have thing : ∀ (e : Er) (d : PyData), ThingOk e d → d.depth ≤ 1 := fun e d h => by
    cases h with
    | list ws a b c l => have := sts ws; simp only [PyData.depth]; omega
    | _ => simp [PyData.depth, PyData.depthAll]
  cases r with
  | rw r =>
    cases r with
    | met b s => simp [rcD, rwD, metD, PyData.depth, PyData.depthAll]
    | lost way e bk =>
      have := sts way
      have := sts bk
      have := rer e
      simp only [rcD, rwD, rowD, lostD, PyData.depth, PyData.depthAll]
      omega
    | came way e bk d =>
      have := sts way
      have := sts bk
      have := rer e
      have := thing e d h.2.2.2.2.2.1
      simp only [rcD, rwD, rowD, cameD, PyData.depth, PyData.depthAll]
      omega
  | calm i => simp [rcD, calmD, PyData.depth, PyData.depthAll]
theorem dp_rcs : ∀ {rs : List Rc}, (∀ r ∈ rs, RcM r) → PyData.depthAll (rs.map rcD) ≤ 4
  | [], _ => by simp [PyData.depthAll]
  | r :: l, h => by
    have h1 := dp_rc (h r (List.mem_cons_self ..))
    have h2 := dp_rcs (rs := l) fun x hx => h x (List.mem_cons_of_mem _ hx)
    simp only [List.map_cons, PyData.depthAll]
    omega
theorem cl_strs : ∀ {ws : List Str}, WayOk ws → PyData.canLayAll0 (ws.map .str) = true
  | [], _ => by simp [PyData.canLayAll0]
  | u :: r, h => by
    have h1 := (h u (List.mem_cons_self ..)).ok
    have h2 := cl_strs (ws := r) fun x hx => h x (List.mem_cons_of_mem _ hx)
    simp only [List.map_cons, PyData.canLayAll0, PyData.canLay0, h1, h2, Bool.and_self]
theorem cl_lit : ∀ x ∈ (["met", "lost", "came", "calm", "self", "tie"] : List Str), PyData.strOk x = true := by decide +kernel
theorem cl_rer (e : Er) : PyData.canLayAll0 (rerL e) = true := by
  have h := (Bool.and_eq_true_iff.mp (shaped_rer (e := e))).1
  simpa only [PyData.canLay0] using h
theorem cl_row {r : Rc} (h : RcF r) : (rcD r).canLay0 = true := by
  cases r with
  | rw r =>
    cases r with
    | met b s => simp only [rcD, rwD, metD, PyData.canLay0, PyData.canLayAll0, cl_lit "met" (by simp), h.1.ok, Bool.and_self]
    | lost way e bk => simp only [rcD, rwD, rowD, lostD, PyData.canLay0, PyData.canLayAll0, cl_lit "lost" (by simp), cl_strs h.1, cl_strs h.2.1, cl_rer, Bool.and_self]
    | came way e bk d =>
      have hd := (Bool.and_eq_true_iff.mp h.2.2.2.2.2.1.shaped).1
      simp only [rcD, rwD, rowD, cameD, PyData.canLay0, PyData.canLayAll0, cl_lit "came" (by simp), cl_strs h.1, cl_strs h.2.1, cl_rer, hd, Bool.and_self]
  | calm i => simp only [rcD, calmD, PyData.canLay0, PyData.canLayAll0, cl_lit "calm" (by simp), Bool.and_self]
theorem cl_rows : ∀ {rs : List Rc}, (∀ r ∈ rs, RcF r) → PyData.canLayAll0 (rs.map rcD) = true
  | [], _ => by simp [PyData.canLayAll0]
  | r :: l, h => by
    have h1 := cl_row (h r (List.mem_cons_self ..))
    have h2 := cl_rows (rs := l) fun x hx => h x (List.mem_cons_of_mem _ hx)
    simp only [List.map_cons, PyData.canLayAll0, h1, h2, Bool.and_self]
theorem shaped_rows {rs : List Rc} (h : ∀ r ∈ rs, RcF r) (m : ∀ r ∈ rs, RcM r) : SeqAt.shaped (.list (rs.map rcD)) = true := by
  have h1 := cl_rows h
  have h2 := dp_rcs m
  show (PyData.canLay0 (.list (rs.map rcD)) && decide (PyData.depth (.list (rs.map rcD)) ≤ 64)) = true
  rw [Bool.and_eq_true]
  refine ⟨by simp only [PyData.canLay0]; exact h1, decide_eq_true ?_⟩
  simp only [PyData.depth]
  omega
end K05

set_option Elab.async false
set_option linter.all false
set_option maxRecDepth 100000
set_option maxHeartbeats 4000000
namespace K05
open PySem PySem.Spec PyProof.Rows L2 WW Wo Pa Sh
/-- the book that the law asks about, made out of drawn rows -/
structure BookL (rcs : List Rc) : Prop where
  f : BookF rcs
  m : ∀ r ∈ rcs, RcM r
  len : rcs.length ≤ 10
theorem bookL_rw {rws : List Rw} (h : BookM rws) (hl : rws.length ≤ 10) : BookL (rws.map .rw) := by
  refine ⟨⟨fun r hr => ?_, ?_, fun n i hn => ?_, by rw [List.length_map]; omega⟩, fun r hr => ?_, by rw [List.length_map]; exact hl⟩
  · obtain ⟨x, hx, rfl⟩ := List.mem_map.mp hr
    exact (h.ok x hx).f
  · rw [List.filterMap_map]
    exact h.nd
  · rw [List.getElem?_map] at hn
    obtain ⟨x, _, hx⟩ := Option.map_eq_some_iff.mp hn
    cases hx
  · obtain ⟨x, hx, rfl⟩ := List.mem_map.mp hr
    exact h.ok x hx
theorem cfN_none {rcs : List Rc} : ∀ n, (∀ r ∈ rcs.take n, isMet r = false) → cfN rcs n = 0
  | 0, _ => rfl
  | n + 1, h => by
    unfold cfN
    have h1 : (rcs[n]?).any isMet = false := by
      cases e : rcs[n]? with
      | none => rfl
      | some r =>
        have : r ∈ rcs.take (n + 1) := by
          rw [List.take_add_one, e]
          exact List.mem_append_right _ (List.mem_singleton.mpr rfl)
        exact h r this
    rw [h1, if_neg (by decide)]
    exact cfN_none n fun r hr => h r (by rw [List.take_add_one]; exact List.mem_append_left _ hr)
theorem bookL_calm {rws : List Rw} (h : BookM rws) {i : Int} (hi0 : 0 ≤ i) (hi1 : i < (rws.take 4).length) (hm : ∀ r ∈ rws.take 6, isMet (.rw r) = false) : BookL ((rws.take 4).map .rw ++ [.calm i]) := by
  have hl : (rws.take 4).length ≤ 4 := by rw [List.length_take]; exact Nat.min_le_left _ _
  have hm4 : ∀ r ∈ rws.take 4, isMet (.rw r) = false := fun r hr => hm r (by
    have e : rws.take 4 = (rws.take 6).take 4 := by rw [List.take_take]; rfl
    rw [e] at hr
    exact List.mem_of_mem_take hr)
  refine ⟨⟨fun r hr => ?_, ?_, fun n j hn => ?_, by rw [List.length_append, List.length_map, List.length_singleton]; omega⟩, fun r hr => ?_, by rw [List.length_append, List.length_map, List.length_singleton]; omega⟩
  · rcases List.mem_append.mp hr with hr | hr
    · obtain ⟨x, hx, rfl⟩ := List.mem_map.mp hr
      exact (h.ok x (List.mem_of_mem_take hx)).f
    · rw [List.mem_singleton.mp hr]
      exact True.intro
  · rw [List.filterMap_append, List.filterMap_map]
    show (List.filterMap claim (rws.take 4) ++ []).Nodup
    rw [List.append_nil]
    exact h.nd.sublist ((List.take_sublist 4 rws).filterMap claim)
  · have e : n = (rws.take 4).length ∧ j = i := by
      by_cases hlt : n < ((rws.take 4).map Rc.rw).length
      · rw [List.getElem?_append_left hlt, List.getElem?_map] at hn
        obtain ⟨x, _, hx⟩ := Option.map_eq_some_iff.mp hn
        cases hx
      · rw [List.getElem?_append_right (by omega), List.length_map] at hn
        rw [List.length_map] at hlt
        by_cases h0 : n - (rws.take 4).length = 0
        · rw [h0] at hn
          cases hn
          exact ⟨by omega, rfl⟩
        · rw [List.getElem?_eq_none (by rw [List.length_singleton]; omega)] at hn
          cases hn
    obtain ⟨rfl, rfl⟩ := e
    rw [cfN_none]
    · exact ⟨hi0, hi1⟩
    · intro r hr
      rw [List.take_left' (by rw [List.length_map])] at hr
      obtain ⟨x, hx, rfl⟩ := List.mem_map.mp hr
      exact hm4 x hx
  · rcases List.mem_append.mp hr with hr | hr
    · obtain ⟨x, hx, rfl⟩ := List.mem_map.mp hr
      exact h.ok x (List.mem_of_mem_take hx)
    · rw [List.mem_singleton.mp hr]
      exact ⟨hi0, by omega⟩
theorem dps_of {K : PySem.W.Frag} {H : Hp} : ∀ {rs : List (V × PyData)}, (∀ r ∈ rs, Td K H r) → DpAll K H (rs.map (·.1)) (rs.map (·.2))
  | [], _ => .nil
  | r :: l, h => .cons (h r (List.mem_cons_self ..)).is (dps_of fun x hx => h x (List.mem_cons_of_mem _ hx))
section
variable {P : Program} {w : World} {K : PySem.W.Frag} {mg : Str → Option Value} {base : Heap}
def Nrt : List Str := ["draws", "a_book", "row", "kept", "due", "names", "r", "backs", "first", "second", "k"]
theorem sc_right : FnScope Nrt ["draws"] (defScope s_law_right) := ⟨rfl, rfl, rfl, by decide +kernel, rfl, by decide +kernel, by decide +kernel⟩
def spRight (ts : List Addr) (K : PySem.W.Frag) : Sp := fun vs H Q _ => ∃ (pd : Addr) (n k : Int) (b : Bool), vs = [.ref pd] ∧ H pd = some (Wo.Dr n k b) ∧ 0 ≤ k ∧ k ≤ 100000 ∧ Tbs ts H ∧
  ∀ H' n' k' b', WW.Fr ts (fun a => a = pd) H H' → H' pd = some (Wo.Dr n' k' b') → k ≤ k' → k' ≤ k + 2400 → Q (.bl true) H'
/-- the state: the draws at pd, the book at p -/
structure RSt (K : PySem.W.Frag) (H0 H : Hp) (pd p : Addr) (rcs : List Rc) (k : Int) : Prop where
  fr : WW.Fr (tsK K) (fun a => a = pd) H0 H
  bk : BookC K H p rcs
  nw : Nw H0 p
  ne : p ≠ pd
  dr : ∃ n' k' b', H pd = some (Wo.Dr n' k' b') ∧ k ≤ k' ∧ k' ≤ k + 2400
theorem right1 (A : Facts K mg base) {A' : Around} {outer : List Env} {s : Shared} {H0 : Hp} {pd : Addr} {n k : Int} {b : Bool} {D : Ends} (hr : Room 15 (A'.deeper (envOfC d_law_right.qual d_law_right.scope s.heap.objs.size (He.ga K "_law_right") (.ref (He.codeOf K d_law_right.at_)))))
    (hpd : H0 pd = some (Wo.Dr n k b)) (k0 : 0 ≤ k) (k1 : k ≤ 100000) (q : ∀ H p rcs o2, RSt K H0 H pd p rcs k → BookL rcs →
      WS (cx P w K mg base Nrt d_law_right.qual d_law_right.scope (He.ga K "_law_right") (He.codeOf K d_law_right.at_) A' outer s H0 E0) (d_law_right.body.drop 2) D [some (.ref pd), some (.ref p), o2, none, none, none, none, none, none, none, none] H) :
    WS (cx P w K mg base Nrt d_law_right.qual d_law_right.scope (He.ga K "_law_right") (He.codeOf K d_law_right.at_) A' outer s H0 E0) d_law_right.body D (L2.start Nrt [.ref pd]) H0 := by
  have hz : 1000 < sizeLine := by decide
  refine ws_cons (w_set 1 (we_f (k_mixed_book A (tsK K)) hr (wa_cons (we_var 0 rfl (wa_nil ⟨pd, n, k, b, rfl, hpd, k0, by omega, fun H1 p rws n1 kk1 b1 f1 hpd1 lo1 hi1 nw1 np1 hl1 hb1 => ?_⟩)))) sc_right.nd)
  obtain ⟨⟨rs, e1, t1, m1⟩, v1⟩ := hb1
  have bl1 : BookL (rws.map .rw) := bookL_rw v1 hl1
  have bc1 : ∀ H, H p = some (.lst (rs.map (·.1))) → (∀ r ∈ rs, Td K H r) → BookC K H p (rws.map .rw) := fun H e t => ⟨⟨rs, e, t, by rw [m1, List.map_map]; rfl⟩, bl1.f⟩
  have hlen : rs.length = rws.length := by
    have := congrArg List.length m1
    rw [List.length_map, List.length_map] at this
    exact this
  refine ws_seq (fun σ' H' => ∃ p' rcs, (∃ o2, σ' = [some (.ref pd), some (.ref p'), o2, none, none, none, none, none, none, none, none]) ∧ RSt K H0 H' pd p' rcs k ∧ BookL rcs) ?_ fun σ' H' ⟨p', rcs, ⟨o2, hσ⟩, hR, hB⟩ => by subst hσ; exact q H' p' rcs o2 hR hB
  have stay : ∀ H', WW.Fr (tsK K) Nil H1 H' → RSt K H0 H' pd p (rws.map .rw) k := fun H' f => ⟨f1.trans (f.mono fun _ z => z.elim), bc1 H' (f.kp _ _ e1 (fun z => z) rfl) (fun r hr => (t1 r hr).keep (TK.fr f)), nw1, np1, n1, kk1, b1, f.kp _ _ hpd1 (fun z => z) rfl, lo1, by omega⟩
  have shR : ∀ l : List Rw, (∀ r ∈ l, r ∈ rws) → SeqAt.shaped (.list (l.map rwD)) = true := fun l hl => by
    have := shaped_rows (rs := l.map .rw) (fun r hr => by obtain ⟨x, hx, rfl⟩ := List.mem_map.mp hr; exact (v1.ok x (hl x hx)).f) (fun r hr => by obtain ⟨x, hx, rfl⟩ := List.mem_map.mp hr; exact v1.ok x (hl x hx))
    rw [List.map_map] at this
    exact this
  have lstD : ∀ {Hx : Hp} {a : Addr} {rs' : List (V × PyData)} {l : List Rw}, Hx a = some (.lst (rs'.map (·.1))) → (∀ r ∈ rs', Td K Hx r) → rs'.map (·.2) = l.map rwD → Dp K Hx (.ref a) (.list (l.map rwD)) := fun {Hx a rs' l} e t m => by
    rw [← m]
    exact .lst (.inl (.inl e)) (dps_of t)
  refine w_if0 (wt_ww (ww_and (wt_cmp (op_neD (room_u64 hr)) rfl (we_var 1 rfl (we_lst (wa_nil ⟨by show 0 ≤ sizeLine; decide, fun pn hpn => ?_⟩))))))
  have fn := WW.Fr.new (ts := tsK K) (m := Nil) (o := .lst []) hpn
  have hpnn : upd H1 pn (.lst []) pn = some (.lst []) := upd_same
  generalize upd H1 pn (.lst []) = H2 at fn hpnn ⊢
  have e2 := fn.kp _ _ e1 (fun z => z) rfl
  have t2 : ∀ r ∈ rs, Td K H2 r := fun r hr => (t1 r hr).keep (TK.fr fn)
  have hpd2 := fn.kp _ _ hpd1 (fun z => z) rfl
  refine ⟨.list (rws.map rwD), .list [], lstD e2 t2 m1, .lst (.inl (.inl hpnn)) .nil, shR rws fun _ h => h, by decide +kernel, !(rws.map rwD).isEmpty, congrArg V.bl (by rw [eqv_nilL]), ?_⟩
  cases hemp : (rws.map rwD).isEmpty with
  | true =>
    rw [show (!true) = false from rfl, if_neg (by decide), if_neg (by decide)]
    exact ⟨p, _, ⟨_, rfl⟩, stay H2 fn, bl1⟩
  | false =>
  rw [show (!false) = true from rfl, if_pos rfl]
  have hne : 0 < rws.length := by
    cases rws with
    | nil => cases hemp
    | cons x r => exact Nat.succ_pos _
  refine ww_and (wt_cmp op_eqi rfl (we_bin op_modB (we_f (k_next A) hr (wa_cons (we_var 0 rfl (wa_nil ⟨pd, n1, kk1, b1, rfl, hpd2, by omega, by omega, fun r2 n2 r20 r21 => ?_⟩))))))
  have k3 : TK H2 (upd H2 pd (K05.Dr n2 (kk1 + 1) b1)) := tk_draw hpd2 _
  have g3 : WW.Fr (tsK K) (fun a => a = pd) H0 (upd H2 pd (K05.Dr n2 (kk1 + 1) b1)) := (f1.trans (fn.mono fun _ z => z.elim)).trans (WW.Fr.write rfl hpd2 rfl)
  have hpd3 : upd H2 pd (K05.Dr n2 (kk1 + 1) b1) pd = some (Wo.Dr n2 (kk1 + 1) b1) := upd_same
  have e3 : upd H2 pd (K05.Dr n2 (kk1 + 1) b1) p = some (.lst (rs.map (·.1))) := by rw [upd_ne np1]; exact e2
  generalize upd H2 pd (K05.Dr n2 (kk1 + 1) b1) = H3 at k3 g3 hpd3 e3 ⊢
  have t3 : ∀ r ∈ rs, Td K H3 r := fun r hr => (t2 r hr).keep k3
  have stay3 : ∀ H', WW.Fr (tsK K) Nil H3 H' → RSt K H0 H' pd p (rws.map .rw) k := fun H' f => ⟨g3.trans (f.mono fun _ z => z.elim), bc1 H' (f.kp _ _ e3 (fun z => z) rfl) (fun r hr => (t3 r hr).keep (TK.fr f)), nw1, np1, n2, kk1 + 1, b1, f.kp _ _ hpd3 (fun z => z) rfl, by omega, by omega⟩
  refine we_int ⟨r2, 3, rfl, rfl, by decide, fun z z0 z1 => we_int ⟨z, 0, rfl, rfl, _, rfl, ?_⟩⟩
  by_cases hz0 : z = 0
  rotate_left
  · rw [if_neg (by rw [decide_eq_false hz0]; decide), if_neg (by decide)]
    exact ⟨p, _, ⟨_, rfl⟩, stay3 H3 (WW.Fr.refl _), bl1⟩
  rw [if_pos (decide_eq_true hz0)]
  -- the met rows among the first six
  refine ww_and1 (wt_cmp (op_eqD (room_u64 hr)) rfl (we_of (pe_lcT (own := [("row", 2)]) (g := gName 2) (by rfl) sc_right.nd (pi_list WW.pe) (blkOk_by (own := [("row", 2)]) (N := Nrt) (sc := defScope s_law_right) (by decide +kernel)) (fun _ _ _ _ _ => pg_name (i := 2) sc_right.nd rfl (Or.inl rfl)) tb eb) ?_))
  refine we_slTo (we_var 1 rfl (we_int ⟨6, rfl, p, _, rfl, .inl (.inl e3), fun ps hps => ?_⟩))
  rw [cut_to _ _ (by decide)]
  have fs := WW.Fr.new (ts := tsK K) (m := Nil) (o := .lst (List.take (6 : Int).toNat (rs.map (·.1)))) hps
  have hpss : upd H3 ps (.lst (List.take (6 : Int).toNat (rs.map (·.1)))) ps = some (.lst ((rs.take 6).map (·.1))) := by rw [upd_same, List.map_take]; rfl
  generalize upd H3 ps (.lst (List.take (6 : Int).toNat (rs.map (·.1)))) = H4 at fs hpss ⊢
  have l6 : (rs.take 6).length ≤ 6 := by rw [List.length_take]; exact Nat.min_le_left _ _
  refine ⟨ps, rfl, ⟨_, .inl (.inl hpss)⟩, ?_⟩
  refine lc_by (tsK K) (rs.take 6).length (by omega) (fun D i acc Hc => ∃ rs' : List (V × PyData), acc = rs'.map (fun r : V × PyData => r.1) ∧ (∀ r ∈ rs', Td K Hc r) ∧ rs'.map (fun r : V × PyData => r.2) = (((rws.take 6).take i).filter fun r => isMet (.rw r)).map rwD) (fun D Hc _ _ => ⟨[], rfl, by simp, rfl⟩)
    (fun D i acc zs Hc Hc' hd kp ⟨rs', a1, a2, a3⟩ => ⟨rs', a1, fun r hr => (a2 r hr).keep (tk_but hd kp), a3⟩) (fun D acc Hc hD fc hi hd => ?_) (fun D i acc Hc hn hD hd fc hi => ?_) gn_mono tb_mono eb_mono
  rotate_left
  · obtain ⟨rs', rfl, a2, a3⟩ := hi
    have hpsc := fc.kp _ _ hpss (fun z => z) rfl
    obtain ⟨r, hr3⟩ : ∃ r, (rs.take 6)[i]? = some r := ⟨_, List.getElem?_eq_getElem hn⟩
    have hn2 : i < (rws.take 6).length := by
      rw [List.length_take] at hn ⊢
      omega
    obtain ⟨x, hx3⟩ : ∃ x, (rws.take 6)[i]? = some x := ⟨_, List.getElem?_eq_getElem hn2⟩
    have m6 : (rs.take 6).map (·.2) = (rws.take 6).map rwD := by rw [List.map_take, m1, List.map_take]
    have hrx : r.2 = rwD x := by
      have h1 : ((rs.take 6).map (·.2))[i]? = some r.2 := by rw [List.getElem?_map, hr3]; rfl
      rw [m6, List.getElem?_map, hx3] at h1
      exact (Option.some.inj h1).symm
    have hv1 : ((rs.take 6).map (·.1))[i]? = some r.1 := by rw [List.getElem?_map, hr3]; rfl
    have hxm : x ∈ rws := List.mem_of_mem_take (List.mem_of_getElem? hx3)
    have tkS : ((rws.take 6).take (i + 1)).filter (fun r => isMet (.rw r)) = ((rws.take 6).take i).filter (fun r => isMet (.rw r)) ++ (if isMet (.rw x) = true then [x] else []) := by
      rw [List.take_add_one, hx3, List.filter_append]
      refine congrArg _ ?_
      by_cases hm : isMet (.rw x) = true
      · rw [if_pos hm]
        simp [hm]
      · rw [if_neg hm]
        simp [hm]
    refine ⟨⟨_, _, .inl (.inl hpsc), hv1⟩, fun v Hy ⟨eH, hv⟩ => ?_⟩
    subst eH
    have hv := hv _ (.inl (.inl hpsc))
    rw [hv1] at hv
    cases hv
    have htd : Td K Hy (r.1, rcD (.rw x)) := by
      show Td K Hy (r.1, rwD x)
      rw [← hrx]
      exact ((t3 r (List.mem_of_mem_take (List.mem_of_getElem? hr3))).keep (TK.fr fs)).keep (TK.fr fc)
    obtain ⟨px, xs, y, dx, hpv, h1, h2, h3, h4, h5, h6⟩ := row0 htd (v1.ok x hxm).f
    obtain ⟨em, ec⟩ := eqv_calm_met h5
    refine ⟨rfl, ?_⟩
    show TB _ _ _ _ _ _
    refine fun s1 H5 C1 cl1 fp1 => wt_cmp (op_eqD (room_u64 hr)) rfl (we_ix ix_tup (we_var 2 rfl (we_int ⟨px, xs, 0, y, hpv, rfl, h1, h2, we_str ⟨dx, .str "met", h3.is, .str _, h4, by decide +kernel, isMet (.rw x), congrArg V.bl em, ?_⟩⟩)))
    by_cases hm : isMet (.rw x) = true
    · rw [if_pos hm]
      refine fun s1 H5 C1 cl1 fp1 => we_var 2 rfl ⟨WW.Fr.refl _, rs' ++ [(r.1, rwD x)], by rw [List.map_append]; rfl, fun w hw => ?_, ?_⟩
      · rcases List.mem_append.mp hw with hw | hw
        · exact a2 w hw
        · rw [List.mem_singleton.mp hw]
          exact htd
      · rw [tkS, if_pos hm, List.map_append, List.map_append, a3]
        rfl
    · rw [if_neg hm]
      refine ⟨WW.Fr.refl _, rs', rfl, a2, ?_⟩
      rw [tkS, if_neg hm, List.append_nil]
      exact a3
  obtain ⟨rs', rfl, a2, a3⟩ := hi
  have el : (rs.take 6).length = (rws.take 6).length := by rw [List.length_take, List.length_take, hlen]
  rw [el, List.take_length] at a3
  refine ⟨⟨_, .inl (.inl (fc.kp _ _ hpss (fun z => z) rfl)), by rw [List.length_map]; exact Nat.le_refl _⟩, ?_⟩
  refine we_lst (wa_nil ⟨by show 0 ≤ sizeLine; decide, fun pe hpe => ?_⟩)
  have fe := WW.Fr.new (ts := tsK K) (m := Nil) (o := .lst []) hpe
  have hpee : upd Hc pe (.lst []) pe = some (.lst []) := upd_same
  generalize upd Hc pe (.lst []) = H5 at fe hpee ⊢
  have f5 : WW.Fr (tsK K) Nil H3 H5 := (fs.trans fc).trans fe
  have inr : ∀ r ∈ (rws.take 6).filter (fun r => isMet (.rw r)), r ∈ rws := fun r hr => List.mem_of_mem_take (List.mem_filter.mp hr).1
  refine ⟨.list (((rws.take 6).filter fun r => isMet (.rw r)).map rwD), .list [], lstD (fe.kp _ _ hd (fun z => z) rfl) (fun r hr => (a2 r hr).keep (TK.fr fe)) a3, .lst (.inl (.inl hpee)) .nil, shR _ inr, by decide +kernel, (((rws.take 6).filter fun r => isMet (.rw r)).map rwD).isEmpty, congrArg V.bl (eqv_nilL _), ?_⟩
  cases hme : (((rws.take 6).filter fun r => isMet (.rw r)).map rwD).isEmpty with
  | false =>
    rw [if_neg (by decide)]
    exact ⟨p, _, ⟨_, rfl⟩, stay3 H5 f5, bl1⟩
  | true =>
  rw [if_pos rfl]
  have nomet : ∀ r ∈ rws.take 6, isMet (.rw r) = false := fun r hr => by
    cases hm : isMet (.rw r) with
    | false => rfl
    | true =>
      have : r ∈ (rws.take 6).filter fun r => isMet (.rw r) := List.mem_filter.mpr ⟨hr, hm⟩
      rw [List.isEmpty_iff, List.map_eq_nil_iff] at hme
      rw [hme] at this
      cases this
  have e5 := f5.kp _ _ e3 (fun z => z) rfl
  have hpd5 := f5.kp _ _ hpd3 (fun z => z) rfl
  refine ws_cons (w_set 1 (we_slTo (we_var 1 rfl (we_int ⟨4, rfl, p, _, rfl, .inl (.inl e5), fun p4 hp4 => ?_⟩))) sc_right.nd)
  rw [cut_to _ _ (by decide)]
  have f4 := WW.Fr.new (ts := tsK K) (m := Nil) (o := .lst (List.take (4 : Int).toNat (rs.map (·.1)))) hp4
  have h44 : upd H5 p4 (.lst (List.take (4 : Int).toNat (rs.map (·.1)))) p4 = some (.lst ((rs.take 4).map (·.1))) := by rw [upd_same, List.map_take]; rfl
  have hpd6 := f4.kp _ _ hpd5 (fun z => z) rfl
  have n4 : p4 ≠ pd := fun z => by rw [z, hpd5] at hp4; cases hp4
  have g5 := g3.trans (f5.mono fun _ z => z.elim)
  have nw4 : Nw H0 p4 := fun u hu => by
    cases ht : nt u with
    | false => rfl
    | true =>
      have := g5.kp p4 u hu n4 ht
      rw [hp4] at this
      cases this
  have g6 := g5.trans (f4.mono fun _ z => z.elim)
  have f6 := f5.trans f4
  generalize upd H5 p4 (.lst (List.take (4 : Int).toNat (rs.map (·.1)))) = H6 at f4 h44 hpd6 g6 f6 ⊢
  have hl4 : (rs.take 4).length = (rws.take 4).length := by rw [List.length_take, List.length_take, hlen]
  refine ws_one (w_expr (we_app (we_var 1 rfl ⟨⟨p4, _, rfl, h44⟩, we_tup (wa_cons (we_str (wa_cons (we_bin op_modB (we_f (k_next A) hr (wa_cons (we_var 0 rfl (wa_nil ⟨pd, n2, kk1 + 1, b1, rfl, hpd6, by omega, by omega, fun r5 n5 r50 r51 => ?_⟩))))))))⟩)))
  have k7 : TK H6 (upd H6 pd (K05.Dr n5 (kk1 + 1 + 1) b1)) := tk_draw hpd6 _
  have g7 : WW.Fr (tsK K) (fun a => a = pd) H0 (upd H6 pd (K05.Dr n5 (kk1 + 1 + 1) b1)) := g6.trans (WW.Fr.write rfl hpd6 rfl)
  have hpd7 : upd H6 pd (K05.Dr n5 (kk1 + 1 + 1) b1) pd = some (Wo.Dr n5 (kk1 + 1 + 1) b1) := upd_same
  have h47 : upd H6 pd (K05.Dr n5 (kk1 + 1 + 1) b1) p4 = some (.lst ((rs.take 4).map (·.1))) := by rw [upd_ne n4]; exact h44
  generalize upd H6 pd (K05.Dr n5 (kk1 + 1 + 1) b1) = H7 at k7 g7 hpd7 h47 ⊢
  refine we_callB call_len_seq A.n_len rfl (wa_cons (we_var 1 rfl (wa_nil ⟨p4, _, rfl, .inl (.inl (.inl h47)), r5, _, rfl, rfl, by rw [List.length_map, hl4, List.length_take]; omega, fun z5 z50 z51 => ?_⟩)))
  rw [List.length_map, hl4] at z51
  refine wa_nil ⟨by show 2 ≤ sizeLine; decide, fun pt hpt => ?_⟩
  have f8 := WW.Fr.new (ts := tsK K) (m := Nil) (o := .tup [.str "calm", .int z5]) hpt
  have hpt8 : upd H7 pt (.tup [.str "calm", .int z5]) pt = some (.tup [.str "calm", .int z5]) := upd_same
  have g8 := g7.trans (f8.mono fun _ z => z.elim)
  generalize upd H7 pt (.tup [.str "calm", .int z5]) = H8 at f8 hpt8 g8 ⊢
  have h48 := f8.kp _ _ h47 (fun z => z) rfl
  refine ⟨p4, _, rfl, h48, by rw [List.length_map, List.length_take]; omega, ?_⟩
  have bl := bookL_calm v1 z50 z51 nomet
  have k9 : TK H8 (upd H8 p4 (.lst ((rs.take 4).map (·.1) ++ [.ref pt]))) := TK.wr h48 (fun _ => nofun) fun _ _ => nofun
  refine ⟨p4, _, ⟨_, rfl⟩, ⟨?_, ⟨⟨rs.take 4 ++ [(.ref pt, calmD z5)], by rw [upd_same, List.map_append]; rfl, fun r hr => ?_, ?_⟩, bl.f⟩, nw4, n4, n5, kk1 + 1 + 1, b1, ?_, by omega, by omega⟩, bl⟩
  · exact fr_mut g8 nw4 h48 rfl
  · rcases List.mem_append.mp hr with hr | hr
    · exact ((((t3 r (List.mem_of_mem_take hr)).keep (TK.fr f6)).keep k7).keep (TK.fr f8)).keep k9
    · rw [List.mem_singleton.mp hr]
      exact ((td_flat (ds := [.str "calm", .int z5]) (.inl (.inl hpt8)) (by simp [scalD])) : Td K H8 (.ref pt, calmD z5)).keep k9
  · have e1 : (rs.take 4).map (·.2) = (rws.take 4).map rwD := by rw [List.map_take, m1, List.map_take]
    rw [List.map_append, List.map_append, e1, List.map_map]
    rfl
  · rw [upd_ne n4.symm]
    exact f8.kp _ _ hpd7 (fun z => z) rfl
end
end K05

set_option Elab.async false
set_option linter.all false
set_option maxRecDepth 100000
set_option maxHeartbeats 4000000
namespace K05
open PySem PySem.Spec PyProof.Rows L2 WW Wo Pa Sh
theorem PairsAt.keep {K : PySem.W.Frag} {H H' : Hp} {D : Addr} {qs : List (Int × Int)} (h : PairsAt K H D qs) (k : TK H H') (e : ∀ xs, H D = some (.lst xs) → H' D = some (.lst xs)) : PairsAt K H' D qs := by
  obtain ⟨as, a, b, c⟩ := h
  exact ⟨as, e _ a, fun x hx => (b x hx).keep k, c⟩
theorem PairsAt.fr {K : PySem.W.Frag} {H H' : Hp} {D : Addr} {qs : List (Int × Int)} {ts : List Addr} (h : PairsAt K H D qs) (f : WW.Fr ts Nil H H') : PairsAt K H' D qs := h.keep (TK.fr f) fun xs e => f.kp _ _ e (fun z => z) rfl
theorem PairsAt.ex {K : PySem.W.Frag} {H : Hp} {D : Addr} {qs : List (Int × Int)} (h : PairsAt K H D qs) : ∃ xs, H D = some (.lst xs) ∧ xs.length = qs.length := by
  obtain ⟨as, a, b, c⟩ := h
  refine ⟨_, a, ?_⟩
  have := congrArg List.length c
  rw [List.length_map, List.length_map] at this
  rw [List.length_map, this]
theorem RSt.step {K : PySem.W.Frag} {H0 H H' : Hp} {pd p : Addr} {rcs : List Rc} {k : Int} (h : RSt K H0 H pd p rcs k) (f : WW.Fr (tsK K) Nil H H') : RSt K H0 H' pd p rcs k := by
  obtain ⟨a, b, c, d, n', k', b', e, l1, l2⟩ := h
  exact ⟨a.trans (f.mono fun _ z => z.elim), b.keep f, c, d, n', k', b', f.kp _ _ e (fun z => z) rfl, l1, l2⟩
/-- a list of the law's own is written -/
theorem RSt.mut {K : PySem.W.Frag} {H0 H : Hp} {pd p D : Addr} {rcs : List Rc} {k : Int} {xs ys : List V} (h : RSt K H0 H pd p rcs k) (n : Nw H0 D) (e : H D = some (.lst xs)) (n1 : D ≠ pd) (n2 : D ≠ p) : RSt K H0 (upd H D (.lst ys)) pd p rcs k := by
  obtain ⟨a, ⟨⟨rs, b1, b2, b3⟩, bf⟩, c, d, n', k', b', e2, l1, l2⟩ := h
  have kk : TK H (upd H D (.lst ys)) := TK.wr e (fun _ => nofun) fun _ _ => nofun
  exact ⟨fr_mut a n e rfl, ⟨⟨rs, by rw [upd_ne n2.symm]; exact b1, fun r hr => (b2 r hr).keep kk, b3⟩, bf⟩, c, d, n', k', b', by rw [upd_ne n1.symm]; exact e2, l1, l2⟩
theorem PairsAt.cat {K : PySem.W.Frag} {H : Hp} {D E p : Addr} {us ns : List (Int × Int)} {xs ys : List V} (h : PairsAt K H D us) (g : PairsAt K H E ns) (hx : H D = some (.lst xs)) (hy : H E = some (.lst ys)) (hp : H p = none) : PairsAt K (upd H p (.lst (xs ++ ys))) p (us ++ ns) := by
  obtain ⟨as, a, b, c⟩ := h
  obtain ⟨bs, a', b', c'⟩ := g
  rw [hx] at a
  rw [hy] at a'
  cases a
  cases a'
  refine ⟨as ++ bs, by rw [upd_same, List.map_append], fun x hx => ?_, by rw [List.map_append, List.map_append, c, c']⟩
  rcases List.mem_append.mp hx with hx | hx
  · exact (b x hx).keep (TK.new hp)
  · exact (b' x hx).keep (TK.new hp)
structure LInv (K : PySem.W.Frag) (H0 H : Hp) (pd p : Addr) (rcs : List Rc) (k : Int) (pu pn : Addr) (us ns : List (Int × Int)) : Prop where
  st : RSt K H0 H pd p rcs k
  du : PairsAt K H pu us
  nm : PairsAt K H pn ns
  nu : Nw H0 pu
  nn : Nw H0 pn
  un : pu ≠ pn
  up : pu ≠ p
  np : pn ≠ p
  ud : pu ≠ pd
  nd : pn ≠ pd
theorem LInv.step {K : PySem.W.Frag} {H0 H H' : Hp} {pd p : Addr} {rcs : List Rc} {k : Int} {pu pn : Addr} {us ns : List (Int × Int)} (h : LInv K H0 H pd p rcs k pu pn us ns) (f : WW.Fr (tsK K) Nil H H') : LInv K H0 H' pd p rcs k pu pn us ns :=
  ⟨h.st.step f, h.du.fr f, h.nm.fr f, h.nu, h.nn, h.un, h.up, h.np, h.ud, h.nd⟩
theorem nw_pd {K : PySem.W.Frag} {H0 H : Hp} {pd p D : Addr} {rcs : List Rc} {k : Int} (h : RSt K H0 H pd p rcs k) (hD : H D = none) : Nw H0 D ∧ D ≠ pd ∧ D ≠ p := by
  obtain ⟨a, ⟨⟨rs, b1, b2, b3⟩, bf⟩, c, d, n', k', b', e2, l1, l2⟩ := h
  have n1 : D ≠ pd := fun z => by rw [z, e2] at hD; cases hD
  refine ⟨fun u hu => ?_, n1, fun z => by rw [z, b1] at hD; cases hD⟩
  cases ht : nt u with
  | false => rfl
  | true =>
    have := a.kp D u hu n1 ht
    rw [hD] at this
    cases this
/-- what stands at the first place of a row: its type -/
theorem row0t {K : PySem.W.Frag} {H : Hp} {v : V} {r : Rc} (hd : Td K H (v, rcD r)) : ∃ p xs x t, v = .ref p ∧ SqT K H p xs ∧ atI xs 0 = some x ∧ TyX K H x t ∧ PySem.W.kitOne K t (.type "tuple") = some (isLet r) := by
  cases r with
  | rw r =>
    cases r with
    | met b s =>
      obtain ⟨p, rfl, h1⟩ := met_at hd
      exact ⟨p, _, _, _, rfl, h1, rfl, .base (.str _), kit_tt⟩
    | lost way e bk =>
      obtain ⟨p, pw, pe, vs, rfl, h1, h2, h3, h4⟩ := row_at hd
      exact ⟨p, _, _, _, rfl, h1, rfl, ty_tup h2, kit_eq _ _⟩
    | came way e bk d =>
      obtain ⟨p, pw, pe, vs, rfl, h1, h2, h3, h4⟩ := row_at hd
      exact ⟨p, _, _, _, rfl, h1, rfl, ty_tup h2, kit_eq _ _⟩
  | calm i =>
    obtain ⟨p, rfl, h1⟩ := calm_at hd
    exact ⟨p, _, _, _, rfl, h1, rfl, .base (.str _), kit_tt⟩
section
variable {P : Program} {w : World} {K : PySem.W.Frag} {mg : Str → Option Value} {base : Heap}
abbrev Xr (P : Program) (w : World) (K : PySem.W.Frag) (mg : Str → Option Value) (base : Heap) (A' : Around) (outer : List Env) (s : Shared) (H0 : Hp) : Cx := cx P w K mg base Nrt d_law_right.qual d_law_right.scope (He.ga K "_law_right") (He.codeOf K d_law_right.at_) A' outer s H0 E0
/-- isinstance(row[0], tuple) -/
theorem we_isl (A : Facts K mg base) {A' : Around} {outer : List Env} {s : Shared} {H0 H : Hp} {σ : L2.St} {v : V} {r : Rc} {Q : VK} {p1 p2 p3 p4 p5 p6 : Pos} {j : Nat} (hv : σ[2]? = some (some v)) (hd : Td K H (v, rcD r)) (q : Q (.bl (isLet r)) H) :
    WE (Xr P w K mg base A' outer s H0) (.Call (.Name "isinstance" p1) [.Subscript (.Name "row" p2) (.Constant (.int 0) j p3) p4, .Name "tuple" p5] [] p6) σ H Q := by
  obtain ⟨p, xs, x, t, hp, h1, h2, h3, h4⟩ := row0t hd
  exact we_isi (we_ix ix_tup (we_var 2 hv (we_int ⟨p, xs, 0, x, hp, rfl, h1, h2, t, _, h3, h4, q⟩))) A.n_isinstance A.n_tuple rfl
/-- [(r, k) for k in range(..)]: from its numbers on -/
theorem lc_run {X : Cx} {H1 : Hp} {σ : L2.St} {scope : Scope} {elt : Expr} {n lo : Int} {c : Nat} {Q : VK} {i10 : Nat} (hc : c ≤ 900) (hK : X.K = K)
    (he : ∀ (k : Nat) (H : Hp), k < c → EB X scope elt ((wipe σ [i10]).set i10 (some (.int (lo + (k : Int))))) H fun y H' => ∃ t, y = .ref t ∧ H t = none ∧ H' = upd H t (.tup [.int n, .int (lo + (k : Int))])) (hw : ∀ v, wipe ((wipe σ [i10]).set i10 v) [i10] = wipe σ [i10])
    (q : ∀ D H, WW.Fr (tsK K) Nil H1 H → H1 D = none → PairsAt K H D (runL n lo c) → Q (.ref D) H) : LcT (Itr lo c) H1 σ (gName i10) tYes (EB X scope elt) [i10] Q := by
  refine lc_by (tsK K) c (by omega) (fun D i acc Hc => ∃ as : List (V × PyData), acc = as.map (fun a : V × PyData => a.1) ∧ (∀ a ∈ as, Td K Hc a) ∧ as.map (fun a : V × PyData => a.2) = (runL n lo i).map pdD) (fun D Hc _ _ => ⟨[], rfl, by simp, rfl⟩)
    (fun D i acc zs Hc Hc' hd kp ⟨as, a1, a2, a3⟩ => ⟨as, a1, fun r hr => (a2 r hr).keep (tk_but hd kp), a3⟩) (fun D acc Hc hD fc hi hd => ?_) (fun D i acc Hc hn hD hd fc hi => ?_) gn_mono yes_mono eb_mono
  · obtain ⟨as, rfl, a2, a3⟩ := hi
    exact ⟨Nat.le_refl _, q D Hc fc hD ⟨as, hd, a2, a3⟩⟩
  · obtain ⟨as, rfl, a2, a3⟩ := hi
    refine ⟨hn, fun v Hy ⟨eH, hv⟩ => ?_⟩
    subst eH hv
    refine ⟨hw _, ?_⟩
    show EB _ _ _ _ _ _
    refine eb_mono _ _ _ _ (fun y H' ⟨t, e1, e2, e3⟩ => ?_) (he i Hy hn)
    subst e1 e3
    have ft := WW.Fr.new (ts := tsK K) (m := Nil) (o := .tup [.int n, .int (lo + (i : Int))]) e2
    refine ⟨ft, as ++ [(.ref t, pdD (n, lo + (i : Int)))], by rw [List.map_append]; rfl, fun a ha => ?_, ?_⟩
    · rcases List.mem_append.mp ha with ha | ha
      · exact (a2 a ha).keep (TK.fr ft)
      · rw [List.mem_singleton.mp ha]
        exact td_flat (ds := [.int n, .int (lo + (i : Int))]) (.inl (.inl upd_same)) (by simp [scalD])
    · rw [runL_succ, List.map_append, List.map_append, a3]
      rfl
end
end K05

set_option Elab.async false
set_option linter.all false
set_option maxRecDepth 100000
set_option maxHeartbeats 4000000
namespace K05
open PySem PySem.Spec PyProof.Rows L2 WW Wo Pa Sh
section
variable {P : Program} {w : World} {K : PySem.W.Frag} {mg : Str → Option Value} {base : Heap}
def bodyR : List Stmt := match d_law_right.body.getD 5 (.Pass ⟨0, 0, 0, 0⟩) with
  | .For _ _ b _ _ => b
  | _ => []
theorem right_turn (A : Facts K mg base) {A' : Around} {outer : List Env} {s : Shared} {H0 H : Hp} {pd p pu pn : Addr} {k : Int} {i : Nat} {rcs : List Rc} {r : Rc} {v kept : V} {o7 : Option V} {D : Ends} (hr : Room 15 (A'.deeper (envOfC d_law_right.qual d_law_right.scope s.heap.objs.size (He.ga K "_law_right") (.ref (He.codeOf K d_law_right.at_)))))
    (hL : LInv K H0 H pd p rcs k pu pn (plN rcs i) (tiN rcs i)) (hi : i < 20) (hr1 : rcs[i]? = some r) (hd : Td K H (v, rcD r)) (hf : ∀ r ∈ rcs, RcF r)
    (q : ∀ H' pu' pn' o7, LInv K H0 H' pd p rcs k pu' pn' (plN rcs (i + 1)) (tiN rcs (i + 1)) → D.nx [some (.ref pd), some (.ref p), some v, some kept, some (.ref pu'), some (.ref pn'), some (.int (i : Nat)), o7, none, none, none] H') :
    WS (Xr P w K mg base A' outer s H0) bodyR D [some (.ref pd), some (.ref p), some v, some kept, some (.ref pu), some (.ref pn), some (.int (i : Nat)), o7, none, none, none] H := by
  have hrf := hf r (List.mem_of_getElem? hr1)
  have hbl := bk_len hrf
  have hz : 100000 < sizeLine := by decide
  have hpl := plN_len hf i
  have htl := tiN_len hf i
  -- backs
  refine ws_seq (fun σ' H' => ∃ pb, σ' = [some (.ref pd), some (.ref p), some v, some kept, some (.ref pu), some (.ref pn), some (.int (i : Nat)), some (.ref pb), none, none, none] ∧ WW.Fr (tsK K) Nil H H' ∧ SqT K H' pb ((bkOf r).map V.str)) ?_ fun σ' H' ⟨pb, hσ, f1, hpb⟩ => ?_
  · refine w_set 7 (we_if (wt_val (we_isl A rfl hd ⟨_, rfl, ?_⟩))) sc_right.nd
    cases r with
    | rw r =>
      cases r with
      | met b s1 =>
        rw [show isLet (.rw (.met b s1)) = false from rfl, if_neg (by decide)]
        exact we_tup (wa_nil ⟨by show 0 ≤ sizeLine; decide, fun pt hpt => ⟨pt, rfl, WW.Fr.new hpt, .inl (.inl upd_same)⟩⟩)
      | lost way e bk =>
        obtain ⟨pr, pw, pe, vs, rfl, g1, g2, g3, g4⟩ := row_at hd
        obtain ⟨ps, pb, rfl, l1, l2⟩ := lost_at g4
        rw [show isLet (.rw (.lost way e bk)) = true from rfl, if_pos rfl]
        exact we_ix ix_tup (we_ix ix_tup (we_var 2 rfl (we_int ⟨pr, _, 2, .ref ps, rfl, rfl, g1, rfl, we_int ⟨ps, _, 1, .ref pb, rfl, rfl, l1, rfl, pb, rfl, WW.Fr.refl _, l2⟩⟩)))
      | came way e bk d =>
        obtain ⟨pr, pw, pe, vs, rfl, g1, g2, g3, g4⟩ := row_at hd
        obtain ⟨ps, pb, vd, rfl, l1, l2, l3⟩ := came_at g4
        rw [show isLet (.rw (.came way e bk d)) = true from rfl, if_pos rfl]
        exact we_ix ix_tup (we_ix ix_tup (we_var 2 rfl (we_int ⟨pr, _, 2, .ref ps, rfl, rfl, g1, rfl, we_int ⟨ps, _, 1, .ref pb, rfl, rfl, l1, rfl, pb, rfl, WW.Fr.refl _, l2⟩⟩)))
    | calm i =>
      rw [show isLet (.calm i) = false from rfl, if_neg (by decide)]
      exact we_tup (wa_nil ⟨by show 0 ≤ sizeLine; decide, fun pt hpt => ⟨pt, rfl, WW.Fr.new hpt, .inl (.inl upd_same)⟩⟩)
  subst hσ
  have hL1 := hL.step f1
  -- due
  refine ws_cons (w_set 4 (we_bin op_cat (we_var 4 rfl (we_of (pe_lcT (own := [("k", 10)]) (g := gName 10) (tt := tYes) (by rfl) sc_right.nd (pi_range1 rfl A.n_range WW.pa) (blkOk_by (own := [("k", 10)]) (N := Nrt) (sc := defScope s_law_right) (by decide +kernel)) (fun _ _ _ _ _ => pg_name (i := 10) sc_right.nd rfl (Or.inl rfl)) (fun _ _ _ _ _ => pts_nil) eb) ?_))) sc_right.nd)
  refine wa_cons (we_bin op_add (we_callB call_len_seq A.n_len rfl (wa_cons (we_var 7 rfl (wa_nil ⟨pb, _, rfl, .inr hpb, we_int ⟨_, 1, rfl, rfl, ?_⟩⟩)))))
  rw [List.length_map]
  refine wa_nil ⟨_, rfl, by omega, by omega, ?_⟩
  have eN : (((bkOf r).length : Int) + 1).toNat = (bkOf r).length + 1 := by omega
  rw [eN]
  refine lc_run (K := K) (n := (i : Int)) (by omega) rfl (fun k H' hk => ?_) (fun _ => rfl) (fun Dn H2 f2 hDn hP2 => ?_)
  · exact fun s1 H5 C1 cl1 fp1 => we_tup (wa_cons (we_var 6 rfl (wa_cons (we_var 10 rfl (wa_nil ⟨by show 2 ≤ sizeLine; decide, fun pt hpt => ⟨pt, rfl, hpt, rfl⟩⟩)))))
  have hL2 := hL1.step f2
  have hpb2 := (TK.fr f2).sqt hpb
  obtain ⟨xs1, hx1, lx1⟩ := hL2.du.ex
  obtain ⟨xs2, hx2, lx2⟩ := hP2.ex
  rw [runL_len] at lx2
  refine ⟨pu, Dn, xs1, xs2, rfl, rfl, hx1, hx2, by omega, fun p3 hp3 => ?_⟩
  have f3 := WW.Fr.new (ts := tsK K) (m := Nil) (o := .lst (xs1 ++ xs2)) hp3
  have hL3 := hL2.step f3
  have hP3 := PairsAt.cat hL2.du hP2 hx1 hx2 hp3
  obtain ⟨w1, w2, w3⟩ := nw_pd hL2.st hp3
  have n3 : p3 ≠ pn := fun z => by
    obtain ⟨ys, hy, _⟩ := hL2.nm.ex
    rw [z, hy] at hp3
    cases hp3
  have hpb3 := (TK.fr f3).sqt hpb2
  generalize upd H2 p3 (.lst (xs1 ++ xs2)) = H3 at f3 hL3 hP3 hpb3 ⊢
  have ePl : plN rcs i ++ runL i 0 ((bkOf r).length + 1) = plN rcs (i + 1) := by
    show _ = plN rcs i ++ runL i 0 (((rcs[i]?).map fun r => (bkOf r).length + 1).getD 0)
    rw [hr1]
    rfl
  rw [ePl] at hP3
  -- names
  refine ws_cons (w_set 5 (we_bin op_cat (we_var 5 rfl (we_of (pe_lcT (own := [("k", 10)]) (g := gName 10) (tt := tYes) (by rfl) sc_right.nd (pi_range2 rfl A.n_range WW.pa) (blkOk_by (own := [("k", 10)]) (N := Nrt) (sc := defScope s_law_right) (by decide +kernel)) (fun _ _ _ _ _ => pg_name (i := 10) sc_right.nd rfl (Or.inl rfl)) (fun _ _ _ _ _ => pts_nil) eb) ?_))) sc_right.nd)
  refine wa_cons (we_int (wa_cons (we_bin op_add (we_callB call_len_seq A.n_len rfl (wa_cons (we_var 7 rfl (wa_nil ⟨pb, _, rfl, .inr hpb3, we_int ⟨_, 1, rfl, rfl, ?_⟩⟩)))))))
  rw [List.length_map]
  refine wa_nil ⟨1, _, rfl, ⟨by decide, by decide, by omega, by omega⟩, ?_⟩
  have eM : (((bkOf r).length : Int) + 1 - 1).toNat = (bkOf r).length := by omega
  rw [eM]
  refine lc_run (K := K) (n := (i : Int)) (by omega) rfl (fun k H' hk => ?_) (fun _ => rfl) (fun Dm H4 f4 hDm hP4 => ?_)
  · exact fun s1 H5 C1 cl1 fp1 => we_tup (wa_cons (we_var 6 rfl (wa_cons (we_var 10 rfl (wa_nil ⟨by show 2 ≤ sizeLine; decide, fun pt hpt => ⟨pt, rfl, hpt, rfl⟩⟩)))))
  have hL4 := hL3.step f4
  have hP34 := hP3.fr f4
  have hpb4 := (TK.fr f4).sqt hpb3
  obtain ⟨ys1, hy1, ly1⟩ := hL4.nm.ex
  obtain ⟨ys2, hy2, ly2⟩ := hP4.ex
  rw [runL_len] at ly2
  refine ⟨pn, Dm, ys1, ys2, rfl, rfl, hy1, hy2, by omega, fun p5 hp5 => ?_⟩
  have f5 := WW.Fr.new (ts := tsK K) (m := Nil) (o := .lst (ys1 ++ ys2)) hp5
  have hL5 := hL4.step f5
  have hP5 := PairsAt.cat hL4.nm hP4 hy1 hy2 hp5
  have hP35 := hP34.fr f5
  obtain ⟨x1, x2, x3⟩ := nw_pd hL4.st hp5
  have n5 : p3 ≠ p5 := fun z => by
    obtain ⟨ys, hy, _⟩ := hP34.ex
    rw [z, hp5] at hy
    cases hy
  have hpb5 := (TK.fr f5).sqt hpb4
  have hd5 := hd.keep (TK.fr (((f1.trans f2).trans f3).trans (f4.trans f5)))
  generalize upd H4 p5 (.lst (ys1 ++ ys2)) = H5 at f5 hL5 hP5 hP35 hpb5 hd5 ⊢
  have hLf : LInv K H0 H5 pd p rcs k p3 p5 (plN rcs (i + 1)) (tiN rcs i ++ runL i 1 (bkOf r).length) := ⟨hL5.st, hP35, hP5, w1, x1, n5, w3, x3, w2, x2⟩
  have eT : mtOf r = false → tiN rcs i ++ runL i 1 (bkOf r).length = tiN rcs (i + 1) := fun hm => by
    show _ = tiN rcs i ++ runL i 1 (((rcs[i]?).map tiOf).getD 0)
    rw [hr1]
    show _ = tiN rcs i ++ runL i 1 (tiOf r)
    unfold tiOf
    rw [hm, if_neg (by decide)]
  -- a step of a heap on
  have fin : ∀ H', WW.Fr (tsK K) Nil H5 H' → mtOf r = false → D.nx [some (.ref pd), some (.ref p), some v, some kept, some (.ref p3), some (.ref p5), some (.int (i : Nat)), some (.ref pb), none, none, none] H' := fun H' f hm => by
    refine q H' p3 p5 _ ?_
    have := hLf.step f
    rw [eT hm] at this
    exact this
  have dpb : Dp K H5 (.ref pb) (.tuple ((bkOf r).map .str)) := (td_strs hpb5).is
  cases r with
  | calm j =>
    obtain ⟨pr, rfl, g1⟩ := calm_at hd5
    refine ws_one (w_if0 (wt_ww (ww_or (wt_cmp (op_eqD (room_u64 hr)) rfl (we_var 7 rfl (we_ix ix_tup (we_var 2 rfl (we_int ⟨pr, _, 0, .str "calm", rfl, rfl, g1, rfl, .tuple [], .str "calm", dpb, .str _, by decide +kernel, by decide +kernel, false, congrArg V.bl (by decide +kernel), ?_⟩))))))))
    rw [if_neg (by decide)]
    refine ww_or1 (wt_ww (ww_and (wt_val (we_isl A rfl hd5 ⟨_, rfl, ?_⟩))))
    rw [show isLet (.calm j) = false from rfl, if_neg (by decide), if_neg (by decide)]
    exact fin H5 (WW.Fr.refl _) rfl
  | rw r =>
    cases r with
    | met b s1 =>
      obtain ⟨pr, rfl, g1⟩ := met_at hd5
      refine ws_one (w_if0 (wt_ww (ww_or (wt_cmp (op_eqD (room_u64 hr)) rfl (we_var 7 rfl (we_ix ix_tup (we_var 2 rfl (we_int ⟨pr, _, 0, .str "met", rfl, rfl, g1, rfl, .tuple [], .str "met", dpb, .str _, by decide +kernel, by decide +kernel, false, congrArg V.bl (by decide +kernel), ?_⟩))))))))
      rw [if_neg (by decide)]
      refine ww_or1 (wt_ww (ww_and (wt_val (we_isl A rfl hd5 ⟨_, rfl, ?_⟩))))
      rw [show isLet (.rw (.met b s1)) = false from rfl, if_neg (by decide), if_neg (by decide)]
      exact fin H5 (WW.Fr.refl _) rfl
    | lost way e bk =>
      obtain ⟨pr, pw, pe, vs, rfl, g1, g2, g3, g4⟩ := row_at hd5
      obtain ⟨ps, pb2, rfl, l1, l2⟩ := lost_at g4
      have ne : PyData.eqv (.tuple (bk.map .str)) (.tuple (way.map .str)) = false := by
        cases h : PyData.eqv (.tuple (bk.map .str)) (.tuple (way.map .str)) with
        | false => rfl
        | true =>
          have := eqv_strs bk way h
          have l := hrf.2.2.1
          rw [this] at l
          exact absurd l (Nat.lt_irrefl _)
      refine ws_one (w_if0 (wt_ww (ww_or (wt_cmp (op_eqD (room_u64 hr)) rfl (we_var 7 rfl (we_ix ix_tup (we_var 2 rfl (we_int ⟨pr, _, 0, .ref pw, rfl, rfl, g1, rfl, .tuple (bk.map .str), .tuple (way.map .str), dpb, (td_strs g2).is, shaped_strsT _ (fun u hu => (hrf.2.1 u hu).ok), shaped_strsT _ (fun u hu => (hrf.1 u hu).ok), false, congrArg V.bl ne, ?_⟩))))))))
      rw [if_neg (by decide)]
      refine ww_or1 (wt_ww (ww_and (wt_val (we_isl A rfl hd5 ⟨_, rfl, ?_⟩))))
      rw [show isLet (.rw (.lost way e bk)) = true from rfl, if_pos rfl]
      refine ww_and (wt_cmp op_eq rfl (we_ix ix_tup (we_ix ix_tup (we_var 2 rfl (we_int ⟨pr, _, 2, .ref ps, rfl, rfl, g1, rfl, we_int ⟨ps, _, 0, .str "lost", rfl, rfl, l1, rfl, we_str ⟨rfl, false, congrArg V.bl (by decide +kernel), ?_⟩⟩⟩)))))
      rw [if_neg (by decide), if_neg (by decide)]
      exact fin H5 (WW.Fr.refl _) rfl
    | came way e bk d =>
      obtain ⟨pr, pw, pe, vs, hpr, g1, g2, g3, g4⟩ := row_at hd5
      subst hpr
      obtain ⟨ps, pb2, vd, rfl, l1, l2, l3⟩ := came_at g4
      have inner : ∀ H6, WW.Fr (tsK K) Nil H5 H6 → WS (Xr P w K mg base A' outer s H0) (match (bodyR.getD 3 (.Pass ⟨0, 0, 0, 0⟩)) with | .If _ th _ _ => th | _ => []) D [some (.ref pd), some (.ref p), some (.ref pr), some kept, some (.ref p3), some (.ref p5), some (.int (i : Nat)), some (.ref pb), none, none, none] H6 := fun H6 f6 => by
        refine ws_one (w_if0 (wt_ww (ww_and (wt_val (we_isl A rfl (hd5.keep (TK.fr f6)) ⟨_, rfl, ?_⟩)))))
        rw [show isLet (.rw (.came way e bk d)) = true from rfl, if_pos rfl]
        refine ww_and (wt_cmp (op_eqD (room_u64 hr)) rfl (we_ix ix_tup (we_var 2 rfl (we_int ⟨pr, _, 1, .ref pe, rfl, rfl, (TK.fr f6).sqt g1, rfl, we_tup (wa_cons (we_str (wa_nil ⟨by show 1 ≤ sizeLine; decide, fun pt hpt => ?_⟩)))⟩))))
        have f7 := f6.trans (WW.Fr.new (ts := tsK K) (m := Nil) (o := .tup [.str "tie"]) hpt)
        have hpt7 : upd H6 pt (.tup [.str "tie"]) pt = some (.tup [.str "tie"]) := upd_same
        generalize upd H6 pt (.tup [.str "tie"]) = H7 at f7 hpt7 ⊢
        refine ⟨.tuple (rerL e), .tuple [.str "tie"], (td_flat ((TK.fr f7).sqt g3) (rer_scal e)).is, (td_flat (ds := [.str "tie"]) (.inl (.inl hpt7)) (by simp [scalD])).is, shaped_rer, by decide +kernel, isTie e, congrArg V.bl (eqv_tie e), ?_⟩
        cases ht : isTie e with
        | false =>
          rw [if_neg (by decide), if_neg (by decide)]
          exact fin H7 f7 (by simp [mtOf, ht])
        | true =>
        rw [if_pos rfl]
        have k7 := TK.fr f7
        refine ww_and1 (wt_cmp (op_neD (room_u64 hr)) rfl (we_ix ix_tup (we_ix ix_tup (we_var 2 rfl (we_int ⟨pr, _, 2, .ref ps, rfl, rfl, k7.sqt g1, rfl, we_int ⟨ps, _, 2, vd, rfl, rfl, k7.sqt l1, rfl, we_str ⟨d, .str "self", (l3.keep k7).is, .str _, hrf.2.2.2.2.2.1.shaped, by decide +kernel, _, rfl, ?_⟩⟩⟩)))))
        cases hm : (!PyData.eqv d (.str "self")) with
        | false =>
          rw [if_neg (by decide)]
          exact fin H7 f7 (by simp only [mtOf, ht, hm]; rfl)
        | true =>
        rw [if_pos rfl]
        have hmt : mtOf (.rw (.came way e bk d)) = true := by simp only [mtOf, ht, hm]; rfl
        have hL7 := hLf.step f7
        have hpb7 := k7.sqt hpb5
        obtain ⟨zs, hz1, hz2⟩ := hL7.nm.ex
        rw [List.length_append, runL_len] at hz2
        refine ws_one (w_expr (we_app (we_var 5 rfl ⟨⟨p5, _, rfl, hz1⟩, we_tup (wa_cons (we_var 6 rfl (wa_cons (we_bin op_add (we_callB call_len_seq A.n_len rfl (wa_cons (we_var 7 rfl (wa_nil ⟨pb, _, rfl, .inr hpb7, we_int ⟨_, 1, rfl, rfl, ?_⟩⟩))))))))⟩)))
        rw [List.length_map]
        refine wa_nil ⟨by show 2 ≤ sizeLine; decide, fun p8 hp8 => ?_⟩
        have f8 := WW.Fr.new (ts := tsK K) (m := Nil) (o := .tup [.int (i : Nat), .int (((bkOf (.rw (.came way e bk d))).length : Nat) + 1)]) hp8
        have hp88 : upd H7 p8 (.tup [.int (i : Nat), .int (((bkOf (.rw (.came way e bk d))).length : Nat) + 1)]) p8 = some (.tup [.int (i : Nat), .int (((bkOf (.rw (.came way e bk d))).length : Nat) + 1)]) := upd_same
        have hz8 := f8.kp _ _ hz1 (fun z => z) rfl
        have hL8 := hL7.step f8
        generalize upd H7 p8 (.tup [.int (i : Nat), .int (((bkOf (.rw (.came way e bk d))).length : Nat) + 1)]) = H8 at f8 hp88 hz8 hL8 ⊢
        refine ⟨p5, zs, rfl, hz8, by omega, ?_⟩
        have k9 : TK H8 (upd H8 p5 (.lst (zs ++ [.ref p8]))) := TK.wr hz8 (fun _ => nofun) fun _ _ => nofun
        refine q _ p3 p5 _ ⟨hL8.st.mut hL8.nn hz8 hL8.nd hL8.np, hL8.du.keep k9 (fun xs e => by rw [upd_ne hL8.un]; exact e), ?_, hL8.nu, hL8.nn, hL8.un, hL8.up, hL8.np, hL8.ud, hL8.nd⟩
        obtain ⟨as, a1, a2, a3⟩ := hL8.nm
        rw [hz8] at a1
        cases a1
        refine ⟨as ++ [(.ref p8, pdD ((i : Nat), 1 + ((bkOf (.rw (.came way e bk d))).length : Int)))], by rw [upd_same, List.map_append]; rfl, fun x hx => ?_, ?_⟩
        · rcases List.mem_append.mp hx with hx | hx
          · exact (a2 x hx).keep k9
          · rw [List.mem_singleton.mp hx]
            refine ((td_flat (ds := [.int (i : Nat), .int (1 + ((bkOf (.rw (.came way e bk d))).length : Int))]) (.inl (.inl ?_)) (by simp [scalD])) : Td K H8 (.ref p8, pdD _)).keep k9
            rw [hp88, Int.add_comm]
            rfl
        · have eS : tiN rcs (i + 1) = tiN rcs i ++ runL i 1 (bkOf (.rw (.came way e bk d))).length ++ [((i : Int), 1 + ((bkOf (.rw (.came way e bk d))).length : Int))] := by
            show tiN rcs i ++ runL i 1 (((rcs[i]?).map tiOf).getD 0) = _
            rw [hr1]
            show tiN rcs i ++ runL i 1 (tiOf (.rw (.came way e bk d))) = _
            unfold tiOf
            rw [hmt, if_pos rfl, runL_succ, List.append_assoc]
          rw [eS, List.map_append, List.map_append, a3]
          rfl
      refine ws_one (w_if0 (wt_ww (ww_or (wt_cmp (op_eqD (room_u64 hr)) rfl (we_var 7 rfl (we_ix ix_tup (we_var 2 rfl (we_int ⟨pr, _, 0, .ref pw, rfl, rfl, g1, rfl, .tuple (bk.map .str), .tuple (way.map .str), dpb, (td_strs g2).is, shaped_strsT _ (fun u hu => (hrf.2.1 u hu).ok), shaped_strsT _ (fun u hu => (hrf.1 u hu).ok), _, rfl, ?_⟩))))))))
      cases hb : PyData.eqv (.tuple (bk.map .str)) (.tuple (way.map .str)) with
      | true =>
        rw [if_pos rfl, if_pos rfl]
        exact inner H5 (WW.Fr.refl _)
      | false =>
      rw [if_neg (by decide)]
      refine ww_or1 (wt_ww (ww_and (wt_val (we_isl A rfl hd5 ⟨_, rfl, ?_⟩))))
      rw [show isLet (.rw (.came way e bk d)) = true from rfl, if_pos rfl]
      refine ww_and (wt_cmp op_eq rfl (we_ix ix_tup (we_ix ix_tup (we_var 2 rfl (we_int ⟨pr, _, 2, .ref ps, rfl, rfl, g1, rfl, we_int ⟨ps, _, 0, .str "came", rfl, rfl, l1, rfl, we_str ⟨rfl, true, congrArg V.bl (by decide +kernel), ?_⟩⟩⟩)))))
      rw [if_pos rfl]
      refine ww_and1 (wt_cmp (op_eqD (room_u64 hr)) rfl (we_ix ix_tup (we_var 2 rfl (we_int ⟨pr, _, 1, .ref pe, rfl, rfl, g1, rfl, we_tup (wa_cons (we_str (wa_nil ⟨by show 1 ≤ sizeLine; decide, fun pt hpt => ?_⟩)))⟩))))
      have f6 := WW.Fr.new (ts := tsK K) (m := Nil) (o := .tup [.str "tie"]) hpt
      have hpt6 : upd H5 pt (.tup [.str "tie"]) pt = some (.tup [.str "tie"]) := upd_same
      generalize upd H5 pt (.tup [.str "tie"]) = H6 at f6 hpt6 ⊢
      refine ⟨.tuple (rerL e), .tuple [.str "tie"], (td_flat ((TK.fr f6).sqt g3) (rer_scal e)).is, (td_flat (ds := [.str "tie"]) (.inl (.inl hpt6)) (by simp [scalD])).is, shaped_rer, by decide +kernel, isTie e, congrArg V.bl (eqv_tie e), ?_⟩
      cases ht : isTie e with
      | false =>
        rw [if_neg (by decide)]
        exact fin H6 f6 (by simp [mtOf, ht])
      | true =>
        rw [if_pos rfl]
        exact inner H6 f6
end
end K05

set_option Elab.async false
set_option linter.all false
set_option maxRecDepth 100000
set_option maxHeartbeats 4000000
namespace K05
open PySem PySem.Spec PyProof.Rows L2 WW Wo Pa Sh WG
theorem cl_pairs : ∀ qs : List (Int × Int), PyData.canLayAll0 (qs.map pdD) = true
  | [] => by simp [PyData.canLayAll0]
  | q :: r => by
    have := cl_pairs r
    simp only [List.map_cons, PyData.canLayAll0, pdD, PyData.canLay0, this]
    rfl
theorem dp_pairs : ∀ qs : List (Int × Int), PyData.depthAll (qs.map pdD) ≤ 1
  | [] => by simp [PyData.depthAll]
  | q :: r => by
    have := dp_pairs r
    simp only [List.map_cons, PyData.depthAll, pdD, PyData.depth]
    omega
theorem shaped_pairs (qs : List (Int × Int)) : SeqAt.shaped (.list (qs.map pdD)) = true := by
  have h1 := cl_pairs qs
  have h2 := dp_pairs qs
  show (PyData.canLay0 (.list (qs.map pdD)) && decide (PyData.depth (.list (qs.map pdD)) ≤ 64)) = true
  rw [Bool.and_eq_true]
  refine ⟨by simp only [PyData.canLay0]; exact h1, decide_eq_true ?_⟩
  simp only [PyData.depth]
  omega
theorem shaped_two (us ns : List (Int × Int)) : SeqAt.shaped (.list [.list (us.map pdD), .list (ns.map pdD)]) = true := by
  have h1 := cl_pairs us
  have h2 := dp_pairs us
  have h3 := cl_pairs ns
  have h4 := dp_pairs ns
  show (PyData.canLay0 (.list [.list (us.map pdD), .list (ns.map pdD)]) && decide (PyData.depth (.list [.list (us.map pdD), .list (ns.map pdD)]) ≤ 64)) = true
  rw [Bool.and_eq_true]
  refine ⟨by simp only [PyData.canLay0, PyData.canLayAll0, h1, h3]; rfl, decide_eq_true ?_⟩
  simp only [PyData.depth, PyData.depthAll]
  omega
theorem eqv_self {d : PyData} (h : SeqAt.shaped d = true) : PyData.eqv d d = true := SeqAt.eqv_refl d (Bool.and_eq_true_iff.mp h).1
theorem PairsAt.dp {K : PySem.W.Frag} {H : Hp} {D : Addr} {qs : List (Int × Int)} (h : PairsAt K H D qs) : Dp K H (.ref D) (.list (qs.map pdD)) := by
  obtain ⟨as, a, b, c⟩ := h
  rw [← c]
  exact .lst (.inl (.inl a)) (dps_of b)
theorem BookC.dp {K : PySem.W.Frag} {H : Hp} {p : Addr} {rcs : List Rc} (h : BookC K H p rcs) : Dp K H (.ref p) (.list (rcs.map rcD)) := by
  obtain ⟨⟨rs, a, b, c⟩, _⟩ := h
  rw [← c]
  exact .lst (.inl (.inl a)) (dps_of b)
theorem nw_tr {ts : List Addr} {H0 H : Hp} {pd D : Addr} (f : WW.Fr ts (fun a => a = pd) H0 H) (n : Nw H D) (ne : D ≠ pd) : Nw H0 D := fun u hu => by
  cases ht : nt u with
  | false => rfl
  | true =>
    have := n u (f.kp D u hu ne ht)
    rw [ht] at this
    cases this
theorem LInv.mut {K : PySem.W.Frag} {H0 H : Hp} {pd p D : Addr} {rcs : List Rc} {k : Int} {pu pn : Addr} {us ns : List (Int × Int)} {xs ys : List V} (h : LInv K H0 H pd p rcs k pu pn us ns) (n : Nw H0 D) (e : H D = some (.lst xs)) (n1 : D ≠ pd) (n2 : D ≠ p) (n3 : D ≠ pu) (n4 : D ≠ pn) : LInv K H0 (upd H D (.lst ys)) pd p rcs k pu pn us ns := by
  have kk : TK H (upd H D (.lst ys)) := TK.wr e (fun _ => nofun) fun _ _ => nofun
  exact ⟨h.st.mut n e n1 n2, h.du.keep kk (fun xs z => by rw [upd_ne n3.symm]; exact z), h.nm.keep kk (fun xs z => by rw [upd_ne n4.symm]; exact z), h.nu, h.nn, h.un, h.up, h.np, h.ud, h.nd⟩
/-- a list of two lists of pairs -/
theorem two_dp {K : PySem.W.Frag} {H : Hp} {p D1 D2 : Addr} {us ns : List (Int × Int)} (h1 : PairsAt K H D1 us) (h2 : PairsAt K H D2 ns) (hp : H p = some (.lst [.ref D1, .ref D2])) : Dp K H (.ref p) (.list [.list (us.map pdD), .list (ns.map pdD)]) :=
  .lst (.inl (.inl hp)) (.cons h1.dp (.cons h2.dp .nil))
section
variable {P : Program} {w : World} {K : PySem.W.Frag} {mg : Str → Option Value} {base : Heap}
/-- str(a_book) -/
theorem we_str_book (A : Facts K mg base) {A' : Around} {outer : List Env} {s : Shared} {H0 H : Hp} {σ : L2.St} {p : Addr} {rcs : List Rc} {Q : VK} {p1 p2 p3 : Pos} (qa : Quiet A') (hr : Room 15 (A'.deeper (envOfC d_law_right.qual d_law_right.scope s.heap.objs.size (He.ga K "_law_right") (.ref (He.codeOf K d_law_right.at_)))))
    (hv : σ[1]? = some (some (.ref p))) (hB : BookL rcs) (hb : BookC K H p rcs) (q : Q (.str (PyData.shown (.list (rcs.map rcD)))) H) :
    WE (Xr P w K mg base A' outer s H0) (.Call (.Name "str" p1) [.Name "a_book" p2] [] p3) σ H Q := by
  obtain ⟨s1, s2⟩ := sh_rcs hB.m
  have s3 : short (.list (rcs.map rcD)) = true := by rw [short_lst]; exact s1
  have s4 := shown_len _ s3
  obtain ⟨s5, s6⟩ := showable_of _ s3
  have s7 := dp_rcs hB.m
  have hl := hB.len
  have s8 : nodes (.list (rcs.map rcD)) = 1 + nodess (rcs.map rcD) := by simp only [nodes]
  have hu : A'.units + 3 + 67 < cLine := by
    have := hr.un
    change A'.units + 3 + 16 * 15 + 200 < cLine at this
    omega
  refine we_callTy (call_str (X := Xr P w K mg base A' outer s H0) (N := 40000) qa (by decide) hu) A.n_str rfl (wa_cons (we_var 1 hv (wa_nil ⟨p, .list (rcs.map rcD), rfl, hb.dp, s5, s6, ?_, by omega, q⟩)))
  simp only [PyData.depth]
  omega
theorem k_right (A : Facts K mg base) : Fq P w K mg base 16 "_law_right" ["draws"] (spRight (tsK K) K) := by
  refine def_okG (d := d_law_right) A.f_law_right rfl A.g_law_right sc_right (fun _ _ _ _ _ _ us hl => match us, hl with | [_], _ => rfl) (fun vs H Q E h => ?_) (fun A' outer s H0 vs Q qa hr h => ?_)
  · obtain ⟨pd, n, k, b, rfl, _⟩ := h
    rfl
  · obtain ⟨pd, n, k, b, rfl, hpd, k0, k1, tb, q⟩ := h
    have hz : 100000 < sizeLine := by decide
    refine right1 A hr hpd k0 k1 fun H1 p rcs o2 hR hB => ?_
    refine ws_cons (w_set 3 (we_str_book A qa hr rfl hB hR.bk ?_) sc_right.nd)
    refine ws_cons (w_set 4 (we_lst (wa_nil ⟨by show 0 ≤ sizeLine; decide, fun pu hpu => ?_⟩)) sc_right.nd)
    have f2 := WW.Fr.new (ts := tsK K) (m := Nil) (o := .lst []) hpu
    obtain ⟨u1, u2, u3⟩ := nw_pd hR hpu
    have hR2 := hR.step f2
    have hP2 : PairsAt K (upd H1 pu (.lst [])) pu [] := ⟨[], upd_same, by simp, rfl⟩
    generalize upd H1 pu (.lst []) = H2 at f2 hR2 hP2 ⊢
    refine ws_cons (w_set 5 (we_lst (wa_nil ⟨by show 0 ≤ sizeLine; decide, fun pn hpn => ?_⟩)) sc_right.nd)
    have f3 := WW.Fr.new (ts := tsK K) (m := Nil) (o := .lst []) hpn
    obtain ⟨v1, v2, v3⟩ := nw_pd hR2 hpn
    have npn : pu ≠ pn := fun z => by
      obtain ⟨xs, hx, _⟩ := hP2.ex
      rw [z, hpn] at hx
      cases hx
    have hL3 : LInv K H0 (upd H2 pn (.lst [])) pd p rcs k pu pn (plN rcs 0) (tiN rcs 0) := ⟨hR2.step f3, hP2.fr f3, ⟨[], upd_same, by simp, rfl⟩, u1, v1, npn, u3, v3, u2, v2⟩
    generalize upd H2 pn (.lst []) = H3 at f3 hL3 ⊢
    -- the rows
    have kept := PyData.shown (.list (rcs.map rcD))
    obtain ⟨⟨rs, hp, hrs, hds⟩, bf⟩ := hL3.st.bk
    have hlen := BookC.len (K := K) (H := H3) (p := p) hds
    have hl10 := hB.len
    refine ws_cons (w_for (pi_enum rfl A.n_enumerate WW.pa) (pg_tup (by rfl) (pgs_cons (pg_name (i := 6) sc_right.nd rfl (Or.inr rfl)) (pgs_cons (pg_name (i := 2) sc_right.nd rfl (Or.inl rfl)) pgs_nil))) (by rfl) (wa_cons (we_var 1 rfl (wa_nil ⟨p, _, rfl, .inl (.inl hp), ?_⟩))))
    refine for_by rcs.length (fun i σ Hx => ∃ (pu' pn' : Addr) (o2 o6 o7 : Option V), σ = [some (.ref pd), some (.ref p), o2, some (.str (PyData.shown (.list (rcs.map rcD)))), some (.ref pu'), some (.ref pn'), o6, o7, none, none, none] ∧ LInv K H0 Hx pd p rcs k pu' pn' (plN rcs i) (tiN rcs i))
      ⟨pu, pn, _, none, none, rfl, hL3⟩ (fun σ Hx hi => ?_) (fun i σ Hx hn hi => ?_)
    rotate_left
    · obtain ⟨pu', pn', o2', o6, o7, rfl, hLx⟩ := hi
      obtain ⟨⟨rs2, hp2, hrs2, hds2⟩, bf2⟩ := hLx.st.bk
      have hlen2 := BookC.len (K := K) (H := Hx) (p := p) hds2
      obtain ⟨rv, hrv⟩ : ∃ r, rs2[i]? = some r := ⟨_, List.getElem?_eq_getElem (by omega)⟩
      obtain ⟨r, hr1⟩ : ∃ r, rcs[i]? = some r := ⟨_, List.getElem?_eq_getElem hn⟩
      have hd2 : rv.2 = rcD r := by
        have e1 : (rs2.map (·.2))[i]? = some rv.2 := by rw [List.getElem?_map, hrv]; rfl
        rw [hds2, List.getElem?_map, hr1] at e1
        exact (Option.some.inj e1).symm
      have hv1 : (rs2.map (·.1))[i]? = some rv.1 := by rw [List.getElem?_map, hrv]; rfl
      have hpe : rs2.map (·.1) = rs.map (·.1) ∨ True := .inr trivial
      refine ⟨⟨_, _, .inl (.inl hp2), hv1⟩, fun v Hy ⟨T, y, e1, e2, e3, e4⟩ => ?_⟩
      have e4 := e4 _ (.inl (.inl hp2))
      rw [hv1] at e4
      cases e4
      subst e1 e3
      refine ⟨T, _, rfl, .inl (.inl upd_same), rfl, _, _, rfl, _, _, rfl, rfl, ?_⟩
      have fT := WW.Fr.new (ts := tsK K) (m := Nil) (o := .tup [.int (i : Nat), rv.1]) e2
      have hLT := hLx.step fT
      have htd : Td K (upd Hx T (.tup [.int (i : Nat), rv.1])) (rv.1, rcD r) := by
        rw [← hd2]
        exact (hrs2 rv (List.mem_of_getElem? hrv)).keep (TK.fr fT)
      generalize upd Hx T (.tup [.int (i : Nat), rv.1]) = Hy at fT hLT htd ⊢
      exact right_turn A hr hLT (by omega) hr1 htd bf2.ok fun H' pu2 pn2 o72 hL2 => ⟨pu2, pn2, _, _, _, rfl, hL2⟩
    obtain ⟨pu', pn', o2', o6, o7, rfl, hL⟩ := hi
    obtain ⟨⟨rs2, hp2, hrs2, hds2⟩, bf2⟩ := hL.st.bk
    have hlen2 := BookC.len (K := K) (H := Hx) (p := p) hds2
    refine ⟨⟨_, .inl (.inl hp2), by rw [List.length_map]; omega⟩, ?_⟩
    have hHp : Hx p = some (.lst (rs.map (·.1))) ∨ True := .inr trivial
    have tbx := hL.st.fr.tb tb
    -- what the program tells
    refine ws_cons (w_par2 8 9 (we_f (k_placesB A).fk hr (wa_cons (we_var 1 rfl (wa_nil ⟨p, rcs, rfl, hL.st.bk, tbx, fun H4 D1 f4 nw4 P4 => ?_⟩)))) (by rfl) sc_right.nd (by decide))
    have hL4 := hL.step f4
    refine we_f (k_tiesB A).fk hr (wa_cons (we_var 1 rfl (wa_nil ⟨p, rcs, rfl, hL4.st.bk, f4.tb tbx, fun H5 D2 f5 nw5 P5 => ?_⟩)))
    have hL5 := hL4.step f5
    have P45 := P4.fr f5
    obtain ⟨xs1, hx1, _⟩ := P4.ex
    obtain ⟨du1, hdu1, _⟩ := hL.du.ex
    obtain ⟨nm1, hnm1, _⟩ := hL.nm.ex
    obtain ⟨du4, hdu4, _⟩ := hL4.du.ex
    obtain ⟨nm4, hnm4, _⟩ := hL4.nm.ex
    obtain ⟨n', k', b', hpdx, _, _⟩ := hL.st.dr
    obtain ⟨n4', k4', b4', hpd4, _, _⟩ := hL4.st.dr
    obtain ⟨⟨rs4, hp4, _⟩, _⟩ := hL4.st.bk
    have d1p := nw4.ne hp2 rfl
    have d1u := nw4.ne hdu1 rfl
    have d1n := nw4.ne hnm1 rfl
    have d1d := nw4.ne hpdx rfl
    have d2p := nw5.ne hp4 rfl
    have d2u := nw5.ne hdu4 rfl
    have d2n := nw5.ne hnm4 rfl
    have d2d := nw5.ne hpd4 rfl
    have d12 := nw5.ne hx1 rfl
    have w1 := nw_tr hL.st.fr nw4 d1d.symm
    have w2 := nw_tr hL4.st.fr nw5 d2d.symm
    have tb5 := hL5.st.fr.tb tb
    -- they are what is due
    refine ws_cons (w_if0 (wt_ww (ww_or (wt_cmp (op_neD (room_u64 hr)) rfl (we_lst (wa_cons (we_var 8 rfl (wa_cons (we_var 9 rfl (wa_nil ⟨by show 2 ≤ sizeLine; decide, fun p6 hp6 => ?_⟩))))))))))
    have f6 := WW.Fr.new (ts := tsK K) (m := Nil) (o := .lst [.ref D1, .ref D2]) hp6
    have e6 : upd H5 p6 (.lst [.ref D1, .ref D2]) p6 = some (.lst [.ref D1, .ref D2]) := upd_same
    generalize upd H5 p6 (.lst [.ref D1, .ref D2]) = H6 at f6 e6 ⊢
    refine we_lst (wa_cons (we_var 4 rfl (wa_cons (we_var 5 rfl (wa_nil ⟨by show 2 ≤ sizeLine; decide, fun p7 hp7 => ?_⟩)))))
    have f7 := WW.Fr.new (ts := tsK K) (m := Nil) (o := .lst [.ref pu', .ref pn']) hp7
    have e7 : upd H6 p7 (.lst [.ref pu', .ref pn']) p7 = some (.lst [.ref pu', .ref pn']) := upd_same
    generalize upd H6 p7 (.lst [.ref pu', .ref pn']) = H7 at f7 e7 ⊢
    have f67 := f6.trans f7
    have hL7 := hL5.step f67
    have P71 := P45.fr f67
    have P72 := P5.fr f67
    refine ⟨_, _, two_dp P71 P72 (f7.kp _ _ e6 (fun z => z) rfl), two_dp hL7.du hL7.nm e7, shaped_two _ _, shaped_two _ _, false, congrArg V.bl (by rw [eqv_self (shaped_two _ _)]; rfl), ?_⟩
    rw [if_neg (by decide)]
    obtain ⟨x71, g71, _⟩ := P71.ex
    obtain ⟨x72, g72, _⟩ := P72.ex
    refine ww_or (wt_not (wt_val (we_isi (we_var 8 rfl ⟨_, true, ty_lst (.inl (.inl g71)), kit_eq _ _, true, rfl, ?_⟩) A.n_isinstance A.n_list rfl)))
    rw [if_neg (by decide)]
    refine ww_or1 (wt_not (wt_val (we_isi (we_var 9 rfl ⟨_, true, ty_lst (.inl (.inl g72)), kit_eq _ _, true, rfl, ?_⟩) A.n_isinstance A.n_list rfl)))
    rw [if_neg (by decide)]
    -- the lists told are changed
    have hz2 : ∀ {Hz : Hp} {D : Addr} {qs : List (Int × Int)} {xs : List V}, PairsAt K Hz D qs → Hz D = some (.lst xs) → qs.length ≤ 90000 → xs.length < sizeLine := fun {Hz D qs xs} h e l => by
      obtain ⟨ys, hy, hl⟩ := h.ex
      rw [e] at hy
      cases hy
      omega
    have lpl := plN_len bf2.ok rcs.length
    have lti := tiN_len bf2.ok rcs.length
    refine ws_cons (w_expr (we_app (we_var 8 rfl ⟨⟨D1, _, rfl, g71⟩, we_non ⟨D1, _, rfl, g71, hz2 P71 g71 (by show (plN rcs rcs.length).length ≤ 90000; omega), ?_⟩⟩)))
    have hL8 := hL7.mut (ys := x71 ++ [.non]) w1 g71 d1d.symm d1p.symm d1u.symm d1n.symm
    have g82 : upd H7 D1 (.lst (x71 ++ [.non])) D2 = some (.lst x72) := by rw [upd_ne d12.symm]; exact g72
    generalize upd H7 D1 (.lst (x71 ++ [.non])) = H8 at hL8 g82 ⊢
    refine ws_cons (w_expr (we_app (we_var 9 rfl ⟨⟨D2, _, rfl, g82⟩, we_non ⟨D2, _, rfl, g82, hz2 P72 g72 (by show (tiN rcs rcs.length).length ≤ 90000; omega), ?_⟩⟩)))
    have hL9 := hL8.mut (ys := x72 ++ [.non]) w2 g82 d2d.symm d2p.symm d2u.symm d2n.symm
    generalize upd H8 D2 (.lst (x72 ++ [.non])) = H9 at hL9 ⊢
    -- once more
    refine ws_cons (w_if0 (wt_cmp (op_neD (room_u64 hr)) rfl (we_lst (wa_cons (we_f (k_placesB A).fk hr (wa_cons (we_var 1 rfl (wa_nil ⟨p, rcs, rfl, hL9.st.bk, hL9.st.fr.tb tb, fun Ha Da fa nwa Pa1 => ?_⟩))))))))
    have hLa := hL9.step fa
    refine wa_cons (we_f (k_tiesB A).fk hr (wa_cons (we_var 1 rfl (wa_nil ⟨p, rcs, rfl, hLa.st.bk, hLa.st.fr.tb tb, fun Hb Db fb nwb Pb => ?_⟩))))
    have hLb := hLa.step fb
    have Pab := Pa1.fr fb
    refine wa_nil ⟨by show 2 ≤ sizeLine; decide, fun pc hpc => ?_⟩
    have fc := WW.Fr.new (ts := tsK K) (m := Nil) (o := .lst [.ref Da, .ref Db]) hpc
    have ec : upd Hb pc (.lst [.ref Da, .ref Db]) pc = some (.lst [.ref Da, .ref Db]) := upd_same
    generalize upd Hb pc (.lst [.ref Da, .ref Db]) = Hc at fc ec ⊢
    refine we_lst (wa_cons (we_var 4 rfl (wa_cons (we_var 5 rfl (wa_nil ⟨by show 2 ≤ sizeLine; decide, fun pe hpe => ?_⟩)))))
    have fe := WW.Fr.new (ts := tsK K) (m := Nil) (o := .lst [.ref pu', .ref pn']) hpe
    have ee : upd Hc pe (.lst [.ref pu', .ref pn']) pe = some (.lst [.ref pu', .ref pn']) := upd_same
    generalize upd Hc pe (.lst [.ref pu', .ref pn']) = He' at fe ee ⊢
    have fce := fc.trans fe
    have hLe := hLb.step fce
    refine ⟨_, _, two_dp (Pab.fr fce) (Pb.fr fce) (fe.kp _ _ ec (fun z => z) rfl), two_dp hLe.du hLe.nm ee, shaped_two _ _, shaped_two _ _, false, congrArg V.bl (by rw [eqv_self (shaped_two _ _)]; rfl), ?_⟩
    rw [if_neg (by decide)]
    -- by names; the book's text
    refine ws_one (w_ret (we_and (we_cmp (op_eqD (room_u64 hr)) rfl (WK.we_fB (k_placesB A) hr (we_var 1 rfl ⟨p, rcs, rfl, hLe.st.bk, hLe.st.fr.tb tb, fun Hf Df ff nwf Pf => we_var 4 rfl ⟨_, _, Pf.dp, (hLe.step ff).du.dp, shaped_pairs _, shaped_pairs _, true, congrArg V.bl (eqv_self (shaped_pairs _)), ?_⟩⟩)))))
    rw [if_pos rfl]
    have hLf := hLe.step ff
    refine we_and (we_cmp (op_eqD (room_u64 hr)) rfl (WK.we_fB (k_tiesB A) hr (we_var 1 rfl ⟨p, rcs, rfl, hLf.st.bk, hLf.st.fr.tb tb, fun Hg Dg fg nwg Pg => we_var 5 rfl ⟨_, _, Pg.dp, (hLf.step fg).nm.dp, shaped_pairs _, shaped_pairs _, true, congrArg V.bl (eqv_self (shaped_pairs _)), ?_⟩⟩)))
    rw [if_pos rfl]
    have hLg := hLf.step fg
    refine we_last (we_cmp op_eq rfl (we_str_book A qa hr rfl hB hLg.st.bk (we_var 3 rfl ⟨rfl, ?_⟩)))
    obtain ⟨ng, kg, bg, hpdg, lo, hi⟩ := hLg.st.dr
    rw [decide_eq_true rfl]
    exact q _ ng kg bg hLg.st.fr hpdg lo hi
end
end K05

set_option Elab.async false
set_option linter.all false
set_option maxRecDepth 100000
set_option maxHeartbeats 4000000
namespace K05
open PySem PySem.Spec PyProof.Rows L2 WW Wo Pa Sh WG
section
variable {P : Program} {w : World} {K : PySem.W.Frag} {mg : Str → Option Value} {base : Heap}
theorem sc_law : FnScope ["script", "cell", "draws", "turn"] ["script"] (defScope s_law) := ⟨rfl, rfl, rfl, by decide +kernel, rfl, by decide +kernel, by decide +kernel⟩
def spLaw (ts : List Addr) (K : PySem.W.Frag) : Sp := fun vs H Q _ => ∃ (a : Addr) (ns : List Int), vs = [.ref a] ∧ SqL K H a (ns.map V.int) ∧ ns.length ≤ 63 ∧ Tbs ts H ∧ ∀ H', Q (.bl true) H'
theorem bookF_nil : BookF [] := ⟨by simp, by simp, fun n i h => by simp at h, Nat.zero_le _⟩
theorem k_law (A : Facts K mg base) : Fq P w K mg base 17 "law" ["script"] (spLaw (tsK K) K) := by
  refine def_okG (d := d_law) A.f_law rfl A.g_law sc_law (fun _ _ _ _ _ _ us hl => match us, hl with | [_], _ => rfl) (fun vs H Q E h => ?_) (fun A' outer s H0 vs Q qa hr h => ?_)
  · obtain ⟨a, ns, rfl, _⟩ := h
    rfl
  · obtain ⟨a, ns, rfl, ha, hn, tb, q⟩ := h
    have hz : 1000 < sizeLine := by decide
    refine ws_cons (w_for (pi_list WW.pe) (pg_name (i := 1) sc_law.nd rfl (Or.inl rfl)) (by rfl) (we_bin op_cat (we_slTo (we_var 0 rfl (we_int ⟨8, rfl, a, _, rfl, ha, fun p8 hp8 => ?_⟩)))))
    rw [cut_to _ _ (by decide)]
    have f8 := WW.Fr.new (ts := tsK K) (m := Nil) (o := .lst (List.take (8 : Int).toNat (ns.map V.int))) hp8
    have e8 : upd H0 p8 (.lst (List.take (8 : Int).toNat (ns.map V.int))) p8 = some (.lst ((ns.take 8).map V.int)) := by rw [upd_same, List.map_take]; rfl
    generalize upd H0 p8 (.lst (List.take (8 : Int).toNat (ns.map V.int))) = H1 at f8 e8 ⊢
    refine we_lst (wa_cons (we_int (wa_nil ⟨by show 1 ≤ sizeLine; decide, fun p0 hp0 => ?_⟩)))
    have f0 := WW.Fr.new (ts := tsK K) (m := Nil) (o := .lst [.int 0]) hp0
    have e0 : upd H1 p0 (.lst [.int 0]) p0 = some (.lst [.int 0]) := upd_same
    generalize upd H1 p0 (.lst [.int 0]) = H2 at f0 e0 ⊢
    have e82 := f0.kp _ _ e8 (fun z => z) rfl
    have l8 : (ns.take 8).length ≤ 8 := by rw [List.length_take]; exact Nat.min_le_left _ _
    refine ⟨p8, p0, _, _, rfl, rfl, e82, e0, by rw [List.length_map, List.length_singleton]; omega, fun p9 hp9 => ?_⟩
    have f9 := WW.Fr.new (ts := tsK K) (m := Nil) (o := .lst ((ns.take 8).map V.int ++ [.int 0])) hp9
    have e9 : upd H2 p9 (.lst ((ns.take 8).map V.int ++ [.int 0])) p9 = some (.lst ((ns.take 8 ++ [0]).map V.int)) := by rw [upd_same, List.map_append]; rfl
    generalize upd H2 p9 (.lst ((ns.take 8).map V.int ++ [.int 0])) = H3 at f9 e9 ⊢
    have tb3 := ((f8.trans f0).trans f9).tb tb
    refine ⟨p9, rfl, ⟨_, .inl (.inl e9)⟩, ?_⟩
    refine for_by (ns.take 8 ++ [0]).length (fun i σ Hx => ∃ (o1 o2 o3 : Option V), σ = [some (.ref a), o1, o2, o3] ∧ Hx p9 = some (.lst ((ns.take 8 ++ [0]).map V.int)) ∧ Tbs (tsK K) Hx) ⟨none, none, none, rfl, e9, tb3⟩ (fun σ Hx hi => ?_) (fun i σ Hx hn hi => ?_)
    · obtain ⟨o1, o2, o3, rfl, e, tbx⟩ := hi
      refine ⟨⟨_, .inl (.inl e), by rw [List.length_map]; exact Nat.le_refl _⟩, ?_⟩
      -- the empty book
      have nilB : ∀ (H' : Hp) (p : Addr), H' p = some (.lst []) → BookC K H' p [] := fun H' p h => ⟨⟨[], h, by simp, rfl⟩, bookF_nil⟩
      have nilD : ∀ (H' : Hp) (p : Addr), H' p = some (.lst []) → Dp K H' (.ref p) (.list []) := fun H' p h => .lst (.inl (.inl h)) .nil
      refine ws_one (w_ret (we_and (we_cmp (op_eqD (room_u64 hr)) rfl (we_f (k_placesB A).fk hr (wa_cons (we_lst (wa_nil ⟨by show 0 ≤ sizeLine; decide, fun pa hpa => wa_nil ⟨pa, [], rfl, nilB _ _ upd_same, (WW.Fr.new (ts := tsK K) (m := Nil) (o := .lst []) hpa).tb tbx, fun Ha Da fa nwa Pa1 => ?_⟩⟩)))))))
      refine we_lst (wa_nil ⟨by show 0 ≤ sizeLine; decide, fun pb hpb => ?_⟩)
      have fb := WW.Fr.new (ts := tsK K) (m := Nil) (o := .lst []) hpb
      refine ⟨.list [], .list [], (Pa1.fr fb).dp, nilD _ _ upd_same, by decide +kernel, by decide +kernel, true, congrArg V.bl (by decide +kernel), ?_⟩
      rw [if_pos rfl]
      have tba := fb.tb (fa.tb ((WW.Fr.new (ts := tsK K) (m := Nil) (o := .lst []) hpa).tb tbx))
      generalize upd Ha pb (.lst []) = Hb at fb tba ⊢
      refine we_last (we_cmp (op_eqD (room_u64 hr)) rfl (we_f (k_tiesB A).fk hr (wa_cons (we_lst (wa_nil ⟨by show 0 ≤ sizeLine; decide, fun pc hpc => wa_nil ⟨pc, [], rfl, nilB _ _ upd_same, (WW.Fr.new (ts := tsK K) (m := Nil) (o := .lst []) hpc).tb tba, fun Hc Dc fc nwc Pc => ?_⟩⟩)))))
      refine we_lst (wa_nil ⟨by show 0 ≤ sizeLine; decide, fun pd hpd => ?_⟩)
      have fd := WW.Fr.new (ts := tsK K) (m := Nil) (o := .lst []) hpd
      refine ⟨.list [], .list [], (Pc.fr fd).dp, nilD _ _ upd_same, by decide +kernel, by decide +kernel, ?_⟩
      have z : PyData.eqv (.list []) (.list []) = true := by decide +kernel
      rw [z]
      exact q _
    · obtain ⟨o1, o2, o3, rfl, e, tbx⟩ := hi
      obtain ⟨c, hc⟩ : ∃ c, (ns.take 8 ++ [0])[i]? = some c := ⟨_, List.getElem?_eq_getElem hn⟩
      have hc' : ((ns.take 8 ++ [0]).map V.int)[i]? = some (.int c) := by rw [List.getElem?_map, hc]; rfl
      refine ⟨⟨_, _, .inl (.inl e), hc'⟩, fun v Hy ⟨eH, hv⟩ => ?_⟩
      subst eH
      have hv := hv _ (.inl (.inl e))
      rw [hc'] at hv
      cases hv
      refine ws_cons (w_set 2 (we_f (k_draws A) hr (wa_cons (we_var 1 rfl (wa_nil ⟨c, rfl, fun pd n b hpd => ?_⟩)))) sc_law.nd)
      have fd := WW.Fr.new (ts := tsK K) (m := Nil) (o := K05.Dr n 0 b) hpd
      have ed : upd Hy pd (K05.Dr n 0 b) pd = some (Wo.Dr n 0 b) := upd_same
      have e1 := fd.kp _ _ e (fun z => z) rfl
      have tb1 := fd.tb tbx
      have n9 : p9 ≠ pd := fun z => by rw [z, hpd] at e; cases e
      generalize upd Hy pd (K05.Dr n 0 b) = H4 at fd ed e1 tb1 ⊢
      refine ws_one (w_for (pi_range1 rfl A.n_range WW.pa) (pg_name (i := 3) sc_law.nd rfl (Or.inl rfl)) (by rfl) (wa_cons (we_int (wa_nil ⟨2, rfl, by decide, by decide, ?_⟩))))
      refine for_by 2 (fun j σ Hx => ∃ (o3 : Option V) (n k : Int) (b : Bool), σ = [some (.ref a), some (.int c), some (.ref pd), o3] ∧ Hx p9 = some (.lst ((ns.take 8 ++ [0]).map V.int)) ∧ Tbs (tsK K) Hx ∧ Hx pd = some (Wo.Dr n k b) ∧ 0 ≤ k ∧ k ≤ 2400 * j) ⟨_, n, 0, b, rfl, e1, tb1, ed, by decide, by decide⟩ (fun σ Hx hi => ?_) (fun j σ Hx hj hi => ?_)
      · obtain ⟨o3', n', k', b', rfl, ex, tbx', _⟩ := hi
        exact ⟨Nat.le_refl _, _, _, _, rfl, ex, tbx'⟩
      · obtain ⟨o3', n', k', b', rfl, ex, tbx', edx, k0, k1⟩ := hi
        refine ⟨hj, fun v Hy' ⟨eH, hv⟩ => ?_⟩
        subst eH hv
        refine ws_one (w_if0 (wt_not (wt_val (we_fG (k_right A) hr qa (wa_cons (we_var 2 rfl (wa_nil ⟨pd, n', k', b', rfl, edx, k0, by omega, tbx', fun H5 n5 k5 b5 f5 e5 lo hi5 => ⟨true, rfl, ?_⟩⟩)))))))
        rw [if_neg (by decide)]
        exact ⟨_, n5, k5, b5, rfl, f5.kp _ _ ex n9 rfl, f5.tb tbx', e5, by omega, by omega⟩
end
end K05

set_option Elab.async false
set_option linter.all false
set_option maxRecDepth 100000
set_option maxHeartbeats 0
namespace K05
open PySem PySem.Spec PyProof.Rows L2
def loose0 : List Str := ["NoBook", "WORD_SIGNS", "LONGEST_WORD", "MARK_END", "BARE_ERRANDS", "NUMBERED_ERRANDS", "is_whole", "is_below", "is_spelled", "is_word", "is_mark", "is_way", "is_shared_errand", "is_row_errand", "places", "ties", "check_book", "first_bad_row", "is_row", "is_met", "is_calm", "is_letter", "is_seen", "is_brought", "is_sent", "claim_of", "backs_of", "made_tie", "ties_of", "_law_draws"]
def loose1 : List Str := ["_law_next", "_law_begun", "_law_person", "_law_living", "_law_fresh", "_law_tie", "_law_end", "_law_gone", "_law_seen", "_law_do", "_law_way", "_law_errand", "_law_two", "_law_unseen", "_law_world", "_law_drawn_book", "_law_shifted", "_law_mixed_book", "_law_right"]
def looseL : List Str := loose0 ++ loose1
abbrev R : PySem.W.OpenRow := PySem.W.OpenLaw.row PySem.Challenge.rw_ownwords_k05_places_and_ties
abbrev hk : PySem.W.Hook := He.hookX 6 faL fnL [] tfL exK
def ob (s : PySem.W.SharedT) : He.AlX := He.obsX 6 faL fnL [] tfL exK (HandSHeadRun.getT s)
theorem ob_eq (s : PySem.W.SharedT) : ob s = hk.obs s.abs := He.obsX_eq (HandSHeadRun.getT_eq s)
theorem run (w : World) : HandSHeadRun.RunEq R (PySem.W.view R.prog [53]) hk ob 4000 looseL w := by
  intro os
  kernel_rfl
theorem ex_of {K : PySem.W.Frag} (h : exK K = true) (i : Nat) {b : Bool} (e : ([He.tupB K "BARE_ERRANDS" [.str "walk", .str "list", .str "part"], He.tupB K "NUMBERED_ERRANDS" [.str "leave", .str "look", .str "meet"]] : List Bool)[i]? = some b) : b = true := List.all_eq_true.mp h b (List.mem_of_getElem? e)
theorem facts_of {w : World} {K : PySem.W.Frag} {h base : Heap} {mg : Str → Option Value} (X : K.In base) (G : base.Ns mainGlobals mg) (c : He.SaysX faL fnL [] tfL exK w h K) (TB : ∀ p ∈ tfL, GxR.TabB base mg (He.cT K p).1 (He.cT K p).2) : Facts K mg base :=
  ⟨c.t.d.def_ 0 rfl,
    c.t.d.def_ 1 rfl,
    c.t.d.def_ 2 rfl,
    c.t.d.def_ 3 rfl,
    c.t.d.def_ 4 rfl,
    c.t.d.def_ 5 rfl,
    c.t.d.def_ 6 rfl,
    c.t.d.def_ 7 rfl,
    c.t.d.def_ 8 rfl,
    c.t.d.def_ 9 rfl,
    c.t.d.def_ 10 rfl,
    c.t.d.def_ 11 rfl,
    c.t.d.def_ 12 rfl,
    c.t.d.def_ 13 rfl,
    c.t.d.def_ 14 rfl,
    c.t.d.def_ 15 rfl,
    c.t.d.def_ 16 rfl,
    c.t.d.def_ 17 rfl,
    c.t.d.def_ 18 rfl,
    c.t.d.def_ 19 rfl,
    c.t.d.def_ 20 rfl,
    c.t.d.def_ 21 rfl,
    c.t.d.def_ 22 rfl,
    c.t.d.def_ 23 rfl,
    c.t.d.def_ 24 rfl,
    c.t.d.def_ 25 rfl,
    c.t.d.def_ 26 rfl,
    c.t.d.def_ 27 rfl,
    c.t.d.def_ 28 rfl,
    c.t.d.def_ 29 rfl,
    c.t.d.def_ 30 rfl,
    c.t.d.def_ 31 rfl,
    c.t.d.def_ 32 rfl,
    c.t.d.def_ 33 rfl,
    c.t.d.def_ 34 rfl,
    c.t.d.def_ 35 rfl,
    c.t.d.def_ 36 rfl,
    c.t.d.def_ 37 rfl,
    c.t.d.def_ 38 rfl,
    c.t.d.def_ 39 rfl,
    c.t.d.def_ 40 rfl,
    c.t.d.def_ 41 rfl,
    c.t.d.def_ 42 rfl,
    c.t.d.def_ 43 rfl,
    c.t.d.def_ 44 rfl,
    He.glo_ok X G (c.t.d.fact 0 rfl),
    He.glo_ok X G (c.t.d.fact 1 rfl),
    He.glo_ok X G (c.t.d.fact 2 rfl),
    He.glo_ok X G (c.t.d.fact 3 rfl),
    He.glo_ok X G (c.t.d.fact 4 rfl),
    He.glo_ok X G (c.t.d.fact 5 rfl),
    He.glo_ok X G (c.t.d.fact 6 rfl),
    He.glo_ok X G (c.t.d.fact 7 rfl),
    He.glo_ok X G (c.t.d.fact 8 rfl),
    He.glo_ok X G (c.t.d.fact 9 rfl),
    He.glo_ok X G (c.t.d.fact 10 rfl),
    He.glo_ok X G (c.t.d.fact 11 rfl),
    He.glo_ok X G (c.t.d.fact 12 rfl),
    He.glo_ok X G (c.t.d.fact 13 rfl),
    He.glo_ok X G (c.t.d.fact 14 rfl),
    He.glo_ok X G (c.t.d.fact 15 rfl),
    He.glo_ok X G (c.t.d.fact 16 rfl),
    He.glo_ok X G (c.t.d.fact 17 rfl),
    He.glo_ok X G (c.t.d.fact 18 rfl),
    He.glo_ok X G (c.t.d.fact 19 rfl),
    He.glo_ok X G (c.t.d.fact 20 rfl),
    He.glo_ok X G (c.t.d.fact 21 rfl),
    He.glo_ok X G (c.t.d.fact 22 rfl),
    He.glo_ok X G (c.t.d.fact 23 rfl),
    He.glo_ok X G (c.t.d.fact 24 rfl),
    He.glo_ok X G (c.t.d.fact 25 rfl),
    He.glo_ok X G (c.t.d.fact 26 rfl),
    He.glo_ok X G (c.t.d.fact 27 rfl),
    He.glo_ok X G (c.t.d.fact 28 rfl),
    He.glo_ok X G (c.t.d.fact 29 rfl),
    He.glo_ok X G (c.t.d.fact 30 rfl),
    He.glo_ok X G (c.t.d.fact 31 rfl),
    He.glo_ok X G (c.t.d.fact 32 rfl),
    He.glo_ok X G (c.t.d.fact 33 rfl),
    He.glo_ok X G (c.t.d.fact 34 rfl),
    He.glo_ok X G (c.t.d.fact 35 rfl),
    He.glo_ok X G (c.t.d.fact 36 rfl),
    He.glo_ok X G (c.t.d.fact 37 rfl),
    He.glo_ok X G (c.t.d.fact 38 rfl),
    He.glo_ok X G (c.t.d.fact 39 rfl),
    He.glo_ok X G (c.t.d.fact 40 rfl),
    He.glo_ok X G (c.t.d.fact 41 rfl),
    He.glo_ok X G (c.t.d.fact 42 rfl),
    He.glo_ok X G (c.t.d.fact 43 rfl),
    He.free_ok X G (c.t.d.fact 44 rfl),
    He.free_ok X G (c.t.d.fact 45 rfl),
    He.free_ok X G (c.t.d.fact 46 rfl),
    He.free_ok X G (c.t.d.fact 47 rfl),
    He.free_ok X G (c.t.d.fact 48 rfl),
    He.free_ok X G (c.t.d.fact 49 rfl),
    He.free_ok X G (c.t.d.fact 50 rfl),
    He.free_ok X G (c.t.d.fact 51 rfl),
    He.free_ok X G (c.t.d.fact 52 rfl),
    He.free_ok X G (c.t.d.fact 53 rfl),
    He.free_ok X G (c.t.d.fact 54 rfl),
    He.free_ok X G (c.t.d.fact 55 rfl),
    He.free_ok X G (c.t.d.fact 56 rfl),
    He.free_ok X G (c.t.d.fact 57 rfl),
    He.free_ok X G (c.t.d.fact 58 rfl),
    He.str_ok X G (c.t.d.fact 59 rfl),
    He.int_ok X G (c.t.d.fact 60 rfl),
    He.int_ok X G (c.t.d.fact 61 rfl),
    He.glo_ok X G (c.t.d.fact 62 rfl),
    fun H => He.tupB_ok (x := "BARE_ERRANDS") (vs := [.str "walk", .str "list", .str "part"]) (ex_of c.more 0 rfl) H,
    He.glo_ok X G (c.t.d.fact 63 rfl),
    fun H => He.tupB_ok (x := "NUMBERED_ERRANDS") (vs := [.str "leave", .str "look", .str "meet"]) (ex_of c.more 1 rfl) H,
    TB ("is_spelled", none) (by decide),
    TB ("is_way", none) (by decide)⟩
end K05

set_option Elab.async false
set_option linter.all false
set_option maxRecDepth 100000
set_option maxHeartbeats 0
namespace K05
open PySem PySem.Spec PyProof.Rows L2 WW
theorem law_of {P : Program} {w : World} {K : PySem.W.Frag} {h : Heap} {mg : Str → Option Value} {f : Addr} (X : K.In h) (G : h.Ns mainGlobals mg) (hfa : mg ("law" : Str) = some (.ref f)) (c : He.SaysX faL fnL [] tfL exK w h K) :
    ∃ fd : FuncData, (∀ (s : Shared) (v : Value), BindsTo s fd ⟨[v], []⟩ [("script", v)]) ∧ ∀ base : Heap, K.In base → base.Ns mainGlobals mg → (∀ p ∈ tfL.map (He.cT K), GxR.TabB base mg p.1 p.2) → WG.FnG P w K mg base 17 f fd ["script"] (spLaw (tsK K) K) := by
  obtain ⟨fd, F⟩ := c.t.d.def_ 44 (d := d_law) rfl
  have b := FunD.bindsA (ps := ["script"]) F fun _ _ _ _ _ _ us hl => match us, hl with | [_], _ => rfl
  refine ⟨fd, fun s v => b s [v] rfl, fun base KB GB TB => ?_⟩
  have A : Facts K mg base := facts_of KB GB c fun p hp => TB _ (List.mem_map.mpr ⟨p, hp, rfl⟩)
  have hg := A.g_law
  rw [hfa] at hg
  obtain ⟨fd2, G2, _, oc, od, osl, lk⟩ := (k_law (P := P) (w := w) A).ok
  have ef : f = He.ga K "law" := by
    injection hg with z
    injection z
  obtain ⟨oc1, od1, dV, kV, doc, pm, an, cdv, ct, osl1, hfd, lk1, _⟩ := F.ex
  have ef2 : He.fAd K d_law.at_ = He.ga K "law" := rfl
  rw [ef2, lk] at lk1
  have e2 : fd2 = fd := by
    injection lk1 with z
    injection z with _ _ z
    injection z
  rw [ef, ← e2]
  exact G2
end K05
open PySem PySem.W PySem.Calls PyProof.Rows
theorem PySem.Challenge.cw_ownwords_k05_places_and_ties_holds : PySem.Challenge.rw_ownwords_k05_places_and_ties.Holds := by
  w_on; o_law
  refine HandSHeadRun.head_any (r := OpenLaw.row PySem.Challenge.rw_ownwords_k05_places_and_ties) (q := view (OpenLaw.row PySem.Challenge.rw_ownwords_k05_places_and_ties).prog [53]) (H := K05.hk) (ob := K05.ob) (M := 4000) (loose := K05.looseL) (d := HandSHeadRun.topDef (OpenLaw.row PySem.Challenge.rw_ownwords_k05_places_and_ties).prog 53) (kwd := []) K05.ob_eq
    (by kernel_rfl) (fun s => by kernel_rfl) K05.run (by kernel_rfl) (by kernel_rfl) (by kernel_rfl) (by rfl) (by first | assumption | decide +kernel) (by decide +kernel) ⟨rfl, rfl, rfl, rfl, rfl, by decide +kernel⟩ ?hw ?hc
  case hw => w_witness2
  case hc =>
    refine WG.walk_quiet (l := PySem.Challenge.rw_ownwords_k05_places_and_ties) (n := 63) (k := 17) (x := "script") rfl (by decide) (by kernel_rfl) ⟨rfl, by decide, by decide⟩ ?F
    intro w mg fa h Y G hmg0
    obtain ⟨K, KX, c⟩ := Y
    have hmg : mg ("law" : PySem.Str) = some (.ref fa) := by
      have e : (HandSHeadRun.topDef (OpenLaw.row PySem.Challenge.rw_ownwords_k05_places_and_ties).prog 53).name = ("law" : PySem.Str) := by kernel_rfl
      rw [← e]
      exact hmg0
    obtain ⟨fd, hb, hF⟩ := K05.law_of (P := (PySem.Challenge.rw_ownwords_k05_places_and_ties).prog) (w := w) KX G hmg c
    refine ⟨K, fd, K05.tfL.map (He.cT K), K05.spLaw (K05.tsK K) K, KX, ?_, ?_, ?_, hb, ?_, hF⟩
    · intro p hp
      obtain ⟨q, hq, rfl⟩ := List.mem_map.mp hp
      exact c.empty q hq
    · intro p hp
      obtain ⟨q, hq, rfl⟩ := List.mem_map.mp hp
      exact c.out q hq
    · intro p hp
      obtain ⟨q, hq, rfl⟩ := List.mem_map.mp hp
      exact PySem.W.codeHd_of_K KX (c.hd q hq)
    · intro H a ns hl _ ht hS
      refine ⟨a, ns, rfl, hS, hl, fun p hp => ?_, fun _ => rfl⟩
      obtain ⟨q, hq, rfl⟩ := List.mem_map.mp hp
      exact ⟨#[], ht _ (List.mem_map.mpr ⟨q, hq, rfl⟩), by first | trivial | decide | simp⟩
