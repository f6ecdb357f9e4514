/- From, Get. -/
import Derived.Test.YthgdiihibjnhoaaHdOwn
set_option linter.unusedVariables false
set_option maxRecDepth 100000
set_option linter.unusedSimpArgs false
namespace Go.Proofs.Ythgdiihibjnhoaa
open Go.RowKit Go.Sort

theorem step_min2 {P : Program} {ops : Array Oper} {rest : List Oper} {o : Oper} {A : Act} {w : World} {Q : Exit → Act → World → Prop} (hgd : o.guard = none) (x y : Operand) (t u : TypeId) (ho : o.op = .call { callee := .builtin .min, args := #[x, y], argTypes := #[t, u] })
    (k : IntKind) (a b z : Int) (hx : A.eval x = .int k a) (hy : A.eval y = .int k b) (hz : (if b < a then b else a) = z) (h : wpList P ops Q rest (A.put o.dst (.int k z)) w) : wpList P ops Q (o :: rest) A w :=
  wpList_plain hgd fun _ hK => by
    unfold Oper.wp execOp
    have hr := run_min_int2 (P := P) (w := w) #[t, u] o.type k k a b
    simp only [ho, resolve, invoke, builtin, Sem.run_bind, Sem.run_pure, Result.andThen_ok, List.map_toArray, List.map_cons, List.map_nil, hx, hy, hr, hz]
    exact hK _ _ h
theorem step_max2 {P : Program} {ops : Array Oper} {rest : List Oper} {o : Oper} {A : Act} {w : World} {Q : Exit → Act → World → Prop} (hgd : o.guard = none) (x y : Operand) (t u : TypeId) (ho : o.op = .call { callee := .builtin .max, args := #[x, y], argTypes := #[t, u] })
    (k : IntKind) (a b z : Int) (hx : A.eval x = .int k a) (hy : A.eval y = .int k b) (hz : (if b > a then b else a) = z) (h : wpList P ops Q rest (A.put o.dst (.int k z)) w) : wpList P ops Q (o :: rest) A w :=
  wpList_plain hgd fun _ hK => by
    unfold Oper.wp execOp
    have hr := run_max_int2 (P := P) (w := w) #[t, u] o.type k k a b
    simp only [ho, resolve, invoke, builtin, Sem.run_bind, Sem.run_pure, Result.andThen_ok, List.map_toArray, List.map_cons, List.map_nil, hx, hy, hr, hz]
    exact hK _ _ h

/-- Without its first m. -/
def Sl.from_ (s : Sl) (m : Nat) : Sl := ⟨if s.c = m then s.a else s.a.map (·.add (m * 6)), s.n - m, s.c - m⟩
/-- Its first m. -/
def Sl.to_ (s : Sl) (m : Nat) : Sl := ⟨s.a, m, s.c⟩
theorem SlotAt.from_ {w : World} {s : Sl} {X : List Mg} (h : SlotAt w s X) (m : Nat) (hm : m ≤ s.n) : SlotAt w (s.from_ m) (X.drop m) := by
  have hle := h.le
  have hln := h.len
  rcases h with ⟨rfl, rfl⟩ | ⟨b, off, e, h⟩
  · have : m = 0 := by simp [slNil] at hm; exact hm
    subst this
    exact .inl ⟨rfl, rfl⟩
  · obtain ⟨sa, sn, sc⟩ := s
    simp only at e h hm hle hln ⊢
    subst e
    by_cases hc : sc = m
    · refine .inr ⟨b, off, by unfold Sl.from_; rw [if_pos hc], ?_⟩
      have e1 : X.drop m = [] := List.drop_eq_nil_of_le (by omega)
      have e2 : sn - m = 0 := by omega
      have e3 : sc - m = 0 := by omega
      show MRow w b off (sn - m) (sc - m) _
      rw [e1, e2, e3]
      exact h.none
    · refine .inr ⟨b, off + m * 6, by unfold Sl.from_; rw [if_neg hc]; simp only [Option.map_some]; rw [add_lit10], ?_⟩
      exact h.drop m hm
theorem SlotAt.to_ {w : World} {s : Sl} {X : List Mg} (h : SlotAt w s X) (m : Nat) (hm : m ≤ s.n) : SlotAt w (s.to_ m) (X.take m) := by
  rcases h with ⟨rfl, rfl⟩ | ⟨b, off, e, h⟩
  · have : m = 0 := by simp [slNil] at hm; exact hm
    subst this
    exact .inl ⟨rfl, rfl⟩
  · exact .inr ⟨b, off, e, h.take m hm⟩
theorem from_block {s : Sl} {m : Nat} {x : Addr} (h : (s.from_ m).a = some x) : ∃ y, s.a = some y ∧ y.block = x.block := by
  unfold Sl.from_ at h
  simp only at h
  split at h
  · exact ⟨x, h, rfl⟩
  · cases hs : s.a with
    | none => rw [hs] at h; cases h
    | some y =>
      rw [hs] at h
      simp only [Option.map_some, Option.some.injEq] at h
      refine ⟨y, rfl, ?_⟩
      rw [← h]
      obtain ⟨b, o, sp⟩ := y
      unfold Addr.add
      split <;> rfl
theorem step_from {ops : Array Oper} {rest : List Oper} {o : Oper} {A : Act} {w : World} {Q : Exit → Act → World → Prop} (hgd : o.guard = none) (x y : Operand) (ho : o.op = .slice 25 x (some y) none none)
    (s : Sl) (m : Nat) (k : IntKind) (hx : A.eval x = .slice s.a s.n s.c) (hy : A.eval y = .int k (m : Int)) (hm : m ≤ s.n) (h : wpList Try.prog ops Q rest (A.put o.dst (.slice (s.from_ m).a (s.from_ m).n (s.from_ m).c)) w) : wpList Try.prog ops Q (o :: rest) A w :=
  wpList_plain hgd fun _ hK => by
    unfold Oper.wp execOp
    have ht := Try.underlying25
    have h6 : (sizeOf (Try.prog.elem 25)).run Try.prog w = .ok 6 w := by kernel_rfl
    have hr := run_slice_l (P := Try.prog) w 25 s.a s.n s.c ht k (m : Int) (by omega) (by omega)
    rw [h6] at hr
    simp only [Result.andThen_ok, Int.toNat_natCast] at hr
    simp only [ho, Option.map_some, Option.map_none, hx, hy, run_sliceAt_slice _ _ _ _ _ _ ht, hr, Sem.run_bind, Sem.run_pure, Result.andThen_ok, sliced]
    exact hK _ _ h
theorem step_to {ops : Array Oper} {rest : List Oper} {o : Oper} {A : Act} {w : World} {Q : Exit → Act → World → Prop} (hgd : o.guard = none) (x y : Operand) (ho : o.op = .slice 25 x none (some y) none)
    (s : Sl) (X : List Mg) (hs : SlotAt w s X) (m : Nat) (k : IntKind) (hx : A.eval x = .slice s.a s.n s.c) (hy : A.eval y = .int k (m : Int)) (hm : m ≤ s.n) (h : wpList Try.prog ops Q rest (A.put o.dst (.slice (s.to_ m).a (s.to_ m).n (s.to_ m).c)) w) : wpList Try.prog ops Q (o :: rest) A w :=
  wpList_plain hgd fun _ hK => by
    unfold Oper.wp execOp
    have ht := Try.underlying25
    have hle := hs.le
    have h6 : (sizeOf (Try.prog.elem 25)).run Try.prog w = .ok 6 w := by kernel_rfl
    have hr := run_slice_h (P := Try.prog) w 25 s.a s.n s.c ht k (m : Int) (by omega) (by omega)
    rw [h6] at hr
    simp only [Result.andThen_ok, Int.toNat_natCast] at hr
    have ha : (if s.c = 0 then s.a else s.a.map (·.add (0 * 6))) = s.a := by
      split
      · rfl
      · rcases hs with ⟨rfl, _⟩ | ⟨b, off, e, _⟩
        · rfl
        · rw [e]; simp only [Option.map_some]; rw [add_lit10]; rfl
    have hv : sliced s.a 0 m s.c 6 = .slice (s.to_ m).a (s.to_ m).n (s.to_ m).c := by
      unfold sliced
      rw [ha]
      rfl
    rw [hv] at hr
    simp only [ho, Option.map_some, Option.map_none, hx, hy, run_sliceAt_slice _ _ _ _ _ _ ht, hr, Sem.run_bind, Sem.run_pure, Result.andThen_ok]
    exact hK _ _ h

/-- What 'From' answers: of a row whose first number is lo + 1. -/
def fromX (lo : Nat) (L : List Mg) (seq : Nat) (most : Int) : List Mg := (L.drop (seq - lo - 1)).take most.toNat
/-- A row that is handed out, of messages like those of L. -/
def Hands (w : World) (L : List Mg) (e : Ending) (w' : World) : Prop := ∃ s X, e = .returned (.slice s.a s.n s.c) ∧ OutR w' w.heap.size s X ∧ X.map strip = L.map strip ∧ Below w.heap.size w w'
section
variable {w : World} {F : Nat → Prop} {g N : Nat} {lo : Nat → Nat} {sl : Nat → Sl} {X : Nat → List Mg}
end
theorem results_mg2 {fn : Func} {p u : Tmp} (h : fn.results = #[.cell p 35, .tmp u]) (tmps : Array Value) (w : World) (g : Nat) {m : Mg}
    (hp : tmps.getD p undef = .pointer (some ⟨g, 0, none⟩)) (hg : MgB w g m) :
    (results fn tmps).run Try.prog w = .ok (.tuple #[valG m, tmps.getD u undef]) w := by
  rw [results_cell_tmp h, hp]
  have hl := run_loadVar_row (P := Try.prog) w g 35 35 (encG m).toArray (0, 0) _ hg Try.underlying35 rfl msg_size
  simp [asAddr, hl, Result.andThen]
  rfl
/-- What 'Get' finds. -/
def getX (lo : Nat) (L : List Mg) (seq : Nat) : Option Mg := if lo < seq then L[seq - lo - 1]? else none
/-- What 'Get' answers. -/
inductive GetSaid (w : World) : Option Mg → Ending → World → Prop
  | no (w' : World) (h : Below w.heap.size w w') : GetSaid w none (.returned (.tuple #[valG zeroG, .bool false])) w'
  | yes (m x : Mg) (w' : World) (h1 : strip x = strip m) (h2 : DpT w' (fun k => w.heap.size ≤ k) x) (h3 : Below w.heap.size w w') : GetSaid w (some m) (.returned (.tuple #[valG x, .bool true])) w'
section
variable {w : World} {F : Nat → Prop} {g N : Nat} {lo : Nat → Nat} {sl : Nat → Sl} {X : Nat → List Mg}
end
end Go.Proofs.Ythgdiihibjnhoaa
