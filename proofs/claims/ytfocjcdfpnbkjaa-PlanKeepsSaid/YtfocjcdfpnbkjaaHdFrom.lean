/- From, Get. -/
import Derived.Test.YtfocjcdfpnbkjaaHdOwn
set_option linter.unusedVariables false
set_option maxRecDepth 100000
set_option linter.unusedSimpArgs false
namespace Go.Proofs.Ytfocjcdfpnbkjaa
open Go.RowKit Go.Sort

theorem step_min2 {P : Program} {ops : Array Oper} {rest : List Oper} {o : Oper} {A : Act} {w : World} {Q : Exit → Act → World → Prop} (hgd : o.guard = none) (x y : Operand) (t u : TypeId) (ho : o.op = .call { callee := .builtin .min, args := #[x, y], argTypes := #[t, u] })
    (k : IntKind) (a b z : Int) (hx : A.eval x = .int k a) (hy : A.eval y = .int k b) (hz : (if b < a then b else a) = z) (h : wpList P ops Q rest (A.put o.dst (.int k z)) w) : wpList P ops Q (o :: rest) A w :=
  wpList_plain hgd fun _ hK => by
    unfold Oper.wp execOp
    have hr := run_min_int2 (P := P) (w := w) #[t, u] o.type k k a b
    simp only [ho, resolve, invoke, builtin, Sem.run_bind, Sem.run_pure, Result.andThen_ok, List.map_toArray, List.map_cons, List.map_nil, hx, hy, hr, hz]
    exact hK _ _ h
theorem step_max2 {P : Program} {ops : Array Oper} {rest : List Oper} {o : Oper} {A : Act} {w : World} {Q : Exit → Act → World → Prop} (hgd : o.guard = none) (x y : Operand) (t u : TypeId) (ho : o.op = .call { callee := .builtin .max, args := #[x, y], argTypes := #[t, u] })
    (k : IntKind) (a b z : Int) (hx : A.eval x = .int k a) (hy : A.eval y = .int k b) (hz : (if b > a then b else a) = z) (h : wpList P ops Q rest (A.put o.dst (.int k z)) w) : wpList P ops Q (o :: rest) A w :=
  wpList_plain hgd fun _ hK => by
    unfold Oper.wp execOp
    have hr := run_max_int2 (P := P) (w := w) #[t, u] o.type k k a b
    simp only [ho, resolve, invoke, builtin, Sem.run_bind, Sem.run_pure, Result.andThen_ok, List.map_toArray, List.map_cons, List.map_nil, hx, hy, hr, hz]
    exact hK _ _ h

/-- Without its first m. -/
def Sl.from_ (s : Sl) (m : Nat) : Sl := ⟨if s.c = m then s.a else s.a.map (·.add (m * 6)), s.n - m, s.c - m⟩
/-- Its first m. -/
def Sl.to_ (s : Sl) (m : Nat) : Sl := ⟨s.a, m, s.c⟩
theorem SlotAt.from_ {w : World} {s : Sl} {X : List Mg} (h : SlotAt w s X) (m : Nat) (hm : m ≤ s.n) : SlotAt w (s.from_ m) (X.drop m) := by
  have hle := h.le
  have hln := h.len
  rcases h with ⟨rfl, rfl⟩ | ⟨b, off, e, h⟩
  · have : m = 0 := by simp [slNil] at hm; exact hm
    subst this
    exact .inl ⟨rfl, rfl⟩
  · obtain ⟨sa, sn, sc⟩ := s
    simp only at e h hm hle hln ⊢
    subst e
    by_cases hc : sc = m
    · refine .inr ⟨b, off, by unfold Sl.from_; rw [if_pos hc], ?_⟩
      have e1 : X.drop m = [] := List.drop_eq_nil_of_le (by omega)
      have e2 : sn - m = 0 := by omega
      have e3 : sc - m = 0 := by omega
      show MRow w b off (sn - m) (sc - m) _
      rw [e1, e2, e3]
      exact h.none
    · refine .inr ⟨b, off + m * 6, by unfold Sl.from_; rw [if_neg hc]; simp only [Option.map_some]; rw [add_lit10], ?_⟩
      exact h.drop m hm
theorem SlotAt.to_ {w : World} {s : Sl} {X : List Mg} (h : SlotAt w s X) (m : Nat) (hm : m ≤ s.n) : SlotAt w (s.to_ m) (X.take m) := by
  rcases h with ⟨rfl, rfl⟩ | ⟨b, off, e, h⟩
  · have : m = 0 := by simp [slNil] at hm; exact hm
    subst this
    exact .inl ⟨rfl, rfl⟩
  · exact .inr ⟨b, off, e, h.take m hm⟩
theorem from_block {s : Sl} {m : Nat} {x : Addr} (h : (s.from_ m).a = some x) : ∃ y, s.a = some y ∧ y.block = x.block := by
  unfold Sl.from_ at h
  simp only at h
  split at h
  · exact ⟨x, h, rfl⟩
  · cases hs : s.a with
    | none => rw [hs] at h; cases h
    | some y =>
      rw [hs] at h
      simp only [Option.map_some, Option.some.injEq] at h
      refine ⟨y, rfl, ?_⟩
      rw [← h]
      obtain ⟨b, o, sp⟩ := y
      unfold Addr.add
      split <;> rfl
theorem step_from {ops : Array Oper} {rest : List Oper} {o : Oper} {A : Act} {w : World} {Q : Exit → Act → World → Prop} (hgd : o.guard = none) (x y : Operand) (ho : o.op = .slice 29 x (some y) none none)
    (s : Sl) (m : Nat) (k : IntKind) (hx : A.eval x = .slice s.a s.n s.c) (hy : A.eval y = .int k (m : Int)) (hm : m ≤ s.n) (h : wpList Try.prog ops Q rest (A.put o.dst (.slice (s.from_ m).a (s.from_ m).n (s.from_ m).c)) w) : wpList Try.prog ops Q (o :: rest) A w :=
  wpList_plain hgd fun _ hK => by
    unfold Oper.wp execOp
    have ht := Try.underlying29
    have h6 : (sizeOf (Try.prog.elem 29)).run Try.prog w = .ok 6 w := by kernel_rfl
    have hr := run_slice_l (P := Try.prog) w 29 s.a s.n s.c ht k (m : Int) (by omega) (by omega)
    rw [h6] at hr
    simp only [Result.andThen_ok, Int.toNat_natCast] at hr
    simp only [ho, Option.map_some, Option.map_none, hx, hy, run_sliceAt_slice _ _ _ _ _ _ ht, hr, Sem.run_bind, Sem.run_pure, Result.andThen_ok, sliced]
    exact hK _ _ h
theorem step_to {ops : Array Oper} {rest : List Oper} {o : Oper} {A : Act} {w : World} {Q : Exit → Act → World → Prop} (hgd : o.guard = none) (x y : Operand) (ho : o.op = .slice 29 x none (some y) none)
    (s : Sl) (X : List Mg) (hs : SlotAt w s X) (m : Nat) (k : IntKind) (hx : A.eval x = .slice s.a s.n s.c) (hy : A.eval y = .int k (m : Int)) (hm : m ≤ s.n) (h : wpList Try.prog ops Q rest (A.put o.dst (.slice (s.to_ m).a (s.to_ m).n (s.to_ m).c)) w) : wpList Try.prog ops Q (o :: rest) A w :=
  wpList_plain hgd fun _ hK => by
    unfold Oper.wp execOp
    have ht := Try.underlying29
    have hle := hs.le
    have h6 : (sizeOf (Try.prog.elem 29)).run Try.prog w = .ok 6 w := by kernel_rfl
    have hr := run_slice_h (P := Try.prog) w 29 s.a s.n s.c ht k (m : Int) (by omega) (by omega)
    rw [h6] at hr
    simp only [Result.andThen_ok, Int.toNat_natCast] at hr
    have ha : (if s.c = 0 then s.a else s.a.map (·.add (0 * 6))) = s.a := by
      split
      · rfl
      · rcases hs with ⟨rfl, _⟩ | ⟨b, off, e, _⟩
        · rfl
        · rw [e]; simp only [Option.map_some]; rw [add_lit10]; rfl
    have hv : sliced s.a 0 m s.c 6 = .slice (s.to_ m).a (s.to_ m).n (s.to_ m).c := by
      unfold sliced
      rw [ha]
      rfl
    rw [hv] at hr
    simp only [ho, Option.map_some, Option.map_none, hx, hy, run_sliceAt_slice _ _ _ _ _ _ ht, hr, Sem.run_bind, Sem.run_pure, Result.andThen_ok]
    exact hK _ _ h

/-- What 'From' answers: of a row whose first number is lo + 1. -/
def fromX (lo : Nat) (L : List Mg) (seq : Nat) (most : Int) : List Mg := (L.drop (seq - lo - 1)).take most.toNat
/-- A row that is handed out, of messages like those of L. -/
def Hands (w : World) (L : List Mg) (e : Ending) (w' : World) : Prop := ∃ s X, e = .returned (.slice s.a s.n s.c) ∧ OutR w' w.heap.size s X ∧ X.map strip = L.map strip ∧ Below w.heap.size w w'
set_option maxHeartbeats 4000000 in
theorem hfrom_core (g : Nat) (p : Int) (s : Sl) (lo : Nat) (L : List Mg) (w : World) (hs : SlotAt w s L) (hd : ∀ x ∈ L, DpIn w x ∧ x.dl ≤ 1048576) (hn : s.n ≤ 1000)
    (P1 : Calls Try.prog 141 #[.pointer (some ⟨g, 0, none⟩), .int .i64 p] w fun e w' => e = .returned (.slice s.a s.n s.c) ∧ w = w')
    (P2 : Calls Try.prog 140 #[.pointer (some ⟨g, 0, none⟩), .int .i64 p] w fun e w' => e = .returned (.int .u32 (lo : Int)) ∧ w = w')
    (seq : Nat) (hq : seq < 4294967296) (most : Int) (m0 : -9223372036854775808 ≤ most) (m1 : most ≤ 9223372036854775807) :
    Calls Try.prog 132 #[.pointer (some ⟨g, 0, none⟩), .int .i64 p, .int .u32 (seq : Int), .int .i64 most] w (Hands w (fromX lo L seq most)) := by
  have hL := hs.len
  obtain ⟨mx, hmx⟩ : ∃ mx : Nat, mx = most.toNat := ⟨_, rfl⟩
  have hmx1 : (if (0 : Int) > most then 0 else most) = (mx : Int) := by rw [hmx]; split <;> omega
  by_cases hlt : lo < seq
  · obtain ⟨d, hd1⟩ : ∃ d : Nat, d = seq - lo - 1 := ⟨_, rfl⟩
    obtain ⟨m, hm⟩ : ∃ m : Nat, m = min d s.n := ⟨_, rfl⟩
    have hmin : (if (s.n : Int) < ((seq : Int) - (lo : Int) - 1) then (s.n : Int) else ((seq : Int) - (lo : Int) - 1)) = (m : Int) := by rw [hm]; split <;> omega
    have hms : m ≤ s.n := by omega
    obtain ⟨t, ht⟩ : ∃ t : Nat, t = min mx (s.n - m) := ⟨_, rfl⟩
    have hmin2 : (if ((s.from_ m).n : Int) < (mx : Int) then ((s.from_ m).n : Int) else (mx : Int)) = (t : Int) := by
      rw [ht]; show (if (((s.n - m : Nat)) : Int) < (mx : Int) then ((s.n - m : Nat) : Int) else (mx : Int)) = _
      split <;> omega
    have S1 := hs.from_ m hms
    have hts : t ≤ (s.from_ m).n := by show t ≤ s.n - m; omega
    have S2 := S1.to_ t hts
    have hr : fromX lo L seq most = (L.drop m).take t := by
      unfold fromX
      rw [← hmx, ← hd1]
      rcases Nat.le_total d s.n with h1 | h1
      · have : m = d := by omega
        subst this
        rcases Nat.le_total mx (s.n - m) with h2 | h2
        · rw [show t = mx by omega]
        · rw [show t = s.n - m by omega, List.take_of_length_le (by rw [List.length_drop]; omega), List.take_of_length_le (by rw [List.length_drop]; omega)]
      · rw [List.drop_eq_nil_of_le (by omega), show m = s.n by omega, List.drop_eq_nil_of_le (by omega)]
        simp
    rw [hr]
    have P3 := hown_any ((s.from_ m).to_ t) ((L.drop m).take t) w S2.lst (S2.cap0) (fun x hx => hd x (List.mem_of_mem_drop (List.mem_of_mem_take hx))) (by show t ≤ 100000; omega)
    have HD : Hid ((d : Int) = (seq : Int) - (lo : Int) - 1) := Lib.hid (by omega)
    have HS1 := Lib.hid S1
    have HM1 := Lib.hid hmx1
    have HM2 := Lib.hid hmin
    have HM3 := Lib.hid hmin2
    have HMS := Lib.hid hms
    have HTS := Lib.hid hts
    have hz : (lo : Int) < (seq : Int) := by omega
    have hz2 : 0 ≤ (seq : Int) - (lo : Int) - 1 := by omega
    clear hs hd hmx hmx1 hd1 hm hmin ht hmin2 S1 S2 hr hL hms hts hlt
    obtain ⟨s1, hs1⟩ : ∃ s1, s1 = s.from_ m := ⟨_, rfl⟩
    rw [← hs1] at P3 HM3 HS1 HTS
    have HS0 := Lib.hid hs1
    obtain ⟨s2, hs2⟩ : ∃ s2, s2 = s1.to_ t := ⟨_, rfl⟩
    rw [← hs2] at P3
    have HS2 := Lib.hid hs2
    clear hs1 hs2
    go_enter Try.func132, Try.ntmps132
    go_wp2_with (first | (go_at_call 140; refine P2.mono ?_; rintro e w' ⟨rfl, rfl⟩) | (go_at_call 141; refine P1.mono ?_; rintro e w' ⟨rfl, rfl⟩) | (first | (refine step_min2 rfl (.tmp 25) (.tmp 28) _ _ rfl .u64 _ _ (m : Int) rfl rfl HM2.out ?_) | (refine step_max2 rfl (.tmp 32) _ _ _ rfl .i64 _ _ (mx : Int) rfl rfl HM1.out ?_) | (refine step_min2 rfl (.tmp 33) (.tmp 35) _ _ rfl .i64 _ _ (t : Int) rfl rfl HM3.out ?_)) | (refine step_from rfl (.tmp 20) (.tmp 29) rfl s m .u64 rfl rfl HMS.out ?_; rw [← HS0.out]) | (refine step_to rfl (.tmp 31) (.tmp 36) rfl s1 _ HS1.out t .i64 rfl rfl HTS.out ?_; rw [← HS2.out]))
    refine P3.mono ?_
    rintro e w1 ⟨s', X, rfl, h1, h2, h3, h4⟩
    have FIN := Lib.hid (And.intro h1 (And.intro h2 h3))
    clear P1 P2 P3 h1 h2 h3 h4
    go_wp2_with fail
    go_ret
    exact ⟨s', X, rfl, FIN.out.1, FIN.out.2.1, FIN.out.2.2⟩
  · obtain ⟨t, ht⟩ : ∃ t : Nat, t = min mx s.n := ⟨_, rfl⟩
    have hmin2 : (if (s.n : Int) < (mx : Int) then (s.n : Int) else (mx : Int)) = (t : Int) := by rw [ht]; split <;> omega
    have hts : t ≤ s.n := by omega
    have S2 := hs.to_ t hts
    have hr : fromX lo L seq most = L.take t := by
      unfold fromX
      rw [← hmx, show seq - lo - 1 = 0 by omega, List.drop_zero]
      rcases Nat.le_total mx s.n with h2 | h2
      · rw [show t = mx by omega]
      · rw [show t = s.n by omega, List.take_of_length_le (by omega), List.take_of_length_le (by omega)]
    rw [hr]
    have P3 := hown_any (s.to_ t) (L.take t) w S2.lst (S2.cap0) (fun x hx => hd x (List.mem_of_mem_take hx)) (by show t ≤ 100000; omega)
    have HS1 := Lib.hid hs
    have HM1 := Lib.hid hmx1
    have HM3 := Lib.hid hmin2
    have HTS := Lib.hid hts
    have hz : ¬ ((lo : Int) < (seq : Int)) := by omega
    clear hs hd hmx hmx1 ht hmin2 S2 hr hL hts hlt
    obtain ⟨s2, hs2⟩ : ∃ s2, s2 = s.to_ t := ⟨_, rfl⟩
    rw [← hs2] at P3
    have HS2 := Lib.hid hs2
    clear hs2
    go_enter Try.func132, Try.ntmps132
    go_wp2_with (first | (go_at_call 140; refine P2.mono ?_; rintro e w' ⟨rfl, rfl⟩) | (go_at_call 141; refine P1.mono ?_; rintro e w' ⟨rfl, rfl⟩) | (first | (refine step_max2 rfl (.tmp 32) _ _ _ rfl .i64 _ _ (mx : Int) rfl rfl HM1.out ?_) | (refine step_min2 rfl (.tmp 33) (.tmp 35) _ _ rfl .i64 _ _ (t : Int) rfl rfl HM3.out ?_)) | (refine step_to rfl (.tmp 31) (.tmp 36) rfl s _ HS1.out t .i64 rfl rfl HTS.out ?_; rw [← HS2.out]))
    refine P3.mono ?_
    rintro e w1 ⟨s', X, rfl, h1, h2, h3, h4⟩
    have FIN := Lib.hid (And.intro h1 (And.intro h2 h3))
    clear P1 P2 P3 h1 h2 h3 h4
    go_wp2_with fail
    go_ret
    exact ⟨s', X, rfl, FIN.out.1, FIN.out.2.1, FIN.out.2.2⟩
section
variable {w : World} {F : Nat → Prop} {g N : Nat} {lo : Nat → Nat} {sl : Nat → Sl} {X : Nat → List Mg}
theorem hfrom (h : HAt w F g N lo sl X) (hN : N ≤ 1000) (p : Int) (seq : Nat) (hq : seq < 4294967296) (most : Int) (m0 : -9223372036854775808 ≤ most) (m1 : most ≤ 9223372036854775807) :
    Calls Try.prog 132 #[.pointer (some ⟨g, 0, none⟩), .int .i64 p, .int .u32 (seq : Int), .int .i64 most] w (Hands w (fromX (onP 0 lo p) (onP [] X p) seq most)) := by
  rcases proc_cases p with ⟨k, rfl, hk⟩ | hp
  · rw [onP_yes _ _ _ hk, onP_yes _ _ _ hk]
    have := h.bnd k hk
    have := h.len k hk
    exact hfrom_core g k (sl k) (lo k) (X k) w (h.slot k hk) (fun x hx => ⟨(h.deps k hk x hx).deps, (h.deps k hk x hx).few⟩) (by omega) (hof_yes h k hk) (hlow_yes h k hk) seq hq most m0 m1
  · rw [onP_no _ _ _ hp, onP_no _ _ _ hp]
    exact hfrom_core g p slNil 0 [] w (SlotAt.nil w) (fun x hx => by simp at hx) (by decide) (hof_no g p hp w) (hlow_no g p hp w) seq hq most m0 m1
end
theorem results_mg2 {fn : Func} {p u : Tmp} (h : fn.results = #[.cell p 47, .tmp u]) (tmps : Array Value) (w : World) (g : Nat) {m : Mg}
    (hp : tmps.getD p undef = .pointer (some ⟨g, 0, none⟩)) (hg : MgB w g m) :
    (results fn tmps).run Try.prog w = .ok (.tuple #[valG m, tmps.getD u undef]) w := by
  rw [results_cell_tmp h, hp]
  have hl := run_loadVar_row (P := Try.prog) w g 47 47 (encG m).toArray (0, 0) _ hg Try.underlying47 rfl msg_size
  simp [asAddr, hl, Result.andThen]
  rfl
/-- What 'Get' finds. -/
def getX (lo : Nat) (L : List Mg) (seq : Nat) : Option Mg := if lo < seq then L[seq - lo - 1]? else none
/-- What 'Get' answers. -/
inductive GetSaid (w : World) : Option Mg → Ending → World → Prop
  | no (w' : World) (h : Below w.heap.size w w') : GetSaid w none (.returned (.tuple #[valG zeroG, .bool false])) w'
  | yes (m x : Mg) (w' : World) (h1 : strip x = strip m) (h2 : DpT w' (fun k => w.heap.size ≤ k) x) (h3 : Below w.heap.size w w') : GetSaid w (some m) (.returned (.tuple #[valG x, .bool true])) w'
section
variable {w : World} {F : Nat → Prop} {g N : Nat} {lo : Nat → Nat} {sl : Nat → Sl} {X : Nat → List Mg}
end
end Go.Proofs.Ytfocjcdfpnbkjaa
