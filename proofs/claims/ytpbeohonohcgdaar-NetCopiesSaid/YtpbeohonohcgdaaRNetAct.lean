/- One act on a net. -/
import Derived.Test.YtpbeohonohcgdaaRNetAwake
set_option linter.unusedVariables false
set_option linter.unusedSimpArgs false
namespace Go.Proofs.YtpbeohonohcgdaaR
open Go.RowKit Go.Sort

/-- What a call leaves: the net is another one. -/
def Gone (w : World) (g B : Nat) (N : Nt) (ao : Option Addr) (w' : World) : Prop := ∃ ao' cap', NetAt w' g B N ao' cap' ∧ Moved w w' g ao ao'
theorem Gone.same {w w' : World} {g B : Nat} {N : Nt} {ao : Option Addr} {cap : Nat} (h : NetAt w g B N ao cap) (hb : Go.RowKit.Below w.heap.size w w') : Gone w g B N ao w' := ⟨ao, cap, h.below hb, Moved.of_below hb g ao⟩
def SomeI (e : Ending) : Prop := ∃ c : Int, e = .returned (.int .i64 c)
def SomeB (e : Ending) : Prop := ∃ c : Bool, e = .returned (.bool c)

def sendN (N : Nt) (d : Dg) : Nt := if sendC N d = 0 then { N with rows := N.rows ++ [d] } else N
def dropN (N : Nt) (i : Int) : Nt := if hasB N.rows.length i = true then { N with rows := N.rows.eraseIdx i.toNat } else N
def doubleN (N : Nt) (i : Int) : Nt := if (hasB N.rows.length i && !isFull N.rows.length) = true then { N with rows := N.rows ++ [N.rows.getD i.toNat D3] } else N
/-- The place that at stands for, of n. -/
def placeN (at_ : Int) (n : Nat) : Nat := (IntKind.u64.wrap at_).toNat % n
def turnable (d : Dg) (m : Nat) : Bool := !d.torn && decide (0 < d.data.size) && decide (m ≠ 0)
theorem str_pos (s : ByteArray) : 0 < s.size ↔ ¬ s = { data := #[] } := by
  constructor
  · rintro h rfl
    exact absurd h (by decide)
  · intro h
    rcases Nat.eq_zero_or_pos s.size with e | e
    · exact absurd (by obtain ⟨⟨l⟩⟩ := s; have : l = [] := List.length_eq_zero_iff.1 e; subst this; rfl) h
    · exact e
theorem turnable_iff (d : Dg) (m : Nat) : turnable d m = true ↔ d.torn = false ∧ ¬ d.data = { data := #[] } ∧ m ≠ 0 := by
  unfold turnable
  rw [← str_pos]
  simp [and_assoc]
def turnN (N : Nt) (i at_ : Int) (m : Nat) : Nt :=
  if hasB N.rows.length i = true then
    if turnable (N.rows.getD i.toNat D3) m = true then { N with rows := N.rows.set i.toNat (turnD (N.rows.getD i.toNat D3) (placeN at_ (N.rows.getD i.toNat D3).data.size) m) } else N
  else N
theorem hasB_yes {n : Nat} {i : Int} (h : hasB n i = true) : ∃ k : Nat, i = k ∧ k < n := by
  unfold hasB at h
  simp at h
  exact ⟨i.toNat, by omega, by omega⟩
theorem getD_row {l : List Dg} {k : Nat} (h : k < l.length) : l[k]? = some (l.getD k D3) := by
  rw [List.getD_eq_getElem?_getD, List.getElem?_eq_getElem h]; rfl

theorem nsend_any {w : World} {g B : Nat} {N : Nt} {ao : Option Addr} {cap : Nat} (h : NetAt w g B N ao cap) (d : Dg) (hd : d.ok) :
    Calls Try.prog 21 #[.pointer (some ⟨g, 0, none⟩), valD d] w fun e w' => SomeI e ∧ Gone w g B (sendN N d) ao w' := by
  by_cases hs : sendC N d = 0
  · refine (nsend_ok h d hd hs).mono fun e w' ⟨h1, h2⟩ => ⟨⟨_, h1⟩, ?_⟩
    unfold sendN
    rw [if_pos hs]
    exact h2
  · refine (nsend_no h d hd _ rfl hs).mono fun e w' ⟨h1, h2⟩ => ⟨⟨_, h1⟩, ?_⟩
    unfold sendN
    rw [if_neg hs]
    exact Gone.same h h2
theorem ndrop_any {w : World} {g B : Nat} {N : Nt} {ao : Option Addr} {cap : Nat} (h : NetAt w g B N ao cap) (i : Int) (h0 : -9223372036854775808 ≤ i) (h1 : i ≤ 9223372036854775807) :
    Calls Try.prog 25 #[.pointer (some ⟨g, 0, none⟩), .int .i64 i] w fun e w' => SomeB e ∧ Gone w g B (dropN N i) ao w' := by
  cases hi : hasB N.rows.length i
  · refine (ndrop_no h i h0 h1 hi).mono fun e w' ⟨h1, h2⟩ => ⟨⟨_, h1⟩, ?_⟩
    unfold dropN
    rw [hi, if_neg (by decide)]
    subst h2
    exact Gone.same h (Below.refl _ _)
  · obtain ⟨k, rfl, hk⟩ := hasB_yes hi
    refine (ndrop_yes h k hk).mono fun e w' ⟨h1, h2, h3⟩ => ⟨⟨_, h1⟩, ?_⟩
    unfold dropN
    rw [hi, if_pos rfl]
    exact ⟨_, _, h2, h3⟩
/-- What Take answers: whether, and what. -/
def takeV (N : Nt) (i : Int) : Value := if hasB N.rows.length i = true then takenV N (N.rows.getD i.toNat D3) else .tuple #[.agg #[.int .i64 0, .int .i64 0, .string { data := #[] }, .bool false], .bool false]
theorem ntake_any {w : World} {g B : Nat} {N : Nt} {ao : Option Addr} {cap : Nat} (h : NetAt w g B N ao cap) (i : Int) (h0 : -9223372036854775808 ≤ i) (h1 : i ≤ 9223372036854775807) :
    Calls Try.prog 11 #[.pointer (some ⟨g, 0, none⟩), .int .i64 i] w fun e w' => e = .returned (takeV N i) ∧ Gone w g B (dropN N i) ao w' := by
  cases hi : hasB N.rows.length i
  · refine (ntake_no h i h0 h1 hi).mono fun e w' ⟨h1, h2⟩ => ⟨?_, ?_⟩
    · unfold takeV; rw [hi, if_neg (by decide)]; exact h1
    · unfold dropN
      rw [hi, if_neg (by decide)]
      exact Gone.same h h2
  · obtain ⟨k, rfl, hk⟩ := hasB_yes hi
    refine (ntake_yes h k _ (getD_row hk)).mono fun e w' ⟨h1, h2, h3⟩ => ⟨?_, ?_⟩
    · unfold takeV; rw [hi, if_pos rfl]; exact h1
    · unfold dropN
      rw [hi, if_pos rfl]
      exact ⟨_, _, h2, h3⟩
theorem ndouble_any {w : World} {g B : Nat} {N : Nt} {ao : Option Addr} {cap : Nat} (h : NetAt w g B N ao cap) (i : Int) (h0 : -9223372036854775808 ≤ i) (h1 : i ≤ 9223372036854775807) :
    Calls Try.prog 26 #[.pointer (some ⟨g, 0, none⟩), .int .i64 i] w fun e w' => SomeB e ∧ Gone w g B (doubleN N i) ao w' := by
  cases hi : (hasB N.rows.length i && !isFull N.rows.length)
  · refine (ndouble_no h i h0 h1 hi).mono fun e w' ⟨h1, h2⟩ => ⟨⟨_, h1⟩, ?_⟩
    unfold doubleN
    rw [hi, if_neg (by decide)]
    subst h2
    exact Gone.same h (Below.refl _ _)
  · have hi2 : hasB N.rows.length i = true ∧ isFull N.rows.length = false := by simpa using hi
    obtain ⟨k, rfl, hk⟩ := hasB_yes hi2.1
    refine (ndouble_yes h k _ (getD_row hk) hi2.2).mono fun e w' ⟨h1, h2⟩ => ⟨⟨_, h1⟩, ?_⟩
    unfold doubleN
    rw [hi, if_pos rfl]
    exact h2
theorem wrap_u64 (a : Int) : ∃ u : Nat, IntKind.u64.wrap a = (u : Int) ∧ u < 18446744073709551616 := by
  have h : 0 ≤ IntKind.u64.wrap a ∧ IntKind.u64.wrap a < 18446744073709551616 := by
    simp [IntKind.wrap, IntKind.signed, IntKind.bits]; omega
  exact ⟨(IntKind.u64.wrap a).toNat, by omega, by omega⟩
theorem nturn_any {w : World} {g B : Nat} {N : Nt} {ao : Option Addr} {cap : Nat} (h : NetAt w g B N ao cap) (i at_ : Int) (m : Nat) (h0 : -9223372036854775808 ≤ i) (h1 : i ≤ 9223372036854775807) (hm : m < 256) :
    Calls Try.prog 22 #[.pointer (some ⟨g, 0, none⟩), .int .i64 i, .int .i64 at_, .int .u8 (m : Nat)] w fun e w' => SomeB e ∧ Gone w g B (turnN N i at_ m) ao w' := by
  cases hi : hasB N.rows.length i
  · refine (nturn_none h i at_ m h0 h1 hi).mono fun e w' ⟨h1, h2⟩ => ⟨⟨_, h1⟩, ?_⟩
    unfold turnN
    rw [hi, if_neg (by decide)]
    exact Gone.same h h2
  · obtain ⟨k, rfl, hk⟩ := hasB_yes hi
    by_cases ht : turnable (N.rows.getD k D3) m = true
    · obtain ⟨u, hu, hul⟩ := wrap_u64 at_
      have ht' := (turnable_iff _ _).1 ht
      refine (nturn_yes h k _ (getD_row hk) at_ m hm ht'.1 ht'.2.1 ht'.2.2 u _ hu hul rfl).mono fun e w' ⟨h1, h2, h3⟩ => ⟨⟨_, h1⟩, ?_⟩
      unfold turnN placeN
      rw [hi, if_pos rfl, Int.toNat_natCast, if_pos ht, hu, Int.toNat_natCast]
      exact ⟨_, _, h2, h3⟩
    · refine (nturn_no h k _ (getD_row hk) at_ m hm ?_).mono fun e w' ⟨h1, h2⟩ => ⟨⟨_, h1⟩, ?_⟩
      · rw [turnable_iff] at ht
        by_cases c1 : (N.rows.getD k D3).torn = true
        · exact .inl c1
        · by_cases c2 : (N.rows.getD k D3).data = { data := #[] }
          · exact .inr (.inl c2)
          · by_cases c3 : m = 0
            · exact .inr (.inr c3)
            · exact absurd ⟨by simpa using c1, c2, c3⟩ ht
      · unfold turnN
        rw [hi, if_pos rfl, Int.toNat_natCast, if_neg ht]
        exact Gone.same h h2

/-- An act of a script. -/
structure Ac where
  kind : Int
  d : Dg
  i : Int
  at_ : Int
  mask : Nat
  s : Nat
def encAc (a : Ac) : List Value := [.int .i64 a.kind, .int .i64 a.d.frm, .int .i64 a.d.to, .string a.d.data, .bool a.d.torn, .int .i64 a.i, .int .i64 a.at_, .int .u8 (a.mask : Int), .int .u64 (a.s : Int)]
theorem encAc_length (a : Ac) : (encAc a).length = 9 := rfl
structure Ac.ok (a : Ac) : Prop where
  d : a.d.ok
  k0 : -9223372036854775808 ≤ a.kind
  k1 : a.kind ≤ 9223372036854775807
  i0 : -9223372036854775808 ≤ a.i
  i1 : a.i ≤ 9223372036854775807
  at0 : -9223372036854775808 ≤ a.at_
  at1 : a.at_ ≤ 9223372036854775807
  m : a.mask < 256
  s : a.s < 18446744073709551616
def stepN (N : Nt) (a : Ac) : Nt :=
  if a.kind = 0 then sendN N a.d else if a.kind = 1 then dropN N a.i else if a.kind = 2 then dropN N a.i else if a.kind = 3 then doubleN N a.i
  else if a.kind = 4 then turnN N a.i a.at_ a.mask else if a.kind = 5 then { N with links := cutL N.links a.s } else if a.kind = 6 then { N with links := healL N.procs N.links } else N
def boxA (w : World) (a : Ac) : World := w.alloc (.cells #[.int .i64 a.kind, .int .i64 a.d.frm, .int .i64 a.d.to, .string a.d.data, .bool a.d.torn, .int .i64 a.i, .int .i64 a.at_, .int .u8 (a.mask : Int), .int .u64 (a.s : Int)] 31)
theorem boxA_below (w : World) (a : Ac) : Go.RowKit.Below w.heap.size w (boxA w a) := ((Grw.refl w).alloc _).below
theorem Gone.ahead {w W w' : World} {g B : Nat} {N : Nt} {ao : Option Addr} (hb : Go.RowKit.Below w.heap.size w W) (h : Gone W g B N ao w') : Gone w g B N ao w' := by
  obtain ⟨ao', cap', h1, h2⟩ := h
  exact ⟨ao', cap', h1, (Moved.of_below hb g ao).trans h2⟩
set_option maxHeartbeats 4000000 in
theorem nact {w : World} {g B : Nat} {N : Nt} {ao : Option Addr} {cap : Nat} (h : NetAt w g B N ao cap) (a : Ac) (ha : a.ok) :
    Calls Try.prog 10 #[.pointer (some ⟨g, 0, none⟩), .agg (encAc a).toArray] w fun e w' => e = .returned (.tuple #[]) ∧ Gone w g B (stepN N a) ao w' := by
  have A := h.below (boxA_below w a)
  have B0 := boxA_below w a
  have c1 := Lib.hid (nsend_any A a.d ha.d)
  have c2 := Lib.hid (ntake_any A a.i ha.i0 ha.i1)
  have c3 := Lib.hid (ndrop_any A a.i ha.i0 ha.i1)
  have c4 := Lib.hid (ndouble_any A a.i ha.i0 ha.i1)
  have c5 := Lib.hid (nturn_any A a.i a.at_ a.mask ha.i0 ha.i1 ha.m)
  have c6 := Lib.hid (ncut A a.s ha.s)
  have c7 := Lib.hid (nheal A)
  have hk0 := ha.k0
  have hk1 := ha.k1
  have HA := Lib.hid A
  have HB := Lib.hid B0
  clear h A B0 ha
  unfold boxA at *
  have HS : Hid (∀ N', stepN N a = N' → ∀ w', Gone w g B N' ao w' → Gone w g B (stepN N a) ao w') := Lib.hid fun N' e w' h => by rw [e]; exact h
  rw [show (encAc a).toArray = #[.int .i64 a.kind, .int .i64 a.d.frm, .int .i64 a.d.to, .string a.d.data, .bool a.d.torn, .int .i64 a.i, .int .i64 a.at_, .int .u8 (a.mask : Int), .int .u64 (a.s : Int)] from rfl]
  by_cases k0 : a.kind = 0
  · have hd : (a.kind == 0) = true := by simp [k0]
    have HX := Lib.hid (show stepN N a = sendN N a.d by unfold stepN; rw [if_pos k0])
    clear k0 c2 c3 c4 c5 c6 c7
    go_enter Try.func10, Try.ntmps10
    go_wp2_with (go_at_call 21; refine c1.out.mono ?_; rintro e w' ⟨⟨c, rfl⟩, G⟩; (have G := Lib.hid G))
    go_end0
    exact ⟨rfl, HS.out _ HX.out _ (Gone.ahead HB.out G.out)⟩
  by_cases k1 : a.kind = 1
  · have hd1 : (a.kind == 1) = true := by simp [k1]
    have hd0 : (a.kind == 0) = false := by simp [k0]
    have HX := Lib.hid (show stepN N a = dropN N a.i by unfold stepN; rw [if_neg k0, if_pos k1])
    clear k0 k1 c1 c3 c4 c5 c6 c7
    generalize takeV N a.i = tv at c2
    go_enter Try.func10, Try.ntmps10
    go_wp2_with (go_at_call 11; refine c2.out.mono ?_; rintro e w' ⟨rfl, G⟩; (have G := Lib.hid G))
    go_end0
    exact ⟨rfl, HS.out _ HX.out _ (Gone.ahead HB.out G.out)⟩
  by_cases k2 : a.kind = 2
  · have hd2 : (a.kind == 2) = true := by simp [k2]
    have hd0 : (a.kind == 0) = false := by simp [k0]
    have hd1 : (a.kind == 1) = false := by simp [k1]
    have HX := Lib.hid (show stepN N a = dropN N a.i by unfold stepN; rw [if_neg k0, if_neg k1, if_pos k2])
    clear k0 k1 k2 c1 c2 c4 c5 c6 c7
    go_enter Try.func10, Try.ntmps10
    go_wp2_with (go_at_call 25; refine c3.out.mono ?_; rintro e w' ⟨⟨c, rfl⟩, G⟩; (have G := Lib.hid G))
    go_end0
    exact ⟨rfl, HS.out _ HX.out _ (Gone.ahead HB.out G.out)⟩
  by_cases k3 : a.kind = 3
  · have hd3 : (a.kind == 3) = true := by simp [k3]
    have hd0 : (a.kind == 0) = false := by simp [k0]
    have hd1 : (a.kind == 1) = false := by simp [k1]
    have hd2 : (a.kind == 2) = false := by simp [k2]
    have HX := Lib.hid (show stepN N a = doubleN N a.i by unfold stepN; rw [if_neg k0, if_neg k1, if_neg k2, if_pos k3])
    clear k0 k1 k2 k3 c1 c2 c3 c5 c6 c7
    go_enter Try.func10, Try.ntmps10
    go_wp2_with (go_at_call 26; refine c4.out.mono ?_; rintro e w' ⟨⟨c, rfl⟩, G⟩; (have G := Lib.hid G))
    go_end0
    exact ⟨rfl, HS.out _ HX.out _ (Gone.ahead HB.out G.out)⟩
  by_cases k4 : a.kind = 4
  · have hd4 : (a.kind == 4) = true := by simp [k4]
    have hd0 : (a.kind == 0) = false := by simp [k0]
    have hd1 : (a.kind == 1) = false := by simp [k1]
    have hd2 : (a.kind == 2) = false := by simp [k2]
    have hd3 : (a.kind == 3) = false := by simp [k3]
    have HX := Lib.hid (show stepN N a = turnN N a.i a.at_ a.mask by unfold stepN; rw [if_neg k0, if_neg k1, if_neg k2, if_neg k3, if_pos k4])
    clear k0 k1 k2 k3 k4 c1 c2 c3 c4 c6 c7
    go_enter Try.func10, Try.ntmps10
    go_wp2_with (go_at_call 22; refine c5.out.mono ?_; rintro e w' ⟨⟨c, rfl⟩, G⟩; (have G := Lib.hid G))
    go_end0
    exact ⟨rfl, HS.out _ HX.out _ (Gone.ahead HB.out G.out)⟩
  by_cases k5 : a.kind = 5
  · have hd5 : (a.kind == 5) = true := by simp [k5]
    have hd0 : (a.kind == 0) = false := by simp [k0]
    have hd1 : (a.kind == 1) = false := by simp [k1]
    have hd2 : (a.kind == 2) = false := by simp [k2]
    have hd3 : (a.kind == 3) = false := by simp [k3]
    have hd4 : (a.kind == 4) = false := by simp [k4]
    have HX := Lib.hid (show stepN N a = { N with links := cutL N.links a.s } by unfold stepN; rw [if_neg k0, if_neg k1, if_neg k2, if_neg k3, if_neg k4, if_pos k5])
    clear k0 k1 k2 k3 k4 k5 c1 c2 c3 c4 c5 c7
    go_enter Try.func10, Try.ntmps10
    go_wp2_with (go_at_call 15; refine c6.out.mono ?_; rintro e w' ⟨rfl, N1, M1⟩; (have G := Lib.hid (show Gone _ g B _ ao w' from ⟨_, _, N1, M1⟩)))
    go_end0
    exact ⟨rfl, HS.out _ HX.out _ (Gone.ahead HB.out G.out)⟩
  by_cases k6 : a.kind = 6
  · have hd6 : (a.kind == 6) = true := by simp [k6]
    have hd0 : (a.kind == 0) = false := by simp [k0]
    have hd1 : (a.kind == 1) = false := by simp [k1]
    have hd2 : (a.kind == 2) = false := by simp [k2]
    have hd3 : (a.kind == 3) = false := by simp [k3]
    have hd4 : (a.kind == 4) = false := by simp [k4]
    have hd5 : (a.kind == 5) = false := by simp [k5]
    have HX := Lib.hid (show stepN N a = { N with links := healL N.procs N.links } by unfold stepN; rw [if_neg k0, if_neg k1, if_neg k2, if_neg k3, if_neg k4, if_neg k5, if_pos k6])
    clear k0 k1 k2 k3 k4 k5 k6 c1 c2 c3 c4 c5 c6
    go_enter Try.func10, Try.ntmps10
    go_wp2_with (go_at_call 17; refine c7.out.mono ?_; rintro e w' ⟨rfl, N1, M1⟩; (have G := Lib.hid (show Gone _ g B _ ao w' from ⟨_, _, N1, M1⟩)))
    go_end0
    exact ⟨rfl, HS.out _ HX.out _ (Gone.ahead HB.out G.out)⟩
  have hd0 : (a.kind == 0) = false := by simp [k0]
  have hd1 : (a.kind == 1) = false := by simp [k1]
  have hd2 : (a.kind == 2) = false := by simp [k2]
  have hd3 : (a.kind == 3) = false := by simp [k3]
  have hd4 : (a.kind == 4) = false := by simp [k4]
  have hd5 : (a.kind == 5) = false := by simp [k5]
  have hd6 : (a.kind == 6) = false := by simp [k6]
  have HX := Lib.hid (show stepN N a = N by unfold stepN; rw [if_neg k0, if_neg k1, if_neg k2, if_neg k3, if_neg k4, if_neg k5, if_neg k6])
  clear k0 k1 k2 k3 k4 k5 k6 c1 c2 c3 c4 c5 c6 c7
  go_enter Try.func10, Try.ntmps10
  go_wp2
  go_end0
  exact ⟨rfl, HS.out _ HX.out _ ⟨_, _, HA.out, Moved.of_below HB.out _ _⟩⟩
end Go.Proofs.YtpbeohonohcgdaaR
