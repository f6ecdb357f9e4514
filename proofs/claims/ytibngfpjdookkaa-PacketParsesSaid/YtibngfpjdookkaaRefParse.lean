/- Parsing a frame: the document's. -/
import Derived.Test.YtibngfpjdookkaaReads
import Derived.Test.YtibngfpjdookkaaRefGet
set_option linter.unusedVariables false
set_option linter.unusedSimpArgs false
namespace Go.Proofs.Ytibngfpjdookkaa
open Go.RowKit Go.Sort

theorem results_five {fn : Func} {a b c d e : Tmp} (h : fn.results = #[.tmp a, .tmp b, .tmp c, .tmp d, .tmp e]) (tmps : Array Value) (P : Program) (w : World) :
    (results fn tmps).run P w = .ok (.tuple #[tmps.getD a undef, tmps.getD b undef, tmps.getD c undef, tmps.getD d undef, tmps.getD e undef]) w := by
  simp [results, h]
theorem ref_told {u : ByteArray} (h : 7 ≤ u.size) : be ((u.data.toList.drop 5).take 2) = told u := be_two h

set_option maxHeartbeats 2000000 in
theorem refParse_short (s : ByteArray) (w : World) (h : s.size < 11) :
    Calls Try.prog 24 #[.string s] w fun e w' => e = .returned (.tuple #[.int .i64 0, .int .i64 0, .int .i64 0, .string { data := #[] }, .int .i64 2]) ∧ w = w' := by
  have h1 : (s.size : Int) < 11 := by omega
  go_enter Try.func24, Try.ntmps24
  go_wp2
  (try simp only [Exit.inBlock, Exit.then])
  refine bodyPost_ret (results_five rfl _ _ _) rfl ?_
  exact ⟨rfl, rfl⟩

set_option maxHeartbeats 2000000 in
theorem refParse_sum (s : ByteArray) (w : World) (h : ¬ s.size < 11) (hs : s.size ≤ 1099511627776) (ho : okB s = false) :
    Calls Try.prog 24 #[.string s] w fun e w' => e = .returned (.tuple #[.int .i64 0, .int .i64 0, .int .i64 0, .string { data := #[] }, .int .i64 8]) ∧ Grw w w' := by
  have h1 : ¬ (s.size : Int) < 11 := by omega
  have hp := fun W => open_ref s W hs
  rw [ho] at hp
  clear ho
  go_enter Try.func24, Try.ntmps24
  go_wp2_with fail
  refine (hp _).mono ?_
  rintro e w1 ⟨rfl, G1⟩
  go_wp2
  (try simp only [Exit.inBlock, Exit.then])
  refine bodyPost_ret (results_five rfl _ _ _) rfl ?_
  exact ⟨rfl, G1⟩

set_option maxHeartbeats 2000000 in
theorem refParse_form (s : ByteArray) (w : World) (h : ¬ s.size < 11) (hs : s.size ≤ 1099511627776) (ho : okB s = true) (x0 x1 x2 x3 x4 n : Nat) (e0 : byteAt (openS s) 0 = x0) (e1 : byteAt (openS s) 1 = x1) (e2 : byteAt (openS s) 2 = x2) (e3 : byteAt (openS s) 3 = x3) (e4 : byteAt (openS s) 4 = x4) (hn : told (openS s) = n) (c0 : ¬ x0 = 197) :
    Calls Try.prog 24 #[.string s] w fun e w' => e = .returned (.tuple #[.int .i64 0, .int .i64 0, .int .i64 0, .string { data := #[] }, .int .i64 4]) ∧ Grw w w' := by
  have mixed : Try.prog.follows .mixedOrders = true := by kernel_rfl
  have h1 : ¬ (s.size : Int) < 11 := by omega
  have hz := openS_size h ho
  have hp := fun W => open_ref s W hs
  rw [ho] at hp
  have h7 : 7 ≤ (openS s).size := by omega
  have hG := fun W => refGet_yes (openS s) 5 2 W (by unfold maxLen; omega) (by decide) (by decide) (by omega)
  rw [ref_told h7, hn] at hG
  obtain ⟨y, hy⟩ : ∃ y, (openS s).extract 7 (openS s).size = y := ⟨_, rfl⟩
  have hm : y.size = (openS s).size - 7 := by rw [← hy, ByteArray.size_extract]; omega
  have HYE := Lib.hid hy
  generalize openS s = u at *
  have i0 : 0 < u.size := by omega
  have i1 : 1 < u.size := by omega
  have i2 : 2 < u.size := by omega
  have i3 : 3 < u.size := by omega
  have i4 : 4 < u.size := by omega
  have g0 : u[0].toNat = x0 := (byteAt_get i0).trans e0
  have g1 : u[1].toNat = x1 := (byteAt_get i1).trans e1
  have g2 : u[2].toNat = x2 := (byteAt_get i2).trans e2
  have g3 : u[3].toNat = x3 := (byteAt_get i3).trans e3
  have g4 : u[4].toNat = x4 := (byteAt_get i4).trans e4
  have b0 : x0 < 256 := by rw [← e0]; exact byteAt_lt _ _
  have b1 : x1 < 256 := by rw [← e1]; exact byteAt_lt _ _
  have b2 : x2 < 256 := by rw [← e2]; exact byteAt_lt _ _
  have b3 : x3 < 256 := by rw [← e3]; exact byteAt_lt _ _
  have b4 : x4 < 256 := by rw [← e4]; exact byteAt_lt _ _
  have nb : n < 65536 := by rw [← hn]; unfold told; have := byteAt_lt u 5; have := byteAt_lt u 6; omega
  have hyb : y.size ≤ 1099511627776 := by omega
  have z2 : (2 : Int) < (u.size : Int) := by omega
  have z3 : (3 : Int) < (u.size : Int) := by omega
  have z4 : (4 : Int) < (u.size : Int) := by omega
  have v2 : IntKind.i64.wrap (x2 : Int) = x2 := by rw [IntKind.wrap_i64]; omega
  have v3 : IntKind.i64.wrap (x3 : Int) = x3 := by rw [IntKind.wrap_i64]; omega
  have v4 : IntKind.i64.wrap (x4 : Int) = x4 := by rw [IntKind.wrap_i64]; omega
  have h77 : (7 : Int) ≤ (u.size : Int) := by omega
  have hub : (u.size : Int) ≤ 9223372036854775807 := by omega
  have t0 : ¬ (x0 : Int) = 197 := by omega
  clear c0
  clear hz hm e0 e1 e2 e3 e4 hn h ho hs
  go_enter Try.func24, Try.ntmps24
  go_wp2_with fail
  refine (hp _).mono ?_
  rintro e w1 ⟨rfl, G1⟩
  go_wp2_with fail
  refine (hG _).mono ?_
  rintro e w2 ⟨rfl, rfl⟩
  go_wp2
  (try simp only [Exit.inBlock, Exit.then])
  refine bodyPost_ret (results_five rfl _ _ _) rfl ?_
  exact ⟨rfl, G1⟩

set_option maxHeartbeats 2000000 in
theorem refParse_version (s : ByteArray) (w : World) (h : ¬ s.size < 11) (hs : s.size ≤ 1099511627776) (ho : okB s = true) (x0 x1 x2 x3 x4 n : Nat) (e0 : byteAt (openS s) 0 = x0) (e1 : byteAt (openS s) 1 = x1) (e2 : byteAt (openS s) 2 = x2) (e3 : byteAt (openS s) 3 = x3) (e4 : byteAt (openS s) 4 = x4) (hn : told (openS s) = n) (c0 : x0 = 197) (c1 : ¬ x1 = 1) :
    Calls Try.prog 24 #[.string s] w fun e w' => e = .returned (.tuple #[.int .i64 0, .int .i64 0, .int .i64 0, .string { data := #[] }, .int .i64 9]) ∧ Grw w w' := by
  have mixed : Try.prog.follows .mixedOrders = true := by kernel_rfl
  have h1 : ¬ (s.size : Int) < 11 := by omega
  have hz := openS_size h ho
  have hp := fun W => open_ref s W hs
  rw [ho] at hp
  have h7 : 7 ≤ (openS s).size := by omega
  have hG := fun W => refGet_yes (openS s) 5 2 W (by unfold maxLen; omega) (by decide) (by decide) (by omega)
  rw [ref_told h7, hn] at hG
  obtain ⟨y, hy⟩ : ∃ y, (openS s).extract 7 (openS s).size = y := ⟨_, rfl⟩
  have hm : y.size = (openS s).size - 7 := by rw [← hy, ByteArray.size_extract]; omega
  have HYE := Lib.hid hy
  generalize openS s = u at *
  have i0 : 0 < u.size := by omega
  have i1 : 1 < u.size := by omega
  have i2 : 2 < u.size := by omega
  have i3 : 3 < u.size := by omega
  have i4 : 4 < u.size := by omega
  have g0 : u[0].toNat = x0 := (byteAt_get i0).trans e0
  have g1 : u[1].toNat = x1 := (byteAt_get i1).trans e1
  have g2 : u[2].toNat = x2 := (byteAt_get i2).trans e2
  have g3 : u[3].toNat = x3 := (byteAt_get i3).trans e3
  have g4 : u[4].toNat = x4 := (byteAt_get i4).trans e4
  have b0 : x0 < 256 := by rw [← e0]; exact byteAt_lt _ _
  have b1 : x1 < 256 := by rw [← e1]; exact byteAt_lt _ _
  have b2 : x2 < 256 := by rw [← e2]; exact byteAt_lt _ _
  have b3 : x3 < 256 := by rw [← e3]; exact byteAt_lt _ _
  have b4 : x4 < 256 := by rw [← e4]; exact byteAt_lt _ _
  have nb : n < 65536 := by rw [← hn]; unfold told; have := byteAt_lt u 5; have := byteAt_lt u 6; omega
  have hyb : y.size ≤ 1099511627776 := by omega
  have z2 : (2 : Int) < (u.size : Int) := by omega
  have z3 : (3 : Int) < (u.size : Int) := by omega
  have z4 : (4 : Int) < (u.size : Int) := by omega
  have v2 : IntKind.i64.wrap (x2 : Int) = x2 := by rw [IntKind.wrap_i64]; omega
  have v3 : IntKind.i64.wrap (x3 : Int) = x3 := by rw [IntKind.wrap_i64]; omega
  have v4 : IntKind.i64.wrap (x4 : Int) = x4 := by rw [IntKind.wrap_i64]; omega
  have h77 : (7 : Int) ≤ (u.size : Int) := by omega
  have hub : (u.size : Int) ≤ 9223372036854775807 := by omega
  have t0 : (x0 : Int) = 197 := by omega
  have t1 : ¬ (x1 : Int) = 1 := by omega
  clear c0 c1
  clear hz hm e0 e1 e2 e3 e4 hn h ho hs
  go_enter Try.func24, Try.ntmps24
  go_wp2_with fail
  refine (hp _).mono ?_
  rintro e w1 ⟨rfl, G1⟩
  go_wp2_with fail
  refine (hG _).mono ?_
  rintro e w2 ⟨rfl, rfl⟩
  go_wp2
  (try simp only [Exit.inBlock, Exit.then])
  refine bodyPost_ret (results_five rfl _ _ _) rfl ?_
  exact ⟨rfl, G1⟩

set_option maxHeartbeats 2000000 in
theorem refParse_low (s : ByteArray) (w : World) (h : ¬ s.size < 11) (hs : s.size ≤ 1099511627776) (ho : okB s = true) (x0 x1 x2 x3 x4 n : Nat) (e0 : byteAt (openS s) 0 = x0) (e1 : byteAt (openS s) 1 = x1) (e2 : byteAt (openS s) 2 = x2) (e3 : byteAt (openS s) 3 = x3) (e4 : byteAt (openS s) 4 = x4) (hn : told (openS s) = n) (c0 : x0 = 197) (c1 : x1 = 1) (c2 : x2 < 1) :
    Calls Try.prog 24 #[.string s] w fun e w' => e = .returned (.tuple #[.int .i64 0, .int .i64 0, .int .i64 0, .string { data := #[] }, .int .i64 10]) ∧ Grw w w' := by
  have mixed : Try.prog.follows .mixedOrders = true := by kernel_rfl
  have h1 : ¬ (s.size : Int) < 11 := by omega
  have hz := openS_size h ho
  have hp := fun W => open_ref s W hs
  rw [ho] at hp
  have h7 : 7 ≤ (openS s).size := by omega
  have hG := fun W => refGet_yes (openS s) 5 2 W (by unfold maxLen; omega) (by decide) (by decide) (by omega)
  rw [ref_told h7, hn] at hG
  obtain ⟨y, hy⟩ : ∃ y, (openS s).extract 7 (openS s).size = y := ⟨_, rfl⟩
  have hm : y.size = (openS s).size - 7 := by rw [← hy, ByteArray.size_extract]; omega
  have HYE := Lib.hid hy
  generalize openS s = u at *
  have i0 : 0 < u.size := by omega
  have i1 : 1 < u.size := by omega
  have i2 : 2 < u.size := by omega
  have i3 : 3 < u.size := by omega
  have i4 : 4 < u.size := by omega
  have g0 : u[0].toNat = x0 := (byteAt_get i0).trans e0
  have g1 : u[1].toNat = x1 := (byteAt_get i1).trans e1
  have g2 : u[2].toNat = x2 := (byteAt_get i2).trans e2
  have g3 : u[3].toNat = x3 := (byteAt_get i3).trans e3
  have g4 : u[4].toNat = x4 := (byteAt_get i4).trans e4
  have b0 : x0 < 256 := by rw [← e0]; exact byteAt_lt _ _
  have b1 : x1 < 256 := by rw [← e1]; exact byteAt_lt _ _
  have b2 : x2 < 256 := by rw [← e2]; exact byteAt_lt _ _
  have b3 : x3 < 256 := by rw [← e3]; exact byteAt_lt _ _
  have b4 : x4 < 256 := by rw [← e4]; exact byteAt_lt _ _
  have nb : n < 65536 := by rw [← hn]; unfold told; have := byteAt_lt u 5; have := byteAt_lt u 6; omega
  have hyb : y.size ≤ 1099511627776 := by omega
  have z2 : (2 : Int) < (u.size : Int) := by omega
  have z3 : (3 : Int) < (u.size : Int) := by omega
  have z4 : (4 : Int) < (u.size : Int) := by omega
  have v2 : IntKind.i64.wrap (x2 : Int) = x2 := by rw [IntKind.wrap_i64]; omega
  have v3 : IntKind.i64.wrap (x3 : Int) = x3 := by rw [IntKind.wrap_i64]; omega
  have v4 : IntKind.i64.wrap (x4 : Int) = x4 := by rw [IntKind.wrap_i64]; omega
  have h77 : (7 : Int) ≤ (u.size : Int) := by omega
  have hub : (u.size : Int) ≤ 9223372036854775807 := by omega
  have t0 : (x0 : Int) = 197 := by omega
  have t1 : (x1 : Int) = 1 := by omega
  have t2 : (x2 : Int) < 1 := by omega
  clear c0 c1 c2
  clear hz hm e0 e1 e2 e3 e4 hn h ho hs
  go_enter Try.func24, Try.ntmps24
  go_wp2_with fail
  refine (hp _).mono ?_
  rintro e w1 ⟨rfl, G1⟩
  go_wp2_with fail
  refine (hG _).mono ?_
  rintro e w2 ⟨rfl, rfl⟩
  go_wp2
  (try simp only [Exit.inBlock, Exit.then])
  refine bodyPost_ret (results_five rfl _ _ _) rfl ?_
  exact ⟨rfl, G1⟩

set_option maxHeartbeats 2000000 in
theorem refParse_high (s : ByteArray) (w : World) (h : ¬ s.size < 11) (hs : s.size ≤ 1099511627776) (ho : okB s = true) (x0 x1 x2 x3 x4 n : Nat) (e0 : byteAt (openS s) 0 = x0) (e1 : byteAt (openS s) 1 = x1) (e2 : byteAt (openS s) 2 = x2) (e3 : byteAt (openS s) 3 = x3) (e4 : byteAt (openS s) 4 = x4) (hn : told (openS s) = n) (c0 : x0 = 197) (c1 : x1 = 1) (c2 : 11 < x2) :
    Calls Try.prog 24 #[.string s] w fun e w' => e = .returned (.tuple #[.int .i64 0, .int .i64 0, .int .i64 0, .string { data := #[] }, .int .i64 10]) ∧ Grw w w' := by
  have mixed : Try.prog.follows .mixedOrders = true := by kernel_rfl
  have h1 : ¬ (s.size : Int) < 11 := by omega
  have hz := openS_size h ho
  have hp := fun W => open_ref s W hs
  rw [ho] at hp
  have h7 : 7 ≤ (openS s).size := by omega
  have hG := fun W => refGet_yes (openS s) 5 2 W (by unfold maxLen; omega) (by decide) (by decide) (by omega)
  rw [ref_told h7, hn] at hG
  obtain ⟨y, hy⟩ : ∃ y, (openS s).extract 7 (openS s).size = y := ⟨_, rfl⟩
  have hm : y.size = (openS s).size - 7 := by rw [← hy, ByteArray.size_extract]; omega
  have HYE := Lib.hid hy
  generalize openS s = u at *
  have i0 : 0 < u.size := by omega
  have i1 : 1 < u.size := by omega
  have i2 : 2 < u.size := by omega
  have i3 : 3 < u.size := by omega
  have i4 : 4 < u.size := by omega
  have g0 : u[0].toNat = x0 := (byteAt_get i0).trans e0
  have g1 : u[1].toNat = x1 := (byteAt_get i1).trans e1
  have g2 : u[2].toNat = x2 := (byteAt_get i2).trans e2
  have g3 : u[3].toNat = x3 := (byteAt_get i3).trans e3
  have g4 : u[4].toNat = x4 := (byteAt_get i4).trans e4
  have b0 : x0 < 256 := by rw [← e0]; exact byteAt_lt _ _
  have b1 : x1 < 256 := by rw [← e1]; exact byteAt_lt _ _
  have b2 : x2 < 256 := by rw [← e2]; exact byteAt_lt _ _
  have b3 : x3 < 256 := by rw [← e3]; exact byteAt_lt _ _
  have b4 : x4 < 256 := by rw [← e4]; exact byteAt_lt _ _
  have nb : n < 65536 := by rw [← hn]; unfold told; have := byteAt_lt u 5; have := byteAt_lt u 6; omega
  have hyb : y.size ≤ 1099511627776 := by omega
  have z2 : (2 : Int) < (u.size : Int) := by omega
  have z3 : (3 : Int) < (u.size : Int) := by omega
  have z4 : (4 : Int) < (u.size : Int) := by omega
  have v2 : IntKind.i64.wrap (x2 : Int) = x2 := by rw [IntKind.wrap_i64]; omega
  have v3 : IntKind.i64.wrap (x3 : Int) = x3 := by rw [IntKind.wrap_i64]; omega
  have v4 : IntKind.i64.wrap (x4 : Int) = x4 := by rw [IntKind.wrap_i64]; omega
  have h77 : (7 : Int) ≤ (u.size : Int) := by omega
  have hub : (u.size : Int) ≤ 9223372036854775807 := by omega
  have t0 : (x0 : Int) = 197 := by omega
  have t1 : (x1 : Int) = 1 := by omega
  have t2 : ¬ (x2 : Int) < 1 := by omega
  have t3 : 11 < (x2 : Int) := by omega
  clear c0 c1 c2
  clear hz hm e0 e1 e2 e3 e4 hn h ho hs
  go_enter Try.func24, Try.ntmps24
  go_wp2_with fail
  refine (hp _).mono ?_
  rintro e w1 ⟨rfl, G1⟩
  go_wp2_with fail
  refine (hG _).mono ?_
  rintro e w2 ⟨rfl, rfl⟩
  go_wp2
  (try simp only [Exit.inBlock, Exit.then])
  refine bodyPost_ret (results_five rfl _ _ _) rfl ?_
  exact ⟨rfl, G1⟩

set_option maxHeartbeats 2000000 in
theorem refParse_from (s : ByteArray) (w : World) (h : ¬ s.size < 11) (hs : s.size ≤ 1099511627776) (ho : okB s = true) (x0 x1 x2 x3 x4 n : Nat) (e0 : byteAt (openS s) 0 = x0) (e1 : byteAt (openS s) 1 = x1) (e2 : byteAt (openS s) 2 = x2) (e3 : byteAt (openS s) 3 = x3) (e4 : byteAt (openS s) 4 = x4) (hn : told (openS s) = n) (c0 : x0 = 197) (c1 : x1 = 1) (c2 : ¬ (x2 < 1 ∨ 11 < x2)) (c3 : 64 ≤ x3) :
    Calls Try.prog 24 #[.string s] w fun e w' => e = .returned (.tuple #[.int .i64 0, .int .i64 0, .int .i64 0, .string { data := #[] }, .int .i64 1]) ∧ Grw w w' := by
  have mixed : Try.prog.follows .mixedOrders = true := by kernel_rfl
  have h1 : ¬ (s.size : Int) < 11 := by omega
  have hz := openS_size h ho
  have hp := fun W => open_ref s W hs
  rw [ho] at hp
  have h7 : 7 ≤ (openS s).size := by omega
  have hG := fun W => refGet_yes (openS s) 5 2 W (by unfold maxLen; omega) (by decide) (by decide) (by omega)
  rw [ref_told h7, hn] at hG
  obtain ⟨y, hy⟩ : ∃ y, (openS s).extract 7 (openS s).size = y := ⟨_, rfl⟩
  have hm : y.size = (openS s).size - 7 := by rw [← hy, ByteArray.size_extract]; omega
  have HYE := Lib.hid hy
  generalize openS s = u at *
  have i0 : 0 < u.size := by omega
  have i1 : 1 < u.size := by omega
  have i2 : 2 < u.size := by omega
  have i3 : 3 < u.size := by omega
  have i4 : 4 < u.size := by omega
  have g0 : u[0].toNat = x0 := (byteAt_get i0).trans e0
  have g1 : u[1].toNat = x1 := (byteAt_get i1).trans e1
  have g2 : u[2].toNat = x2 := (byteAt_get i2).trans e2
  have g3 : u[3].toNat = x3 := (byteAt_get i3).trans e3
  have g4 : u[4].toNat = x4 := (byteAt_get i4).trans e4
  have b0 : x0 < 256 := by rw [← e0]; exact byteAt_lt _ _
  have b1 : x1 < 256 := by rw [← e1]; exact byteAt_lt _ _
  have b2 : x2 < 256 := by rw [← e2]; exact byteAt_lt _ _
  have b3 : x3 < 256 := by rw [← e3]; exact byteAt_lt _ _
  have b4 : x4 < 256 := by rw [← e4]; exact byteAt_lt _ _
  have nb : n < 65536 := by rw [← hn]; unfold told; have := byteAt_lt u 5; have := byteAt_lt u 6; omega
  have hyb : y.size ≤ 1099511627776 := by omega
  have z2 : (2 : Int) < (u.size : Int) := by omega
  have z3 : (3 : Int) < (u.size : Int) := by omega
  have z4 : (4 : Int) < (u.size : Int) := by omega
  have v2 : IntKind.i64.wrap (x2 : Int) = x2 := by rw [IntKind.wrap_i64]; omega
  have v3 : IntKind.i64.wrap (x3 : Int) = x3 := by rw [IntKind.wrap_i64]; omega
  have v4 : IntKind.i64.wrap (x4 : Int) = x4 := by rw [IntKind.wrap_i64]; omega
  have h77 : (7 : Int) ≤ (u.size : Int) := by omega
  have hub : (u.size : Int) ≤ 9223372036854775807 := by omega
  have t0 : (x0 : Int) = 197 := by omega
  have t1 : (x1 : Int) = 1 := by omega
  have t2 : ¬ (x2 : Int) < 1 := by omega
  have t3 : ¬ 11 < (x2 : Int) := by omega
  have t4 : 63 < (x3 : Int) := by omega
  clear c0 c1 c2 c3
  clear hz hm e0 e1 e2 e3 e4 hn h ho hs
  go_enter Try.func24, Try.ntmps24
  go_wp2_with fail
  refine (hp _).mono ?_
  rintro e w1 ⟨rfl, G1⟩
  go_wp2_with fail
  refine (hG _).mono ?_
  rintro e w2 ⟨rfl, rfl⟩
  go_wp2
  (try simp only [Exit.inBlock, Exit.then])
  refine bodyPost_ret (results_five rfl _ _ _) rfl ?_
  exact ⟨rfl, G1⟩

set_option maxHeartbeats 2000000 in
theorem refParse_to (s : ByteArray) (w : World) (h : ¬ s.size < 11) (hs : s.size ≤ 1099511627776) (ho : okB s = true) (x0 x1 x2 x3 x4 n : Nat) (e0 : byteAt (openS s) 0 = x0) (e1 : byteAt (openS s) 1 = x1) (e2 : byteAt (openS s) 2 = x2) (e3 : byteAt (openS s) 3 = x3) (e4 : byteAt (openS s) 4 = x4) (hn : told (openS s) = n) (c0 : x0 = 197) (c1 : x1 = 1) (c2 : ¬ (x2 < 1 ∨ 11 < x2)) (c3 : ¬ 64 ≤ x3) (c4 : 64 ≤ x4) :
    Calls Try.prog 24 #[.string s] w fun e w' => e = .returned (.tuple #[.int .i64 0, .int .i64 0, .int .i64 0, .string { data := #[] }, .int .i64 1]) ∧ Grw w w' := by
  have mixed : Try.prog.follows .mixedOrders = true := by kernel_rfl
  have h1 : ¬ (s.size : Int) < 11 := by omega
  have hz := openS_size h ho
  have hp := fun W => open_ref s W hs
  rw [ho] at hp
  have h7 : 7 ≤ (openS s).size := by omega
  have hG := fun W => refGet_yes (openS s) 5 2 W (by unfold maxLen; omega) (by decide) (by decide) (by omega)
  rw [ref_told h7, hn] at hG
  obtain ⟨y, hy⟩ : ∃ y, (openS s).extract 7 (openS s).size = y := ⟨_, rfl⟩
  have hm : y.size = (openS s).size - 7 := by rw [← hy, ByteArray.size_extract]; omega
  have HYE := Lib.hid hy
  generalize openS s = u at *
  have i0 : 0 < u.size := by omega
  have i1 : 1 < u.size := by omega
  have i2 : 2 < u.size := by omega
  have i3 : 3 < u.size := by omega
  have i4 : 4 < u.size := by omega
  have g0 : u[0].toNat = x0 := (byteAt_get i0).trans e0
  have g1 : u[1].toNat = x1 := (byteAt_get i1).trans e1
  have g2 : u[2].toNat = x2 := (byteAt_get i2).trans e2
  have g3 : u[3].toNat = x3 := (byteAt_get i3).trans e3
  have g4 : u[4].toNat = x4 := (byteAt_get i4).trans e4
  have b0 : x0 < 256 := by rw [← e0]; exact byteAt_lt _ _
  have b1 : x1 < 256 := by rw [← e1]; exact byteAt_lt _ _
  have b2 : x2 < 256 := by rw [← e2]; exact byteAt_lt _ _
  have b3 : x3 < 256 := by rw [← e3]; exact byteAt_lt _ _
  have b4 : x4 < 256 := by rw [← e4]; exact byteAt_lt _ _
  have nb : n < 65536 := by rw [← hn]; unfold told; have := byteAt_lt u 5; have := byteAt_lt u 6; omega
  have hyb : y.size ≤ 1099511627776 := by omega
  have z2 : (2 : Int) < (u.size : Int) := by omega
  have z3 : (3 : Int) < (u.size : Int) := by omega
  have z4 : (4 : Int) < (u.size : Int) := by omega
  have v2 : IntKind.i64.wrap (x2 : Int) = x2 := by rw [IntKind.wrap_i64]; omega
  have v3 : IntKind.i64.wrap (x3 : Int) = x3 := by rw [IntKind.wrap_i64]; omega
  have v4 : IntKind.i64.wrap (x4 : Int) = x4 := by rw [IntKind.wrap_i64]; omega
  have h77 : (7 : Int) ≤ (u.size : Int) := by omega
  have hub : (u.size : Int) ≤ 9223372036854775807 := by omega
  have t0 : (x0 : Int) = 197 := by omega
  have t1 : (x1 : Int) = 1 := by omega
  have t2 : ¬ (x2 : Int) < 1 := by omega
  have t3 : ¬ 11 < (x2 : Int) := by omega
  have t4 : ¬ 63 < (x3 : Int) := by omega
  have t5 : 63 < (x4 : Int) := by omega
  clear c0 c1 c2 c3 c4
  clear hz hm e0 e1 e2 e3 e4 hn h ho hs
  go_enter Try.func24, Try.ntmps24
  go_wp2_with fail
  refine (hp _).mono ?_
  rintro e w1 ⟨rfl, G1⟩
  go_wp2_with fail
  refine (hG _).mono ?_
  rintro e w2 ⟨rfl, rfl⟩
  go_wp2
  (try simp only [Exit.inBlock, Exit.then])
  refine bodyPost_ret (results_five rfl _ _ _) rfl ?_
  exact ⟨rfl, G1⟩

set_option maxHeartbeats 2000000 in
theorem refParse_long (s : ByteArray) (w : World) (h : ¬ s.size < 11) (hs : s.size ≤ 1099511627776) (ho : okB s = true) (x0 x1 x2 x3 x4 n : Nat) (e0 : byteAt (openS s) 0 = x0) (e1 : byteAt (openS s) 1 = x1) (e2 : byteAt (openS s) 2 = x2) (e3 : byteAt (openS s) 3 = x3) (e4 : byteAt (openS s) 4 = x4) (hn : told (openS s) = n) (c0 : x0 = 197) (c1 : x1 = 1) (c2 : ¬ (x2 < 1 ∨ 11 < x2)) (c3 : ¬ 64 ≤ x3) (c4 : ¬ 64 ≤ x4) (c5 : 32768 < (openS s).size - 7) :
    Calls Try.prog 24 #[.string s] w fun e w' => e = .returned (.tuple #[.int .i64 0, .int .i64 0, .int .i64 0, .string { data := #[] }, .int .i64 3]) ∧ Grw w w' := by
  have mixed : Try.prog.follows .mixedOrders = true := by kernel_rfl
  have h1 : ¬ (s.size : Int) < 11 := by omega
  have hz := openS_size h ho
  have hp := fun W => open_ref s W hs
  rw [ho] at hp
  have h7 : 7 ≤ (openS s).size := by omega
  have hG := fun W => refGet_yes (openS s) 5 2 W (by unfold maxLen; omega) (by decide) (by decide) (by omega)
  rw [ref_told h7, hn] at hG
  obtain ⟨y, hy⟩ : ∃ y, (openS s).extract 7 (openS s).size = y := ⟨_, rfl⟩
  have hm : y.size = (openS s).size - 7 := by rw [← hy, ByteArray.size_extract]; omega
  have HYE := Lib.hid hy
  generalize openS s = u at *
  have i0 : 0 < u.size := by omega
  have i1 : 1 < u.size := by omega
  have i2 : 2 < u.size := by omega
  have i3 : 3 < u.size := by omega
  have i4 : 4 < u.size := by omega
  have g0 : u[0].toNat = x0 := (byteAt_get i0).trans e0
  have g1 : u[1].toNat = x1 := (byteAt_get i1).trans e1
  have g2 : u[2].toNat = x2 := (byteAt_get i2).trans e2
  have g3 : u[3].toNat = x3 := (byteAt_get i3).trans e3
  have g4 : u[4].toNat = x4 := (byteAt_get i4).trans e4
  have b0 : x0 < 256 := by rw [← e0]; exact byteAt_lt _ _
  have b1 : x1 < 256 := by rw [← e1]; exact byteAt_lt _ _
  have b2 : x2 < 256 := by rw [← e2]; exact byteAt_lt _ _
  have b3 : x3 < 256 := by rw [← e3]; exact byteAt_lt _ _
  have b4 : x4 < 256 := by rw [← e4]; exact byteAt_lt _ _
  have nb : n < 65536 := by rw [← hn]; unfold told; have := byteAt_lt u 5; have := byteAt_lt u 6; omega
  have hyb : y.size ≤ 1099511627776 := by omega
  have z2 : (2 : Int) < (u.size : Int) := by omega
  have z3 : (3 : Int) < (u.size : Int) := by omega
  have z4 : (4 : Int) < (u.size : Int) := by omega
  have v2 : IntKind.i64.wrap (x2 : Int) = x2 := by rw [IntKind.wrap_i64]; omega
  have v3 : IntKind.i64.wrap (x3 : Int) = x3 := by rw [IntKind.wrap_i64]; omega
  have v4 : IntKind.i64.wrap (x4 : Int) = x4 := by rw [IntKind.wrap_i64]; omega
  have h77 : (7 : Int) ≤ (u.size : Int) := by omega
  have hub : (u.size : Int) ≤ 9223372036854775807 := by omega
  have t0 : (x0 : Int) = 197 := by omega
  have t1 : (x1 : Int) = 1 := by omega
  have t2 : ¬ (x2 : Int) < 1 := by omega
  have t3 : ¬ 11 < (x2 : Int) := by omega
  have t4 : ¬ 63 < (x3 : Int) := by omega
  have t5 : ¬ 63 < (x4 : Int) := by omega
  have t6 : 32768 < (y.size : Int) := by omega
  clear c0 c1 c2 c3 c4 c5
  clear hz hm e0 e1 e2 e3 e4 hn h ho hs
  go_enter Try.func24, Try.ntmps24
  go_wp2_with fail
  refine (hp _).mono ?_
  rintro e w1 ⟨rfl, G1⟩
  go_wp2_with fail
  refine (hG _).mono ?_
  rintro e w2 ⟨rfl, rfl⟩
  go_wp2
  (try simp only [Exit.inBlock, Exit.then])
  refine bodyPost_ret (results_five rfl _ _ _) rfl ?_
  exact ⟨rfl, G1⟩

set_option maxHeartbeats 2000000 in
theorem refParse_other (s : ByteArray) (w : World) (h : ¬ s.size < 11) (hs : s.size ≤ 1099511627776) (ho : okB s = true) (x0 x1 x2 x3 x4 n : Nat) (e0 : byteAt (openS s) 0 = x0) (e1 : byteAt (openS s) 1 = x1) (e2 : byteAt (openS s) 2 = x2) (e3 : byteAt (openS s) 3 = x3) (e4 : byteAt (openS s) 4 = x4) (hn : told (openS s) = n) (c0 : x0 = 197) (c1 : x1 = 1) (c2 : ¬ (x2 < 1 ∨ 11 < x2)) (c3 : ¬ 64 ≤ x3) (c4 : ¬ 64 ≤ x4) (c5 : ¬ 32768 < (openS s).size - 7) (c6 : ¬ (openS s).size - 7 = n) :
    Calls Try.prog 24 #[.string s] w fun e w' => e = .returned (.tuple #[.int .i64 0, .int .i64 0, .int .i64 0, .string { data := #[] }, .int .i64 3]) ∧ Grw w w' := by
  have mixed : Try.prog.follows .mixedOrders = true := by kernel_rfl
  have h1 : ¬ (s.size : Int) < 11 := by omega
  have hz := openS_size h ho
  have hp := fun W => open_ref s W hs
  rw [ho] at hp
  have h7 : 7 ≤ (openS s).size := by omega
  have hG := fun W => refGet_yes (openS s) 5 2 W (by unfold maxLen; omega) (by decide) (by decide) (by omega)
  rw [ref_told h7, hn] at hG
  obtain ⟨y, hy⟩ : ∃ y, (openS s).extract 7 (openS s).size = y := ⟨_, rfl⟩
  have hm : y.size = (openS s).size - 7 := by rw [← hy, ByteArray.size_extract]; omega
  have HYE := Lib.hid hy
  generalize openS s = u at *
  have i0 : 0 < u.size := by omega
  have i1 : 1 < u.size := by omega
  have i2 : 2 < u.size := by omega
  have i3 : 3 < u.size := by omega
  have i4 : 4 < u.size := by omega
  have g0 : u[0].toNat = x0 := (byteAt_get i0).trans e0
  have g1 : u[1].toNat = x1 := (byteAt_get i1).trans e1
  have g2 : u[2].toNat = x2 := (byteAt_get i2).trans e2
  have g3 : u[3].toNat = x3 := (byteAt_get i3).trans e3
  have g4 : u[4].toNat = x4 := (byteAt_get i4).trans e4
  have b0 : x0 < 256 := by rw [← e0]; exact byteAt_lt _ _
  have b1 : x1 < 256 := by rw [← e1]; exact byteAt_lt _ _
  have b2 : x2 < 256 := by rw [← e2]; exact byteAt_lt _ _
  have b3 : x3 < 256 := by rw [← e3]; exact byteAt_lt _ _
  have b4 : x4 < 256 := by rw [← e4]; exact byteAt_lt _ _
  have nb : n < 65536 := by rw [← hn]; unfold told; have := byteAt_lt u 5; have := byteAt_lt u 6; omega
  have hyb : y.size ≤ 1099511627776 := by omega
  have z2 : (2 : Int) < (u.size : Int) := by omega
  have z3 : (3 : Int) < (u.size : Int) := by omega
  have z4 : (4 : Int) < (u.size : Int) := by omega
  have v2 : IntKind.i64.wrap (x2 : Int) = x2 := by rw [IntKind.wrap_i64]; omega
  have v3 : IntKind.i64.wrap (x3 : Int) = x3 := by rw [IntKind.wrap_i64]; omega
  have v4 : IntKind.i64.wrap (x4 : Int) = x4 := by rw [IntKind.wrap_i64]; omega
  have h77 : (7 : Int) ≤ (u.size : Int) := by omega
  have hub : (u.size : Int) ≤ 9223372036854775807 := by omega
  have t0 : (x0 : Int) = 197 := by omega
  have t1 : (x1 : Int) = 1 := by omega
  have t2 : ¬ (x2 : Int) < 1 := by omega
  have t3 : ¬ 11 < (x2 : Int) := by omega
  have t4 : ¬ 63 < (x3 : Int) := by omega
  have t5 : ¬ 63 < (x4 : Int) := by omega
  have t6 : ¬ 32768 < (y.size : Int) := by omega
  have t7 : ((y.size : Int) != (n : Int)) = true := by simp; omega
  clear c0 c1 c2 c3 c4 c5 c6
  clear hz hm e0 e1 e2 e3 e4 hn h ho hs
  go_enter Try.func24, Try.ntmps24
  go_wp2_with fail
  refine (hp _).mono ?_
  rintro e w1 ⟨rfl, G1⟩
  go_wp2_with fail
  refine (hG _).mono ?_
  rintro e w2 ⟨rfl, rfl⟩
  go_wp2
  (try simp only [Exit.inBlock, Exit.then])
  refine bodyPost_ret (results_five rfl _ _ _) rfl ?_
  exact ⟨rfl, G1⟩

set_option maxHeartbeats 2000000 in
theorem refParse_fine (s : ByteArray) (w : World) (h : ¬ s.size < 11) (hs : s.size ≤ 1099511627776) (ho : okB s = true) (x0 x1 x2 x3 x4 n : Nat) (e0 : byteAt (openS s) 0 = x0) (e1 : byteAt (openS s) 1 = x1) (e2 : byteAt (openS s) 2 = x2) (e3 : byteAt (openS s) 3 = x3) (e4 : byteAt (openS s) 4 = x4) (hn : told (openS s) = n) (c0 : x0 = 197) (c1 : x1 = 1) (c2 : ¬ (x2 < 1 ∨ 11 < x2)) (c3 : ¬ 64 ≤ x3) (c4 : ¬ 64 ≤ x4) (c5 : ¬ 32768 < (openS s).size - 7) (c6 : (openS s).size - 7 = n) :
    Calls Try.prog 24 #[.string s] w fun e w' => e = .returned (.tuple #[.int .i64 (x2 : Int), .int .i64 (x3 : Int), .int .i64 (x4 : Int), .string ((openS s).extract 7 (openS s).size), .int .i64 0]) ∧ Grw w w' := by
  have mixed : Try.prog.follows .mixedOrders = true := by kernel_rfl
  have h1 : ¬ (s.size : Int) < 11 := by omega
  have hz := openS_size h ho
  have hp := fun W => open_ref s W hs
  rw [ho] at hp
  have h7 : 7 ≤ (openS s).size := by omega
  have hG := fun W => refGet_yes (openS s) 5 2 W (by unfold maxLen; omega) (by decide) (by decide) (by omega)
  rw [ref_told h7, hn] at hG
  obtain ⟨y, hy⟩ : ∃ y, (openS s).extract 7 (openS s).size = y := ⟨_, rfl⟩
  have hm : y.size = (openS s).size - 7 := by rw [← hy, ByteArray.size_extract]; omega
  have HYE := Lib.hid hy
  generalize openS s = u at *
  have i0 : 0 < u.size := by omega
  have i1 : 1 < u.size := by omega
  have i2 : 2 < u.size := by omega
  have i3 : 3 < u.size := by omega
  have i4 : 4 < u.size := by omega
  have g0 : u[0].toNat = x0 := (byteAt_get i0).trans e0
  have g1 : u[1].toNat = x1 := (byteAt_get i1).trans e1
  have g2 : u[2].toNat = x2 := (byteAt_get i2).trans e2
  have g3 : u[3].toNat = x3 := (byteAt_get i3).trans e3
  have g4 : u[4].toNat = x4 := (byteAt_get i4).trans e4
  have b0 : x0 < 256 := by rw [← e0]; exact byteAt_lt _ _
  have b1 : x1 < 256 := by rw [← e1]; exact byteAt_lt _ _
  have b2 : x2 < 256 := by rw [← e2]; exact byteAt_lt _ _
  have b3 : x3 < 256 := by rw [← e3]; exact byteAt_lt _ _
  have b4 : x4 < 256 := by rw [← e4]; exact byteAt_lt _ _
  have nb : n < 65536 := by rw [← hn]; unfold told; have := byteAt_lt u 5; have := byteAt_lt u 6; omega
  have hyb : y.size ≤ 1099511627776 := by omega
  have z2 : (2 : Int) < (u.size : Int) := by omega
  have z3 : (3 : Int) < (u.size : Int) := by omega
  have z4 : (4 : Int) < (u.size : Int) := by omega
  have v2 : IntKind.i64.wrap (x2 : Int) = x2 := by rw [IntKind.wrap_i64]; omega
  have v3 : IntKind.i64.wrap (x3 : Int) = x3 := by rw [IntKind.wrap_i64]; omega
  have v4 : IntKind.i64.wrap (x4 : Int) = x4 := by rw [IntKind.wrap_i64]; omega
  have h77 : (7 : Int) ≤ (u.size : Int) := by omega
  have hub : (u.size : Int) ≤ 9223372036854775807 := by omega
  have t0 : (x0 : Int) = 197 := by omega
  have t1 : (x1 : Int) = 1 := by omega
  have t2 : ¬ (x2 : Int) < 1 := by omega
  have t3 : ¬ 11 < (x2 : Int) := by omega
  have t4 : ¬ 63 < (x3 : Int) := by omega
  have t5 : ¬ 63 < (x4 : Int) := by omega
  have t6 : ¬ 32768 < (y.size : Int) := by omega
  have t7 : (y.size : Int) = (n : Int) := by omega
  clear c0 c1 c2 c3 c4 c5 c6
  clear hz hm e0 e1 e2 e3 e4 hn h ho hs
  go_enter Try.func24, Try.ntmps24
  go_wp2_with fail
  refine (hp _).mono ?_
  rintro e w1 ⟨rfl, G1⟩
  go_wp2_with fail
  refine (hG _).mono ?_
  rintro e w2 ⟨rfl, rfl⟩
  go_wp2
  go_quiet_grown (fail)
  go_wp2
  (try simp only [Exit.inBlock, Exit.then])
  refine bodyPost_ret (results_five rfl _ _ _) rfl ?_
  exact ⟨by rw [HYE.out]; rfl, G1.trans ⟨nq, osq, rfl⟩⟩

theorem refParse_any (s : ByteArray) (w : World) (hs : s.size ≤ 1099511627776) :
    Calls Try.prog 24 #[.string s] w fun e w' => e = .returned (.tuple #[.int .i64 (pk s : Nat), .int .i64 (pf s : Nat), .int .i64 (pt s : Nat), .string (pbody s), .int .i64 (pc s : Nat)]) ∧ Grw w w' := by
  have bad : ∀ c : Nat, pc s = c → c ≠ 0 → Calls Try.prog 24 #[.string s] w (fun e w' => e = .returned (.tuple #[.int .i64 0, .int .i64 0, .int .i64 0, .string { data := #[] }, .int .i64 (c : Int)]) ∧ Grw w w') →
      Calls Try.prog 24 #[.string s] w fun e w' => e = .returned (.tuple #[.int .i64 (pk s : Nat), .int .i64 (pf s : Nat), .int .i64 (pt s : Nat), .string (pbody s), .int .i64 (pc s : Nat)]) ∧ Grw w w' := by
    intro c hc hn hh
    rw [← hc] at hn
    rw [pk_bad hn, pf_bad hn, pt_bad hn, pbody_bad hn, hc]
    exact hh
  by_cases h : s.size < 11
  · exact bad 2 (pc_short h) (by decide) ((refParse_short s w h).mono fun e w' ⟨he, hw⟩ => ⟨he, by rw [← hw]; exact Grw.refl w⟩)
  cases ho : okB s with
  | false => exact bad 8 (pc_sum h ho) (by decide) (refParse_sum s w h hs ho)
  | true =>
    have hc := pc_open h ho
    by_cases c0 : byteAt (openS s) 0 = 197
    case neg => exact bad 4 (by rw [hc, rc_form c0]) (by decide) (refParse_form s w h hs ho _ _ _ _ _ _ rfl rfl rfl rfl rfl rfl c0)
    by_cases c1 : byteAt (openS s) 1 = 1
    case neg => exact bad 9 (by rw [hc, rc_version c0 c1]) (by decide) (refParse_version s w h hs ho _ _ _ _ _ _ rfl rfl rfl rfl rfl rfl c0 c1)
    by_cases c2 : byteAt (openS s) 2 < 1 ∨ 11 < byteAt (openS s) 2
    · have hb := bad 10 (by rw [hc, rc_kind c0 c1 c2]) (by decide)
      rcases c2 with c2 | c2
      · exact hb (refParse_low s w h hs ho _ _ _ _ _ _ rfl rfl rfl rfl rfl rfl c0 c1 c2)
      · exact hb (refParse_high s w h hs ho _ _ _ _ _ _ rfl rfl rfl rfl rfl rfl c0 c1 c2)
    by_cases c3 : 64 ≤ byteAt (openS s) 3
    · exact bad 1 (by rw [hc, rc_range c0 c1 c2 (.inl c3)]) (by decide) (refParse_from s w h hs ho _ _ _ _ _ _ rfl rfl rfl rfl rfl rfl c0 c1 c2 c3)
    by_cases c4 : 64 ≤ byteAt (openS s) 4
    · exact bad 1 (by rw [hc, rc_range c0 c1 c2 (.inr c4)]) (by decide) (refParse_to s w h hs ho _ _ _ _ _ _ rfl rfl rfl rfl rfl rfl c0 c1 c2 c3 c4)
    have c34 : ¬ (64 ≤ byteAt (openS s) 3 ∨ 64 ≤ byteAt (openS s) 4) := by omega
    by_cases c5 : 32768 < (openS s).size - 7
    · exact bad 3 (by rw [hc, rc_long c0 c1 c2 c34 (.inl c5)]) (by decide) (refParse_long s w h hs ho _ _ _ _ _ _ rfl rfl rfl rfl rfl rfl c0 c1 c2 c3 c4 c5)
    by_cases c6 : (openS s).size - 7 = told (openS s)
    case neg => exact bad 3 (by rw [hc, rc_long c0 c1 c2 c34 (.inr c6)]) (by decide) (refParse_other s w h hs ho _ _ _ _ _ _ rfl rfl rfl rfl rfl rfl c0 c1 c2 c3 c4 c5 c6)
    have hr : pc s = 0 := by rw [hc, rc_ok c0 c1 c2 c34 (by omega)]
    have k1 : pk s = byteAt (openS s) 2 := by unfold pk; rw [if_pos hr]
    have k2 : pf s = byteAt (openS s) 3 := by unfold pf; rw [if_pos hr]
    have k3 : pt s = byteAt (openS s) 4 := by unfold pt; rw [if_pos hr]
    have k4 : pbody s = (openS s).extract 7 (openS s).size := by unfold pbody; rw [if_pos hr]
    rw [k1, k2, k3, k4, hr]
    exact refParse_fine s w h hs ho _ _ _ _ _ _ rfl rfl rfl rfl rfl rfl c0 c1 c2 c3 c4 c5 c6
end Go.Proofs.Ytibngfpjdookkaa
