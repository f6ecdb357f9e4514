/- Reading a packet's body: what a reader's methods answer, each by one function on what is left of the bytes; numbers, processes, configurations, keys. -/
import Derived.Test.YtibngfpjdookkaaPanics
import Derived.Test.YtibngfpjdookkaaPacketMath
import Derived.Test.YtibngfpjdookkaaBel
import Derived.Deep.RegionHeld2
set_option linter.unusedVariables false
set_option linter.unusedSimpArgs false
namespace Go.Proofs.Ytibngfpjdookkaa
open Go.RowKit Go.Sort

/-- 'panic' of an error's number, as it leaves a call. -/
def pan (c : Nat) : List PanicEntry := [{ v := .iface 36 (.int .i64 (c : Int)), recovered := false }]
theorem short_pan : short = pan 2 := rfl

/-- What a reader's method does: it answers the value that stands there, and is behind it; or gives up by its error. -/
def RP {α : Type} (G : List UInt8 → Got α) (D : World → α → Value → Prop) (w : World) (b : Nat) (s : ByteArray) (a : Nat) (e : Ending) (w' : World) : Prop :=
  (∃ v val a', G (restB s a) = .ok (v, restB s a') ∧ e = .returned val ∧ D w' v val ∧ Rd w' b s a' ∧ w.grownBy w' (some b)) ∨
  (∃ c, G (restB s a) = .error c ∧ e = .panicked (pan c) ∧ w.grownBy w' (some b))

theorem grown_drewN (w : World) (n : Nat) (o : Option Nat) : w.grownBy (w.drewN n) o := ⟨rfl, rfl, rfl, Nat.le_refl _, fun _ _ _ => rfl⟩

/-- A number of so many bytes. -/
theorem rnum (w : World) (b : Nat) (s : ByteArray) (a n : Nat) (k : Int) (hk : wid k = n) (h : Rd w b s a) :
    Calls Try.prog 45 #[.pointer (some ⟨b, 0, none⟩), .int .i64 k] w (RP (getN n) (fun _ v val => val = .int .u64 (v : Int)) w b s a) := by
  have hin := h.in_
  by_cases hm : a + n ≤ s.size
  · have := num_yes w b s a k h (by rw [hk]; simpa using hm)
    rw [hk, Int.toNat_natCast] at this
    refine this.mono ?_
    rintro e w' ⟨rfl, hr, hg⟩
    exact .inl ⟨_, _, a + n, getN_at hm, rfl, rfl, hr, hg⟩
  · refine (num_no w b s a k h (by rw [hk]; omega)).mono ?_
    rintro e w' ⟨rfl, i, rfl⟩
    exact .inr ⟨2, getN_short (by omega), rfl, grown_drewN _ _ _⟩

theorem getN_lt {n : Nat} {l : List UInt8} {v : Nat} {r : List UInt8} (h : getN n l = .ok (v, r)) : v < 256 ^ n := (getN_iff.1 h).1

/-- A number that is at most so much, else an error. -/
def getSm (n m c : Nat) (l : List UInt8) : Got Int := andG (getN n l) fun p r => badG c (m < p) (.ok ((p : Int), r))
theorem getP_sm : getP = getSm 1 63 1 := rfl

set_option maxHeartbeats 1000000 in
theorem within_yes (v m : Nat) (c : Int) (w : World) (h : v ≤ m) :
    Calls Try.prog 88 #[.int .i64 (v : Int), .int .i64 (m : Int), .int .i64 c] w fun e w' => e = .returned (.int .i64 (v : Int)) ∧ w = w' := by
  have h1 : ¬ (v : Int) < 0 := by omega
  have h2 : ¬ (m : Int) < v := by omega
  go_enter Try.func88, Try.ntmps88
  go_wp2
  go_ret
  exact ⟨rfl, rfl⟩
set_option maxHeartbeats 1000000 in
theorem within_no (v m c : Int) (w : World) (h : v < 0 ∨ m < v) :
    Calls Try.prog 88 #[.int .i64 v, .int .i64 m, .int .i64 c] w fun e w' => e = .panicked [{ v := .iface 36 (.int .i64 c), recovered := false }] ∧ w = w' := by
  by_cases h1 : v < 0
  · clear h
    go_enter Try.func88, Try.ntmps88
    go_wp2
    exact ⟨rfl, rfl, rfl⟩
  · have h2 : m < v := by omega
    clear h
    go_enter Try.func88, Try.ntmps88
    go_wp2
    exact ⟨rfl, rfl, rfl⟩

theorem grown_alloc (w : World) (o : Obj) (x : Option Nat) : w.grownBy (w.alloc o) x := ⟨rfl, rfl, rfl, by simp, fun k hk _ => heap_alloc_old w o hk⟩
theorem grown_tr {a b c : World} {row : Option Nat} (h : a.grownBy b row) (k : b.grownBy c row) : a.grownBy c row :=
  ⟨k.os.trans h.os, k.tape.trans h.tape, k.output.trans h.output, Nat.le_trans h.size k.size, fun i hi hn => (k.block i (Nat.lt_of_lt_of_le hi h.size) hn).trans (h.block i hi hn)⟩
theorem Rd.lt {w : World} {b : Nat} {s : ByteArray} {a : Nat} (h : Rd w b s a) : b < w.heap.size := World.block_lt_of_cell? _ _ h.text
theorem Rd.alloc' {w : World} {b : Nat} {s : ByteArray} {a : Nat} (h : Rd w b s a) (o : Obj) : Rd (w.alloc o) b s a := h.after ((Grw.refl w).alloc o).below

set_option maxHeartbeats 1000000 in
theorem rsmall (w : World) (b : Nat) (s : ByteArray) (a n m c : Nat) (k : Int) (hk : wid k = n) (hn : n ≤ 2) (h : Rd w b s a) :
    Calls Try.prog 74 #[.agg #[.pointer (some ⟨b, 0, none⟩)], .int .i64 k, .int .i64 (m : Int), .int .i64 (c : Int)] w (RP (getSm n m c) (fun _ v val => val = .int .i64 v) w b s a) := by
  have H := h.alloc' (.cells #[.pointer (some ⟨b, 0, none⟩)] 62)
  have hg0 := grown_alloc w (.cells #[.pointer (some ⟨b, 0, none⟩)] 62) (some b)
  go_enter Try.func74, Try.ntmps74
  go_wp2_with fail
  refine (rnum _ b s a n k hk H).mono ?_
  rintro e w1 (⟨v, _, a1, hG, rfl, rfl, hr, hg⟩ | ⟨q, hG, rfl, hg⟩)
  · have hv := getN_lt hG
    have hv' : v < 65536 := Nat.lt_of_lt_of_le hv (Nat.le_trans (Nat.pow_le_pow_right (by decide) hn) (by decide))
    have HG := Lib.hid hG
    clear hG hv
    by_cases hm : v ≤ m
    · go_wp2_with fail
      refine (within_yes v m c _ hm).mono ?_
      rintro e w2 ⟨rfl, rfl⟩
      go_wp2
      go_ret
      exact .inl ⟨(v : Int), _, a1, by simp only [getSm, HG.out, andG_ok, badG, if_neg (show ¬ m < v by omega)], rfl, rfl, hr, grown_tr hg0 hg⟩
    · go_wp2_with fail
      refine (within_no v m c _ (.inr (by omega))).mono ?_
      rintro e w2 ⟨rfl, rfl⟩
      exact ⟨rfl, .inr ⟨c, by simp only [getSm, HG.out, andG_ok, badG, if_pos (show m < v by omega)], rfl, grown_tr hg0 hg⟩⟩
  · exact ⟨rfl, .inr ⟨q, by simp only [getSm, hG, andG_err], rfl, grown_tr hg0 hg⟩⟩

set_option maxHeartbeats 1000000 in
theorem rprocess (w : World) (b : Nat) (s : ByteArray) (a : Nat) (h : Rd w b s a) :
    Calls Try.prog 48 #[.agg #[.pointer (some ⟨b, 0, none⟩)]] w (RP getP (fun _ v val => val = .int .i64 v) w b s a) := by
  have H := h.alloc' (.cells #[.pointer (some ⟨b, 0, none⟩)] 62)
  have hg0 := grown_alloc w (.cells #[.pointer (some ⟨b, 0, none⟩)] 62) (some b)
  rw [getP_sm]
  go_enter Try.func48, Try.ntmps48
  go_wp2_with fail
  refine (rsmall _ b s a 1 63 1 1 (by decide) (by decide) H).mono ?_
  rintro e w1 (⟨v, _, a1, hG, rfl, rfl, hr, hg⟩ | ⟨q, hG, rfl, hg⟩)
  · have HG := Lib.hid hG
    clear hG
    go_wp2
    go_ret
    exact .inl ⟨_, _, a1, HG.out, rfl, rfl, hr, grown_tr hg0 hg⟩
  · exact ⟨rfl, .inr ⟨q, hG, rfl, grown_tr hg0 hg⟩⟩

set_option maxHeartbeats 1000000 in
theorem rfour (w : World) (b : Nat) (s : ByteArray) (a : Nat) (h : Rd w b s a) :
    Calls Try.prog 46 #[.agg #[.pointer (some ⟨b, 0, none⟩)]] w (RP (getN 4) (fun _ v val => val = .int .u32 (v : Int)) w b s a) := by
  have H := h.alloc' (.cells #[.pointer (some ⟨b, 0, none⟩)] 62)
  have hg0 := grown_alloc w (.cells #[.pointer (some ⟨b, 0, none⟩)] 62) (some b)
  go_enter Try.func46, Try.ntmps46
  go_wp2_with fail
  refine (rnum _ b s a 4 4 (by decide) H).mono ?_
  rintro e w1 (⟨v, _, a1, hG, rfl, rfl, hr, hg⟩ | ⟨q, hG, rfl, hg⟩)
  · have hv : v < 4294967296 := getN_lt hG
    have HG := Lib.hid hG
    clear hG
    go_wp2
    go_ret
    exact .inl ⟨_, _, a1, HG.out, rfl, rfl, hr, grown_tr hg0 hg⟩
  · exact ⟨rfl, .inr ⟨q, hG, rfl, grown_tr hg0 hg⟩⟩
end Go.Proofs.Ytibngfpjdookkaa
