/- A disk of two slots: plain facts, without the program. -/
import Derived.Test.YtimdemidnleiiaaCrcAwake
import Derived.Test.YtimdemidnleiiaaMath
set_option linter.unusedVariables false
set_option linter.unusedSimpArgs false
namespace Go.Proofs.Ytimdemidnleiiaa

/-- The length, and the number, that opened bytes tell. -/
def lenT (t : ByteArray) : Nat := be ((t.data.toList.drop 8).take 2)
def numT (t : ByteArray) : Nat := be ((t.data.toList.drop 0).take 8)
/-- Is a slot whole? Its number, its record. -/
def wholeB (s : ByteArray) : Bool := okB s && (decide (10 ≤ (openS s).size) && decide (lenT (openS s) + 10 = (openS s).size))
def numS (s : ByteArray) : Nat := if wholeB s = true then numT (openS s) else 0
def recS (s : ByteArray) : ByteArray := if wholeB s = true then (openS s).extract 10 (openS s).size else { data := #[] }
/-- What stands ahead of a record; a record's bytes. -/
def headS (n len : Nat) : ByteArray := ⟨(pb 8 n ++ pb 2 len).toArray⟩
def bytesS (n : Nat) (t : ByteArray) : ByteArray := sealz (headS n t.size ++ t)

theorem be_top (l : List UInt8) (h : l.length ≤ 8) : be l < 18446744073709551616 := by
  have h1 := be_lt _ l rfl
  exact Nat.lt_of_lt_of_le h1 (Nat.le_trans (Nat.pow_le_pow_right (by decide) h) (by decide))
theorem numT_lt (t : ByteArray) : numT t < 18446744073709551616 := be_top _ (by rw [List.length_take]; omega)
theorem lenT_lt (t : ByteArray) : lenT t < 65536 := by
  have h1 := be_lt _ ((t.data.toList.drop 8).take 2) rfl
  have h2 : ((t.data.toList.drop 8).take 2).length ≤ 2 := by rw [List.length_take]; omega
  exact Nat.lt_of_lt_of_le h1 (Nat.le_trans (Nat.pow_le_pow_right (by decide) h2) (by decide))
theorem numS_lt (s : ByteArray) : numS s < 18446744073709551616 := by
  unfold numS
  split
  · exact numT_lt _
  · decide
theorem whole_iff (s : ByteArray) : wholeB s = true ↔ okB s = true ∧ 10 ≤ (openS s).size ∧ lenT (openS s) + 10 = (openS s).size := by
  unfold wholeB
  simp [Bool.and_eq_true]
theorem headS_size (n len : Nat) : (headS n len).size = 10 := by
  show ((pb 8 n ++ pb 2 len).toArray).size = 10
  simp [pb_length]
theorem headS_list (n len : Nat) : (headS n len).data.toList = pb 8 n ++ pb 2 len := rfl
theorem bytesS_size (n : Nat) (t : ByteArray) : (bytesS n t).size = 14 + t.size := by
  unfold bytesS
  rw [sealz_size, ByteArray.size_append, headS_size]
  omega
theorem be_pb8 {n : Nat} (h : n < 18446744073709551616) : be (pb 8 n) = n := by
  rw [be_pb]; exact Nat.mod_eq_of_lt h
theorem be_pb2 {n : Nat} (h : n < 65536) : be (pb 2 n) = n := by
  rw [be_pb]; exact Nat.mod_eq_of_lt h
theorem front_num (n len : Nat) (r : List UInt8) (m : Nat) (hm : 8 ≤ m) : (((pb 8 n ++ pb 2 len ++ r).take m).drop 0).take 8 = pb 8 n := by
  rw [List.drop_zero, List.take_take, Nat.min_eq_left hm, List.append_assoc, List.take_left' (pb_length 8 n)]
theorem front_len (n len : Nat) (r : List UInt8) (m : Nat) (hm : 10 ≤ m) : (((pb 8 n ++ pb 2 len ++ r).take m).drop 8).take 2 = pb 2 len := by
  rw [List.drop_take, List.take_take, Nat.min_eq_left (by omega), List.append_assoc, List.drop_left' (pb_length 8 n), List.take_left' (pb_length 2 len)]
theorem extract_list (s : ByteArray) (m : Nat) : (s.extract 0 m).data.toList = s.data.toList.take m := by
  rw [ByteArray.data_extract, Array.toList_extract, List.extract_eq_take_drop, List.drop_zero, Nat.sub_zero]

/-- What was written whole is whole. -/
theorem whole_bytes {n : Nat} {t : ByteArray} (hn : n < 18446744073709551616) (ht : t.size < 65536) : wholeB (bytesS n t) = true ∧ numS (bytesS n t) = n ∧ recS (bytesS n t) = t := by
  have ho : openS (bytesS n t) = headS n t.size ++ t := openS_seal _
  have hl : (headS n t.size ++ t).data.toList = (pb 8 n ++ pb 2 t.size ++ t.data.toList).take (10 + t.data.toList.length) := by
    rw [ByteArray.data_append, Array.toList_append, headS_list, List.take_of_length_le]
    rw [List.length_append, List.length_append, pb_length, pb_length]
    omega
  have hs : (headS n t.size ++ t).size = 10 + t.size := by rw [ByteArray.size_append, headS_size]
  have hw : wholeB (bytesS n t) = true := by
    rw [whole_iff]
    refine ⟨okB_seal _, by rw [ho, hs]; omega, ?_⟩
    rw [ho, hs]
    unfold lenT
    rw [hl, front_len _ _ _ _ (by omega), be_pb2 ht]
    omega
  refine ⟨hw, ?_, ?_⟩
  · unfold numS
    rw [if_pos hw, ho]
    unfold numT
    rw [hl, front_num _ _ _ _ (by omega), be_pb8 hn]
  · unfold recS
    rw [if_pos hw, ho, hs]
    apply ByteArray.ext
    apply Array.ext'
    rw [ByteArray.data_extract, Array.toList_extract, List.extract_eq_take_drop, ByteArray.data_append, Array.toList_append]
    rw [List.drop_left' (by rw [headS_list, List.length_append, pb_length, pb_length]), List.take_of_length_le (by show t.data.toList.length ≤ _; rw [Array.length_toList]; show t.size ≤ _; omega)]
/-- What was torn isn't. -/
theorem torn_not {n : Nat} {t : ByteArray} (ht : t.size < 65536) (k : Nat) (hk : k < (bytesS n t).size) : wholeB ((bytesS n t).extract 0 k) = false := by
  rw [Bool.eq_false_iff]
  intro hw
  obtain ⟨h1, h2, h3⟩ := (whole_iff _).1 hw
  rw [bytesS_size] at hk
  have hsz : ((bytesS n t).extract 0 k).size = k := by rw [ByteArray.size_extract, bytesS_size]; omega
  have ho : openS ((bytesS n t).extract 0 k) = ((bytesS n t).extract 0 k).extract 0 (k - 4) := by
    unfold openS
    rw [if_pos h1, hsz]
  have hos : (openS ((bytesS n t).extract 0 k)).size = k - 4 := by
    rw [ho, ByteArray.size_extract, hsz]; omega
  have hl : (openS ((bytesS n t).extract 0 k)).data.toList = (pb 8 n ++ pb 2 t.size ++ (t.data.toList ++ (tailz (crc (nats (headS n t.size ++ t)))).data.toList)).take (k - 4) := by
    rw [ho, extract_list, extract_list, List.take_take, Nat.min_eq_left (by omega)]
    unfold bytesS sealz
    rw [ByteArray.data_append, Array.toList_append, ByteArray.data_append, Array.toList_append, headS_list]
    simp only [List.append_assoc]
  rw [hos] at h2 h3
  unfold lenT at h3
  rw [hl, front_len _ _ _ _ h2, be_pb2 ht] at h3
  omega

/-- Two slots. -/
structure Dk where
  a : ByteArray
  b : ByteArray
/-- Is one whole; is the second one the newest; its number, its record. -/
def fndB (d : Dk) : Bool := wholeB d.a || wholeB d.b
def sndB (d : Dk) : Bool := wholeB d.b && (!wholeB d.a || decide (numS d.a < numS d.b))
def numD (d : Dk) : Nat := if sndB d = true then numS d.b else numS d.a
def recD (d : Dk) : ByteArray := if sndB d = true then recS d.b else recS d.a
/-- Is the second slot the next one; the next number. -/
def nextB (d : Dk) : Bool := wholeB d.a && !sndB d
def nextN (d : Dk) : Nat := (numD d + 1) % 18446744073709551616
def slotD2 (d : Dk) (x : ByteArray) : Dk := if nextB d = true then ⟨d.a, x⟩ else ⟨x, d.b⟩
/-- How many bytes a torn one keeps of n. -/
def keepN (keep : Int) (n : Nat) : Nat := min keep.toNat (n - 1)
def tornS (x : ByteArray) (keep : Int) : ByteArray := x.extract 0 (keepN keep x.size)
def writeD (d : Dk) (s : ByteArray) : Dk := if s.size ≤ 8192 then slotD2 d (bytesS (nextN d) s) else d
def tearD (d : Dk) (s : ByteArray) (keep : Int) : Dk := if s.size ≤ 8192 then slotD2 d (tornS (bytesS (nextN d) s) keep) else d
def codeD (s : ByteArray) : Int := if s.size ≤ 8192 then 0 else 3
/-- A call. -/
structure DAc where
  data : ByteArray
  tear : Bool
  keep : Int
def stepD (d : Dk) (x : DAc) : Dk := if x.tear = true then tearD d x.data x.keep else writeD d x.data

theorem numD_lt (d : Dk) : numD d < 18446744073709551616 := by
  unfold numD
  split <;> exact numS_lt _
theorem nextN_lt (d : Dk) : nextN d < 18446744073709551616 := Nat.mod_lt _ (by decide)
theorem none_snd {d : Dk} (h : fndB d = false) : sndB d = false ∧ numD d = 0 ∧ recD d = { data := #[] } ∧ nextB d = false := by
  unfold fndB at h
  obtain ⟨h1, h2⟩ := Bool.or_eq_false_iff.1 h
  have hs : sndB d = false := by unfold sndB; rw [h2]; rfl
  refine ⟨hs, ?_, ?_, by unfold nextB; rw [h1]; rfl⟩
  · unfold numD numS; rw [hs, h1]; rfl
  · unfold recD recS; rw [hs, h1]; rfl
theorem next_found {d : Dk} (h : fndB d = true) : nextB d = !sndB d := by
  unfold nextB
  cases ha : wholeB d.a
  · have : sndB d = true := by
      unfold fndB at h
      unfold sndB
      rw [ha] at h ⊢
      simpa using h
    rw [this]; rfl
  · rfl
theorem keepN_lt (keep : Int) {n : Nat} (h : 0 < n) : keepN keep n < n := by unfold keepN; omega

/-- One slot stays. -/
theorem put_one (d : Dk) (x : ByteArray) : (slotD2 d x).a = d.a ∨ (slotD2 d x).b = d.b := by
  unfold slotD2
  split
  · exact .inl rfl
  · exact .inr rfl
/-- Behind a torn one what is read stays. -/
theorem put_torn (d : Dk) (x : ByteArray) (h : wholeB x = false) : fndB (slotD2 d x) = fndB d ∧ recD (slotD2 d x) = recD d ∧ numD (slotD2 d x) = numD d := by
  have hn : numS x = 0 := by unfold numS; rw [h]; rfl
  have hr : recS x = { data := #[] } := by unfold recS; rw [h]; rfl
  obtain ⟨a, b⟩ := d
  unfold slotD2
  cases hq : nextB ⟨a, b⟩
  · rw [if_neg (by decide)]
    have hq' : wholeB a = false ∨ sndB ⟨a, b⟩ = true := by
      unfold nextB at hq
      simp only at hq
      rcases Bool.and_eq_false_iff.1 hq with h1 | h1
      · exact .inl h1
      · exact .inr (by simpa using h1)
    cases hb : wholeB b
    · have ha : wholeB a = false := by
        rcases hq' with h1 | h1
        · exact h1
        · unfold sndB at h1
          rw [hb] at h1
          cases h1
      have hna : numS a = 0 := by unfold numS; rw [ha]; rfl
      have hra : recS a = { data := #[] } := by unfold recS; rw [ha]; rfl
      simp [fndB, recD, numD, sndB, h, ha, hb, hn, hr, hna, hra]
    · have hs : sndB ⟨a, b⟩ = true := by
        rcases hq' with h1 | h1
        · unfold sndB; simp [h1, hb]
        · exact h1
      have hs2 : sndB ⟨x, b⟩ = true := by unfold sndB; simp [h, hb]
      unfold fndB recD numD
      rw [hs, hs2]
      simp [h, hb]
  · rw [if_pos rfl]
    unfold nextB at hq
    simp only [Bool.and_eq_true, Bool.not_eq_true'] at hq
    obtain ⟨ha, hs⟩ := hq
    have hs2 : sndB ⟨a, x⟩ = false := by unfold sndB; simp [h]
    unfold fndB recD numD
    rw [hs, hs2]
    simp [h, ha]
/-- Behind a whole one it is read. -/
theorem put_whole (d : Dk) (x : ByteArray) (h : wholeB x = true) (hn : numD d < numS x) : fndB (slotD2 d x) = true ∧ recD (slotD2 d x) = recS x ∧ numD (slotD2 d x) = numS x := by
  obtain ⟨a, b⟩ := d
  unfold slotD2
  cases hq : nextB ⟨a, b⟩
  · rw [if_neg (by decide)]
    have hs2 : sndB ⟨x, b⟩ = false := by
      unfold sndB
      cases hb : wholeB b
      · rfl
      · have hs : sndB ⟨a, b⟩ = true := by
          unfold nextB at hq
          simp only at hq
          rcases Bool.and_eq_false_iff.1 hq with h1 | h1
          · unfold sndB; simp [h1, hb]
          · simpa using h1
        unfold numD at hn
        rw [hs, if_pos rfl] at hn
        simp only at hn ⊢
        simp [h]
        omega
    unfold fndB recD numD
    rw [hs2]
    simp [h]
  · rw [if_pos rfl]
    unfold nextB at hq
    simp only [Bool.and_eq_true, Bool.not_eq_true'] at hq
    obtain ⟨ha, hs⟩ := hq
    have hs2 : sndB ⟨a, x⟩ = true := by
      unfold numD at hn
      rw [hs, if_neg (by decide)] at hn
      simp only at hn
      unfold sndB
      simp [h, hn]
    unfold fndB recD numD
    rw [hs2]
    simp [h]

theorem write_read {d : Dk} {s : ByteArray} (hs : s.size ≤ 8192) (hn : numD d + 1 < 18446744073709551616) : fndB (writeD d s) = true ∧ recD (writeD d s) = s ∧ numD (writeD d s) = numD d + 1 := by
  have hN : nextN d = numD d + 1 := Nat.mod_eq_of_lt hn
  obtain ⟨h1, h2, h3⟩ := whole_bytes (n := nextN d) (t := s) (nextN_lt d) (by omega)
  unfold writeD
  rw [if_pos hs]
  obtain ⟨k1, k2, k3⟩ := put_whole d (bytesS (nextN d) s) h1 (by rw [h2, hN]; omega)
  exact ⟨k1, k2.trans h3, by rw [k3, h2, hN]⟩
theorem tear_read (d : Dk) (s : ByteArray) (keep : Int) : fndB (tearD d s keep) = fndB d ∧ recD (tearD d s keep) = recD d ∧ numD (tearD d s keep) = numD d := by
  unfold tearD
  split
  · rename_i hs
    exact put_torn d _ (torn_not (by omega) _ (keepN_lt _ (by rw [bytesS_size]; omega)))
  · exact ⟨rfl, rfl, rfl⟩
theorem write_long {d : Dk} {s : ByteArray} (hs : ¬ s.size ≤ 8192) : writeD d s = d := by unfold writeD; rw [if_neg hs]
theorem tear_long {d : Dk} {s : ByteArray} {keep : Int} (hs : ¬ s.size ≤ 8192) : tearD d s keep = d := by unfold tearD; rw [if_neg hs]
/-- No slot is longer than a record's bytes. -/
structure Dk.ok (d : Dk) : Prop where
  a : d.a.size ≤ 8206
  b : d.b.size ≤ 8206
theorem dput_ok {d : Dk} {x : ByteArray} (h : d.ok) (hx : x.size ≤ 8206) : (slotD2 d x).ok := by
  unfold slotD2
  split
  · exact ⟨h.a, hx⟩
  · exact ⟨hx, h.b⟩
theorem step_ok {d : Dk} (h : d.ok) (x : DAc) : (stepD d x).ok := by
  unfold stepD tearD writeD
  split
  · split
    · refine dput_ok h ?_
      unfold tornS
      rw [ByteArray.size_extract, bytesS_size]
      unfold keepN
      omega
    · exact h
  · split
    · exact dput_ok h (by rw [bytesS_size]; omega)
    · exact h
theorem step_one (d : Dk) (x : DAc) : ((stepD d x).a = d.a ∨ (stepD d x).b = d.b) ∧ (codeD x.data ≠ 0 → stepD d x = d) := by
  unfold stepD tearD writeD codeD
  constructor
  · split
    · split
      · exact put_one _ _
      · exact .inl rfl
    · split
      · exact put_one _ _
      · exact .inl rfl
  · intro h
    split at h
    · exact absurd rfl h
    · rename_i h1
      rw [if_neg h1, if_neg h1]
      split <;> rfl
end Go.Proofs.Ytimdemidnleiiaa
