/- Frames' bytes: plain facts, without the program. -/
import Derived.Test.YtibngfpjdookkaaCrcOpens
import Derived.Test.YtibngfpjdookkaaMath
set_option linter.unusedVariables false
set_option linter.unusedSimpArgs false
namespace Go.Proofs.Ytibngfpjdookkaa
open Go.RowKit

/-- The byte at a place. -/
def byteAt (u : ByteArray) (i : Nat) : Nat := (nats u).getD i 0
theorem byteAt_lt (u : ByteArray) (i : Nat) : byteAt u i < 256 := by
  unfold byteAt
  rw [List.getD_eq_getElem?_getD]
  by_cases h : i < (nats u).length
  · rw [List.getElem?_eq_getElem h]
    exact nats_bytes u _ (List.getElem_mem h)
  · rw [List.getElem?_eq_none (by omega)]; decide
theorem byteAt_data {u : ByteArray} {i : Nat} (h : i < u.size) : byteAt u i = (u.data[i]'h).toNat := by
  unfold byteAt
  rw [List.getD_eq_getElem?_getD, nats_at h]; rfl
theorem byteAt_get {u : ByteArray} {i : Nat} (h : i < u.size) : u[i].toNat = byteAt u i := (byteAt_data h).symm
theorem be_one {u : ByteArray} {i : Nat} (h : i + 1 ≤ u.size) : be ((u.data.toList.drop i).take 1) = byteAt u i := by
  have hl : i < u.data.toList.length := by rw [Array.length_toList]; exact h
  rw [byteAt_data h, List.drop_eq_getElem_cons hl]
  simp [be]
theorem be_two {u : ByteArray} {i : Nat} (h : i + 2 ≤ u.size) : be ((u.data.toList.drop i).take 2) = byteAt u i * 256 + byteAt u (i + 1) := by
  have hl : i < u.data.toList.length := by rw [Array.length_toList]; exact Nat.lt_of_succ_lt h
  have hl2 : i + 1 < u.data.toList.length := by rw [Array.length_toList]; exact h
  rw [byteAt_data (by omega : i < u.size), byteAt_data (by omega : i + 1 < u.size), List.drop_eq_getElem_cons hl, List.drop_eq_getElem_cons hl2]
  simp [be]

/-- A frame's head. -/
def headz (k f t n : Nat) : ByteArray := ⟨#[197, 1, UInt8.ofNat k, UInt8.ofNat f, UInt8.ofNat t, UInt8.ofNat (n / 256 % 256), UInt8.ofNat (n % 256)]⟩
theorem headz_size (k f t n : Nat) : (headz k f t n).size = 7 := rfl
theorem headz_nats {k f t : Nat} (n : Nat) (hk : k < 256) (hf : f < 256) (ht : t < 256) : nats (headz k f t n) = [197, 1, k, f, t, n / 256 % 256, n % 256] := by
  unfold nats headz
  simp only [List.map_cons, List.map_nil, UInt8.toNat_ofNat']
  simp only [List.cons.injEq, and_true]
  refine ⟨rfl, rfl, ?_, ?_, ?_, ?_, ?_⟩ <;> omega
/-- What is wrong with a frame, whose body has so many bytes. -/
def fcode (k f t n : Int) : Int := if k < 1 ∨ 11 < k then 10 else if f < 0 ∨ 64 ≤ f ∨ t < 0 ∨ 64 ≤ t then 1 else if 32768 < n then 3 else 0
theorem fcode_kind {k f t n : Int} (h : k < 1 ∨ 11 < k) : fcode k f t n = 10 := by unfold fcode; rw [if_pos h]
theorem fcode_range {k f t n : Int} (h : ¬ (k < 1 ∨ 11 < k)) (h1 : f < 0 ∨ 64 ≤ f ∨ t < 0 ∨ 64 ≤ t) : fcode k f t n = 1 := by unfold fcode; rw [if_neg h, if_pos h1]
theorem fcode_long {k f t n : Int} (h : ¬ (k < 1 ∨ 11 < k)) (h1 : ¬ (f < 0 ∨ 64 ≤ f ∨ t < 0 ∨ 64 ≤ t)) (h2 : 32768 < n) : fcode k f t n = 3 := by unfold fcode; rw [if_neg h, if_neg h1, if_pos h2]
theorem fcode_ok {k f t n : Int} (h : ¬ (k < 1 ∨ 11 < k)) (h1 : ¬ (f < 0 ∨ 64 ≤ f ∨ t < 0 ∨ 64 ≤ t)) (h2 : ¬ 32768 < n) : fcode k f t n = 0 := by unfold fcode; rw [if_neg h, if_neg h1, if_neg h2]
theorem fcode_may {k f t n : Int} (h : fcode k f t n = 0) : 1 ≤ k ∧ k ≤ 11 ∧ 0 ≤ f ∧ f ≤ 63 ∧ 0 ≤ t ∧ t ≤ 63 ∧ n ≤ 32768 := by
  unfold fcode at h
  split at h
  · omega
  split at h
  · omega
  split at h <;> omega
theorem fcode_bd (k f t n : Int) : 0 ≤ fcode k f t n ∧ fcode k f t n ≤ 10 := by
  unfold fcode
  (repeat' split) <;> omega
/-- A frame's bytes. -/
def body (k f t : Nat) (b : ByteArray) : ByteArray := headz k f t b.size ++ b
def printz (k f t : Nat) (b : ByteArray) : ByteArray := sealz (body k f t b)
theorem body_size (k f t : Nat) (b : ByteArray) : (body k f t b).size = b.size + 7 := by
  unfold body
  rw [ByteArray.size_append, headz_size]; omega
theorem printz_size (k f t : Nat) (b : ByteArray) : (printz k f t b).size = b.size + 11 := by
  unfold printz
  rw [sealz_size, body_size]

/-! ### What bytes are, that were opened -/
def told (u : ByteArray) : Nat := byteAt u 5 * 256 + byteAt u 6
def rc (u : ByteArray) : Nat :=
  if byteAt u 0 ≠ 197 then 4 else if byteAt u 1 ≠ 1 then 9 else if byteAt u 2 < 1 ∨ 11 < byteAt u 2 then 10 else if 64 ≤ byteAt u 3 ∨ 64 ≤ byteAt u 4 then 1 else
    if 32768 < u.size - 7 ∨ u.size - 7 ≠ told u then 3 else 0
theorem rc_form {u : ByteArray} (h : byteAt u 0 ≠ 197) : rc u = 4 := by unfold rc; rw [if_pos h]
theorem rc_version {u : ByteArray} (h : byteAt u 0 = 197) (h1 : byteAt u 1 ≠ 1) : rc u = 9 := by unfold rc; rw [if_neg (not_not_intro h), if_pos h1]
theorem rc_kind {u : ByteArray} (h : byteAt u 0 = 197) (h1 : byteAt u 1 = 1) (h2 : byteAt u 2 < 1 ∨ 11 < byteAt u 2) : rc u = 10 := by
  unfold rc; rw [if_neg (not_not_intro h), if_neg (not_not_intro h1), if_pos h2]
theorem rc_range {u : ByteArray} (h : byteAt u 0 = 197) (h1 : byteAt u 1 = 1) (h2 : ¬ (byteAt u 2 < 1 ∨ 11 < byteAt u 2)) (h3 : 64 ≤ byteAt u 3 ∨ 64 ≤ byteAt u 4) : rc u = 1 := by
  unfold rc; rw [if_neg (not_not_intro h), if_neg (not_not_intro h1), if_neg h2, if_pos h3]
theorem rc_long {u : ByteArray} (h : byteAt u 0 = 197) (h1 : byteAt u 1 = 1) (h2 : ¬ (byteAt u 2 < 1 ∨ 11 < byteAt u 2)) (h3 : ¬ (64 ≤ byteAt u 3 ∨ 64 ≤ byteAt u 4)) (h4 : 32768 < u.size - 7 ∨ u.size - 7 ≠ told u) : rc u = 3 := by
  unfold rc; rw [if_neg (not_not_intro h), if_neg (not_not_intro h1), if_neg h2, if_neg h3, if_pos h4]
theorem rc_ok {u : ByteArray} (h : byteAt u 0 = 197) (h1 : byteAt u 1 = 1) (h2 : ¬ (byteAt u 2 < 1 ∨ 11 < byteAt u 2)) (h3 : ¬ (64 ≤ byteAt u 3 ∨ 64 ≤ byteAt u 4)) (h4 : ¬ (32768 < u.size - 7 ∨ u.size - 7 ≠ told u)) : rc u = 0 := by
  unfold rc; rw [if_neg (not_not_intro h), if_neg (not_not_intro h1), if_neg h2, if_neg h3, if_neg h4]
theorem rc_may {u : ByteArray} (h : rc u = 0) : byteAt u 0 = 197 ∧ byteAt u 1 = 1 ∧ 1 ≤ byteAt u 2 ∧ byteAt u 2 ≤ 11 ∧ byteAt u 3 < 64 ∧ byteAt u 4 < 64 ∧ u.size - 7 ≤ 32768 ∧ u.size - 7 = told u := by
  unfold rc at h
  split at h
  · omega
  split at h
  · omega
  split at h
  · omega
  split at h
  · omega
  split at h
  · omega
  omega
theorem rc_bd (u : ByteArray) : rc u ≤ 10 := by
  unfold rc
  (repeat' split) <;> omega

/-! ### What any bytes are -/
def pc (s : ByteArray) : Nat := if s.size < 11 then 2 else if okB s = false then 8 else rc (openS s)
def pk (s : ByteArray) : Nat := if pc s = 0 then byteAt (openS s) 2 else 0
def pf (s : ByteArray) : Nat := if pc s = 0 then byteAt (openS s) 3 else 0
def pt (s : ByteArray) : Nat := if pc s = 0 then byteAt (openS s) 4 else 0
def pbody (s : ByteArray) : ByteArray := if pc s = 0 then (openS s).extract 7 (openS s).size else { data := #[] }
theorem pc_bd (s : ByteArray) : pc s ≤ 10 := by
  unfold pc
  split
  · omega
  split
  · omega
  exact rc_bd _
theorem pc_short {s : ByteArray} (h : s.size < 11) : pc s = 2 := by unfold pc; rw [if_pos h]
theorem pc_sum {s : ByteArray} (h : ¬ s.size < 11) (h1 : okB s = false) : pc s = 8 := by unfold pc; rw [if_neg h, if_pos h1]
theorem pc_open {s : ByteArray} (h : ¬ s.size < 11) (h1 : okB s = true) : pc s = rc (openS s) := by unfold pc; rw [if_neg h, if_neg (by rw [h1]; decide)]
theorem pk_bad {s : ByteArray} (h : pc s ≠ 0) : pk s = 0 := by unfold pk; rw [if_neg h]
theorem pf_bad {s : ByteArray} (h : pc s ≠ 0) : pf s = 0 := by unfold pf; rw [if_neg h]
theorem pt_bad {s : ByteArray} (h : pc s ≠ 0) : pt s = 0 := by unfold pt; rw [if_neg h]
theorem pbody_bad {s : ByteArray} (h : pc s ≠ 0) : pbody s = { data := #[] } := by unfold pbody; rw [if_neg h]
theorem pk_lt (s : ByteArray) : pk s < 256 := by unfold pk; split; exact byteAt_lt _ _; decide
theorem pf_lt (s : ByteArray) : pf s < 256 := by unfold pf; split; exact byteAt_lt _ _; decide
theorem pt_lt (s : ByteArray) : pt s < 256 := by unfold pt; split; exact byteAt_lt _ _; decide
theorem openS_le (x : ByteArray) : (openS x).size ≤ x.size := by
  unfold openS
  split
  · rw [ByteArray.size_extract]; omega
  · exact Nat.zero_le _
theorem pbody_le (s : ByteArray) : (pbody s).size ≤ s.size := by
  unfold pbody
  split
  · rw [ByteArray.size_extract]; have := openS_le s; omega
  · exact Nat.zero_le _
theorem openS_size {s : ByteArray} (h : ¬ s.size < 11) (h1 : okB s = true) : (openS s).size + 4 = s.size := by
  unfold openS
  rw [h1, if_pos rfl, ByteArray.size_extract]; omega

theorem byteAt_left {a b : ByteArray} {i : Nat} (h : i < a.size) : byteAt (a ++ b) i = byteAt a i := by
  unfold byteAt
  rw [nats_append, List.getD_eq_getElem?_getD, List.getD_eq_getElem?_getD, List.getElem?_append_left (by rw [nats_length]; exact h)]
/-- What was printed is parsed. -/
theorem opened_printz (k f t : Nat) (b : ByteArray) : openS (printz k f t b) = body k f t b := openS_seal _
theorem ok_printz (k f t : Nat) (b : ByteArray) : okB (printz k f t b) = true := okB_seal _
theorem byteAt_body {k f t : Nat} (b : ByteArray) (hk : k < 256) (hf : f < 256) (ht : t < 256) :
    byteAt (body k f t b) 0 = 197 ∧ byteAt (body k f t b) 1 = 1 ∧ byteAt (body k f t b) 2 = k ∧ byteAt (body k f t b) 3 = f ∧ byteAt (body k f t b) 4 = t ∧
      byteAt (body k f t b) 5 = b.size / 256 % 256 ∧ byteAt (body k f t b) 6 = b.size % 256 := by
  have h := headz_nats b.size hk hf ht
  have key : ∀ i, i < 7 → byteAt (body k f t b) i = ([197, 1, k, f, t, b.size / 256 % 256, b.size % 256] : List Nat).getD i 0 := by
    intro i hi
    unfold body
    rw [byteAt_left (by rw [headz_size]; exact hi)]
    unfold byteAt
    rw [h]
  exact ⟨key 0 (by decide), key 1 (by decide), key 2 (by decide), key 3 (by decide), key 4 (by decide), key 5 (by decide), key 6 (by decide)⟩
theorem body_rest (k f t : Nat) (b : ByteArray) : (body k f t b).extract 7 (body k f t b).size = b := by
  apply nats_inj
  rw [nats_extract, body_size]
  unfold body
  rw [nats_append, List.drop_left' (by rw [nats_length, headz_size]), Nat.add_sub_cancel, ← nats_length, List.take_length]
theorem parsed_printz {k f t : Nat} {b : ByteArray} (h : fcode k f t b.size = 0) : pc (printz k f t b) = 0 ∧ pk (printz k f t b) = k ∧ pf (printz k f t b) = f ∧ pt (printz k f t b) = t ∧ pbody (printz k f t b) = b := by
  have hm := fcode_may h
  obtain ⟨e0, e1, e2, e3, e4, e5, e6⟩ := byteAt_body (k := k) (f := f) (t := t) b (by omega) (by omega) (by omega)
  have h0 : pc (printz k f t b) = 0 := by
    rw [pc_open (by rw [printz_size]; omega) (ok_printz k f t b), opened_printz]
    refine rc_ok e0 e1 (by rw [e2]; omega) (by rw [e3, e4]; omega) ?_
    unfold told
    rw [e5, e6, body_size]; omega
  refine ⟨h0, ?_, ?_, ?_, ?_⟩
  · unfold pk; rw [if_pos h0, opened_printz, e2]
  · unfold pf; rw [if_pos h0, opened_printz, e3]
  · unfold pt; rw [if_pos h0, opened_printz, e4]
  · unfold pbody; rw [if_pos h0, opened_printz, body_rest]
/-- Whatever is parsed is printed to the bytes that it was parsed of. -/
theorem seven (l : List Nat) (h : 7 ≤ l.length) : l = [l.getD 0 0, l.getD 1 0, l.getD 2 0, l.getD 3 0, l.getD 4 0, l.getD 5 0, l.getD 6 0] ++ l.drop 7 := by
  match l, h with
  | a :: b :: c :: d :: e :: f :: g :: r, _ => rfl
theorem printed_parsed {s : ByteArray} (h : pc s = 0) : fcode (pk s) (pf s) (pt s) (pbody s).size = 0 ∧ printz (pk s) (pf s) (pt s) (pbody s) = s := by
  have h11 : ¬ s.size < 11 := fun h' => by rw [pc_short h'] at h; cases h
  have hok : okB s = true := by
    cases ho : okB s with
    | true => rfl
    | false => rw [pc_sum h11 ho] at h; cases h
  have hz := openS_size h11 hok
  have hr := h
  rw [pc_open h11 hok] at hr
  obtain ⟨m0, m1, m2, m3, m4, m5, m6, m7⟩ := rc_may hr
  have ek : pk s = byteAt (openS s) 2 := by unfold pk; rw [if_pos h]
  have ef : pf s = byteAt (openS s) 3 := by unfold pf; rw [if_pos h]
  have et : pt s = byteAt (openS s) 4 := by unfold pt; rw [if_pos h]
  have eb : pbody s = (openS s).extract 7 (openS s).size := by unfold pbody; rw [if_pos h]
  have es : (pbody s).size = (openS s).size - 7 := by rw [eb, ByteArray.size_extract]; omega
  refine ⟨fcode_ok (by omega) (by omega) (by omega), ?_⟩
  have hb : body (pk s) (pf s) (pt s) (pbody s) = openS s := by
    apply nats_inj
    have e7 := seven (nats (openS s)) (by rw [nats_length]; omega)
    unfold body
    rw [nats_append, headz_nats _ (by omega) (by omega) (by omega), e7]
    have b5 := byteAt_lt (openS s) 5
    have b6 := byteAt_lt (openS s) 6
    have t5 : (pbody s).size / 256 % 256 = byteAt (openS s) 5 := by rw [es, m7]; unfold told; omega
    have t6 : (pbody s).size % 256 = byteAt (openS s) 6 := by rw [es, m7]; unfold told; omega
    rw [t5, t6, ek, ef, et, eb, nats_extract]
    have hx : ((nats (openS s)).drop 7).take ((openS s).size - 7) = (nats (openS s)).drop 7 := List.take_of_length_le (by rw [List.length_drop, nats_length]; exact Nat.le_refl _)
    rw [hx]
    unfold byteAt at m0 m1 ⊢
    rw [m0, m1]
  unfold printz
  rw [hb]
  have hs := (ok_seal s (openS s).size hz).1 hok
  have ho : openS s = s.extract 0 (openS s).size := by
    conv => lhs; unfold openS
    rw [hok, if_pos rfl]
    congr 1
    omega
  rw [← ho] at hs
  exact hs
end Go.Proofs.Ytibngfpjdookkaa
