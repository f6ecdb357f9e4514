/- Numbers as bytes, and sums that stay: plain facts, without the program. -/
import Derived.WalkKit
import Derived.Laws.BitsAllLaws
set_option linter.unusedVariables false
set_option maxRecDepth 100000
set_option linter.unusedSimpArgs false
namespace Go.Proofs.Ytblefbjmjhgkkaa

/-- The greatest number of 64 bits. -/
def top : Int := 18446744073709551615

/-- The sum that stays. -/
def sat (a b : Int) : Int := if top < a + b then top else a + b

theorem sat_comm (a b : Int) : sat a b = sat b a := by unfold sat; rw [Int.add_comm]
theorem sat_assoc (a b c : Int) (ha : 0 ≤ a) (hb : 0 ≤ b) (hc : 0 ≤ c) : sat (sat a b) c = sat a (sat b c) := by
  unfold sat
  (repeat' split) <;> omega
theorem sat_zero (a : Int) (h : a ≤ top) : sat a 0 = a := by unfold sat; split <;> omega
theorem sat_lo (a b : Int) (ha : a ≤ top) (hb : 0 ≤ b) : a ≤ sat a b := by unfold sat; split <;> omega
theorem sat_le (a b : Int) : sat a b ≤ top := by unfold sat; split <;> omega
theorem sat_bd (a b : Int) (ha : 0 ≤ a) (hb : 0 ≤ b) : 0 ≤ sat a b ∧ sat a b ≤ 18446744073709551615 := by unfold sat top; split <;> omega

/-- The number that some bytes are, the highest first. -/
def be (l : List UInt8) : Nat := l.foldl (fun v c => v * 256 + c.toNat) 0

theorem be_nil : be [] = 0 := rfl
theorem be_snoc (l : List UInt8) (c : UInt8) : be (l ++ [c]) = be l * 256 + c.toNat := by unfold be; simp [List.foldl_append]
theorem be_lt : ∀ (n : Nat) (l : List UInt8), l.length = n → be l < 256 ^ n := by
  intro n
  induction n with
  | zero => intro l h; simp at h; subst h; simp [be_nil]
  | succ n ih =>
    intro l h
    obtain ⟨i, c, rfl⟩ : ∃ i c, l = i ++ [c] := by
      refine ⟨l.dropLast, l.getLast (by intro e; simp [e] at h), (List.dropLast_concat_getLast _).symm⟩
    rw [be_snoc, Nat.pow_succ]
    have := ih i (by simpa using h)
    have := c.toNat_lt
    omega

theorem take_snoc (s : ByteArray) (k : Nat) (h : k < s.size) : s.data.toList.take (k + 1) = s.data.toList.take k ++ [s[k]] := by
  rw [List.take_succ_eq_append_getElem (by simpa using h)]; rfl

/-- 'v<<8 | uint64(c)' where there is room. -/
theorem or_step (v : Nat) (c : UInt8) (h : v < 72057594037927936) :
    bits BinOp.or IntKind.u64 (IntKind.u64.wrap ((v : Int) * 256)) (IntKind.u64.wrap (c.toNat : Int)) = ((v * 256 + c.toNat : Nat) : Int) := by
  have hc := c.toNat_lt
  have e1 : IntKind.u64.wrap ((v : Int) * 256) = ((v * 256 : Nat) : Int) := by rw [IntKind.wrap_u64]; omega
  have e2 : IntKind.u64.wrap (c.toNat : Int) = ((c.toNat : Nat) : Int) := by rw [IntKind.wrap_u64]; omega
  rw [e1, e2, u64_or_nat _ _ (by omega) (by omega), nat_join 8 _ _ (by omega) (by omega)]

/-- What 's[a:a+m]' holds. -/
theorem cut_data (s : ByteArray) (a m : Nat) (h : a + m ≤ s.size) : (s.extract a (a + m)).data.toList = (s.data.toList.drop a).take m := by
  rw [ByteArray.data_extract, Array.toList_extract]
  simp [List.extract]

/-- How many bytes n counts as: from 0 to 8. -/
def wid (n : Int) : Int := if n < 0 then 0 else if 8 < n then 8 else n
theorem wid_bd (n : Int) : 0 ≤ wid n ∧ wid n ≤ 8 := by unfold wid; (repeat' split) <;> omega

/-- The k lowest bytes of v, the highest first. -/
def pb : Nat → Nat → List UInt8
  | 0, _ => []
  | k + 1, v => UInt8.ofNat (v / 256 ^ k % 256) :: pb k v
theorem pb_length : ∀ (k v : Nat), (pb k v).length = k
  | 0, _ => rfl
  | k + 1, v => by simp [pb, pb_length k v]
theorem foldl_be : ∀ (l : List UInt8) (a : Nat), l.foldl (fun v c => v * 256 + c.toNat) a = a * 256 ^ l.length + be l := by
  intro l
  induction l with
  | nil => intro a; simp [be]
  | cons c l ih =>
    intro a
    rw [List.foldl_cons, ih]
    have : be (c :: l) = c.toNat * 256 ^ l.length + be l := by
      show (c :: l).foldl _ 0 = _
      rw [List.foldl_cons, ih]; simp
    rw [this, List.length_cons, Nat.pow_succ, Nat.add_mul, Nat.add_assoc, Nat.mul_assoc, Nat.mul_comm 256]
theorem be_cons (c : UInt8) (l : List UInt8) : be (c :: l) = c.toNat * 256 ^ l.length + be l := by
  show (c :: l).foldl _ 0 = _
  rw [List.foldl_cons, foldl_be]; simp
/-- What is put is got. -/
theorem be_pb : ∀ (k v : Nat), be (pb k v) = v % 256 ^ k
  | 0, v => by simp [pb, be, Nat.mod_one]
  | k + 1, v => by
    rw [pb, be_cons, be_pb k v, pb_length, Nat.pow_succ, Nat.mod_mul, UInt8.toNat_ofNat']
    rw [Nat.mod_eq_of_lt (a := v / 256 ^ k % 256) (Nat.mod_lt _ (by decide)), Nat.mul_comm]
    omega
/-- The i-th byte that is put. -/
theorem pb_get : ∀ (k v i : Nat), i < k → (pb k v)[i]? = some (UInt8.ofNat (v / 256 ^ (k - 1 - i) % 256))
  | 0, _, i, h => absurd h (Nat.not_lt_zero i)
  | k + 1, v, 0, _ => by simp [pb]
  | k + 1, v, i + 1, h => by
    rw [pb, List.getElem?_cons_succ, pb_get k v i (by omega)]
    congr 5
    omega
theorem pb_take (k v i : Nat) (h : i < k) : (pb k v).take (i + 1) = (pb k v).take i ++ [UInt8.ofNat (v / 256 ^ (k - 1 - i) % 256)] := by
  rw [List.take_add_one, pb_get k v i h]; rfl

/-- Bytes as the cells that hold them. -/
def cell8 (c : UInt8) : Value := .int .u8 (c.toNat : Int)
def cells8 (l : List UInt8) : List Value := l.map cell8
theorem cells8_length (l : List UInt8) : (cells8 l).length = l.length := by simp [cells8]
theorem cells8_append (a b : List UInt8) : cells8 (a ++ b) = cells8 a ++ cells8 b := by simp [cells8]
theorem cells8_one (l : List UInt8) : ∀ v ∈ cells8 l, v.oneCell' = true := by
  intro v hv
  obtain ⟨c, _, rfl⟩ := List.mem_map.1 hv
  rfl

/-- The byte 'byte(v >> (8*k))', as the walk spells it. -/
theorem shr_byte (v k : Nat) : Value.int .u8 ((v : Int) / 2 ^ (8 * k) % 256) = cell8 (UInt8.ofNat (v / 256 ^ k % 256)) := by
  have e : (UInt8.ofNat (v / 256 ^ k % 256)).toNat = v / 256 ^ k % 256 := by
    rw [UInt8.toNat_ofNat']; exact Nat.mod_eq_of_lt (Nat.mod_lt _ (by decide))
  have p : (2 : Int) ^ (8 * k) = ((256 ^ k : Nat) : Int) := by
    rw [show (256 : Nat) ^ k = 2 ^ (8 * k) by rw [Nat.pow_mul]]
    simp [Int.natCast_pow]
  unfold cell8
  rw [e, p]
  rfl

theorem take_drop_snoc (s : ByteArray) (a k : Nat) (h : a + k < s.size) : (s.data.toList.drop a).take (k + 1) = (s.data.toList.drop a).take k ++ [s[a + k]] := by
  rw [List.take_succ_eq_append_getElem (by simp; omega)]
  congr 2
  simp
  rfl

/-- 'v*256 + uint64(c)' where there is room. -/
theorem add_step (v : Nat) (c : UInt8) (h : v < 72057594037927936) :
    IntKind.u64.wrap ((v : Int) * 256 + IntKind.u64.wrap (c.toNat : Int)) = ((v * 256 + c.toNat : Nat) : Int) := by
  have hc := c.toNat_lt
  have e2 : IntKind.u64.wrap (c.toNat : Int) = ((c.toNat : Nat) : Int) := by rw [IntKind.wrap_u64]; omega
  rw [e2, IntKind.wrap_u64]
  omega

theorem pow256 (m : Nat) : (2 : Int) ^ (8 * m) = ((256 ^ m : Nat) : Int) := by
  rw [show (256 : Nat) ^ m = 2 ^ (8 * m) by rw [Nat.pow_mul]]
  simp [Int.natCast_pow]
theorem pow256_wrap (m : Nat) (h : m < 8) : IntKind.u64.wrap (2 ^ (8 * m)) = ((256 ^ m : Nat) : Int) := by
  rw [pow256, IntKind.wrap_u64]
  have h1 : 256 ^ m ≤ 256 ^ 7 := Nat.pow_le_pow_right (by decide) (by omega)
  have h2 : (256 : Nat) ^ 7 = 72057594037927936 := by decide
  have key : ∀ q : Nat, q ≤ 72057594037927936 → (q : Int) % 18446744073709551616 = q := by intro q h; omega
  exact key _ (h2 ▸ h1)
theorem pow256_pos (m : Nat) (h : m < 8) : ¬ IntKind.u64.wrap (2 ^ (8 * m)) = 0 := by
  rw [pow256_wrap m h]
  have : 0 < 256 ^ m := Nat.pow_pos (by decide)
  omega
theorem mod256 (u m : Nat) (h : m < 8) : (((u : Int) % 256 ^ m) == (u : Int) % IntKind.u64.wrap (2 ^ (8 * m))) = true := by
  rw [pow256_wrap m h]
  simp [Int.natCast_pow]
theorem mod256_8 (u : Nat) (h : u < 18446744073709551616) : (((u : Int) % 256 ^ 8) == (u : Int)) = true := by
  simp
  omega

end Go.Proofs.Ytblefbjmjhgkkaa
