/- Layer 19: the law's awake answers true. -/
import Derived.Test.YtblefbjmjhgkkaaZLgWrs
import Derived.Test.YtblefbjmjhgkkaaZVoFns
set_option linter.unusedVariables false
set_option maxRecDepth 100000
set_option linter.unusedSimpArgs false
namespace Go.Proofs.Ytblefbjmjhgkkaa
open Go.RowKit Go.Sort

def hiI : Itm := ⟨1, [104, 105], 0, 0, false, false, ⟨⟨0, 0, 0, 0⟩, []⟩, ⟨0, 0, 0, 0⟩, 0, 0, 0⟩
def stS : Stb := ⟨5, 2, ⟨⟨0, 0, 0, 7⟩, []⟩⟩
theorem zV_ok : (⟨0, 0, 0, 0⟩ : Vw).ok := ⟨by decide, by decide, by decide, by decide, by decide⟩
theorem nil_rc (w : World) (v : Vw) (hv : v.ok) : RcIn w ⟨⟨v, []⟩, none, 0, 0⟩ := ⟨⟨⟨rfl, fun h => absurd h (Nat.lt_irrefl 0)⟩, fun x hx => by cases hx⟩, hv, fun _ => rfl⟩
theorem hi_ok : hiI.ok := ⟨by decide, by decide, ⟨zV_ok, fun x hx => by cases hx⟩, zV_ok, by decide⟩
theorem hi_put : putI hiI = [1, 104, 105] := by decide +kernel
theorem hi_code : codeI hiI = 0 := by unfold codeI; rw [hi_put]; decide
theorem hi_parse : parseI [1, 104, 105] = .ok hiI := by
  rw [← hi_put]
  exact parse_putI hiI (by decide) trivial (by rw [hi_put]; decide)
theorem five_parse : parseI [5] = .error 10 := rfl
theorem st_err : errRec stS.r = 0 := by decide
theorem st_fits : stS.fits := ⟨by decide, by decide, ⟨⟨by decide, by decide, ⟨by decide, by decide⟩, by decide⟩, by decide, fun x hx => by cases hx⟩⟩
theorem st_parse : parseS (putS stS) = .ok stS := parseS_iff.2 ⟨st_fits, rfl⟩
theorem text_of {T : ByteArray} {l : List UInt8} (h : T.data.toList = l) : T = ⟨l.toArray⟩ := by
  subst h
  obtain ⟨d⟩ := T
  simp
theorem hi_print (w : World) : Calls Try.prog 16 #[.agg #[.int .i64 1, .string { data := #[104, 105] }, .int .u32 0, .int .u64 0, .bool false, .bool false, .int .u64 0, .int .u64 0, .int .i64 0, .int .u64 0, .slice none 0 0, .int .u64 0, .int .u64 0, .int .i64 0, .int .u64 0, .int .u64 0, .int .i64 0, .int .i64 0]] w fun e w' => e = .returned (.tuple #[.string { data := #[1, 104, 105] }, .int .i64 0]) ∧ Below w.heap.size w w' := by
  refine (lprintI w hiI { data := #[104, 105] } none 0 0 rfl (by decide) hi_ok (nil_rc _ _ zV_ok) (by decide)).mono ?_
  rintro e w' ⟨rfl, hb⟩
  rw [hi_code, strOf_yes rfl, hi_put]
  exact ⟨rfl, hb⟩
theorem hi_read (w : World) : Calls Try.prog 9 #[.string { data := #[1, 104, 105] }] w fun e w' => ∃ a k c, e = .returned (.tuple #[.agg (encI hiI { data := #[104, 105] } a k c).toArray, .int .i64 0]) ∧ Below w.heap.size w w' := by
  refine (lparseI { data := #[1, 104, 105] } (by decide) w).mono ?_
  rintro e w' ⟨hb, ⟨x, _, hG, rfl, ⟨T, a, k, c, rfl, hO⟩⟩ | ⟨c, _, hG, rfl⟩⟩
  · have hG : parseI [1, 104, 105] = .ok x := hG
    rw [hi_parse] at hG
    cases hG
    have hT := text_of hO.text
    subst hT
    exact ⟨a, k, c, rfl, hb⟩
  · have hG : parseI [1, 104, 105] = .error c := hG
    rw [hi_parse] at hG
    cases hG
theorem five_read (w : World) : Calls Try.prog 9 #[.string { data := #[5] }] w fun e w' => e = .returned (.tuple #[.agg (encI zeroI { data := #[] } none 0 0).toArray, .int .i64 10]) ∧ Below w.heap.size w w' := by
  refine (lparseI { data := #[5] } (by decide) w).mono ?_
  rintro e w' ⟨hb, ⟨x, _, hG, rfl, _⟩ | ⟨c, _, hG, rfl⟩⟩
  · have hG : parseI [5] = .ok x := hG
    rw [five_parse] at hG
    cases hG
  · have hG : parseI [5] = .error c := hG
    rw [five_parse] at hG
    cases hG
    exact ⟨rfl, hb⟩
theorem st_print (w : World) : Calls Try.prog 15 #[.agg #[.int .u64 5, .int .u32 2, .int .u64 0, .int .u64 0, .int .i64 0, .int .u64 7, .slice none 0 0]] w fun e w' => ∃ s : ByteArray, s.size = 39 ∧ s.data.toList = putS stS ∧ e = .returned (.tuple #[.string s, .int .i64 0]) ∧ Below w.heap.size w w' := by
  refine (lprintS w stS none 0 0 (nil_rc _ _ ⟨by decide, by decide, by decide, by decide, by decide⟩) (by decide) (by decide) (by decide)).mono ?_
  rintro e w' ⟨rfl, hb⟩
  rw [st_err, strOf_yes rfl]
  refine ⟨⟨(putS stS).toArray⟩, ?_, rfl, rfl, hb⟩
  show (putS stS).toArray.size = 39
  rw [List.size_toArray, putS_length]; rfl
theorem st_read (s : ByteArray) (hs : s.size = 39) (hl : s.data.toList = putS stS) (w : World) : Calls Try.prog 7 #[.string s] w fun e w' => ∃ a k c, e = .returned (.tuple #[.agg (encS stS a k c).toArray, .int .i64 0]) ∧ Below w.heap.size w w' := by
  refine (lparseS s (by omega) w).mono ?_
  rintro e w' ⟨hb, ⟨x, _, hG, rfl, ⟨a, k, c, rfl, _⟩⟩ | ⟨c, _, hG, rfl⟩⟩
  · rw [hl, st_parse] at hG
    cases hG
    exact ⟨a, k, c, rfl, hb⟩
  · rw [hl, st_parse] at hG
    cases hG
theorem first3 (w : World) : Calls Try.prog 19 #[.int .i64 3] w fun e w' => e = .returned (.agg #[.int .u64 0, .int .u64 0, .int .i64 0, .int .u64 7, .slice none 0 0]) ∧ Below w.heap.size w w' := by
  have := vfirst 3 w (by decide) (by decide)
  have e : valRc (firstR 3) = .agg #[.int .u64 0, .int .u64 0, .int .i64 0, .int .u64 7, .slice none 0 0] := by
    show Value.agg #[_, _, _, .int .u64 ((below 3 : Nat) : Int), _] = _
    rw [show below 3 = 7 by decide +kernel]
    rfl
  rw [e] at this
  exact this
set_option maxHeartbeats 4000000 in
theorem awake19 (w : World) : Calls Try.prog 6 #[] w fun e w' => e = .returned (.bool true) ∧ Below w.heap.size w w' := by
  have P1 := hi_print w
  go_enter Try.func6, Try.ntmps6
  go_wp2_with fail
  refine P1.mono ?_
  rintro e w1 ⟨rfl, B1⟩
  clear P1
  have P2 := hi_read w1
  go_wp2_with fail
  refine P2.mono ?_
  rintro e w2 ⟨a2, k2, c2, rfl, L2⟩
  have B2 := B1.trans (L2.mono B1.size)
  have Z2 : Own (w2.alloc (.cells #[.int .i64 0, .string { data := #[] }, .int .u32 0, .int .u64 0, .bool false, .bool false, .int .u64 0, .int .u64 0, .int .i64 0, .int .u64 0, .slice none 0 0, .int .u64 0, .int .u64 0, .int .i64 0, .int .u64 0, .int .u64 0, .int .i64 0, .int .i64 0] 43)) w2.heap.size 43 (encI zeroI { data := #[] } none 0 0).toArray := Own.new _ _ _
  have B2' := B2.alloc B2.size (.cells #[.int .i64 0, .string { data := #[] }, .int .u32 0, .int .u64 0, .bool false, .bool false, .int .u64 0, .int .u64 0, .int .i64 0, .int .u64 0, .slice none 0 0, .int .u64 0, .int .u64 0, .int .i64 0, .int .u64 0, .int .u64 0, .int .i64 0, .int .i64 0] 43)
  have I3 := Z2.row (encI hiI { data := #[104, 105] } a2 k2 c2).toArray
  have B3 := belowRow18 B2' w2.heap.size B2.size (encI hiI { data := #[104, 105] } a2 k2 c2).toArray
  clear P2 B1 L2 B2'
  go_upto_region 3 with (refine store_item rfl (.tmp 3) (.tmp 19) rfl w2.heap.size rfl rfl Z2 ?_)
  clear Z2
  generalize (w2.alloc (.cells #[.int .i64 0, .string { data := #[] }, .int .u32 0, .int .u64 0, .bool false, .bool false, .int .u64 0, .int .u64 0, .int .i64 0, .int .u64 0, .slice none 0 0, .int .u64 0, .int .u64 0, .int .i64 0, .int .u64 0, .int .u64 0, .int .i64 0, .int .i64 0] 43)).setRow w2.heap.size (encI hiI { data := #[104, 105] } a2 k2 c2).toArray = w3 at *
  generalize w2.heap.size = g3 at *
  have P4 := first3 w3
  go_wp2_with fail
  refine P4.mono ?_
  rintro e w4 ⟨rfl, L4⟩
  have I4 := I3.below L4 I3.lt
  have B4 := B3.trans (L4.mono B3.size)
  have P5 := st_print w4
  clear P4 I3 B3 L4 B2
  go_wp2_with fail
  refine P5.mono ?_
  rintro e w5 ⟨t, ht, hl, rfl, L5⟩
  have I5 := I4.below L5 I4.lt
  have B5 := B4.trans (L5.mono B4.size)
  have P6 := st_read t ht hl w5
  have HT := Lib.hid ht
  clear P5 I4 B4 L5 ht hl
  go_wp2_with fail
  refine P6.mono ?_
  rintro e w6 ⟨a6, k6, c6, rfl, L6⟩
  have I6 := I5.below L6 I5.lt
  have B6 := B5.trans (L6.mono B5.size)
  have Z6 : Own (w6.alloc (.cells #[.int .u64 0, .int .u32 0, .int .u64 0, .int .u64 0, .int .i64 0, .int .u64 0, .slice none 0 0] 33)) w6.heap.size 33 (encS zeroS none 0 0).toArray := Own.new _ _ _
  have B6' := B6.alloc B6.size (.cells #[.int .u64 0, .int .u32 0, .int .u64 0, .int .u64 0, .int .i64 0, .int .u64 0, .slice none 0 0] 33)
  have I7 := (I6.below ((Grw.refl w6).alloc (.cells #[.int .u64 0, .int .u32 0, .int .u64 0, .int .u64 0, .int .i64 0, .int .u64 0, .slice none 0 0] 33)).below I6.lt).row_other (k := w6.heap.size) (encS stS a6 k6 c6).toArray (by have := I6.lt; omega)
  have S7 := Z6.row (encS stS a6 k6 c6).toArray
  have B7 := belowRow18 B6' w6.heap.size B6.size (encS stS a6 k6 c6).toArray
  clear P6 I5 B5 L6 I6 B6 B6'
  go_upto_region 5 with (refine store_stable rfl (.tmp 7) (.tmp 30) rfl w6.heap.size rfl rfl Z6 ?_)
  clear Z6
  generalize (w6.alloc (.cells #[.int .u64 0, .int .u32 0, .int .u64 0, .int .u64 0, .int .i64 0, .int .u64 0, .slice none 0 0] 33)).setRow w6.heap.size (encS stS a6 k6 c6).toArray = w7 at *
  generalize w6.heap.size = g7 at *
  have P8 := five_read w7
  go_wp2_with fail
  refine P8.mono ?_
  rintro e w8 ⟨rfl, L8⟩
  have I8 := I7.below L8 I7.lt
  have S8 := S7.below L8 S7.lt
  have B8 := B7.trans (L8.mono B7.size)
  have Z8 : Own (w8.alloc (.cells #[.int .i64 0, .string { data := #[] }, .int .u32 0, .int .u64 0, .bool false, .bool false, .int .u64 0, .int .u64 0, .int .i64 0, .int .u64 0, .slice none 0 0, .int .u64 0, .int .u64 0, .int .i64 0, .int .u64 0, .int .u64 0, .int .i64 0, .int .i64 0] 43)) w8.heap.size 43 (encI zeroI { data := #[] } none 0 0).toArray := Own.new _ _ _
  have B8' := B8.alloc B8.size (.cells #[.int .i64 0, .string { data := #[] }, .int .u32 0, .int .u64 0, .bool false, .bool false, .int .u64 0, .int .u64 0, .int .i64 0, .int .u64 0, .slice none 0 0, .int .u64 0, .int .u64 0, .int .i64 0, .int .u64 0, .int .u64 0, .int .i64 0, .int .i64 0] 43)
  have I9 := (I8.below ((Grw.refl w8).alloc (.cells #[.int .i64 0, .string { data := #[] }, .int .u32 0, .int .u64 0, .bool false, .bool false, .int .u64 0, .int .u64 0, .int .i64 0, .int .u64 0, .slice none 0 0, .int .u64 0, .int .u64 0, .int .i64 0, .int .u64 0, .int .u64 0, .int .i64 0, .int .i64 0] 43)).below I8.lt).row_other (k := w8.heap.size) (encI zeroI { data := #[] } none 0 0).toArray (by have := I8.lt; omega)
  have S9 := (S8.below ((Grw.refl w8).alloc (.cells #[.int .i64 0, .string { data := #[] }, .int .u32 0, .int .u64 0, .bool false, .bool false, .int .u64 0, .int .u64 0, .int .i64 0, .int .u64 0, .slice none 0 0, .int .u64 0, .int .u64 0, .int .i64 0, .int .u64 0, .int .u64 0, .int .i64 0, .int .i64 0] 43)).below S8.lt).row_other (k := w8.heap.size) (encI zeroI { data := #[] } none 0 0).toArray (by have := S8.lt; omega)
  have B9 := Lib.hid (belowRow18 B8' w8.heap.size B8.size (encI zeroI { data := #[] } none 0 0).toArray)
  clear P8 I7 S7 B7 L8 I8 S8 B8 B8'
  go_upto_region 6 with (refine store_item rfl (.tmp 9) (.tmp 34) rfl w8.heap.size rfl rfl Z8 ?_)
  clear Z8
  generalize (w8.alloc (.cells #[.int .i64 0, .string { data := #[] }, .int .u32 0, .int .u64 0, .bool false, .bool false, .int .u64 0, .int .u64 0, .int .i64 0, .int .u64 0, .slice none 0 0, .int .u64 0, .int .u64 0, .int .i64 0, .int .u64 0, .int .u64 0, .int .i64 0, .int .i64 0] 43)).setRow w8.heap.size (encI zeroI { data := #[] } none 0 0).toArray = w9 at *
  have d1 : w9.cell? ⟨g3, 1, none⟩ = some (.string { data := #[104, 105] }) := I9.at_ 1 _ rfl
  have d2 : w9.cell? ⟨g7, 0, none⟩ = some (.int .u64 5) := S9.at_ 0 _ rfl
  have d3 : w9.cell? ⟨g7, 5, none⟩ = some (.int .u64 7) := S9.at_ 5 _ rfl
  have hn : (t.size : Int) = 39 := by rw [HT.out]; rfl
  clear I9 S9
  go_wp2
  go_ret
  exact ⟨rfl, B9.out⟩
end Go.Proofs.Ytblefbjmjhgkkaa
