/- Plans: Lacks. -/
import Derived.Test.YthgdiihibjnhoaaPlKeep
set_option linter.unusedVariables false
set_option maxRecDepth 100000
set_option linter.unusedSimpArgs false
namespace Go.Proofs.Ythgdiihibjnhoaa
open Go.RowKit Go.Sort Go.Shelf Go.Maps

/-- A gap. -/
structure Gp where
  q : Int
  h : Int
  fr : Int
  tz : Int
def encGp (x : Gp) : List Value := [.int .i64 x.q, .int .i64 x.h, .int .u32 x.fr, .int .u32 x.tz]
theorem encGp_length (x : Gp) : (encGp x).length = 4 := rfl
theorem flatGp_one {l : List Gp} : ∀ u ∈ flat encGp l, u.oneCell' = true := by
  intro u hu
  unfold flat at hu
  obtain ⟨c, hc, huc⟩ := List.mem_flatten.1 hu
  obtain ⟨m, _, rfl⟩ := List.mem_map.1 hc
  simp only [encGp, List.mem_cons, List.not_mem_nil, or_false] at huc
  rcases huc with rfl | rfl | rfl | rfl <;> rfl
theorem infoGp : (Try.prog.info? 48).map (fun i => (i.zero, i.size, i.bytes)) = some (some (.agg #[.int .i64 0, .int .i64 0, .int .u32 0, .int .u32 0]), 4, 24) := by kernel_rfl
theorem append_gap (w : World) {ops : Array Oper} {rest : List Oper} {o : Oper} {a : Act} {Q : Exit → Act → World → Prop} (hgd : o.guard = none) (s x : Operand)
    (ho : o.op = .call { callee := .builtin .append, args := #[s, x], argTypes := #[43, 43] })
    (base : Nat) (v : Value) (n : Nat) (l : List Gp) (hs : a.eval s = v) (hown : w.ownsRow base 48 4 v n (flat encGp l))
    (b c : Nat) (k : Gp) (hx : a.eval x = .slice (some ⟨b, 0, none⟩) 1 c) (hk : Own w b 48 (encGp k).toArray) (hn : n ≤ 200000) (hbase : base ≤ w.heap.size)
    (h : ∀ v' w', w'.ownsRow base 48 4 v' (n + 1) (flat encGp (l ++ [k])) → w.grownBy w' v.ownBlock → wpList Try.prog ops Q rest (a.put o.dst v') w') : wpList Try.prog ops Q (o :: rest) a w := by
  obtain ⟨i0, hi, hz0, hz1, hz2⟩ := info_parts infoGp
  have ht := Try.underlying43
  refine wpList_append_own w hgd s x 43 ho base 48 i0 _ 4 24 ht hi hz0 hz1 hz2 rfl (by decide) v n (flat encGp l) hs hown ⟨b, 0, none⟩ 1 c (encGp k) hx rfl (fun j u hu => ?_) (fun u hu => flatGp_one (l := [k]) u (by simpa [flat] using hu)) (by unfold maxLen; omega) (by omega) hbase (fun v' w' h1 h2 _ => h v' w' (by rw [flat_append]; simpa [flat] using h1) h2)
  have : (⟨b, 0, none⟩ : Addr).add j = ⟨b, j, none⟩ := by cases j <;> simp [Addr.add]
  rw [this]
  exact hk.at_ j u (by rw [List.getElem?_toArray]; exact hu)
/-- What lacks whoever has so many. -/
def gapK (f : Nat → Wh) (cnt : List Int) : Nat → List Gp
  | 0 => []
  | k + 1 => gapK f cnt k ++ (if cnt.getD k 0 < (f k).n then [⟨(k : Int), (f k).h, cnt.getD k 0 + 1, (f k).n⟩] else [])
theorem gapK_len (f : Nat → Wh) (cnt : List Int) : ∀ k, (gapK f cnt k).length ≤ k
  | 0 => Nat.le_refl _
  | k + 1 => by
    have := gapK_len f cnt k
    unfold gapK
    rw [List.length_append]
    split
    · simp only [List.length_singleton]; omega
    · simp only [List.length_nil]; omega
/-- Amid Lacks. -/
structure LkSt (w wr : World) (v : Value) (m : Nat) (l : List Gp) : Prop where
  own : wr.ownsRow w.heap.size 48 4 v m (flat encGp l)
  len : l.length = m
  bel : Below w.heap.size w wr
theorem LkSt.later {w wr w' : World} {v : Value} {m : Nat} {l : List Gp} (h : LkSt w wr v m l) (hb : Below wr.heap.size wr w') : LkSt w w' v m l :=
  ⟨own_stays h.own fun j _ hl => hb.block j hl, h.len, h.bel.trans (hb.mono h.bel.size)⟩
theorem LkSt.app {w wr w' : World} {v v' : Value} {m : Nat} {l : List Gp} {k : Gp} (h : LkSt w wr v m l) (ho : w'.ownsRow w.heap.size 48 4 v' (m + 1) (flat encGp (l ++ [k]))) (hg : wr.grownBy w' v.ownBlock) : LkSt w w' v' (m + 1) (l ++ [k]) :=
  ⟨ho, by rw [List.length_append, h.len]; rfl, h.bel.grown hg h.bel.size fun j hj => own_behind h.own j hj⟩
/-- What Lacks answers. -/
def LackSaid (w : World) (f : Nat → Wh) (cnt : List Int) (e : Ending) (w' : World) : Prop :=
  ∃ a n c, e = .returned (.slice a n c) ∧ LkSt w w' (.slice a n c) n (gapK f cnt 64)
section
variable {w : World} {g : Nat} {P : Pn}
set_option maxHeartbeats 4000000 in
theorem placks (h : PlB w g P) (hf : WhOk P.f) (ao : Option Addr) (n c : Nat) (cnt : List Int) (hc : Lst (fun n : Int => [.int .u32 n]) 1 w ao n cnt) (hu : ∀ v ∈ cnt, 0 ≤ v ∧ v < 4294967296) :
    Calls Try.prog 9 #[.pointer (some ⟨g, 0, none⟩), .slice ao n c] w (LackSaid w P.f cnt) := by
  have H0 := Lib.hid h
  have HF := Lib.hid hf
  have HC := Lib.hid hc
  have HU := Lib.hid hu
  have K0 := Lib.hid (show LkSt w w (.slice none 0 0) 0 (gapK P.f cnt 0) from ⟨World.ownsRow_nil _ _ _ _, rfl, Below.refl _ _⟩)
  clear h hf hc hu
  go_enter Try.func9, Try.ntmps9
  go_wp2_with (first | (refine load_whs rfl (.tmp 11) rfl g P rfl H0.out ?_) | fail)
  go_loopw [5, 13] (fun sv si wr => ∃ (k m c2 : Nat) (a2 : Option Addr), k ≤ 64 ∧ m ≤ k ∧ sv = .slice a2 m c2 ∧ si = .int .i64 k ∧ Aside (LkSt w wr (.slice a2 m c2) m (gapK P.f cnt k))) (fun _ si _ => 64 - (intOf si).toNat)
  case atStart => exact ⟨0, 0, 0, none, Nat.zero_le _, Nat.le_refl _, rfl, rfl, K0.out⟩
  case round =>
    obtain ⟨k, m, c2, a2, hk, hm, rfl, rfl, HS⟩ := hrel
    clear K0
    by_cases hlt : k < 64
    · have B4 := ((Grw.refl wr).alloc (.cells #[.int .u32 (P.f k).n, .int .i64 (P.f k).h] 57)).below
      have hb := HF.out.lo k
      obtain ⟨b0, b1⟩ := hb
      have S4 := Lib.hid (HS.out.later B4)
      have O4 := Lib.hid (Own.new wr 57 #[.int .u32 (P.f k).n, .int .i64 (P.f k).h])
      have HIX := Lib.hid (fun W => index_whs P.f k hlt W)
      have HG := Lib.hid (show gapK P.f cnt (k + 1) = gapK P.f cnt k ++ (if cnt.getD k 0 < (P.f k).n then [⟨(k : Int), (P.f k).h, cnt.getD k 0 + 1, (P.f k).n⟩] else []) from rfl)
      clear B4 HS
      obtain ⟨u, hu⟩ : ∃ u, u = (P.f k).n := ⟨_, rfl⟩
      obtain ⟨y, hy⟩ : ∃ y, y = (P.f k).h := ⟨_, rfl⟩
      rw [← hu, ← hy] at S4 O4 HIX HG
      rw [← hu] at b0 b1
      clear hu hy
      obtain ⟨z, hz⟩ : ∃ z, z = cnt.getD k 0 := ⟨_, rfl⟩
      rw [← hz] at HG
      have hzb : 0 ≤ z ∧ z < 4294967296 := by
        rw [hz, List.getD_eq_getElem?_getD]
        cases hq : cnt[k]? with
        | none => exact ⟨Int.le_refl 0, by decide⟩
        | some v => exact HU.out v (List.mem_of_getElem? hq)
      have hzn : n ≤ k → z = 0 := fun h => by rw [hz, List.getD_eq_getElem?_getD, List.getElem?_eq_none (by rw [HC.out.size]; exact h)]; rfl
      have hzc : k < n → ∃ b o, ao = some ⟨b, o, none⟩ ∧ w.cell? ⟨b, o + k, none⟩ = some (.int .u32 z) := fun h => by
        obtain ⟨b, o, e, hr⟩ := HC.out.src (by omega)
        have hl : k < cnt.length := by rw [HC.out.size]; exact h
        refine ⟨b, o, e, ?_⟩
        have := hr k _ (List.getElem?_eq_getElem hl) 0 _ rfl
        rw [hz, List.getD_eq_getElem?_getD, List.getElem?_eq_getElem hl]
        simpa using this
      have HZC := Lib.hid hzc
      have HZN := Lib.hid hzn
      clear hz hzc hzn
      obtain ⟨z0, z1⟩ := hzb
      go_upto_region 6 with (with_reducible refine step_index15 rfl 58 (.tmp 12) (.tmp 13) rfl (.agg (rowW P.f).toArray) (.int .i64 (k : Int)) (.agg #[.int .u32 u, .int .i64 y]) rfl rfl (HIX.out _) ?_)
      generalize wr.alloc (.cells #[.int .u32 u, .int .i64 y] 57) = w4 at *
      generalize wr.heap.size = mb at *
      clear HIX
      have n0 : w4.cell? ⟨mb, 0, none⟩ = some (.int .u32 u) := O4.out.at_ 0 _ rfl
      have n1 : w4.cell? ⟨mb, 1, none⟩ = some (.int .i64 y) := O4.out.at_ 1 _ rfl
      clear O4
      by_cases hkn : k < n
      · obtain ⟨b, o, rfl, hcell⟩ := HZC.out hkn
        have c0 := cell_later S4.out.bel hcell
        clear HZC HZN
        cases ht : decide (z < u) with
        | false =>
          have S5 := S4.out
          rw [show gapK P.f cnt k = gapK P.f cnt (k + 1) by rw [HG.out, if_neg (of_decide_eq_false ht), List.append_nil]] at S5
          have HS5 := Lib.hid S5
          clear S5 S4 HG
          go_wp2
          go_roundw
          case rel => exact ⟨k + 1, m, c2, a2, by omega, by omega, rfl, by go_num, HS5.out⟩
          case measure => simp [intOf]; omega
        | true =>
          have hw : IntKind.u32.wrap (z + 1) = z + 1 := by
            have := of_decide_eq_true ht
            rw [IntKind.wrap_u32']; omega
          have O5 := Lib.hid (Own.new w4 48 (encGp ⟨(k : Int), y, z + 1, u⟩).toArray)
          have S5 := Lib.hid (S4.out.later ((Grw.refl w4).alloc (.cells (encGp ⟨(k : Int), y, z + 1, u⟩).toArray 48)).below)
          have HG2 := Lib.hid (show gapK P.f cnt (k + 1) = gapK P.f cnt k ++ [⟨(k : Int), y, z + 1, u⟩] by rw [HG.out, if_pos (of_decide_eq_true ht)])
          clear S4 HG
          unfold encGp at O5 S5
          simp only at O5 S5
          go_wp2_with (at_builtin; refine append_gap _ rfl (.tmp 29) (.tmp 38) rfl w.heap.size (.slice a2 m c2) m _ rfl S5.out.own w4.heap.size 1 ⟨(k : Int), y, z + 1, u⟩ rfl O5.out (by omega) S5.out.bel.size ?_; intro v9 w9 h1 h2)
          obtain ⟨a9, c9, rfl⟩ := own_form' h1
          have S9 := S5.out.app h1 h2
          rw [← HG2.out] at S9
          have HS9 := Lib.hid S9
          clear S9 S5 O5 HG2 h1 h2 n0 n1
          go_roundw
          case rel => exact ⟨k + 1, m + 1, c9, a9, by omega, by omega, rfl, by go_num, HS9.out⟩
          case measure => simp [intOf]; omega
      · have hz0 : z = 0 := HZN.out (by omega)
        clear HZC HZN
        subst hz0
        cases ht : decide ((0 : Int) < u) with
        | false =>
          have S5 := S4.out
          rw [show gapK P.f cnt k = gapK P.f cnt (k + 1) by rw [HG.out, if_neg (of_decide_eq_false ht), List.append_nil]] at S5
          have HS5 := Lib.hid S5
          clear S5 S4 HG
          go_wp2
          go_roundw
          case rel => exact ⟨k + 1, m, c2, a2, by omega, by omega, rfl, by go_num, HS5.out⟩
          case measure => simp [intOf]; omega
        | true =>
          have hw : IntKind.u32.wrap (0 + 1) = 0 + 1 := by
            have := of_decide_eq_true ht
            rw [IntKind.wrap_u32']; omega
          have O5 := Lib.hid (Own.new w4 48 (encGp ⟨(k : Int), y, 0 + 1, u⟩).toArray)
          have S5 := Lib.hid (S4.out.later ((Grw.refl w4).alloc (.cells (encGp ⟨(k : Int), y, 0 + 1, u⟩).toArray 48)).below)
          have HG2 := Lib.hid (show gapK P.f cnt (k + 1) = gapK P.f cnt k ++ [⟨(k : Int), y, 0 + 1, u⟩] by rw [HG.out, if_pos (of_decide_eq_true ht)])
          clear S4 HG
          unfold encGp at O5 S5
          simp only at O5 S5
          go_wp2_with (at_builtin; refine append_gap _ rfl (.tmp 29) (.tmp 38) rfl w.heap.size (.slice a2 m c2) m _ rfl S5.out.own w4.heap.size 1 ⟨(k : Int), y, 0 + 1, u⟩ rfl O5.out (by omega) S5.out.bel.size ?_; intro v9 w9 h1 h2)
          obtain ⟨a9, c9, rfl⟩ := own_form' h1
          have S9 := S5.out.app h1 h2
          rw [← HG2.out] at S9
          have HS9 := Lib.hid S9
          clear S9 S5 O5 HG2 h1 h2 n0 n1
          go_roundw
          case rel => exact ⟨k + 1, m + 1, c9, a9, by omega, by omega, rfl, by go_num, HS9.out⟩
          case measure => simp [intOf]; omega
    · obtain rfl : k = 64 := by omega
      have HF2 := Lib.hid HS.out
      clear HS
      go_wp2
      go_ret
      exact ⟨a2, m, c2, rfl, HF2.out⟩
end
end Go.Proofs.Ythgdiihibjnhoaa
