/- Layer 16: are acts few? -/
import Derived.Test.YtmaiphgmnammgaaDoorZGaOpen
import Derived.Lib.MinMax
set_option linter.unusedVariables false
set_option maxRecDepth 100000
set_option linter.unusedSimpArgs false
namespace Go.Proofs.YtmaiphgmnammgaaDoor
open Go.RowKit Go.Sort Go.Shelf Go.Maps

theorem append_xg16 (w : World) {ops : Array Oper} {rest : List Oper} {o : Oper} {a : Act} {Q : Exit → Act → World → Prop} (hgd : o.guard = none) (s x : Operand)
    (ho : o.op = .call { callee := .builtin .append, args := #[s, x], argTypes := #[31, 31] })
    (base : Nat) (v : Value) (n : Nat) (L : List Xg) (hs : a.eval s = v) (hown : w.ownsRow base 38 6 v n (flat encXg L))
    (g c : Nat) (m : Xg) (hx : a.eval x = .slice (some ⟨g, 0, none⟩) 1 c) (hl : XgB w g m) (hn : n ≤ 1759218604390) (hbase : base ≤ w.heap.size)
    (h : ∀ v' w', w'.ownsRow base 38 6 v' (n + 1) (flat encXg (L ++ [m])) → w.grownBy w' v.ownBlock → wpList Tryd.prog ops Q rest (a.put o.dst v') w') : wpList Tryd.prog ops Q (o :: rest) a w := by
  obtain ⟨i0, hi, hz0, hz1, hz2⟩ := info_parts infoXg
  have ht := Tryd.underlying31
  refine wpList_append_own w hgd s x 31 ho base 38 i0 zeroXg 6 64 ht hi hz0 hz1 hz2 rfl (by decide) v n (flat encXg L) hs hown ⟨g, 0, none⟩ 1 c (encXg m) hx (by rw [encXg_length]) (fun j u hu => ?_) (encXg_one m) (by unfold maxLen; omega) (by omega) hbase (fun v' w' h1 h2 _ => h v' w' (by rw [flat_append]; simpa [flat] using h1) h2)
  rw [add_lit10, Nat.zero_add]
  exact hl.own.at_ j u (by rw [List.getElem?_toArray]; exact hu)
/-- What Few answers: if yes, they are at most 80. -/
def FewG (w : World) (n : Nat) (e : Ending) (w' : World) : Prop := (e = .returned (.bool false) ∨ e = .returned (.bool true) ∧ n ≤ 80) ∧ Below w.heap.size w w'
set_option maxHeartbeats 1000000 in
theorem pfew16 {w : World} {ao : Option Addr} {n : Nat} {l : List Xg} (h : Lst encXg 6 w ao n l) (c : Nat) :
    Calls Tryd.prog 37 #[.slice ao n c] w (FewG w n) := by
  have HL := Lib.hid h
  clear h
  go_enter Tryd.func37, Tryd.ntmps37
  go_wp2
  go_loop [3, 4] (fun sm si => ∃ (k : Nat) (m : Int), k ≤ n ∧ k ≤ 80 ∧ 0 ≤ m ∧ m ≤ 5000 ∧ sm = .int .i64 m ∧ si = .int .i64 k) (fun _ si => 81 - (intOf si).toNat)
  case atStart => exact ⟨0, 0, Nat.zero_le _, by omega, by omega, by omega, rfl, rfl⟩
  case round =>
    obtain ⟨k, m, hk, hk8, hm0, hm1, rfl, rfl⟩ := hrel
    by_cases hlt : k < n
    · obtain ⟨b, o, e, hr⟩ := HL.out.src (show 0 < n by omega)
      subst e
      obtain ⟨x, hx⟩ : ∃ x, l[k]? = some x := ⟨_, List.getElem?_eq_getElem (by rw [HL.out.size]; exact hlt)⟩
      have c3 : w.cell? ⟨b, o + k * 6 + 3, none⟩ = some (.slice x.a x.n x.c) := hr k x hx 3 _ rfl
      obtain ⟨xn, hxn⟩ : ∃ xn, xn = x.n := ⟨_, rfl⟩
      rw [← hxn] at c3
      generalize x.a = xa at *
      generalize x.c = xc at *
      obtain ⟨z, hz⟩ : ∃ z : Int, z = if (5000 : Int) < (xn : Int) then 5000 else (xn : Int) := ⟨_, rfl⟩
      have hz0 : 0 ≤ z := by rw [hz]; split <;> omega
      have hz1 : z ≤ 5000 := by rw [hz]; split <;> omega
      have HZ := Lib.hid hz.symm
      clear hx hr hxn hz
      by_cases hb : 80 ≤ k
      · have hd : decide ((80 : Int) ≤ (k : Int)) = true := decide_eq_true (by omega)
        go_wp2_with (with_reducible refine step_min2 rfl (.tmp 17) (.const (.int .i64 5000)) _ _ rfl .i64 (xn : Int) 5000 z rfl rfl HZ.out ?_)
        go_ret
        exact ⟨.inl rfl, Below.refl _ _⟩
      · have hd : decide ((80 : Int) ≤ (k : Int)) = false := decide_eq_false (by omega)
        cases ht : decide (5000 < m + z) with
        | true =>
          go_wp2_with (with_reducible refine step_min2 rfl (.tmp 17) (.const (.int .i64 5000)) _ _ rfl .i64 (xn : Int) 5000 z rfl rfl HZ.out ?_)
          go_ret
          exact ⟨.inl rfl, Below.refl _ _⟩
        | false =>
          have ht2 := of_decide_eq_false ht
          go_wp2_with (with_reducible refine step_min2 rfl (.tmp 17) (.const (.int .i64 5000)) _ _ rfl .i64 (xn : Int) 5000 z rfl rfl HZ.out ?_)
          go_round
          case rel => exact ⟨k + 1, m + z, by omega, by omega, by omega, by omega, rfl, by go_num⟩
          case measure => simp [intOf]; omega
    · obtain rfl : k = n := by omega
      go_wp2
      go_ret
      exact ⟨.inr ⟨rfl, hk8⟩, Below.refl _ _⟩
/-- An act's exchange, in memory. -/
theorem ga_range {w : World} {b o k : Nat} {l : List GA} {a : GA} (hr : RowAt encGA 8 w b o l) (ha : l[k]? = some a) : w.rangeAt b (o + k * 8 + 2) (encXg a.x) := fun j u hj => by
  have := hr k a ha (j + 2) u (by
    unfold encGA
    unfold encXg at hj
    rw [List.getElem?_cons_succ, List.getElem?_cons_succ]
    exact hj)
  rw [show o + k * 8 + (j + 2) = o + k * 8 + 2 + j by omega] at this
  exact this
set_option maxHeartbeats 1000000 in
theorem gfew {w : World} {ao : Option Addr} {n : Nat} {l : List GA} (h : Lst encGA 8 w ao n l) (hn : n ≤ 1759218604390) (c : Nat) :
    Calls Tryd.prog 9 #[.slice ao n c] w (FewG w n) := by
  have HL := Lib.hid h
  clear h
  go_enter Tryd.func9, Tryd.ntmps9
  go_wp2
  go_loopw [3, 4] (fun so si wr => ∃ (k c : Nat) (a : Option Addr) (L : List Xg), k ≤ n ∧ so = .slice a k c ∧ si = .int .i64 k ∧ Aside (wr.ownsRow w.heap.size 38 6 (.slice a k c) k (flat encXg L)) ∧ Aside (L.length = k) ∧ Aside (Below w.heap.size w wr)) (fun _ si _ => n - (intOf si).toNat)
  case atStart => exact ⟨0, 0, none, [], Nat.zero_le _, rfl, rfl, World.ownsRow_nil _ _ _ _, rfl, Below.refl _ _⟩
  case round =>
    obtain ⟨k, c, a, L, hk, rfl, rfl, HO, HLN, HB⟩ := hrel
    by_cases hlt : k < n
    · obtain ⟨b, o, e, hr⟩ := HL.out.src (show 0 < n by omega)
      subst e
      obtain ⟨x, hx⟩ : ∃ x, l[k]? = some x := ⟨_, List.getElem?_eq_getElem (by rw [HL.out.size]; exact hlt)⟩
      have hrg := ga_range hr hx
      have HR := Lib.hid (show wr.rangeAt b (o + k * 8 + 2) (encXg x.x) from fun j u hj => cell_later HB.out (hrg j u hj))
      obtain ⟨rd, p, f, oe, op, xa, xn, xc, ct, kn, kp⟩ := x
      have L2 := ((Grw.refl wr).alloc (.cells #[.int .i64 f, .int .u64 oe, .int .i64 op, .slice xa xn xc, .int .u64 kn, .int .i64 kp] 38)).below
      have X2 := Lib.hid (XgB.new wr ⟨f, oe, op, xa, xn, xc, ct, ⟨kn, kp⟩⟩)
      have O2 := Lib.hid (own_stays HO.out (w' := wr.alloc (.cells #[.int .i64 f, .int .u64 oe, .int .i64 op, .slice xa xn xc, .int .u64 kn, .int .i64 kp] 38)) fun j _ hl => L2.block j hl)
      have HB2 := Lib.hid (HB.out.trans (L2.mono HB.out.size))
      clear hr hx hrg HO L2 HB
      unfold encXg at X2
      simp only at X2
      go_wp2_with (first
        | (refine load_xgm rfl (.tmp 15) rfl b (o + k * 8 + 2) ⟨f, oe, op, xa, xn, xc, ct, ⟨kn, kp⟩⟩ rfl HR.out ?_)
        | (at_builtin; refine append_xg16 _ rfl (.tmp 11) (.tmp 17) rfl w.heap.size (.slice a k c) k L rfl O2.out wr.heap.size 1 ⟨f, oe, op, xa, xn, xc, ct, ⟨kn, kp⟩⟩ rfl X2.out (by omega) HB2.out.size ?_; intro v5 w5 hown hgrow))
      obtain ⟨a5, c5, rfl⟩ := own_form' hown
      have HO5 := Lib.hid hown
      have HL5 := Lib.hid (show (L ++ [(⟨f, oe, op, xa, xn, xc, ct, ⟨kn, kp⟩⟩ : Xg)]).length = k + 1 by rw [List.length_append, HLN.out]; rfl)
      have HB5 := Lib.hid (HB2.out.grown hgrow HB2.out.size fun j e => own_behind O2.out j e)
      clear hown hgrow O2 X2 HB2 HR
      go_roundw
      case rel => exact ⟨k + 1, c5, a5, _, by omega, rfl, by go_num, HO5.out, HL5.out, HB5.out⟩
      case measure => simp [intOf]; omega
    · obtain rfl : k = n := by omega
      have PF := pfew16 (own_lst' encXg_length HLN.out HO.out) c
      have HB2 := Lib.hid HB.out
      clear HO HB
      go_wp2_with fail
      refine PF.mono ?_
      rintro e w6 ⟨h6, B6⟩
      have HB6 := Lib.hid (HB2.out.trans (B6.mono HB2.out.size))
      clear PF B6 HB2
      rcases h6 with rfl | ⟨rfl, h80⟩
      · go_wp2
        go_ret
        exact ⟨.inl rfl, HB6.out⟩
      · go_wp2
        go_ret
        exact ⟨.inr ⟨rfl, h80⟩, HB6.out⟩
end Go.Proofs.YtmaiphgmnammgaaDoor
