/- Layer 19: reading a record, a stable record; what is left as a text. -/
import Derived.Test.YtblefbjmjhgkkaaLgRec
set_option linter.unusedVariables false
set_option maxRecDepth 100000
set_option linter.unusedSimpArgs false
namespace Go.Proofs.Ytblefbjmjhgkkaa
open Go.RowKit Go.Sort

theorem own_set {w : World} {B n k g : Nat} {t : TypeId} {v : Value} {xs : List Value} (h : w.ownsRow B t k v n xs) (hg : g < B) (j : Nat) (x : Value) : (w.setCell ⟨g, j, none⟩ x).ownsRow B t k v n xs := by
  refine ⟨h.1, ?_⟩
  rcases h.2 with h1 | ⟨g', cap, cur, h1, h2, h3, h4⟩
  · exact .inl h1
  · exact .inr ⟨g', cap, cur, h1, h2, (heap_setCell_other w ⟨g, j, none⟩ g' x (by show g' ≠ g; omega)).trans h3, h4⟩
theorem own_setRow {w : World} {B n k g : Nat} {t : TypeId} {v : Value} {xs : List Value} (h : w.ownsRow B t k v n xs) (hg : g < B) (cs : Array Value) : (w.setRow g cs).ownsRow B t k v n xs := by
  refine ⟨h.1, ?_⟩
  rcases h.2 with h1 | ⟨g', cap, cur, h1, h2, h3, h4⟩
  · exact .inl h1
  · exact .inr ⟨g', cap, cur, h1, h2, (setRow_other w g g' cs (by omega)).trans h3, h4⟩
/-- What a reader of a record hands out. -/
def OwnR (B : Nat) (w : World) (x : Rp) (val : Value) : Prop := ∃ a k c, val = .agg #[.int .u64 (x.last.n : Int), .int .u64 (x.last.e : Int), .int .i64 x.last.r, .int .u64 (x.last.m : Int), .slice a k c] ∧ w.ownsRow B 28 4 (.slice a k c) k (flat encV x.pend) ∧ x.pend.length = k ∧ k ≤ 32
set_option maxHeartbeats 2000000 in
theorem rrecord (w : World) (b : Nat) (s : ByteArray) (a : Nat) (h : Rd w b s a) :
    Calls Try.prog 47 #[.agg #[.pointer (some ⟨b, 0, none⟩)]] w (RP getRec (fun w' x val => OwnR w.heap.size w' x val) w b s a) := by
  go_enter Try.func47, Try.ntmps47
  go_wp2
  have A0 := Ahead.new h 31 67 #[.int .u64 0, .int .u64 0, .int .i64 0, .int .u64 0, .slice none 0 0]
  go_region_held2 (fun w' => w'.cell? ⟨w.heap.size, 0, none⟩ = some (.pointer (some ⟨b, 0, none⟩))) (first | (with_reducible exact A0.box) | (with_reducible exact A1.box) | (with_reducible exact A2.box) | go_keep)
    (first
      | (go_at_call 53; (with_reducible refine (rview _ b s _ A0.rd).mono ?_); rintro e w1 (⟨v, _, a1, hG, rfl, rfl, hr, hg⟩ | ⟨q, hG, rfl, hg⟩); rotate_left; exact ⟨rfl, .inr ⟨q, by rw [getRec_pd]; simp only [hG, andG_err], rfl, grown_tr A0.gr hg⟩⟩; (have A1 := A0.go hr hg); (have HG := Lib.hid hG); clear hG hr hg)
      | (go_at_call 65; (with_reducible refine (rpending _ b s _ A1.rd).mono ?_); rintro e w2 (⟨vs, _, a2, hG', rfl, ⟨pa, pk, pc, rfl, ho, hol, hok⟩, hr', hg'⟩ | ⟨q, hG', rfl, hg'⟩); rotate_left; exact ⟨rfl, .inr ⟨q, by rw [getRec_pd]; simp only [HG.out, hG', andG_ok, andG_err], rfl, grown_tr A1.gr hg'⟩⟩; (have A2 := A1.go hr' hg'); (have HG' := Lib.hid hG'); (have HO := Lib.hid (own_base ho (show w.heap.size + 2 ≤ w1.heap.size + 1 by have := A1.res.lt; omega))); (have HOL := Lib.hid hol); (have HOK := Lib.hid hok); (have c0 := A2.res.at_ 0 _ rfl); (have c1 := A2.res.at_ 1 _ rfl); (have c2 := A2.res.at_ 2 _ rfl); (have c3 := A2.res.at_ 3 _ rfl); (have c4 := A2.res.at_ 4 _ rfl); (have f0 := A2.res.free 0); (have f1 := A2.res.free 1); (have f2 := A2.res.free 2); (have f3 := A2.res.free 3); (have f4 := A2.res.free 4); clear hG' hr' hg' ho hol hok))
  go_wp2
  (try simp only [Exit.inBlock, Exit.then])
  refine bodyPost_ret (results_cell_row rfl _ _ (w.heap.size + 1) 31 #[.int .u64 (v.n : Int), .int .u64 (v.e : Int), .int .i64 v.r, .int .u64 (v.m : Int), .slice pa pk pc] (0, 0) _ rfl (((((A2.res.set 0 _).set 1 _).set 2 _).set 3 _).set 4 _) Try.underlying31 rfl (by kernel_rfl)) rfl ?_
  have hlt := A2.lt
  exact .inl ⟨⟨v, vs⟩, _, a2, by rw [getRec_pd]; simp only [HG.out, HG'.out, andG_ok], rfl, ⟨pa, pk, pc, rfl, own_base (own_set (own_set (own_set (own_set (own_set HO.out (by omega) _ _) (by omega) _ _) (by omega) _ _) (by omega) _ _) (by omega) _ _) (by omega), HOL.out, HOK.out⟩, ((((A2.rd.set (by omega) _ _).set (by omega) _ _).set (by omega) _ _).set (by omega) _ _).set (by omega) _ _, grown_set (grown_set (grown_set (grown_set (grown_set A2.gr (by omega) _ _) (by omega) _ _) (by omega) _ _) (by omega) _ _) (by omega) _ _⟩
/-- A stable record behind its kind. -/
def getSt (l : List UInt8) : Got Stb := andG (getN 8 l) fun e r => andG (getN 4 r) fun i r => andG (getRec r) fun x r => .ok (⟨e, i, x⟩, r)
def encS (x : Stb) (a : Option Addr) (k c : Nat) : List Value := [.int .u64 (x.ep : Int), .int .u32 (x.inc : Int), .int .u64 (x.r.last.n : Int), .int .u64 (x.r.last.e : Int), .int .i64 x.r.last.r, .int .u64 (x.r.last.m : Int), .slice a k c]
def OwnS (B : Nat) (w : World) (x : Stb) (val : Value) : Prop := ∃ a k c, val = .agg (encS x a k c).toArray ∧ w.ownsRow B 28 4 (.slice a k c) k (flat encV x.r.pend) ∧ x.r.pend.length = k ∧ k ≤ 32
set_option maxHeartbeats 2000000 in
theorem rstable (w : World) (b : Nat) (s : ByteArray) (a : Nat) (h : Rd w b s a) :
    Calls Try.prog 24 #[.agg #[.pointer (some ⟨b, 0, none⟩)]] w (RP getSt (fun w' x val => OwnS w.heap.size w' x val) w b s a) := by
  go_enter Try.func24, Try.ntmps24
  go_wp2
  have A0 := Ahead.new h 33 67 #[.int .u64 0, .int .u32 0, .int .u64 0, .int .u64 0, .int .i64 0, .int .u64 0, .slice none 0 0]
  go_region_held2 (fun w' => w'.cell? ⟨w.heap.size, 0, none⟩ = some (.pointer (some ⟨b, 0, none⟩))) (first | (with_reducible exact A0.box) | (with_reducible exact A1.box) | (with_reducible exact A2.box) | (with_reducible exact A3.box) | go_keep)
    (first
      | (go_at_call 45; (with_reducible refine (rnum _ b s _ 8 8 (by decide) A0.rd).mono ?_); rintro e w1 (⟨v, _, a1, hG, rfl, rfl, hr, hg⟩ | ⟨q, hG, rfl, hg⟩); rotate_left; exact ⟨rfl, .inr ⟨q, by simp only [getSt, hG, andG_err], rfl, grown_tr A0.gr hg⟩⟩; (have A1 := A0.go hr hg); (have HG := Lib.hid hG); clear hG hr hg)
      | (go_at_call 46; (with_reducible refine (rfour _ b s _ A1.rd).mono ?_); rintro e w2 (⟨i, _, a2, hG', rfl, rfl, hr', hg'⟩ | ⟨q, hG', rfl, hg'⟩); rotate_left; exact ⟨rfl, .inr ⟨q, by simp only [getSt, HG.out, hG', andG_ok, andG_err], rfl, grown_tr A1.gr hg'⟩⟩; (have A2 := A1.go hr' hg'); (have HG' := Lib.hid hG'); clear hG' hr' hg')
      | (go_at_call 47; (with_reducible refine (rrecord _ b s _ A2.rd).mono ?_); rintro e w3 (⟨x, _, a3, hG'', rfl, ⟨pa, pk, pc, rfl, ho, hol, hok⟩, hr'', hg''⟩ | ⟨q, hG'', rfl, hg''⟩); rotate_left; exact ⟨rfl, .inr ⟨q, by simp only [getSt, HG.out, HG'.out, hG'', andG_ok, andG_err], rfl, grown_tr A2.gr hg''⟩⟩; (have A3 := A2.go hr'' hg''); (have HG'' := Lib.hid hG''); (have HO := Lib.hid (own_base ho (show w.heap.size + 2 ≤ w2.heap.size by have := A2.res.lt; omega))); (have HOL := Lib.hid hol); (have HOK := Lib.hid hok); (have c0 := A3.res.at_ 0 _ rfl); (have c1 := A3.res.at_ 1 _ rfl); (have c2 := A3.res.at_ 2 _ rfl); (have c3 := A3.res.at_ 3 _ rfl); (have c4 := A3.res.at_ 4 _ rfl); (have c5 := A3.res.at_ 5 _ rfl); (have c6 := A3.res.at_ 6 _ rfl); (have f0 := A3.res.free 0); (have f1 := A3.res.free 1); (have f2 := A3.res.free 2); (have f3 := A3.res.free 3); (have f4 := A3.res.free 4); (have f5 := A3.res.free 5); (have f6 := A3.res.free 6); clear hG'' hr'' hg'' ho hol hok))
  go_wp2
  (try simp only [Exit.inBlock, Exit.then])
  refine bodyPost_ret (results_cell_row rfl _ _ (w.heap.size + 1) 33 #[.int .u64 (v : Int), .int .u32 (i : Int), .int .u64 (x.last.n : Int), .int .u64 (x.last.e : Int), .int .i64 x.last.r, .int .u64 (x.last.m : Int), .slice pa pk pc] (0, 0) _ rfl (((((((A3.res.set 0 _).set 1 _).set 2 _).set 3 _).set 4 _).set 5 _).set 6 _) Try.underlying33 rfl (by kernel_rfl)) rfl ?_
  have hlt := A3.lt
  exact .inl ⟨⟨v, i, x⟩, _, a3, by simp only [getSt, HG.out, HG'.out, HG''.out, andG_ok], rfl, ⟨pa, pk, pc, rfl, own_base (own_set (own_set (own_set (own_set (own_set (own_set (own_set HO.out (by omega) _ _) (by omega) _ _) (by omega) _ _) (by omega) _ _) (by omega) _ _) (by omega) _ _) (by omega) _ _) (by omega), HOL.out, HOK.out⟩, ((((((A3.rd.set (by omega) _ _).set (by omega) _ _).set (by omega) _ _).set (by omega) _ _).set (by omega) _ _).set (by omega) _ _).set (by omega) _ _, grown_set (grown_set (grown_set (grown_set (grown_set (grown_set (grown_set A3.gr (by omega) _ _) (by omega) _ _) (by omega) _ _) (by omega) _ _) (by omega) _ _) (by omega) _ _) (by omega) _ _⟩
/-- What is left, all of it. -/
def getAll (l : List UInt8) : Got (List UInt8) := .ok (l, [])
set_option maxHeartbeats 1000000 in
theorem rrest (w : World) (b : Nat) (s : ByteArray) (a : Nat) (h : Rd w b s a) (hs : s.size ≤ 1099511627776) :
    Calls Try.prog 51 #[.agg #[.pointer (some ⟨b, 0, none⟩)]] w (RP getAll (fun _ l val => ∃ T : ByteArray, val = .string T ∧ T.data.toList = l) w b s a) := by
  obtain ⟨H, hg0⟩ := rbegin h
  have hin := h.in_
  have hbx : (w.alloc (.cells #[.pointer (some ⟨b, 0, none⟩)] 67)).cell? ⟨w.heap.size, 0, none⟩ = some (.pointer (some ⟨b, 0, none⟩)) := by simp
  have hlt := h.lt
  have hp : pos ((s.size : Int) - (a : Int)) = ((s.size - a : Nat) : Int) := by unfold pos; split <;> omega
  have hE : (s.extract a (a + (s.size - a))).data.toList = restB s a := by
    unfold restB
    rw [show a + (s.size - a) = s.size by omega]
    rw [ByteArray.data_extract, Array.toList_extract]
    show ((s.data.toList.drop a).take (s.size - a)) = _
    exact List.take_of_length_le (by rw [List.length_drop, Array.length_toList]; exact Nat.le_refl _)
  have hE2 : (s.extract a s.size).data.toList = restB s a := by
    rw [show a + (s.size - a) = s.size by omega] at hE
    exact hE
  have hR : restB s (a + (s.size - a)) = [] := by
    unfold restB
    exact List.drop_of_length_le (by rw [Array.length_toList]; show s.size ≤ _; omega)
  go_enter Try.func51, Try.ntmps51
  go_wp2
  go_region_held2 (fun w' => w'.cell? ⟨w.heap.size, 0, none⟩ = some (.pointer (some ⟨b, 0, none⟩))) (first | (with_reducible exact hb1) | (with_reducible exact hb2) | go_keep)
    (first
      | (go_at_call 48; (refine (left_any _ b s a (H.drewN 1)).mono ?_); rintro e w1 ⟨rfl, n1, hw1⟩; (have R1 : Rd w1 b s a := by rw [hw1]; exact (H.drewN 1).drewN n1); (have hb1 : w1.cell? ⟨w.heap.size, 0, none⟩ = some (.pointer (some ⟨b, 0, none⟩)) := by rw [hw1]; exact hbx); (have hg1 : w.grownBy w1 (some b) := by rw [hw1]; exact grown_tr (grown_tr hg0 (grown_drewN _ 1 _)) (grown_drewN _ n1 _)); clear hw1)
      | (go_at_call 66; (refine (text_yes _ b s a (s.size - a) _ R1 hp (by omega) hs).mono ?_); rintro e w2 ⟨rfl, hr2, hg2⟩; (have hb2 : w2.cell? ⟨w.heap.size, 0, none⟩ = some (.pointer (some ⟨b, 0, none⟩)) := cell_grown_by hg2 (by show w.heap.size ≠ b; omega) hb1)))
  go_wp2
  go_ret
  exact .inl ⟨_, _, _, by unfold getAll; rw [hR], rfl, ⟨_, rfl, hE2⟩, hr2, grown_tr hg1 hg2⟩
end Go.Proofs.Ytblefbjmjhgkkaa
