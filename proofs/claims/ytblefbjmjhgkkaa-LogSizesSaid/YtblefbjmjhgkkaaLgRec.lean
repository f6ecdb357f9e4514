/- Layer 19: reading pending views, a record, a stable record; what is left. -/
import Derived.Test.YtblefbjmjhgkkaaLgRead
import Derived.Deep.LoopGhost
set_option linter.unusedVariables false
set_option maxRecDepth 100000
set_option linter.unusedSimpArgs false
namespace Go.Proofs.Ytblefbjmjhgkkaa
open Go.RowKit Go.Sort

/-- Pending views: how many, and these. -/
def getPd (l : List UInt8) : Got (List Vw) := andG (getN 1 l) fun n r => badG 3 (32 < n) (getVws n r)
theorem getRec_pd (l : List UInt8) : getRec l = andG (getVw l) fun v r => andG (getPd r) fun vs r => .ok (⟨v, vs⟩, r) := by
  unfold getRec getPd
  cases h1 : getVw l with
  | error e => simp only [andG_err]
  | ok x =>
    obtain ⟨v, r⟩ := x
    simp only [andG_ok]
    cases h2 : getN 1 r with
    | error e => simp only [andG_err]
    | ok x =>
      obtain ⟨n, r2⟩ := x
      simp only [andG_ok, badG]
      split
      · rfl
      · rfl
theorem getPd_sm {l : List UInt8} {n : Int} {r : List UInt8} (h : getSm 1 32 3 l = .ok (n, r)) : ∃ m : Nat, n = (m : Int) ∧ m ≤ 32 ∧ getPd l = getVws m r := by
  unfold getSm at h
  simp only [andG_iff, badG_iff, Except.ok.injEq, Prod.mk.injEq] at h
  obtain ⟨p, r', h1, h2, rfl, rfl⟩ := h
  refine ⟨p, rfl, by omega, ?_⟩
  unfold getPd
  rw [h1, andG_ok, badG, if_neg h2]
theorem getPd_err {l : List UInt8} {q : Nat} (h : getSm 1 32 3 l = .error q) : getPd l = .error q := by
  unfold getSm at h
  unfold getPd
  cases e : getN 1 l with
  | error x => rw [e, andG_err] at h; cases h; rw [andG_err]
  | ok x =>
    obtain ⟨p, r⟩ := x
    rw [e, andG_ok] at h
    rw [andG_ok]
    unfold badG at h ⊢
    split at h
    · cases h; rename_i h3; rw [if_pos h3]
    · cases h
theorem getVws_succ (n : Nat) (l : List UInt8) : getVws (n + 1) l = andG (getVw l) fun v r => andG (getVws n r) fun vs r => .ok (v :: vs, r) := rfl
/-- So many of them were read. -/
structure PdAt (l0 : List UInt8) (n k : Nat) (L : List Vw) (l : List UInt8) : Prop where
  get : getVws n l0 = andG (getVws (n - k) l) fun vs r => .ok (L ++ vs, r)
  len : L.length = k
theorem PdAt.begin (n : Nat) (l : List UInt8) : PdAt l n 0 [] l := ⟨by
  rw [Nat.sub_zero]
  cases getVws n l with
  | error e => rfl
  | ok x => rfl, rfl⟩
theorem PdAt.step {l0 : List UInt8} {n k : Nat} {L : List Vw} {l : List UInt8} {v : Vw} {r : List UInt8} (h : PdAt l0 n k L l) (hk : k < n) (hG : getVw l = .ok (v, r)) : PdAt l0 n (k + 1) (L ++ [v]) r := by
  refine ⟨?_, by rw [List.length_append, h.len]; rfl⟩
  rw [h.get, show n - k = (n - (k + 1)) + 1 by omega, getVws_succ, hG, andG_ok]
  cases getVws (n - (k + 1)) r with
  | error e => simp only [andG_err]
  | ok x =>
    obtain ⟨vs, r2⟩ := x
    simp only [andG_ok, List.append_assoc, List.singleton_append]
theorem PdAt.error {l0 : List UInt8} {n k : Nat} {L : List Vw} {l : List UInt8} {q : Nat} (h : PdAt l0 n k L l) (hk : k < n) (hG : getVw l = .error q) : getVws n l0 = .error q := by
  rw [h.get, show n - k = (n - (k + 1)) + 1 by omega, getVws_succ, hG, andG_err, andG_err]
theorem PdAt.done {l0 : List UInt8} {n : Nat} {L : List Vw} {l : List UInt8} (h : PdAt l0 n n L l) : getVws n l0 = .ok (L, l) := by
  rw [h.get, Nat.sub_self]
  simp [getVws, andG_ok]
/-- A row of views of the call's own stands wherever only a reader's block ahead of it turns. -/
theorem own_by {w w' : World} {B b n k : Nat} {t : TypeId} {v : Value} {xs : List Value} (h : w.ownsRow B t k v n xs) (hg : w.grownBy w' (some b)) (hb : b < B) : w'.ownsRow B t k v n xs := by
  refine ⟨h.1, ?_⟩
  rcases h.2 with h1 | ⟨g, cap, cur, h1, h2, h3, h4⟩
  · exact .inl h1
  · exact .inr ⟨g, cap, cur, h1, h2, (hg.block g (Array.getElem?_eq_some_iff.1 h3).1 (by intro e; injection e with e; omega)).trans h3, h4⟩
theorem grown_over {a w w' : World} {b B n k : Nat} {t : TypeId} {v : Value} {xs : List Value} (h : a.grownBy w (some b)) (ho : w.ownsRow B t k v n xs) (hB : a.heap.size ≤ B) (hg : w.grownBy w' v.ownBlock) : a.grownBy w' (some b) :=
  ⟨hg.os.trans h.os, hg.tape.trans h.tape, hg.output.trans h.output, Nat.le_trans h.size hg.size, fun j hj hn => (hg.block j (Nat.lt_of_lt_of_le hj h.size) (by
    intro e
    have := (own_at18 ho j e.symm).1
    omega)).trans (h.block j hj hn)⟩
theorem Rd.over {w w' : World} {b B n k a : Nat} {s : ByteArray} {t : TypeId} {v : Value} {xs : List Value} (h : Rd w b s a) (ho : w.ownsRow B t k v n xs) (hB : b < B) (hg : w.grownBy w' v.ownBlock) : Rd w' b s a := by
  have e : w'.heap[b]? = w.heap[b]? := hg.block b h.lt (by intro e; have := (own_at18 ho b e.symm).1; omega)
  exact ⟨(World.cell?_of_block e).trans h.text, (World.cell?_of_block e).trans h.place, (World.frozen?_of_block e).trans h.free, h.size, h.in_⟩
theorem cell_over {w w' : World} {B n k g j : Nat} {t : TypeId} {v x : Value} {xs : List Value} (h : w.cell? ⟨g, j, none⟩ = some x) (ho : w.ownsRow B t k v n xs) (hB : g < B) (hg : w.grownBy w' v.ownBlock) : w'.cell? ⟨g, j, none⟩ = some x := by
  have hl := World.block_lt_of_cell? _ _ h
  have e : w'.heap[g]? = w.heap[g]? := hg.block g hl (by intro e; have := (own_at18 ho g e.symm).1; omega)
  exact (World.cell?_of_block e).trans h

/-- Pending views that are being read: k of n. -/
structure PgSt (w W : World) (b : Nat) (s : ByteArray) (l0 : List UInt8) (n k : Nat) (L : List Vw) (v : Value) (a : Nat) : Prop where
  rd : Rd W b s a
  box : W.cell? ⟨w.heap.size, 0, none⟩ = some (.pointer (some ⟨b, 0, none⟩))
  row : W.ownsRow (w.heap.size + 1) 28 4 v k (flat encV L)
  gr : w.grownBy W (some b)
  lt : b < w.heap.size
  z : w.heap.size + 1 ≤ W.heap.size
  at_ : PdAt l0 n k L (restB s a)
/-- What a reader of pending views hands out: a row of the call's own. -/
def OwnV (B : Nat) (w : World) (L : List Vw) (val : Value) : Prop := ∃ a k c, val = .slice a k c ∧ w.ownsRow B 28 4 (.slice a k c) k (flat encV L) ∧ L.length = k ∧ k ≤ 32
set_option maxHeartbeats 4000000 in
theorem rpending (w : World) (b : Nat) (s : ByteArray) (a : Nat) (h : Rd w b s a) :
    Calls Try.prog 65 #[.agg #[.pointer (some ⟨b, 0, none⟩)]] w (RP getPd (fun w' L val => OwnV (w.heap.size + 1) w' L val) w b s a) := by
  have hlt := h.lt
  obtain ⟨H, hg0⟩ := rbegin h
  have hbx : (w.alloc (.cells #[.pointer (some ⟨b, 0, none⟩)] 67)).cell? ⟨w.heap.size, 0, none⟩ = some (.pointer (some ⟨b, 0, none⟩)) := by simp
  have hz0 : (w.alloc (.cells #[.pointer (some ⟨b, 0, none⟩)] 67)).heap.size = w.heap.size + 1 := by simp
  have HS : Calls Try.prog 67 #[.agg #[.pointer (some ⟨b, 0, none⟩)], .int .i64 32, .int .i64 3] (w.alloc (.cells #[.pointer (some ⟨b, 0, none⟩)] 67)) (RP (getSm 1 32 3) (fun _ v val => val = .int .i64 v) _ b s a) := rsmall _ b s a 32 3 H
  go_enter Try.func65, Try.ntmps65
  go_wp2_with fail
  refine HS.mono ?_
  rintro e w1 (⟨v, _, a1, hG, rfl, rfl, hr, hg⟩ | ⟨q, hG, rfl, hg⟩)
  case inr => exact ⟨rfl, .inr ⟨q, getPd_err hG, rfl, grown_tr hg0 hg⟩⟩
  obtain ⟨n, rfl, hn, hG1⟩ := getPd_sm hG
  have hb1 : w1.cell? ⟨w.heap.size, 0, none⟩ = some (.pointer (some ⟨b, 0, none⟩)) := cell_grown_by hg (by show w.heap.size ≠ b; omega) hbx
  have hz1 := hg.size
  rw [hz0] at hz1
  have S0 : PgSt w w1 b s (restB s a1) n 0 [] (.slice none 0 0) a1 := ⟨hr, hb1, World.ownsRow_nil _ _ _ _, grown_tr hg0 hg, hlt, hz1, PdAt.begin _ _⟩
  have HG := Lib.hid hG1
  clear hG hG1 hr hg hg0 H hbx hb1 hz0 HS
  go_wp2_with fail
  have HN : (n : Int) ≤ 32 := by omega
  go_loopw [3, 6] (fun sl si wr => ∃ (k ak : Nat) (L : List Vw) (pa : Option Addr) (pc : Nat), k ≤ n ∧ sl = .slice pa k pc ∧ si = .int .i64 (k : Int) ∧ PgSt w wr b s (restB s a1) n k L (.slice pa k pc) ak) (fun _ si _ => n - (intOf si).toNat)
  case atStart => exact ⟨0, a1, [], none, 0, Nat.zero_le _, rfl, rfl, S0⟩
  case round =>
    clear S0
    obtain ⟨k, ak, L, pa, pc, hk, rfl, rfl, S⟩ := hrel
    have hbox := S.box
    by_cases hlt : k < n
    · go_wp2_with fail
      refine (rview _ b s ak S.rd).mono ?_
      rintro e w3 (⟨x, _, a3, hG, rfl, rfl, hr, hg⟩ | ⟨q, hG, rfl, hg⟩)
      case inr => exact ⟨rfl, .inr ⟨q, by rw [HG.out]; exact S.at_.error hlt hG, rfl, grown_tr S.gr hg⟩⟩
      have hbl := S.lt
      have hzl := S.z
      have B3 : w3.cell? ⟨w.heap.size, 0, none⟩ = some (.pointer (some ⟨b, 0, none⟩)) := cell_grown_by hg (by show w.heap.size ≠ b; omega) hbox
      have O3 := own_by S.row hg (by omega)
      have G3 := grown_tr S.gr hg
      have hz3 : w.heap.size + 1 ≤ w3.heap.size := Nat.le_trans hzl hg.size
      have P3 := S.at_.step hlt hG
      obtain ⟨xn, xe, xr, xm⟩ := x
      have L4 := (Grw.refl w3).alloc (.cells #[.int .u64 xn, .int .u64 xe, .int .i64 xr, .int .u64 xm] 28)
      have N4 := Lib.hid (vw_lst (VwB.new w3 ⟨xn, xe, xr, xm⟩))
      have O4 := Lib.hid (own_grw O3 L4)
      have R4 := Lib.hid (hr.after L4.below)
      have B4 := Lib.hid (cell_later L4.below B3)
      have G4 := Lib.hid (grown_below G3 L4.below)
      have hz4 : w.heap.size + 1 ≤ (w3.alloc (.cells #[.int .u64 xn, .int .u64 xe, .int .i64 xr, .int .u64 xm] 28)).heap.size := Nat.le_trans hz3 L4.below.size
      have HP := Lib.hid P3
      clear hG hr hg hbox S B3 O3 G3 P3 L4 hz3 hzl
      go_wp2_with (at_builtin; refine append_vw _ rfl (.tmp 8) (.tmp 11) rfl (w.heap.size + 1) _ _ _ rfl O4.out (some ⟨w3.heap.size, 0, none⟩) 1 1 _ rfl (fun h => by cases h) N4.out (by omega) hz4 ?_; intro v9 w9 h1 h2; obtain ⟨a9, c9, rfl⟩ := own_form' h1)
      rw [← flat_append] at h1
      have S9 : PgSt w w9 b s (restB s a1) n (k + 1) (L ++ [⟨xn, xe, xr, xm⟩]) (.slice a9 (k + 1) c9) a3 :=
        ⟨R4.out.over O4.out (by omega) h2, cell_over B4.out O4.out (by omega) h2, h1, grown_over G4.out O4.out (by omega) h2, hbl, Nat.le_trans hz4 h2.size, HP.out⟩
      have HS9 := Lib.hid S9
      clear h1 h2 S9 N4 O4 R4 B4 G4 hz4 HP
      go_wp2
      go_roundw
      case rel => exact ⟨k + 1, a3, _, a9, c9, by omega, by go_num, by go_num, HS9.out⟩
      case measure => simp [intOf]; omega
    · obtain rfl : k = n := by omega
      have HD := Lib.hid S.at_.done
      have HL := Lib.hid S.at_.len
      have HSS := Lib.hid S
      clear S hbox
      go_wp2
      go_ret
      exact .inl ⟨L, _, ak, by rw [HG.out]; exact HD.out, rfl, ⟨pa, k, pc, rfl, HSS.out.row, HL.out, by omega⟩, HSS.out.rd, HSS.out.gr⟩
end Go.Proofs.Ytblefbjmjhgkkaa
