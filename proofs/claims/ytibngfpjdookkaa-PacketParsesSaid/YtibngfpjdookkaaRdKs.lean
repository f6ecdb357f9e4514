import Derived.Test.YtibngfpjdookkaaRdPk
/- Reading a packet's body: every kind. (Written by wip/gen_rdall.py.) -/
set_option linter.unusedVariables false
set_option linter.unusedSimpArgs false
namespace Go.Proofs.Ytibngfpjdookkaa
open Go.RowKit Go.Sort

/-- What the first statement's loads are told. -/
def Sees (w : World) (b : Nat) (k f t : Int) (W : World) : Prop :=
  W.cell? ⟨w.heap.size, 0, none⟩ = some (.pointer (some ⟨b, 0, none⟩)) ∧ W.cell? ⟨w.heap.size + 1, 0, none⟩ = some (.int .i64 k) ∧ W.cell? ⟨w.heap.size + 1, 1, none⟩ = some (.int .i64 f) ∧ W.cell? ⟨w.heap.size + 1, 2, none⟩ = some (.int .i64 t)
theorem Pre.sees {w W : World} {b : Nat} {s : ByteArray} {a : Nat} {k f t : Int} (h : Pre w W b s a k f t) : Sees w b k f t W := ⟨h.box, h.c0, h.c1, h.c2⟩
theorem zeroPv_is : zeroPv = #[.int .i64 0, .int .i64 0, .int .i64 0, .int .u64 0, .int .i64 0, .int .i64 0, .int .u32 0, .int .u64 0, .int .i64 0, .slice none 0 0, .string { data := #[] }, .int .u64 0, .int .u32 0, .slice none 0 0, .int .u64 0, .int .i64 0, .int .u32 0, .int .u64 0, .int .u64 0, .int .i64 0, .int .u64 0, .slice none 0 0] := rfl
theorem PkSt.drew {w W : World} {b : Nat} {s : ByteArray} {a g : Nat} {q : Pk} {T : ByteArray} {vd vg vx : Vc} (h : PkSt w W b s a g q T vd vg vx) : PkSt w W.drew b s a g q T vd vg vx := h.go h.rd.drew (grown_drew ⟨rfl, rfl, rfl, Nat.le_refl _, fun _ _ _ => rfl⟩)
theorem PkSt.sz {w W : World} {b : Nat} {s : ByteArray} {a g : Nat} {q : Pk} {T : ByteArray} {vd vg vx : Vc} (h : PkSt w W b s a g q T vd vg vx) : g + 1 ≤ W.heap.size := h.row.lt
theorem PkSt.setM {w W : World} {b : Nat} {s : ByteArray} {a g : Nat} {q : Pk} {T : ByteArray} {vd vg vx : Vc} (h : PkSt w W b s a g q T vd vg vx) (m : PM) {T' : ByteArray} {v : Vc} (hT : T'.data.toList = m.text) (hv : OwnVec (g + 1) W v m.deps) :
    PkSt w ((((((W.setCell ⟨g, 5, none⟩ (.int .i64 m.f)).setCell ⟨g, 6, none⟩ (.int .u32 (m.q : Int))).setCell ⟨g, 7, none⟩ (.int .u64 (m.s : Int))).setCell ⟨g, 8, none⟩ (.int .i64 m.v)).setCell ⟨g, 9, none⟩ (.slice v.a v.n v.c)).setCell ⟨g, 10, none⟩ (.string T')) b s a g { q with m := m } T' v vg vx := by
  have hl := h.lt
  have hge := h.ge
  have hne : g ≠ b := by omega
  have hg1 : g < g + 1 := by omega
  have o : OwnPk (g + 1) W { q with m := m } T' v vg vx := ⟨hT, hv, h.own.got, h.own.xs⟩
  exact ⟨(((((h.rd.set hne 5 _).set hne 6 _).set hne 7 _).set hne 8 _).set hne 9 _).set hne 10 _,
    cell_set (cell_set (cell_set (cell_set (cell_set (cell_set h.box (by omega)) (by omega)) (by omega)) (by omega)) (by omega)) (by omega),
    (((((h.res.set_other _ 5 _ (by omega)).set_other _ 6 _ (by omega)).set_other _ 7 _ (by omega)).set_other _ 8 _ (by omega)).set_other _ 9 _ (by omega)).set_other _ 10 _ (by omega),
    (((((h.row.set 5 _).set 6 _).set 7 _).set 8 _).set 9 _).set 10 _,
    (((((o.set hg1 5 _).set hg1 6 _).set hg1 7 _).set hg1 8 _).set hg1 9 _).set hg1 10 _,
    grown_set (grown_set (grown_set (grown_set (grown_set (grown_set h.gr (by omega) 5 _) (by omega) 6 _) (by omega) 7 _) (by omega) 8 _) (by omega) 9 _) (by omega) 10 _, h.lt, h.ge⟩
theorem getFs_conf {k f t : Int} {fs : List Fd} (hr : rowP (baseP k f t) = .c :: fs) {l r : List UInt8} {c : PC} (hc : getC l = .ok (c, r)) : getFs (rowP (baseP k f t)) (baseP k f t) l = getFs fs { baseP k f t with conf := c } r := by
  rw [hr]
  show andG (andG (getC l) _) _ = _
  rw [hc, andG_ok, andG_ok]
theorem getFs_conf_err {k f t : Int} (h1 : 1 ≤ k) (h2 : k ≤ 11) {l : List UInt8} {x : Nat} (hc : getC l = .error x) : getFs (rowP (baseP k f t)) (baseP k f t) l = .error x := by
  obtain ⟨fs, hr⟩ : ∃ fs, rowP (baseP k f t) = .c :: fs := by
    have e : rowP (baseP k f t) = rowF k.toNat := by unfold rowP; rw [if_pos ⟨h1, h2⟩]; rfl
    rw [e]
    obtain ⟨n, rfl⟩ := Int.eq_ofNat_of_zero_le (show 0 ≤ k by omega)
    match n, h1, h2 with
    | 1, _, _ | 2, _, _ | 3, _, _ | 4, _, _ | 5, _, _ | 6, _, _ | 7, _, _ | 8, _, _ | 9, _, _ | 10, _, _ | 11, _, _ => exact ⟨_, rfl⟩
    | 0, h1, _ => exact absurd h1 (by decide)
    | n + 12, _, h2 => omega
  rw [hr]
  show andG (andG (getC l) _) _ = _
  rw [hc, andG_err, andG_err]
/-- What reading a packet answers. -/
abbrev PkD (w : World) (w' : World) (q : Pk) (val : Value) : Prop := ∃ T vd vg vx, val = .agg (encP q T vd vg vx).toArray ∧ OwnPk w.heap.size w' q T vd vg vx
theorem PkSt.done {w W : World} {b : Nat} {s : ByteArray} {a a0 g : Nat} {k f t : Int} {q : Pk} {T : ByteArray} {vd vg vx : Vc} (h : PkSt w W b s a g q T vd vg vx) (hG : getFs (rowP (baseP k f t)) (baseP k f t) (restB s a0) = .ok (q, restB s a)) :
    RP (getFs (rowP (baseP k f t)) (baseP k f t)) (PkD w) w b s a0 (.returned (.agg (encP q T vd vg vx).toArray)) (W.setRow (w.heap.size + 2) (encP q T vd vg vx).toArray) := by
  have hl := h.lt
  have hge := h.ge
  exact .inl ⟨q, _, a, hG, rfl, ⟨T, vd, vg, vx, rfl, (h.own.row (by omega) _).mono (by omega)⟩, h.rd.row (by omega) _, grown_row h.gr (by omega) _⟩
theorem OwnXs.one {B : Nat} {w : World} {x : PX} {v : Vc} (hv : OwnVec B w v x.cnt) (hB : B ≤ w.heap.size) : OwnXs B (w.alloc (.cells (encX x v).toArray 50)) ⟨some ⟨w.heap.size, 0, none⟩, 1, 1⟩ [x] := by
  refine ⟨rfl, .inr ⟨w.heap.size, _, rfl, hB, Own.new _ _ _, fun j y hj => ?_⟩⟩
  match j, hj with
  | 0, hj =>
    obtain rfl : x = y := by simpa using hj
    exact ⟨v, hv.below ((Grw.refl w).alloc _).below, fun c u hc => by simpa using hc⟩
  | j + 1, hj => simp at hj
/-- The head of a packet's body was read. -/
def Cut (w : World) (b : Nat) (s : ByteArray) (a : Nat) (k f t : Int) (s5 : Value) (wx : World) : Prop := ∃ (g a1 : Nat) (c : PC), s5 = .pointer (some ⟨g, 0, none⟩) ∧ Hid (getC (restB s a) = .ok (c, restB s a1)) ∧ PkSt w wx b s a1 g { baseP k f t with conf := c } { data := #[] } Vc.nil Vc.nil Vc.nil

end Go.Proofs.Ytibngfpjdookkaa

/- Reading a packet's body: kind 1. (Written by wip/gen_rdall.py.) -/
set_option linter.unusedVariables false
set_option linter.unusedSimpArgs false
namespace Go.Proofs.Ytibngfpjdookkaa
open Go.RowKit Go.Sort
set_option maxHeartbeats 4000000 in
set_option maxRecDepth 100000 in
theorem rpacket_1 (w : World) (b : Nat) (s : ByteArray) (a : Nat) (f t : Int) (y : ByteArray) (hs : s.size ≤ 1099511627776) (h : Rd w b s a) :
    Calls Try.prog 22 #[.agg #[.pointer (some ⟨b, 0, none⟩)], .agg #[.int .i64 1, .int .i64 f, .int .i64 t, .string y]] w (RP (getFs (rowP (baseP 1 f t)) (baseP 1 f t)) (PkD w) w b s a) := by
  have P0 := Pre.new h 1 f t y
  rw [zeroPv_is] at P0
  have NC : Hid (∀ (c : PC), (encP { baseP 1 f t with conf := c } { data := #[] } Vc.nil Vc.nil Vc.nil).toArray.size = 22) := Lib.hid fun _ => rfl
  go_enter Try.func22, Try.ntmps22
  go_upto_region 1 with fail
  go_cut [5] (fun s5 wx => Cut w b s a 1 f t s5 wx)
  case first =>
    refine wp_region_held_drew (S := Sees w b 1 f t) (by kernel_rfl) P0.sees (fun hHeld => ?_)
    generalize (((w.alloc (.cells #[.pointer (some ⟨b, 0, none⟩)] 62)).alloc (.cells #[.int .i64 1, .int .i64 f, .int .i64 t, .string y] 56)).alloc (.cells #[.int .i64 0, .int .i64 0, .int .i64 0, .int .u64 0, .int .i64 0, .int .i64 0, .int .u32 0, .int .u64 0, .int .i64 0, .slice none 0 0, .string { data := #[] }, .int .u64 0, .int .u32 0, .slice none 0 0, .int .u64 0, .int .i64 0, .int .u32 0, .int .u64 0, .int .u64 0, .int .i64 0, .int .u64 0, .slice none 0 0] 35)).drew = W0 at *
    refine wpAnyH_take (i := 0) (v := .pointer (some ⟨w.heap.size + 1, 0, none⟩)) rfl (by kernel_rfl) (by kernel_rfl) (by kernel_rfl) (fun _ _ _ h => h) (.inl ⟨by rfl, fun w' hS => by (obtain ⟨s0, s1, s2, s3⟩ := hS; go_simp)⟩) hHeld ?_
    (try simp only [Act.put, List.setIfInBounds_toArray, List.set_cons_zero, List.set_cons_succ])
    refine wpAnyH_take (i := 1) (v := .int .i64 1) rfl (by kernel_rfl) (by kernel_rfl) (by kernel_rfl) (fun _ _ _ h => h) (.inl ⟨by rfl, fun w' hS => by (obtain ⟨s0, s1, s2, s3⟩ := hS; go_simp)⟩) hHeld ?_
    (try simp only [Act.put, List.setIfInBounds_toArray, List.set_cons_zero, List.set_cons_succ])
    refine wpAnyH_take (i := 2) (v := .pointer (some ⟨w.heap.size + 1, 1, none⟩)) rfl (by kernel_rfl) (by kernel_rfl) (by kernel_rfl) (fun _ _ _ h => h) (.inl ⟨by rfl, fun w' hS => by (obtain ⟨s0, s1, s2, s3⟩ := hS; go_simp)⟩) hHeld ?_
    (try simp only [Act.put, List.setIfInBounds_toArray, List.set_cons_zero, List.set_cons_succ])
    refine wpAnyH_take (i := 3) (v := .int .i64 f) rfl (by kernel_rfl) (by kernel_rfl) (by kernel_rfl) (fun _ _ _ h => h) (.inl ⟨by rfl, fun w' hS => by (obtain ⟨s0, s1, s2, s3⟩ := hS; go_simp)⟩) hHeld ?_
    (try simp only [Act.put, List.setIfInBounds_toArray, List.set_cons_zero, List.set_cons_succ])
    refine wpAnyH_take (i := 4) (v := .pointer (some ⟨w.heap.size + 1, 2, none⟩)) rfl (by kernel_rfl) (by kernel_rfl) (by kernel_rfl) (fun _ _ _ h => h) (.inl ⟨by rfl, fun w' hS => by (obtain ⟨s0, s1, s2, s3⟩ := hS; go_simp)⟩) hHeld ?_
    (try simp only [Act.put, List.setIfInBounds_toArray, List.set_cons_zero, List.set_cons_succ])
    refine wpAnyH_take (i := 5) (v := .int .i64 t) rfl (by kernel_rfl) (by kernel_rfl) (by kernel_rfl) (fun _ _ _ h => h) (.inl ⟨by rfl, fun w' hS => by (obtain ⟨s0, s1, s2, s3⟩ := hS; go_simp)⟩) hHeld ?_
    (try simp only [Act.put, List.setIfInBounds_toArray, List.set_cons_zero, List.set_cons_succ])
    refine wpAnyH_take (i := 6) (v := .agg #[.pointer (some ⟨b, 0, none⟩)]) rfl (by kernel_rfl) (by kernel_rfl) (by kernel_rfl) (fun _ _ _ h => h) (.inl ⟨by rfl, fun w' hS => by (obtain ⟨s0, s1, s2, s3⟩ := hS; go_simp)⟩) hHeld ?_
    (try simp only [Act.put, List.setIfInBounds_toArray, List.set_cons_zero, List.set_cons_succ])
    refine wpAnyH_ready (rs := [7, 9]) (by kernel_rfl) (by simp) (AllReadyH.cons rfl (fun K hK => ?_) (AllReadyH.cons rfl (fun K hK => ?_) AllReadyH.nil))
    · clear hHeld
      rw [if_pos (by rfl)]
      go_simp
      refine (rconf _ b s a P0.rd).mono ?_
      rintro e w1 (⟨⟨ce, cr⟩, _, a1, hG, rfl, rfl, hr, hg⟩ | ⟨x, hG, rfl, hg⟩)
      rotate_left
      · exact ⟨rfl, .inr ⟨x, getFs_conf_err (by decide) (by decide) hG, rfl, grown_tr P0.gr hg⟩⟩
      have P1 := P0.go hr hg
      have HG := Lib.hid hG
      refine hK.out _ _ P1.sees (fun hHeld => ?_)
      clear hG hr hg hK K
      (try simp only [Act.put, List.setIfInBounds_toArray, List.set_cons_zero, List.set_cons_succ])
      refine wpAnyH_take (i := 8) (v := .agg (encP { baseP 1 f t with conf := ⟨ce, cr⟩ } { data := #[] } Vc.nil Vc.nil Vc.nil).toArray) rfl (by kernel_rfl) (by kernel_rfl) (by kernel_rfl) (fun _ _ _ h => h) (.inl ⟨by rfl, fun w' hS => by (go_simp; rfl)⟩) hHeld ?_
      (try simp only [Act.put, List.setIfInBounds_toArray, List.set_cons_zero, List.set_cons_succ])
      refine wpAnyH_ready (rs := [9]) (by kernel_rfl) (by simp) (AllReadyH.cons rfl (fun K hK => ?_) AllReadyH.nil)
      rw [if_pos (by rfl)]
      go_simp
      have ho : Own (w1.alloc (.cells zeroPv 35)) w1.heap.size 35 zeroPv := Own.new _ _ _
      have P2 := P1.alloc (.cells zeroPv 35)
      rw [zeroPv_is] at ho P2
      have hlt1 := P1.res.lt
      refine hK.out _ _ P2.sees (fun hHeld => ?_)
      clear hK K
      (try simp only [Act.put, List.setIfInBounds_toArray, List.set_cons_zero, List.set_cons_succ])
      refine wpAnyH_ready (rs := [10]) (by kernel_rfl) (by simp) (AllReadyH.cons rfl (fun K hK => ?_) AllReadyH.nil)
      rw [if_pos (by rfl)]
      refine wp_store_row 35 (.tmp 5) (.tmp 14) rfl w1.heap.size _ rfl rfl 35 _ ho packet_size rfl (encP_one _ _ _ _ _) ?_
      refine hK.out _ _ (P2.row (by have := P2.res.lt; omega) _).sees (fun hHeld => ?_)
      refine wpAnyH_done (by kernel_rfl) ?_ _
      clear hK hHeld
      go_wp2_with fail
      go_meet
      exact ⟨w1.heap.size, a1, ⟨ce, cr⟩, rfl, HG, P2.st (by have := hlt1; omega) ho⟩
    · clear hHeld
      rw [if_pos (by rfl)]
      go_simp
      have ho : Own (W0.alloc (.cells zeroPv 35)) W0.heap.size 35 zeroPv := Own.new _ _ _
      have P1 := P0.alloc (.cells zeroPv 35)
      rw [zeroPv_is] at ho P1
      have hlt1 := P0.res.lt
      have hlt0 := P0.lt
      refine hK.out _ _ P1.sees (fun hHeld => ?_)
      clear hK K
      (try simp only [Act.put, List.setIfInBounds_toArray, List.set_cons_zero, List.set_cons_succ])
      refine wpAnyH_ready (rs := [7]) (by kernel_rfl) (by simp) (AllReadyH.cons rfl (fun K hK => ?_) AllReadyH.nil)
      clear hHeld
      rw [if_pos (by rfl)]
      go_simp
      refine (rconf _ b s a P1.rd).mono ?_
      rintro e w1 (⟨⟨ce, cr⟩, _, a1, hG, rfl, rfl, hr, hg⟩ | ⟨x, hG, rfl, hg⟩)
      rotate_left
      · exact ⟨rfl, .inr ⟨x, getFs_conf_err (by decide) (by decide) hG, rfl, grown_tr P1.gr hg⟩⟩
      have P2 := P1.go hr hg
      have HG := Lib.hid hG
      refine hK.out _ _ P2.sees (fun hHeld => ?_)
      have ho2 := ho.grown hg (by intro e; cases e; omega)
      clear hG hr hg hK K
      (try simp only [Act.put, List.setIfInBounds_toArray, List.set_cons_zero, List.set_cons_succ])
      refine wpAnyH_take (i := 8) (v := .agg (encP { baseP 1 f t with conf := ⟨ce, cr⟩ } { data := #[] } Vc.nil Vc.nil Vc.nil).toArray) rfl (by kernel_rfl) (by kernel_rfl) (by kernel_rfl) (fun _ _ _ h => h) (.inl ⟨by rfl, fun w' hS => by (go_simp; rfl)⟩) hHeld ?_
      (try simp only [Act.put, List.setIfInBounds_toArray, List.set_cons_zero, List.set_cons_succ])
      refine wpAnyH_ready (rs := [10]) (by kernel_rfl) (by simp) (AllReadyH.cons rfl (fun K hK => ?_) AllReadyH.nil)
      rw [if_pos (by rfl)]
      refine wp_store_row 35 (.tmp 5) (.tmp 14) rfl W0.heap.size _ rfl rfl 35 _ ho2 packet_size rfl (encP_one _ _ _ _ _) ?_
      refine hK.out _ _ (P2.row (by have := P2.res.lt; omega) _).sees (fun hHeld => ?_)
      refine wpAnyH_done (by kernel_rfl) ?_ _
      clear hK hHeld
      go_wp2_with fail
      go_meet
      exact ⟨W0.heap.size, a1, ⟨ce, cr⟩, rfl, HG, P2.st (by have := hlt1; omega) ho2⟩
  case rest =>
    obtain ⟨g, a1, c, rfl, HC, S⟩ := hcut
    clear P0
    have hne : g ≠ w.heap.size := by have := S.ge; omega
    have hne2 : w.heap.size ≠ g := by omega
    have HS := Lib.hid hs
    have HL : Hid (b < w.heap.size) := Lib.hid h.lt
    have c0 : wc.cell? ⟨g, 0, none⟩ = some (.int .i64 1) := S.row.at_ 0 _ rfl
    have c1 : wc.cell? ⟨g, 1, none⟩ = some (.int .i64 f) := S.row.at_ 1 _ rfl
    have c15 : wc.cell? ⟨g, 15, none⟩ = some (.int .i64 0) := S.row.at_ 15 _ rfl
    have hbox := S.box
    clear h hs
    have HR : Hid (getFs (rowP (baseP 1 f t)) (baseP 1 f t) (restB s a) = getFs [.m] { baseP 1 f t with conf := c } (restB s a1)) := Lib.hid (getFs_conf (fs := [.m]) rfl HC.out)
    clear HC
    clear c15
    go_wp2_with fail
    refine (rmessage _ b s a1 f HS.out S.rd).mono ?_
    rintro e w1 (⟨m, _, a2, hG, rfl, ⟨T, v, rfl, hT, hv⟩, hr, hg⟩ | ⟨x, hG, rfl, hg⟩)
    case inr => exact ⟨rfl, .inr ⟨x, by (rw [HR.out]; show andG (andG (getM f (restB s a1)) _) _ = _; rw [hG, andG_err, andG_err]), rfl, grown_tr S.gr hg⟩⟩
    have HE : Hid (getFs (rowP (baseP 1 f t)) (baseP 1 f t) (restB s a) = .ok ({ baseP 1 f t with conf := c, m := m }, restB s a2)) := Lib.hid (by rw [HR.out]; show andG (andG (getM f (restB s a1)) _) _ = _; rw [hG, andG_ok, andG_ok]; rfl)
    have S1 := S.go hr hg
    have SZ := S1.setM m hT (hv.mono S.sz)
    have c5 : w1.cell? ⟨g, 5, none⟩ = some (.int .i64 0) := S1.row.at_ 5 _ rfl
    have f5 := S1.row.free 5
    have c6 : w1.cell? ⟨g, 6, none⟩ = some (.int .u32 0) := S1.row.at_ 6 _ rfl
    have f6 := S1.row.free 6
    have c7 : w1.cell? ⟨g, 7, none⟩ = some (.int .u64 0) := S1.row.at_ 7 _ rfl
    have f7 := S1.row.free 7
    have c8 : w1.cell? ⟨g, 8, none⟩ = some (.int .i64 0) := S1.row.at_ 8 _ rfl
    have f8 := S1.row.free 8
    have c9 : w1.cell? ⟨g, 9, none⟩ = some (.slice none 0 0) := S1.row.at_ 9 _ rfl
    have f9 := S1.row.free 9
    have c10 : w1.cell? ⟨g, 10, none⟩ = some (.string { data := #[] }) := S1.row.at_ 10 _ rfl
    have f10 := S1.row.free 10
    clear hG hr hg hT hv S hbox c0 c1 HR
    obtain ⟨mf, mq, ms, mv, md, mt⟩ := m
    obtain ⟨va, vn, vc⟩ := v
    dsimp only at SZ
    go_upto_region 21 with fail
    go_wp2_with (first | (refine load_packet rfl (.tmp 5) rfl g rfl SZ.row ?_) | (refine store_packet rfl (.tmp 4) (.tmp 93) rfl (w.heap.size + 2) rfl rfl SZ.res ?_))
    (try simp only [Exit.inBlock, Exit.then])
    
    refine bodyPost_ret (results_packet rfl _ _ (w.heap.size + 2) rfl (SZ.res.row _)) rfl ?_
    exact SZ.done (by rw [HE.out])
end Go.Proofs.Ytibngfpjdookkaa

/- Reading a packet's body: kind 2. (Written by wip/gen_rdall.py.) -/
set_option linter.unusedVariables false
set_option linter.unusedSimpArgs false
namespace Go.Proofs.Ytibngfpjdookkaa
open Go.RowKit Go.Sort
set_option maxHeartbeats 4000000 in
set_option maxRecDepth 100000 in
theorem rpacket_2 (w : World) (b : Nat) (s : ByteArray) (a : Nat) (f t : Int) (y : ByteArray) (hs : s.size ≤ 1099511627776) (h : Rd w b s a) :
    Calls Try.prog 22 #[.agg #[.pointer (some ⟨b, 0, none⟩)], .agg #[.int .i64 2, .int .i64 f, .int .i64 t, .string y]] w (RP (getFs (rowP (baseP 2 f t)) (baseP 2 f t)) (PkD w) w b s a) := by
  have P0 := Pre.new h 2 f t y
  rw [zeroPv_is] at P0
  have NC : Hid (∀ (c : PC), (encP { baseP 2 f t with conf := c } { data := #[] } Vc.nil Vc.nil Vc.nil).toArray.size = 22) := Lib.hid fun _ => rfl
  go_enter Try.func22, Try.ntmps22
  go_upto_region 1 with fail
  go_cut [5] (fun s5 wx => Cut w b s a 2 f t s5 wx)
  case first =>
    refine wp_region_held_drew (S := Sees w b 2 f t) (by kernel_rfl) P0.sees (fun hHeld => ?_)
    generalize (((w.alloc (.cells #[.pointer (some ⟨b, 0, none⟩)] 62)).alloc (.cells #[.int .i64 2, .int .i64 f, .int .i64 t, .string y] 56)).alloc (.cells #[.int .i64 0, .int .i64 0, .int .i64 0, .int .u64 0, .int .i64 0, .int .i64 0, .int .u32 0, .int .u64 0, .int .i64 0, .slice none 0 0, .string { data := #[] }, .int .u64 0, .int .u32 0, .slice none 0 0, .int .u64 0, .int .i64 0, .int .u32 0, .int .u64 0, .int .u64 0, .int .i64 0, .int .u64 0, .slice none 0 0] 35)).drew = W0 at *
    refine wpAnyH_take (i := 0) (v := .pointer (some ⟨w.heap.size + 1, 0, none⟩)) rfl (by kernel_rfl) (by kernel_rfl) (by kernel_rfl) (fun _ _ _ h => h) (.inl ⟨by rfl, fun w' hS => by (obtain ⟨s0, s1, s2, s3⟩ := hS; go_simp)⟩) hHeld ?_
    (try simp only [Act.put, List.setIfInBounds_toArray, List.set_cons_zero, List.set_cons_succ])
    refine wpAnyH_take (i := 1) (v := .int .i64 2) rfl (by kernel_rfl) (by kernel_rfl) (by kernel_rfl) (fun _ _ _ h => h) (.inl ⟨by rfl, fun w' hS => by (obtain ⟨s0, s1, s2, s3⟩ := hS; go_simp)⟩) hHeld ?_
    (try simp only [Act.put, List.setIfInBounds_toArray, List.set_cons_zero, List.set_cons_succ])
    refine wpAnyH_take (i := 2) (v := .pointer (some ⟨w.heap.size + 1, 1, none⟩)) rfl (by kernel_rfl) (by kernel_rfl) (by kernel_rfl) (fun _ _ _ h => h) (.inl ⟨by rfl, fun w' hS => by (obtain ⟨s0, s1, s2, s3⟩ := hS; go_simp)⟩) hHeld ?_
    (try simp only [Act.put, List.setIfInBounds_toArray, List.set_cons_zero, List.set_cons_succ])
    refine wpAnyH_take (i := 3) (v := .int .i64 f) rfl (by kernel_rfl) (by kernel_rfl) (by kernel_rfl) (fun _ _ _ h => h) (.inl ⟨by rfl, fun w' hS => by (obtain ⟨s0, s1, s2, s3⟩ := hS; go_simp)⟩) hHeld ?_
    (try simp only [Act.put, List.setIfInBounds_toArray, List.set_cons_zero, List.set_cons_succ])
    refine wpAnyH_take (i := 4) (v := .pointer (some ⟨w.heap.size + 1, 2, none⟩)) rfl (by kernel_rfl) (by kernel_rfl) (by kernel_rfl) (fun _ _ _ h => h) (.inl ⟨by rfl, fun w' hS => by (obtain ⟨s0, s1, s2, s3⟩ := hS; go_simp)⟩) hHeld ?_
    (try simp only [Act.put, List.setIfInBounds_toArray, List.set_cons_zero, List.set_cons_succ])
    refine wpAnyH_take (i := 5) (v := .int .i64 t) rfl (by kernel_rfl) (by kernel_rfl) (by kernel_rfl) (fun _ _ _ h => h) (.inl ⟨by rfl, fun w' hS => by (obtain ⟨s0, s1, s2, s3⟩ := hS; go_simp)⟩) hHeld ?_
    (try simp only [Act.put, List.setIfInBounds_toArray, List.set_cons_zero, List.set_cons_succ])
    refine wpAnyH_take (i := 6) (v := .agg #[.pointer (some ⟨b, 0, none⟩)]) rfl (by kernel_rfl) (by kernel_rfl) (by kernel_rfl) (fun _ _ _ h => h) (.inl ⟨by rfl, fun w' hS => by (obtain ⟨s0, s1, s2, s3⟩ := hS; go_simp)⟩) hHeld ?_
    (try simp only [Act.put, List.setIfInBounds_toArray, List.set_cons_zero, List.set_cons_succ])
    refine wpAnyH_ready (rs := [7, 9]) (by kernel_rfl) (by simp) (AllReadyH.cons rfl (fun K hK => ?_) (AllReadyH.cons rfl (fun K hK => ?_) AllReadyH.nil))
    · clear hHeld
      rw [if_pos (by rfl)]
      go_simp
      refine (rconf _ b s a P0.rd).mono ?_
      rintro e w1 (⟨⟨ce, cr⟩, _, a1, hG, rfl, rfl, hr, hg⟩ | ⟨x, hG, rfl, hg⟩)
      rotate_left
      · exact ⟨rfl, .inr ⟨x, getFs_conf_err (by decide) (by decide) hG, rfl, grown_tr P0.gr hg⟩⟩
      have P1 := P0.go hr hg
      have HG := Lib.hid hG
      refine hK.out _ _ P1.sees (fun hHeld => ?_)
      clear hG hr hg hK K
      (try simp only [Act.put, List.setIfInBounds_toArray, List.set_cons_zero, List.set_cons_succ])
      refine wpAnyH_take (i := 8) (v := .agg (encP { baseP 2 f t with conf := ⟨ce, cr⟩ } { data := #[] } Vc.nil Vc.nil Vc.nil).toArray) rfl (by kernel_rfl) (by kernel_rfl) (by kernel_rfl) (fun _ _ _ h => h) (.inl ⟨by rfl, fun w' hS => by (go_simp; rfl)⟩) hHeld ?_
      (try simp only [Act.put, List.setIfInBounds_toArray, List.set_cons_zero, List.set_cons_succ])
      refine wpAnyH_ready (rs := [9]) (by kernel_rfl) (by simp) (AllReadyH.cons rfl (fun K hK => ?_) AllReadyH.nil)
      rw [if_pos (by rfl)]
      go_simp
      have ho : Own (w1.alloc (.cells zeroPv 35)) w1.heap.size 35 zeroPv := Own.new _ _ _
      have P2 := P1.alloc (.cells zeroPv 35)
      rw [zeroPv_is] at ho P2
      have hlt1 := P1.res.lt
      refine hK.out _ _ P2.sees (fun hHeld => ?_)
      clear hK K
      (try simp only [Act.put, List.setIfInBounds_toArray, List.set_cons_zero, List.set_cons_succ])
      refine wpAnyH_ready (rs := [10]) (by kernel_rfl) (by simp) (AllReadyH.cons rfl (fun K hK => ?_) AllReadyH.nil)
      rw [if_pos (by rfl)]
      refine wp_store_row 35 (.tmp 5) (.tmp 14) rfl w1.heap.size _ rfl rfl 35 _ ho packet_size rfl (encP_one _ _ _ _ _) ?_
      refine hK.out _ _ (P2.row (by have := P2.res.lt; omega) _).sees (fun hHeld => ?_)
      refine wpAnyH_done (by kernel_rfl) ?_ _
      clear hK hHeld
      go_wp2_with fail
      go_meet
      exact ⟨w1.heap.size, a1, ⟨ce, cr⟩, rfl, HG, P2.st (by have := hlt1; omega) ho⟩
    · clear hHeld
      rw [if_pos (by rfl)]
      go_simp
      have ho : Own (W0.alloc (.cells zeroPv 35)) W0.heap.size 35 zeroPv := Own.new _ _ _
      have P1 := P0.alloc (.cells zeroPv 35)
      rw [zeroPv_is] at ho P1
      have hlt1 := P0.res.lt
      have hlt0 := P0.lt
      refine hK.out _ _ P1.sees (fun hHeld => ?_)
      clear hK K
      (try simp only [Act.put, List.setIfInBounds_toArray, List.set_cons_zero, List.set_cons_succ])
      refine wpAnyH_ready (rs := [7]) (by kernel_rfl) (by simp) (AllReadyH.cons rfl (fun K hK => ?_) AllReadyH.nil)
      clear hHeld
      rw [if_pos (by rfl)]
      go_simp
      refine (rconf _ b s a P1.rd).mono ?_
      rintro e w1 (⟨⟨ce, cr⟩, _, a1, hG, rfl, rfl, hr, hg⟩ | ⟨x, hG, rfl, hg⟩)
      rotate_left
      · exact ⟨rfl, .inr ⟨x, getFs_conf_err (by decide) (by decide) hG, rfl, grown_tr P1.gr hg⟩⟩
      have P2 := P1.go hr hg
      have HG := Lib.hid hG
      refine hK.out _ _ P2.sees (fun hHeld => ?_)
      have ho2 := ho.grown hg (by intro e; cases e; omega)
      clear hG hr hg hK K
      (try simp only [Act.put, List.setIfInBounds_toArray, List.set_cons_zero, List.set_cons_succ])
      refine wpAnyH_take (i := 8) (v := .agg (encP { baseP 2 f t with conf := ⟨ce, cr⟩ } { data := #[] } Vc.nil Vc.nil Vc.nil).toArray) rfl (by kernel_rfl) (by kernel_rfl) (by kernel_rfl) (fun _ _ _ h => h) (.inl ⟨by rfl, fun w' hS => by (go_simp; rfl)⟩) hHeld ?_
      (try simp only [Act.put, List.setIfInBounds_toArray, List.set_cons_zero, List.set_cons_succ])
      refine wpAnyH_ready (rs := [10]) (by kernel_rfl) (by simp) (AllReadyH.cons rfl (fun K hK => ?_) AllReadyH.nil)
      rw [if_pos (by rfl)]
      refine wp_store_row 35 (.tmp 5) (.tmp 14) rfl W0.heap.size _ rfl rfl 35 _ ho2 packet_size rfl (encP_one _ _ _ _ _) ?_
      refine hK.out _ _ (P2.row (by have := P2.res.lt; omega) _).sees (fun hHeld => ?_)
      refine wpAnyH_done (by kernel_rfl) ?_ _
      clear hK hHeld
      go_wp2_with fail
      go_meet
      exact ⟨W0.heap.size, a1, ⟨ce, cr⟩, rfl, HG, P2.st (by have := hlt1; omega) ho2⟩
  case rest =>
    obtain ⟨g, a1, c, rfl, HC, S⟩ := hcut
    clear P0
    have hne : g ≠ w.heap.size := by have := S.ge; omega
    have hne2 : w.heap.size ≠ g := by omega
    have HS := Lib.hid hs
    have HL : Hid (b < w.heap.size) := Lib.hid h.lt
    have c0 : wc.cell? ⟨g, 0, none⟩ = some (.int .i64 2) := S.row.at_ 0 _ rfl
    have c1 : wc.cell? ⟨g, 1, none⟩ = some (.int .i64 f) := S.row.at_ 1 _ rfl
    have c15 : wc.cell? ⟨g, 15, none⟩ = some (.int .i64 0) := S.row.at_ 15 _ rfl
    have hbox := S.box
    clear h hs
    have HR : Hid (getFs (rowP (baseP 2 f t)) (baseP 2 f t) (restB s a) = getFs [.s, .n, .g, .h] { baseP 2 f t with conf := c } (restB s a1)) := Lib.hid (getFs_conf (fs := [.s, .n, .g, .h]) rfl HC.out)
    clear HC
    have S0 := S.drew
    clear c1 c15
    go_wp2_with fail
    go_region_held2 (fun w' => w'.cell? ⟨w.heap.size, 0, none⟩ = some (.pointer (some ⟨b, 0, none⟩))) (first | (with_reducible exact S1.box) | (with_reducible exact S2.box) | (with_reducible exact S3.box) | (with_reducible exact S4.box) | go_keep)
      (first
        | (go_at_call 45; (with_reducible refine (rnum _ b s _ 8 8 (by decide) S0.rd).mono ?_); rintro e w1 (⟨v1, _, a2, hG, rfl, rfl, hr, hg⟩ | ⟨x, hG, rfl, hg⟩); rotate_left; exact ⟨rfl, .inr ⟨x, by (rw [HR.out]; simp only [getFs, getF, hG, andG_ok, andG_err]), rfl, grown_tr S0.gr hg⟩⟩; (have S1 := S0.go hr hg); (have G1 := Lib.hid hG); clear hG hr hg)
        | (go_at_call 46; (with_reducible refine (rfour _ b s _ S1.rd).mono ?_); rintro e w2 (⟨v2, _, a3, hG, rfl, rfl, hr, hg⟩ | ⟨x, hG, rfl, hg⟩); rotate_left; exact ⟨rfl, .inr ⟨x, by (rw [HR.out]; simp only [getFs, getF, hG, andG_ok, andG_err, G1.out]), rfl, grown_tr S1.gr hg⟩⟩; (have S2 := S1.go hr hg); (have G2 := Lib.hid hG); clear hG hr hg)
        | (go_at_call 47; (with_reducible refine (rvector _ b s _ S2.rd).mono ?_); rintro e w3 (⟨v3, _, a4, hG, rfl, ⟨⟨va, vn, vc⟩, rfl, hv⟩, hr, hg⟩ | ⟨x, hG, rfl, hg⟩); rotate_left; exact ⟨rfl, .inr ⟨x, by (rw [HR.out]; simp only [getFs, getF, hG, andG_ok, andG_err, G1.out, G2.out]), rfl, grown_tr S2.gr hg⟩⟩; (have S3 := S2.go hr hg); (have G3 := Lib.hid hG); (have V3 := hv.mono S2.sz); clear hG hr hg hv)
        | (go_at_call 45; (with_reducible refine (rnum _ b s _ 8 8 (by decide) S3.rd).mono ?_); rintro e w4 (⟨v4, _, a5, hG, rfl, rfl, hr, hg⟩ | ⟨x, hG, rfl, hg⟩); rotate_left; exact ⟨rfl, .inr ⟨x, by (rw [HR.out]; simp only [getFs, getF, hG, andG_ok, andG_err, G1.out, G2.out, G3.out]), rfl, grown_tr S3.gr hg⟩⟩; (have S4 := S3.go hr hg); (have G4 := Lib.hid hG); (have V4 := V3.grown hg (by have := HL.out; have := S0.ge; omega)); (have c11 : w4.cell? ⟨g, 11, none⟩ = some (.int .u64 0) := S4.row.at_ 11 _ rfl); (have f11 := S4.row.free 11); (have c12 : w4.cell? ⟨g, 12, none⟩ = some (.int .u32 0) := S4.row.at_ 12 _ rfl); (have f12 := S4.row.free 12); (have c13 : w4.cell? ⟨g, 13, none⟩ = some (.slice none 0 0) := S4.row.at_ 13 _ rfl); (have f13 := S4.row.free 13); (have c14 : w4.cell? ⟨g, 14, none⟩ = some (.int .u64 0) := S4.row.at_ 14 _ rfl); (have f14 := S4.row.free 14); clear hG hr hg))
    have T0 := S4.set 11 (.int .u64 (v1 : Int)) (q' := { baseP 2 f t with conf := c, stamp := v1 }) (T' := { data := #[] }) (vd' := Vc.nil) (vg' := Vc.nil) (vx' := Vc.nil) rfl ⟨rfl, OwnVec.nil _ _, OwnVec.nil _ _, OwnXs.nil _ _⟩
    have T1 := T0.set 12 (.int .u32 (v2 : Int)) (q' := { baseP 2 f t with conf := c, stamp := v1, sent := v2 }) (T' := { data := #[] }) (vd' := Vc.nil) (vg' := Vc.nil) (vx' := Vc.nil) rfl ⟨rfl, OwnVec.nil _ _, OwnVec.nil _ _, OwnXs.nil _ _⟩
    have T2 := T1.set 13 (.slice va vn vc) (q' := { baseP 2 f t with conf := c, stamp := v1, sent := v2, got := v3 }) (T' := { data := #[] }) (vd' := Vc.nil) (vg' := ⟨va, vn, vc⟩) (vx' := Vc.nil) rfl ⟨rfl, OwnVec.nil _ _, ((V4).set (by omega) 11 _).set (by omega) 12 _, OwnXs.nil _ _⟩
    have SZ := T2.set 14 (.int .u64 (v4 : Int)) (q' := { baseP 2 f t with conf := c, stamp := v1, sent := v2, got := v3, hor := v4 }) (T' := { data := #[] }) (vd' := Vc.nil) (vg' := ⟨va, vn, vc⟩) (vx' := Vc.nil) rfl ⟨rfl, OwnVec.nil _ _, (((V4).set (by omega) 11 _).set (by omega) 12 _).set (by omega) 13 _, OwnXs.nil _ _⟩
    have HE : Hid (getFs (rowP (baseP 2 f t)) (baseP 2 f t) (restB s a) = .ok ({ baseP 2 f t with conf := c, stamp := v1, sent := v2, got := v3, hor := v4 }, restB s a5)) := Lib.hid (by rw [HR.out]; simp only [getFs, getF, andG_ok, G1.out, G2.out, G3.out, G4.out])
    go_upto_region 21 with fail
    go_wp2_with (first | (refine load_packet rfl (.tmp 5) rfl g rfl SZ.row ?_) | (refine store_packet rfl (.tmp 4) (.tmp 93) rfl (w.heap.size + 2) rfl rfl SZ.res ?_))
    (try simp only [Exit.inBlock, Exit.then])
    
    refine bodyPost_ret (results_packet rfl _ _ (w.heap.size + 2) rfl (SZ.res.row _)) rfl ?_
    exact SZ.done (by rw [HE.out])
end Go.Proofs.Ytibngfpjdookkaa

/- Reading a packet's body: kind 3. (Written by wip/gen_rdall.py.) -/
set_option linter.unusedVariables false
set_option linter.unusedSimpArgs false
namespace Go.Proofs.Ytibngfpjdookkaa
open Go.RowKit Go.Sort
set_option maxHeartbeats 4000000 in
set_option maxRecDepth 100000 in
theorem rpacket_3 (w : World) (b : Nat) (s : ByteArray) (a : Nat) (f t : Int) (y : ByteArray) (hs : s.size ≤ 1099511627776) (h : Rd w b s a) :
    Calls Try.prog 22 #[.agg #[.pointer (some ⟨b, 0, none⟩)], .agg #[.int .i64 3, .int .i64 f, .int .i64 t, .string y]] w (RP (getFs (rowP (baseP 3 f t)) (baseP 3 f t)) (PkD w) w b s a) := by
  have P0 := Pre.new h 3 f t y
  rw [zeroPv_is] at P0
  have NC : Hid (∀ (c : PC), (encP { baseP 3 f t with conf := c } { data := #[] } Vc.nil Vc.nil Vc.nil).toArray.size = 22) := Lib.hid fun _ => rfl
  go_enter Try.func22, Try.ntmps22
  go_upto_region 1 with fail
  go_cut [5] (fun s5 wx => Cut w b s a 3 f t s5 wx)
  case first =>
    refine wp_region_held_drew (S := Sees w b 3 f t) (by kernel_rfl) P0.sees (fun hHeld => ?_)
    generalize (((w.alloc (.cells #[.pointer (some ⟨b, 0, none⟩)] 62)).alloc (.cells #[.int .i64 3, .int .i64 f, .int .i64 t, .string y] 56)).alloc (.cells #[.int .i64 0, .int .i64 0, .int .i64 0, .int .u64 0, .int .i64 0, .int .i64 0, .int .u32 0, .int .u64 0, .int .i64 0, .slice none 0 0, .string { data := #[] }, .int .u64 0, .int .u32 0, .slice none 0 0, .int .u64 0, .int .i64 0, .int .u32 0, .int .u64 0, .int .u64 0, .int .i64 0, .int .u64 0, .slice none 0 0] 35)).drew = W0 at *
    refine wpAnyH_take (i := 0) (v := .pointer (some ⟨w.heap.size + 1, 0, none⟩)) rfl (by kernel_rfl) (by kernel_rfl) (by kernel_rfl) (fun _ _ _ h => h) (.inl ⟨by rfl, fun w' hS => by (obtain ⟨s0, s1, s2, s3⟩ := hS; go_simp)⟩) hHeld ?_
    (try simp only [Act.put, List.setIfInBounds_toArray, List.set_cons_zero, List.set_cons_succ])
    refine wpAnyH_take (i := 1) (v := .int .i64 3) rfl (by kernel_rfl) (by kernel_rfl) (by kernel_rfl) (fun _ _ _ h => h) (.inl ⟨by rfl, fun w' hS => by (obtain ⟨s0, s1, s2, s3⟩ := hS; go_simp)⟩) hHeld ?_
    (try simp only [Act.put, List.setIfInBounds_toArray, List.set_cons_zero, List.set_cons_succ])
    refine wpAnyH_take (i := 2) (v := .pointer (some ⟨w.heap.size + 1, 1, none⟩)) rfl (by kernel_rfl) (by kernel_rfl) (by kernel_rfl) (fun _ _ _ h => h) (.inl ⟨by rfl, fun w' hS => by (obtain ⟨s0, s1, s2, s3⟩ := hS; go_simp)⟩) hHeld ?_
    (try simp only [Act.put, List.setIfInBounds_toArray, List.set_cons_zero, List.set_cons_succ])
    refine wpAnyH_take (i := 3) (v := .int .i64 f) rfl (by kernel_rfl) (by kernel_rfl) (by kernel_rfl) (fun _ _ _ h => h) (.inl ⟨by rfl, fun w' hS => by (obtain ⟨s0, s1, s2, s3⟩ := hS; go_simp)⟩) hHeld ?_
    (try simp only [Act.put, List.setIfInBounds_toArray, List.set_cons_zero, List.set_cons_succ])
    refine wpAnyH_take (i := 4) (v := .pointer (some ⟨w.heap.size + 1, 2, none⟩)) rfl (by kernel_rfl) (by kernel_rfl) (by kernel_rfl) (fun _ _ _ h => h) (.inl ⟨by rfl, fun w' hS => by (obtain ⟨s0, s1, s2, s3⟩ := hS; go_simp)⟩) hHeld ?_
    (try simp only [Act.put, List.setIfInBounds_toArray, List.set_cons_zero, List.set_cons_succ])
    refine wpAnyH_take (i := 5) (v := .int .i64 t) rfl (by kernel_rfl) (by kernel_rfl) (by kernel_rfl) (fun _ _ _ h => h) (.inl ⟨by rfl, fun w' hS => by (obtain ⟨s0, s1, s2, s3⟩ := hS; go_simp)⟩) hHeld ?_
    (try simp only [Act.put, List.setIfInBounds_toArray, List.set_cons_zero, List.set_cons_succ])
    refine wpAnyH_take (i := 6) (v := .agg #[.pointer (some ⟨b, 0, none⟩)]) rfl (by kernel_rfl) (by kernel_rfl) (by kernel_rfl) (fun _ _ _ h => h) (.inl ⟨by rfl, fun w' hS => by (obtain ⟨s0, s1, s2, s3⟩ := hS; go_simp)⟩) hHeld ?_
    (try simp only [Act.put, List.setIfInBounds_toArray, List.set_cons_zero, List.set_cons_succ])
    refine wpAnyH_ready (rs := [7, 9]) (by kernel_rfl) (by simp) (AllReadyH.cons rfl (fun K hK => ?_) (AllReadyH.cons rfl (fun K hK => ?_) AllReadyH.nil))
    · clear hHeld
      rw [if_pos (by rfl)]
      go_simp
      refine (rconf _ b s a P0.rd).mono ?_
      rintro e w1 (⟨⟨ce, cr⟩, _, a1, hG, rfl, rfl, hr, hg⟩ | ⟨x, hG, rfl, hg⟩)
      rotate_left
      · exact ⟨rfl, .inr ⟨x, getFs_conf_err (by decide) (by decide) hG, rfl, grown_tr P0.gr hg⟩⟩
      have P1 := P0.go hr hg
      have HG := Lib.hid hG
      refine hK.out _ _ P1.sees (fun hHeld => ?_)
      clear hG hr hg hK K
      (try simp only [Act.put, List.setIfInBounds_toArray, List.set_cons_zero, List.set_cons_succ])
      refine wpAnyH_take (i := 8) (v := .agg (encP { baseP 3 f t with conf := ⟨ce, cr⟩ } { data := #[] } Vc.nil Vc.nil Vc.nil).toArray) rfl (by kernel_rfl) (by kernel_rfl) (by kernel_rfl) (fun _ _ _ h => h) (.inl ⟨by rfl, fun w' hS => by (go_simp; rfl)⟩) hHeld ?_
      (try simp only [Act.put, List.setIfInBounds_toArray, List.set_cons_zero, List.set_cons_succ])
      refine wpAnyH_ready (rs := [9]) (by kernel_rfl) (by simp) (AllReadyH.cons rfl (fun K hK => ?_) AllReadyH.nil)
      rw [if_pos (by rfl)]
      go_simp
      have ho : Own (w1.alloc (.cells zeroPv 35)) w1.heap.size 35 zeroPv := Own.new _ _ _
      have P2 := P1.alloc (.cells zeroPv 35)
      rw [zeroPv_is] at ho P2
      have hlt1 := P1.res.lt
      refine hK.out _ _ P2.sees (fun hHeld => ?_)
      clear hK K
      (try simp only [Act.put, List.setIfInBounds_toArray, List.set_cons_zero, List.set_cons_succ])
      refine wpAnyH_ready (rs := [10]) (by kernel_rfl) (by simp) (AllReadyH.cons rfl (fun K hK => ?_) AllReadyH.nil)
      rw [if_pos (by rfl)]
      refine wp_store_row 35 (.tmp 5) (.tmp 14) rfl w1.heap.size _ rfl rfl 35 _ ho packet_size rfl (encP_one _ _ _ _ _) ?_
      refine hK.out _ _ (P2.row (by have := P2.res.lt; omega) _).sees (fun hHeld => ?_)
      refine wpAnyH_done (by kernel_rfl) ?_ _
      clear hK hHeld
      go_wp2_with fail
      go_meet
      exact ⟨w1.heap.size, a1, ⟨ce, cr⟩, rfl, HG, P2.st (by have := hlt1; omega) ho⟩
    · clear hHeld
      rw [if_pos (by rfl)]
      go_simp
      have ho : Own (W0.alloc (.cells zeroPv 35)) W0.heap.size 35 zeroPv := Own.new _ _ _
      have P1 := P0.alloc (.cells zeroPv 35)
      rw [zeroPv_is] at ho P1
      have hlt1 := P0.res.lt
      have hlt0 := P0.lt
      refine hK.out _ _ P1.sees (fun hHeld => ?_)
      clear hK K
      (try simp only [Act.put, List.setIfInBounds_toArray, List.set_cons_zero, List.set_cons_succ])
      refine wpAnyH_ready (rs := [7]) (by kernel_rfl) (by simp) (AllReadyH.cons rfl (fun K hK => ?_) AllReadyH.nil)
      clear hHeld
      rw [if_pos (by rfl)]
      go_simp
      refine (rconf _ b s a P1.rd).mono ?_
      rintro e w1 (⟨⟨ce, cr⟩, _, a1, hG, rfl, rfl, hr, hg⟩ | ⟨x, hG, rfl, hg⟩)
      rotate_left
      · exact ⟨rfl, .inr ⟨x, getFs_conf_err (by decide) (by decide) hG, rfl, grown_tr P1.gr hg⟩⟩
      have P2 := P1.go hr hg
      have HG := Lib.hid hG
      refine hK.out _ _ P2.sees (fun hHeld => ?_)
      have ho2 := ho.grown hg (by intro e; cases e; omega)
      clear hG hr hg hK K
      (try simp only [Act.put, List.setIfInBounds_toArray, List.set_cons_zero, List.set_cons_succ])
      refine wpAnyH_take (i := 8) (v := .agg (encP { baseP 3 f t with conf := ⟨ce, cr⟩ } { data := #[] } Vc.nil Vc.nil Vc.nil).toArray) rfl (by kernel_rfl) (by kernel_rfl) (by kernel_rfl) (fun _ _ _ h => h) (.inl ⟨by rfl, fun w' hS => by (go_simp; rfl)⟩) hHeld ?_
      (try simp only [Act.put, List.setIfInBounds_toArray, List.set_cons_zero, List.set_cons_succ])
      refine wpAnyH_ready (rs := [10]) (by kernel_rfl) (by simp) (AllReadyH.cons rfl (fun K hK => ?_) AllReadyH.nil)
      rw [if_pos (by rfl)]
      refine wp_store_row 35 (.tmp 5) (.tmp 14) rfl W0.heap.size _ rfl rfl 35 _ ho2 packet_size rfl (encP_one _ _ _ _ _) ?_
      refine hK.out _ _ (P2.row (by have := P2.res.lt; omega) _).sees (fun hHeld => ?_)
      refine wpAnyH_done (by kernel_rfl) ?_ _
      clear hK hHeld
      go_wp2_with fail
      go_meet
      exact ⟨W0.heap.size, a1, ⟨ce, cr⟩, rfl, HG, P2.st (by have := hlt1; omega) ho2⟩
  case rest =>
    obtain ⟨g, a1, c, rfl, HC, S⟩ := hcut
    clear P0
    have hne : g ≠ w.heap.size := by have := S.ge; omega
    have hne2 : w.heap.size ≠ g := by omega
    have HS := Lib.hid hs
    have HL : Hid (b < w.heap.size) := Lib.hid h.lt
    have c0 : wc.cell? ⟨g, 0, none⟩ = some (.int .i64 3) := S.row.at_ 0 _ rfl
    have c1 : wc.cell? ⟨g, 1, none⟩ = some (.int .i64 f) := S.row.at_ 1 _ rfl
    have c15 : wc.cell? ⟨g, 15, none⟩ = some (.int .i64 0) := S.row.at_ 15 _ rfl
    have hbox := S.box
    clear h hs
    have HR : Hid (getFs (rowP (baseP 3 f t)) (baseP 3 f t) (restB s a) = getFs [.w, .q] { baseP 3 f t with conf := c } (restB s a1)) := Lib.hid (getFs_conf (fs := [.w, .q]) rfl HC.out)
    clear HC
    have S0 := S.drew
    clear c1 c15
    go_wp2_with fail
    go_region_held2 (fun w' => w'.cell? ⟨w.heap.size, 0, none⟩ = some (.pointer (some ⟨b, 0, none⟩))) (first | (with_reducible exact S1.box) | (with_reducible exact S2.box) | go_keep)
      (first
        | (go_at_call 48; (with_reducible refine (rprocess _ b s _ S0.rd).mono ?_); rintro e w1 (⟨v1, _, a2, hG, rfl, rfl, hr, hg⟩ | ⟨x, hG, rfl, hg⟩); rotate_left; exact ⟨rfl, .inr ⟨x, by (rw [HR.out]; simp only [getFs, getF, hG, andG_ok, andG_err]), rfl, grown_tr S0.gr hg⟩⟩; (have S1 := S0.go hr hg); (have G1 := Lib.hid hG); clear hG hr hg)
        | (go_at_call 46; (with_reducible refine (rfour _ b s _ S1.rd).mono ?_); rintro e w2 (⟨v2, _, a3, hG, rfl, rfl, hr, hg⟩ | ⟨x, hG, rfl, hg⟩); rotate_left; exact ⟨rfl, .inr ⟨x, by (rw [HR.out]; simp only [getFs, getF, hG, andG_ok, andG_err, G1.out]), rfl, grown_tr S1.gr hg⟩⟩; (have S2 := S1.go hr hg); (have G2 := Lib.hid hG); (have c15 : w2.cell? ⟨g, 15, none⟩ = some (.int .i64 0) := S2.row.at_ 15 _ rfl); (have f15 := S2.row.free 15); (have c16 : w2.cell? ⟨g, 16, none⟩ = some (.int .u32 0) := S2.row.at_ 16 _ rfl); (have f16 := S2.row.free 16); clear hG hr hg))
    have T0 := S2.set 15 (.int .i64 v1) (q' := { baseP 3 f t with conf := c, whom := v1 }) (T' := { data := #[] }) (vd' := Vc.nil) (vg' := Vc.nil) (vx' := Vc.nil) rfl ⟨rfl, OwnVec.nil _ _, OwnVec.nil _ _, OwnXs.nil _ _⟩
    have SZ := T0.set 16 (.int .u32 (v2 : Int)) (q' := { baseP 3 f t with conf := c, whom := v1, seq := v2 }) (T' := { data := #[] }) (vd' := Vc.nil) (vg' := Vc.nil) (vx' := Vc.nil) rfl ⟨rfl, OwnVec.nil _ _, OwnVec.nil _ _, OwnXs.nil _ _⟩
    have HE : Hid (getFs (rowP (baseP 3 f t)) (baseP 3 f t) (restB s a) = .ok ({ baseP 3 f t with conf := c, whom := v1, seq := v2 }, restB s a3)) := Lib.hid (by rw [HR.out]; simp only [getFs, getF, andG_ok, G1.out, G2.out])
    go_upto_region 21 with fail
    go_wp2_with (first | (refine load_packet rfl (.tmp 5) rfl g rfl SZ.row ?_) | (refine store_packet rfl (.tmp 4) (.tmp 93) rfl (w.heap.size + 2) rfl rfl SZ.res ?_))
    (try simp only [Exit.inBlock, Exit.then])
    
    refine bodyPost_ret (results_packet rfl _ _ (w.heap.size + 2) rfl (SZ.res.row _)) rfl ?_
    exact SZ.done (by rw [HE.out])
end Go.Proofs.Ytibngfpjdookkaa

/- Reading a packet's body: kind 4. (Written by wip/gen_rdall.py.) -/
set_option linter.unusedVariables false
set_option linter.unusedSimpArgs false
namespace Go.Proofs.Ytibngfpjdookkaa
open Go.RowKit Go.Sort
set_option maxHeartbeats 4000000 in
set_option maxRecDepth 100000 in
theorem rpacket_4 (w : World) (b : Nat) (s : ByteArray) (a : Nat) (f t : Int) (y : ByteArray) (hs : s.size ≤ 1099511627776) (h : Rd w b s a) :
    Calls Try.prog 22 #[.agg #[.pointer (some ⟨b, 0, none⟩)], .agg #[.int .i64 4, .int .i64 f, .int .i64 t, .string y]] w (RP (getFs (rowP (baseP 4 f t)) (baseP 4 f t)) (PkD w) w b s a) := by
  have P0 := Pre.new h 4 f t y
  rw [zeroPv_is] at P0
  have NC : Hid (∀ (c : PC), (encP { baseP 4 f t with conf := c } { data := #[] } Vc.nil Vc.nil Vc.nil).toArray.size = 22) := Lib.hid fun _ => rfl
  go_enter Try.func22, Try.ntmps22
  go_upto_region 1 with fail
  go_cut [5] (fun s5 wx => Cut w b s a 4 f t s5 wx)
  case first =>
    refine wp_region_held_drew (S := Sees w b 4 f t) (by kernel_rfl) P0.sees (fun hHeld => ?_)
    generalize (((w.alloc (.cells #[.pointer (some ⟨b, 0, none⟩)] 62)).alloc (.cells #[.int .i64 4, .int .i64 f, .int .i64 t, .string y] 56)).alloc (.cells #[.int .i64 0, .int .i64 0, .int .i64 0, .int .u64 0, .int .i64 0, .int .i64 0, .int .u32 0, .int .u64 0, .int .i64 0, .slice none 0 0, .string { data := #[] }, .int .u64 0, .int .u32 0, .slice none 0 0, .int .u64 0, .int .i64 0, .int .u32 0, .int .u64 0, .int .u64 0, .int .i64 0, .int .u64 0, .slice none 0 0] 35)).drew = W0 at *
    refine wpAnyH_take (i := 0) (v := .pointer (some ⟨w.heap.size + 1, 0, none⟩)) rfl (by kernel_rfl) (by kernel_rfl) (by kernel_rfl) (fun _ _ _ h => h) (.inl ⟨by rfl, fun w' hS => by (obtain ⟨s0, s1, s2, s3⟩ := hS; go_simp)⟩) hHeld ?_
    (try simp only [Act.put, List.setIfInBounds_toArray, List.set_cons_zero, List.set_cons_succ])
    refine wpAnyH_take (i := 1) (v := .int .i64 4) rfl (by kernel_rfl) (by kernel_rfl) (by kernel_rfl) (fun _ _ _ h => h) (.inl ⟨by rfl, fun w' hS => by (obtain ⟨s0, s1, s2, s3⟩ := hS; go_simp)⟩) hHeld ?_
    (try simp only [Act.put, List.setIfInBounds_toArray, List.set_cons_zero, List.set_cons_succ])
    refine wpAnyH_take (i := 2) (v := .pointer (some ⟨w.heap.size + 1, 1, none⟩)) rfl (by kernel_rfl) (by kernel_rfl) (by kernel_rfl) (fun _ _ _ h => h) (.inl ⟨by rfl, fun w' hS => by (obtain ⟨s0, s1, s2, s3⟩ := hS; go_simp)⟩) hHeld ?_
    (try simp only [Act.put, List.setIfInBounds_toArray, List.set_cons_zero, List.set_cons_succ])
    refine wpAnyH_take (i := 3) (v := .int .i64 f) rfl (by kernel_rfl) (by kernel_rfl) (by kernel_rfl) (fun _ _ _ h => h) (.inl ⟨by rfl, fun w' hS => by (obtain ⟨s0, s1, s2, s3⟩ := hS; go_simp)⟩) hHeld ?_
    (try simp only [Act.put, List.setIfInBounds_toArray, List.set_cons_zero, List.set_cons_succ])
    refine wpAnyH_take (i := 4) (v := .pointer (some ⟨w.heap.size + 1, 2, none⟩)) rfl (by kernel_rfl) (by kernel_rfl) (by kernel_rfl) (fun _ _ _ h => h) (.inl ⟨by rfl, fun w' hS => by (obtain ⟨s0, s1, s2, s3⟩ := hS; go_simp)⟩) hHeld ?_
    (try simp only [Act.put, List.setIfInBounds_toArray, List.set_cons_zero, List.set_cons_succ])
    refine wpAnyH_take (i := 5) (v := .int .i64 t) rfl (by kernel_rfl) (by kernel_rfl) (by kernel_rfl) (fun _ _ _ h => h) (.inl ⟨by rfl, fun w' hS => by (obtain ⟨s0, s1, s2, s3⟩ := hS; go_simp)⟩) hHeld ?_
    (try simp only [Act.put, List.setIfInBounds_toArray, List.set_cons_zero, List.set_cons_succ])
    refine wpAnyH_take (i := 6) (v := .agg #[.pointer (some ⟨b, 0, none⟩)]) rfl (by kernel_rfl) (by kernel_rfl) (by kernel_rfl) (fun _ _ _ h => h) (.inl ⟨by rfl, fun w' hS => by (obtain ⟨s0, s1, s2, s3⟩ := hS; go_simp)⟩) hHeld ?_
    (try simp only [Act.put, List.setIfInBounds_toArray, List.set_cons_zero, List.set_cons_succ])
    refine wpAnyH_ready (rs := [7, 9]) (by kernel_rfl) (by simp) (AllReadyH.cons rfl (fun K hK => ?_) (AllReadyH.cons rfl (fun K hK => ?_) AllReadyH.nil))
    · clear hHeld
      rw [if_pos (by rfl)]
      go_simp
      refine (rconf _ b s a P0.rd).mono ?_
      rintro e w1 (⟨⟨ce, cr⟩, _, a1, hG, rfl, rfl, hr, hg⟩ | ⟨x, hG, rfl, hg⟩)
      rotate_left
      · exact ⟨rfl, .inr ⟨x, getFs_conf_err (by decide) (by decide) hG, rfl, grown_tr P0.gr hg⟩⟩
      have P1 := P0.go hr hg
      have HG := Lib.hid hG
      refine hK.out _ _ P1.sees (fun hHeld => ?_)
      clear hG hr hg hK K
      (try simp only [Act.put, List.setIfInBounds_toArray, List.set_cons_zero, List.set_cons_succ])
      refine wpAnyH_take (i := 8) (v := .agg (encP { baseP 4 f t with conf := ⟨ce, cr⟩ } { data := #[] } Vc.nil Vc.nil Vc.nil).toArray) rfl (by kernel_rfl) (by kernel_rfl) (by kernel_rfl) (fun _ _ _ h => h) (.inl ⟨by rfl, fun w' hS => by (go_simp; rfl)⟩) hHeld ?_
      (try simp only [Act.put, List.setIfInBounds_toArray, List.set_cons_zero, List.set_cons_succ])
      refine wpAnyH_ready (rs := [9]) (by kernel_rfl) (by simp) (AllReadyH.cons rfl (fun K hK => ?_) AllReadyH.nil)
      rw [if_pos (by rfl)]
      go_simp
      have ho : Own (w1.alloc (.cells zeroPv 35)) w1.heap.size 35 zeroPv := Own.new _ _ _
      have P2 := P1.alloc (.cells zeroPv 35)
      rw [zeroPv_is] at ho P2
      have hlt1 := P1.res.lt
      refine hK.out _ _ P2.sees (fun hHeld => ?_)
      clear hK K
      (try simp only [Act.put, List.setIfInBounds_toArray, List.set_cons_zero, List.set_cons_succ])
      refine wpAnyH_ready (rs := [10]) (by kernel_rfl) (by simp) (AllReadyH.cons rfl (fun K hK => ?_) AllReadyH.nil)
      rw [if_pos (by rfl)]
      refine wp_store_row 35 (.tmp 5) (.tmp 14) rfl w1.heap.size _ rfl rfl 35 _ ho packet_size rfl (encP_one _ _ _ _ _) ?_
      refine hK.out _ _ (P2.row (by have := P2.res.lt; omega) _).sees (fun hHeld => ?_)
      refine wpAnyH_done (by kernel_rfl) ?_ _
      clear hK hHeld
      go_wp2_with fail
      go_meet
      exact ⟨w1.heap.size, a1, ⟨ce, cr⟩, rfl, HG, P2.st (by have := hlt1; omega) ho⟩
    · clear hHeld
      rw [if_pos (by rfl)]
      go_simp
      have ho : Own (W0.alloc (.cells zeroPv 35)) W0.heap.size 35 zeroPv := Own.new _ _ _
      have P1 := P0.alloc (.cells zeroPv 35)
      rw [zeroPv_is] at ho P1
      have hlt1 := P0.res.lt
      have hlt0 := P0.lt
      refine hK.out _ _ P1.sees (fun hHeld => ?_)
      clear hK K
      (try simp only [Act.put, List.setIfInBounds_toArray, List.set_cons_zero, List.set_cons_succ])
      refine wpAnyH_ready (rs := [7]) (by kernel_rfl) (by simp) (AllReadyH.cons rfl (fun K hK => ?_) AllReadyH.nil)
      clear hHeld
      rw [if_pos (by rfl)]
      go_simp
      refine (rconf _ b s a P1.rd).mono ?_
      rintro e w1 (⟨⟨ce, cr⟩, _, a1, hG, rfl, rfl, hr, hg⟩ | ⟨x, hG, rfl, hg⟩)
      rotate_left
      · exact ⟨rfl, .inr ⟨x, getFs_conf_err (by decide) (by decide) hG, rfl, grown_tr P1.gr hg⟩⟩
      have P2 := P1.go hr hg
      have HG := Lib.hid hG
      refine hK.out _ _ P2.sees (fun hHeld => ?_)
      have ho2 := ho.grown hg (by intro e; cases e; omega)
      clear hG hr hg hK K
      (try simp only [Act.put, List.setIfInBounds_toArray, List.set_cons_zero, List.set_cons_succ])
      refine wpAnyH_take (i := 8) (v := .agg (encP { baseP 4 f t with conf := ⟨ce, cr⟩ } { data := #[] } Vc.nil Vc.nil Vc.nil).toArray) rfl (by kernel_rfl) (by kernel_rfl) (by kernel_rfl) (fun _ _ _ h => h) (.inl ⟨by rfl, fun w' hS => by (go_simp; rfl)⟩) hHeld ?_
      (try simp only [Act.put, List.setIfInBounds_toArray, List.set_cons_zero, List.set_cons_succ])
      refine wpAnyH_ready (rs := [10]) (by kernel_rfl) (by simp) (AllReadyH.cons rfl (fun K hK => ?_) AllReadyH.nil)
      rw [if_pos (by rfl)]
      refine wp_store_row 35 (.tmp 5) (.tmp 14) rfl W0.heap.size _ rfl rfl 35 _ ho2 packet_size rfl (encP_one _ _ _ _ _) ?_
      refine hK.out _ _ (P2.row (by have := P2.res.lt; omega) _).sees (fun hHeld => ?_)
      refine wpAnyH_done (by kernel_rfl) ?_ _
      clear hK hHeld
      go_wp2_with fail
      go_meet
      exact ⟨W0.heap.size, a1, ⟨ce, cr⟩, rfl, HG, P2.st (by have := hlt1; omega) ho2⟩
  case rest =>
    obtain ⟨g, a1, c, rfl, HC, S⟩ := hcut
    clear P0
    have hne : g ≠ w.heap.size := by have := S.ge; omega
    have hne2 : w.heap.size ≠ g := by omega
    have HS := Lib.hid hs
    have HL : Hid (b < w.heap.size) := Lib.hid h.lt
    have c0 : wc.cell? ⟨g, 0, none⟩ = some (.int .i64 4) := S.row.at_ 0 _ rfl
    have c1 : wc.cell? ⟨g, 1, none⟩ = some (.int .i64 f) := S.row.at_ 1 _ rfl
    have c15 : wc.cell? ⟨g, 15, none⟩ = some (.int .i64 0) := S.row.at_ 15 _ rfl
    have hbox := S.box
    clear h hs
    have HR : Hid (getFs (rowP (baseP 4 f t)) (baseP 4 f t) (restB s a) = getFs [.p, .e, .b] { baseP 4 f t with conf := c } (restB s a1)) := Lib.hid (getFs_conf (fs := [.p, .e, .b]) rfl HC.out)
    clear HC
    have S0 := S.drew
    clear c1 c15
    go_wp2_with fail
    go_region_held2 (fun w' => w'.cell? ⟨w.heap.size, 0, none⟩ = some (.pointer (some ⟨b, 0, none⟩))) (first | (with_reducible exact S1.box) | (with_reducible exact S2.box) | (with_reducible exact S3.box) | go_keep)
      (first
        | (go_at_call 43; (with_reducible refine (rconf _ b s _ S0.rd).mono ?_); rintro e w1 (⟨⟨v1, v1r⟩, _, a2, hG, rfl, rfl, hr, hg⟩ | ⟨x, hG, rfl, hg⟩); rotate_left; exact ⟨rfl, .inr ⟨x, by (rw [HR.out]; simp only [getFs, getF, hG, andG_ok, andG_err]), rfl, grown_tr S0.gr hg⟩⟩; (have S1 := S0.go hr hg); (have G1 := Lib.hid hG); clear hG hr hg)
        | (go_at_call 45; (with_reducible refine (rnum _ b s _ 8 8 (by decide) S1.rd).mono ?_); rintro e w2 (⟨v2, _, a3, hG, rfl, rfl, hr, hg⟩ | ⟨x, hG, rfl, hg⟩); rotate_left; exact ⟨rfl, .inr ⟨x, by (rw [HR.out]; simp only [getFs, getF, hG, andG_ok, andG_err, G1.out]), rfl, grown_tr S1.gr hg⟩⟩; (have S2 := S1.go hr hg); (have G2 := Lib.hid hG); clear hG hr hg)
        | (go_at_call 45; (with_reducible refine (rnum _ b s _ 8 8 (by decide) S2.rd).mono ?_); rintro e w3 (⟨v3, _, a4, hG, rfl, rfl, hr, hg⟩ | ⟨x, hG, rfl, hg⟩); rotate_left; exact ⟨rfl, .inr ⟨x, by (rw [HR.out]; simp only [getFs, getF, hG, andG_ok, andG_err, G1.out, G2.out]), rfl, grown_tr S2.gr hg⟩⟩; (have S3 := S2.go hr hg); (have G3 := Lib.hid hG); (have c18 : w3.cell? ⟨g, 18, none⟩ = some (.int .u64 0) := S3.row.at_ 18 _ rfl); (have f18 := S3.row.free 18); (have c19 : w3.cell? ⟨g, 19, none⟩ = some (.int .i64 0) := S3.row.at_ 19 _ rfl); (have f19 := S3.row.free 19); (have c20 : w3.cell? ⟨g, 20, none⟩ = some (.int .u64 0) := S3.row.at_ 20 _ rfl); (have f20 := S3.row.free 20); (have c17 : w3.cell? ⟨g, 17, none⟩ = some (.int .u64 0) := S3.row.at_ 17 _ rfl); (have f17 := S3.row.free 17); clear hG hr hg))
    have T0 := S3.set 18 (.int .u64 (v1 : Int)) (q' := { baseP 4 f t with conf := c, prom := ⟨v1, 0⟩ }) (T' := { data := #[] }) (vd' := Vc.nil) (vg' := Vc.nil) (vx' := Vc.nil) rfl ⟨rfl, OwnVec.nil _ _, OwnVec.nil _ _, OwnXs.nil _ _⟩
    have T1 := T0.set 19 (.int .i64 v1r) (q' := { baseP 4 f t with conf := c, prom := ⟨v1, v1r⟩ }) (T' := { data := #[] }) (vd' := Vc.nil) (vg' := Vc.nil) (vx' := Vc.nil) rfl ⟨rfl, OwnVec.nil _ _, OwnVec.nil _ _, OwnXs.nil _ _⟩
    have T2 := T1.set 20 (.int .u64 (v2 : Int)) (q' := { baseP 4 f t with conf := c, prom := ⟨v1, v1r⟩, epoch := v2 }) (T' := { data := #[] }) (vd' := Vc.nil) (vg' := Vc.nil) (vx' := Vc.nil) rfl ⟨rfl, OwnVec.nil _ _, OwnVec.nil _ _, OwnXs.nil _ _⟩
    have SZ := T2.set 17 (.int .u64 (v3 : Int)) (q' := { baseP 4 f t with conf := c, prom := ⟨v1, v1r⟩, epoch := v2, mem := v3 }) (T' := { data := #[] }) (vd' := Vc.nil) (vg' := Vc.nil) (vx' := Vc.nil) rfl ⟨rfl, OwnVec.nil _ _, OwnVec.nil _ _, OwnXs.nil _ _⟩
    have HE : Hid (getFs (rowP (baseP 4 f t)) (baseP 4 f t) (restB s a) = .ok ({ baseP 4 f t with conf := c, prom := ⟨v1, v1r⟩, epoch := v2, mem := v3 }, restB s a4)) := Lib.hid (by rw [HR.out]; simp only [getFs, getF, andG_ok, G1.out, G2.out, G3.out])
    go_upto_region 21 with fail
    go_wp2_with (first | (refine load_packet rfl (.tmp 5) rfl g rfl SZ.row ?_) | (refine store_packet rfl (.tmp 4) (.tmp 93) rfl (w.heap.size + 2) rfl rfl SZ.res ?_))
    (try simp only [Exit.inBlock, Exit.then])
    
    refine bodyPost_ret (results_packet rfl _ _ (w.heap.size + 2) rfl (SZ.res.row _)) rfl ?_
    exact SZ.done (by rw [HE.out])
end Go.Proofs.Ytibngfpjdookkaa

/- Reading a packet's body: kind 5. (Written by wip/gen_rdall.py.) -/
set_option linter.unusedVariables false
set_option linter.unusedSimpArgs false
namespace Go.Proofs.Ytibngfpjdookkaa
open Go.RowKit Go.Sort
set_option maxHeartbeats 4000000 in
set_option maxRecDepth 100000 in
theorem rpacket_5 (w : World) (b : Nat) (s : ByteArray) (a : Nat) (f t : Int) (y : ByteArray) (hs : s.size ≤ 1099511627776) (h : Rd w b s a) :
    Calls Try.prog 22 #[.agg #[.pointer (some ⟨b, 0, none⟩)], .agg #[.int .i64 5, .int .i64 f, .int .i64 t, .string y]] w (RP (getFs (rowP (baseP 5 f t)) (baseP 5 f t)) (PkD w) w b s a) := by
  have P0 := Pre.new h 5 f t y
  rw [zeroPv_is] at P0
  have NC : Hid (∀ (c : PC), (encP { baseP 5 f t with conf := c } { data := #[] } Vc.nil Vc.nil Vc.nil).toArray.size = 22) := Lib.hid fun _ => rfl
  go_enter Try.func22, Try.ntmps22
  go_upto_region 1 with fail
  go_cut [5] (fun s5 wx => Cut w b s a 5 f t s5 wx)
  case first =>
    refine wp_region_held_drew (S := Sees w b 5 f t) (by kernel_rfl) P0.sees (fun hHeld => ?_)
    generalize (((w.alloc (.cells #[.pointer (some ⟨b, 0, none⟩)] 62)).alloc (.cells #[.int .i64 5, .int .i64 f, .int .i64 t, .string y] 56)).alloc (.cells #[.int .i64 0, .int .i64 0, .int .i64 0, .int .u64 0, .int .i64 0, .int .i64 0, .int .u32 0, .int .u64 0, .int .i64 0, .slice none 0 0, .string { data := #[] }, .int .u64 0, .int .u32 0, .slice none 0 0, .int .u64 0, .int .i64 0, .int .u32 0, .int .u64 0, .int .u64 0, .int .i64 0, .int .u64 0, .slice none 0 0] 35)).drew = W0 at *
    refine wpAnyH_take (i := 0) (v := .pointer (some ⟨w.heap.size + 1, 0, none⟩)) rfl (by kernel_rfl) (by kernel_rfl) (by kernel_rfl) (fun _ _ _ h => h) (.inl ⟨by rfl, fun w' hS => by (obtain ⟨s0, s1, s2, s3⟩ := hS; go_simp)⟩) hHeld ?_
    (try simp only [Act.put, List.setIfInBounds_toArray, List.set_cons_zero, List.set_cons_succ])
    refine wpAnyH_take (i := 1) (v := .int .i64 5) rfl (by kernel_rfl) (by kernel_rfl) (by kernel_rfl) (fun _ _ _ h => h) (.inl ⟨by rfl, fun w' hS => by (obtain ⟨s0, s1, s2, s3⟩ := hS; go_simp)⟩) hHeld ?_
    (try simp only [Act.put, List.setIfInBounds_toArray, List.set_cons_zero, List.set_cons_succ])
    refine wpAnyH_take (i := 2) (v := .pointer (some ⟨w.heap.size + 1, 1, none⟩)) rfl (by kernel_rfl) (by kernel_rfl) (by kernel_rfl) (fun _ _ _ h => h) (.inl ⟨by rfl, fun w' hS => by (obtain ⟨s0, s1, s2, s3⟩ := hS; go_simp)⟩) hHeld ?_
    (try simp only [Act.put, List.setIfInBounds_toArray, List.set_cons_zero, List.set_cons_succ])
    refine wpAnyH_take (i := 3) (v := .int .i64 f) rfl (by kernel_rfl) (by kernel_rfl) (by kernel_rfl) (fun _ _ _ h => h) (.inl ⟨by rfl, fun w' hS => by (obtain ⟨s0, s1, s2, s3⟩ := hS; go_simp)⟩) hHeld ?_
    (try simp only [Act.put, List.setIfInBounds_toArray, List.set_cons_zero, List.set_cons_succ])
    refine wpAnyH_take (i := 4) (v := .pointer (some ⟨w.heap.size + 1, 2, none⟩)) rfl (by kernel_rfl) (by kernel_rfl) (by kernel_rfl) (fun _ _ _ h => h) (.inl ⟨by rfl, fun w' hS => by (obtain ⟨s0, s1, s2, s3⟩ := hS; go_simp)⟩) hHeld ?_
    (try simp only [Act.put, List.setIfInBounds_toArray, List.set_cons_zero, List.set_cons_succ])
    refine wpAnyH_take (i := 5) (v := .int .i64 t) rfl (by kernel_rfl) (by kernel_rfl) (by kernel_rfl) (fun _ _ _ h => h) (.inl ⟨by rfl, fun w' hS => by (obtain ⟨s0, s1, s2, s3⟩ := hS; go_simp)⟩) hHeld ?_
    (try simp only [Act.put, List.setIfInBounds_toArray, List.set_cons_zero, List.set_cons_succ])
    refine wpAnyH_take (i := 6) (v := .agg #[.pointer (some ⟨b, 0, none⟩)]) rfl (by kernel_rfl) (by kernel_rfl) (by kernel_rfl) (fun _ _ _ h => h) (.inl ⟨by rfl, fun w' hS => by (obtain ⟨s0, s1, s2, s3⟩ := hS; go_simp)⟩) hHeld ?_
    (try simp only [Act.put, List.setIfInBounds_toArray, List.set_cons_zero, List.set_cons_succ])
    refine wpAnyH_ready (rs := [7, 9]) (by kernel_rfl) (by simp) (AllReadyH.cons rfl (fun K hK => ?_) (AllReadyH.cons rfl (fun K hK => ?_) AllReadyH.nil))
    · clear hHeld
      rw [if_pos (by rfl)]
      go_simp
      refine (rconf _ b s a P0.rd).mono ?_
      rintro e w1 (⟨⟨ce, cr⟩, _, a1, hG, rfl, rfl, hr, hg⟩ | ⟨x, hG, rfl, hg⟩)
      rotate_left
      · exact ⟨rfl, .inr ⟨x, getFs_conf_err (by decide) (by decide) hG, rfl, grown_tr P0.gr hg⟩⟩
      have P1 := P0.go hr hg
      have HG := Lib.hid hG
      refine hK.out _ _ P1.sees (fun hHeld => ?_)
      clear hG hr hg hK K
      (try simp only [Act.put, List.setIfInBounds_toArray, List.set_cons_zero, List.set_cons_succ])
      refine wpAnyH_take (i := 8) (v := .agg (encP { baseP 5 f t with conf := ⟨ce, cr⟩ } { data := #[] } Vc.nil Vc.nil Vc.nil).toArray) rfl (by kernel_rfl) (by kernel_rfl) (by kernel_rfl) (fun _ _ _ h => h) (.inl ⟨by rfl, fun w' hS => by (go_simp; rfl)⟩) hHeld ?_
      (try simp only [Act.put, List.setIfInBounds_toArray, List.set_cons_zero, List.set_cons_succ])
      refine wpAnyH_ready (rs := [9]) (by kernel_rfl) (by simp) (AllReadyH.cons rfl (fun K hK => ?_) AllReadyH.nil)
      rw [if_pos (by rfl)]
      go_simp
      have ho : Own (w1.alloc (.cells zeroPv 35)) w1.heap.size 35 zeroPv := Own.new _ _ _
      have P2 := P1.alloc (.cells zeroPv 35)
      rw [zeroPv_is] at ho P2
      have hlt1 := P1.res.lt
      refine hK.out _ _ P2.sees (fun hHeld => ?_)
      clear hK K
      (try simp only [Act.put, List.setIfInBounds_toArray, List.set_cons_zero, List.set_cons_succ])
      refine wpAnyH_ready (rs := [10]) (by kernel_rfl) (by simp) (AllReadyH.cons rfl (fun K hK => ?_) AllReadyH.nil)
      rw [if_pos (by rfl)]
      refine wp_store_row 35 (.tmp 5) (.tmp 14) rfl w1.heap.size _ rfl rfl 35 _ ho packet_size rfl (encP_one _ _ _ _ _) ?_
      refine hK.out _ _ (P2.row (by have := P2.res.lt; omega) _).sees (fun hHeld => ?_)
      refine wpAnyH_done (by kernel_rfl) ?_ _
      clear hK hHeld
      go_wp2_with fail
      go_meet
      exact ⟨w1.heap.size, a1, ⟨ce, cr⟩, rfl, HG, P2.st (by have := hlt1; omega) ho⟩
    · clear hHeld
      rw [if_pos (by rfl)]
      go_simp
      have ho : Own (W0.alloc (.cells zeroPv 35)) W0.heap.size 35 zeroPv := Own.new _ _ _
      have P1 := P0.alloc (.cells zeroPv 35)
      rw [zeroPv_is] at ho P1
      have hlt1 := P0.res.lt
      have hlt0 := P0.lt
      refine hK.out _ _ P1.sees (fun hHeld => ?_)
      clear hK K
      (try simp only [Act.put, List.setIfInBounds_toArray, List.set_cons_zero, List.set_cons_succ])
      refine wpAnyH_ready (rs := [7]) (by kernel_rfl) (by simp) (AllReadyH.cons rfl (fun K hK => ?_) AllReadyH.nil)
      clear hHeld
      rw [if_pos (by rfl)]
      go_simp
      refine (rconf _ b s a P1.rd).mono ?_
      rintro e w1 (⟨⟨ce, cr⟩, _, a1, hG, rfl, rfl, hr, hg⟩ | ⟨x, hG, rfl, hg⟩)
      rotate_left
      · exact ⟨rfl, .inr ⟨x, getFs_conf_err (by decide) (by decide) hG, rfl, grown_tr P1.gr hg⟩⟩
      have P2 := P1.go hr hg
      have HG := Lib.hid hG
      refine hK.out _ _ P2.sees (fun hHeld => ?_)
      have ho2 := ho.grown hg (by intro e; cases e; omega)
      clear hG hr hg hK K
      (try simp only [Act.put, List.setIfInBounds_toArray, List.set_cons_zero, List.set_cons_succ])
      refine wpAnyH_take (i := 8) (v := .agg (encP { baseP 5 f t with conf := ⟨ce, cr⟩ } { data := #[] } Vc.nil Vc.nil Vc.nil).toArray) rfl (by kernel_rfl) (by kernel_rfl) (by kernel_rfl) (fun _ _ _ h => h) (.inl ⟨by rfl, fun w' hS => by (go_simp; rfl)⟩) hHeld ?_
      (try simp only [Act.put, List.setIfInBounds_toArray, List.set_cons_zero, List.set_cons_succ])
      refine wpAnyH_ready (rs := [10]) (by kernel_rfl) (by simp) (AllReadyH.cons rfl (fun K hK => ?_) AllReadyH.nil)
      rw [if_pos (by rfl)]
      refine wp_store_row 35 (.tmp 5) (.tmp 14) rfl W0.heap.size _ rfl rfl 35 _ ho2 packet_size rfl (encP_one _ _ _ _ _) ?_
      refine hK.out _ _ (P2.row (by have := P2.res.lt; omega) _).sees (fun hHeld => ?_)
      refine wpAnyH_done (by kernel_rfl) ?_ _
      clear hK hHeld
      go_wp2_with fail
      go_meet
      exact ⟨W0.heap.size, a1, ⟨ce, cr⟩, rfl, HG, P2.st (by have := hlt1; omega) ho2⟩
  case rest =>
    obtain ⟨g, a1, c, rfl, HC, S⟩ := hcut
    clear P0
    have hne : g ≠ w.heap.size := by have := S.ge; omega
    have hne2 : w.heap.size ≠ g := by omega
    have HS := Lib.hid hs
    have HL : Hid (b < w.heap.size) := Lib.hid h.lt
    have c0 : wc.cell? ⟨g, 0, none⟩ = some (.int .i64 5) := S.row.at_ 0 _ rfl
    have c1 : wc.cell? ⟨g, 1, none⟩ = some (.int .i64 f) := S.row.at_ 1 _ rfl
    have c15 : wc.cell? ⟨g, 15, none⟩ = some (.int .i64 0) := S.row.at_ 15 _ rfl
    have hbox := S.box
    clear h hs
    have HR : Hid (getFs (rowP (baseP 5 f t)) (baseP 5 f t) (restB s a) = getFs [.b] { baseP 5 f t with conf := c } (restB s a1)) := Lib.hid (getFs_conf (fs := [.b]) rfl HC.out)
    clear HC
    clear c1 c15
    go_wp2_with fail
    refine (rnum _ b s a1 8 8 (by decide) S.rd).mono ?_
    rintro e w1 (⟨v, _, a2, hG, rfl, rfl, hr, hg⟩ | ⟨x, hG, rfl, hg⟩)
    case inr => exact ⟨rfl, .inr ⟨x, by (rw [HR.out]; simp only [getFs, getF, hG, andG_ok, andG_err]), rfl, grown_tr S.gr hg⟩⟩
    have G1 := Lib.hid hG
    have HE : Hid (getFs (rowP (baseP 5 f t)) (baseP 5 f t) (restB s a) = .ok ({ baseP 5 f t with conf := c, mem := v }, restB s a2)) := Lib.hid (by rw [HR.out]; simp only [getFs, getF, andG_ok, G1.out])
    have S1 := S.go hr hg
    have SZ := S1.set 17 (.int .u64 (v : Int)) (q' := { baseP 5 f t with conf := c, mem := v }) (T' := { data := #[] }) (vd' := Vc.nil) (vg' := Vc.nil) (vx' := Vc.nil) rfl ⟨rfl, OwnVec.nil _ _, OwnVec.nil _ _, OwnXs.nil _ _⟩
    have c17 : w1.cell? ⟨g, 17, none⟩ = some (.int .u64 0) := S1.row.at_ 17 _ rfl
    have f17 := S1.row.free 17
    clear hG hr hg S hbox c0 HR
    go_upto_region 21 with fail
    go_wp2_with (first | (refine load_packet rfl (.tmp 5) rfl g rfl SZ.row ?_) | (refine store_packet rfl (.tmp 4) (.tmp 93) rfl (w.heap.size + 2) rfl rfl SZ.res ?_))
    (try simp only [Exit.inBlock, Exit.then])
    
    refine bodyPost_ret (results_packet rfl _ _ (w.heap.size + 2) rfl (SZ.res.row _)) rfl ?_
    exact SZ.done (by rw [HE.out])
end Go.Proofs.Ytibngfpjdookkaa

/- Reading a packet's body: kind 6. (Written by wip/gen_rdall.py.) -/
set_option linter.unusedVariables false
set_option linter.unusedSimpArgs false
namespace Go.Proofs.Ytibngfpjdookkaa
open Go.RowKit Go.Sort
set_option maxHeartbeats 4000000 in
set_option maxRecDepth 100000 in
theorem rpacket_6 (w : World) (b : Nat) (s : ByteArray) (a : Nat) (f t : Int) (y : ByteArray) (hs : s.size ≤ 1099511627776) (h : Rd w b s a) :
    Calls Try.prog 22 #[.agg #[.pointer (some ⟨b, 0, none⟩)], .agg #[.int .i64 6, .int .i64 f, .int .i64 t, .string y]] w (RP (getFs (rowP (baseP 6 f t)) (baseP 6 f t)) (PkD w) w b s a) := by
  have P0 := Pre.new h 6 f t y
  rw [zeroPv_is] at P0
  have NC : Hid (∀ (c : PC), (encP { baseP 6 f t with conf := c } { data := #[] } Vc.nil Vc.nil Vc.nil).toArray.size = 22) := Lib.hid fun _ => rfl
  go_enter Try.func22, Try.ntmps22
  go_upto_region 1 with fail
  go_cut [5] (fun s5 wx => Cut w b s a 6 f t s5 wx)
  case first =>
    refine wp_region_held_drew (S := Sees w b 6 f t) (by kernel_rfl) P0.sees (fun hHeld => ?_)
    generalize (((w.alloc (.cells #[.pointer (some ⟨b, 0, none⟩)] 62)).alloc (.cells #[.int .i64 6, .int .i64 f, .int .i64 t, .string y] 56)).alloc (.cells #[.int .i64 0, .int .i64 0, .int .i64 0, .int .u64 0, .int .i64 0, .int .i64 0, .int .u32 0, .int .u64 0, .int .i64 0, .slice none 0 0, .string { data := #[] }, .int .u64 0, .int .u32 0, .slice none 0 0, .int .u64 0, .int .i64 0, .int .u32 0, .int .u64 0, .int .u64 0, .int .i64 0, .int .u64 0, .slice none 0 0] 35)).drew = W0 at *
    refine wpAnyH_take (i := 0) (v := .pointer (some ⟨w.heap.size + 1, 0, none⟩)) rfl (by kernel_rfl) (by kernel_rfl) (by kernel_rfl) (fun _ _ _ h => h) (.inl ⟨by rfl, fun w' hS => by (obtain ⟨s0, s1, s2, s3⟩ := hS; go_simp)⟩) hHeld ?_
    (try simp only [Act.put, List.setIfInBounds_toArray, List.set_cons_zero, List.set_cons_succ])
    refine wpAnyH_take (i := 1) (v := .int .i64 6) rfl (by kernel_rfl) (by kernel_rfl) (by kernel_rfl) (fun _ _ _ h => h) (.inl ⟨by rfl, fun w' hS => by (obtain ⟨s0, s1, s2, s3⟩ := hS; go_simp)⟩) hHeld ?_
    (try simp only [Act.put, List.setIfInBounds_toArray, List.set_cons_zero, List.set_cons_succ])
    refine wpAnyH_take (i := 2) (v := .pointer (some ⟨w.heap.size + 1, 1, none⟩)) rfl (by kernel_rfl) (by kernel_rfl) (by kernel_rfl) (fun _ _ _ h => h) (.inl ⟨by rfl, fun w' hS => by (obtain ⟨s0, s1, s2, s3⟩ := hS; go_simp)⟩) hHeld ?_
    (try simp only [Act.put, List.setIfInBounds_toArray, List.set_cons_zero, List.set_cons_succ])
    refine wpAnyH_take (i := 3) (v := .int .i64 f) rfl (by kernel_rfl) (by kernel_rfl) (by kernel_rfl) (fun _ _ _ h => h) (.inl ⟨by rfl, fun w' hS => by (obtain ⟨s0, s1, s2, s3⟩ := hS; go_simp)⟩) hHeld ?_
    (try simp only [Act.put, List.setIfInBounds_toArray, List.set_cons_zero, List.set_cons_succ])
    refine wpAnyH_take (i := 4) (v := .pointer (some ⟨w.heap.size + 1, 2, none⟩)) rfl (by kernel_rfl) (by kernel_rfl) (by kernel_rfl) (fun _ _ _ h => h) (.inl ⟨by rfl, fun w' hS => by (obtain ⟨s0, s1, s2, s3⟩ := hS; go_simp)⟩) hHeld ?_
    (try simp only [Act.put, List.setIfInBounds_toArray, List.set_cons_zero, List.set_cons_succ])
    refine wpAnyH_take (i := 5) (v := .int .i64 t) rfl (by kernel_rfl) (by kernel_rfl) (by kernel_rfl) (fun _ _ _ h => h) (.inl ⟨by rfl, fun w' hS => by (obtain ⟨s0, s1, s2, s3⟩ := hS; go_simp)⟩) hHeld ?_
    (try simp only [Act.put, List.setIfInBounds_toArray, List.set_cons_zero, List.set_cons_succ])
    refine wpAnyH_take (i := 6) (v := .agg #[.pointer (some ⟨b, 0, none⟩)]) rfl (by kernel_rfl) (by kernel_rfl) (by kernel_rfl) (fun _ _ _ h => h) (.inl ⟨by rfl, fun w' hS => by (obtain ⟨s0, s1, s2, s3⟩ := hS; go_simp)⟩) hHeld ?_
    (try simp only [Act.put, List.setIfInBounds_toArray, List.set_cons_zero, List.set_cons_succ])
    refine wpAnyH_ready (rs := [7, 9]) (by kernel_rfl) (by simp) (AllReadyH.cons rfl (fun K hK => ?_) (AllReadyH.cons rfl (fun K hK => ?_) AllReadyH.nil))
    · clear hHeld
      rw [if_pos (by rfl)]
      go_simp
      refine (rconf _ b s a P0.rd).mono ?_
      rintro e w1 (⟨⟨ce, cr⟩, _, a1, hG, rfl, rfl, hr, hg⟩ | ⟨x, hG, rfl, hg⟩)
      rotate_left
      · exact ⟨rfl, .inr ⟨x, getFs_conf_err (by decide) (by decide) hG, rfl, grown_tr P0.gr hg⟩⟩
      have P1 := P0.go hr hg
      have HG := Lib.hid hG
      refine hK.out _ _ P1.sees (fun hHeld => ?_)
      clear hG hr hg hK K
      (try simp only [Act.put, List.setIfInBounds_toArray, List.set_cons_zero, List.set_cons_succ])
      refine wpAnyH_take (i := 8) (v := .agg (encP { baseP 6 f t with conf := ⟨ce, cr⟩ } { data := #[] } Vc.nil Vc.nil Vc.nil).toArray) rfl (by kernel_rfl) (by kernel_rfl) (by kernel_rfl) (fun _ _ _ h => h) (.inl ⟨by rfl, fun w' hS => by (go_simp; rfl)⟩) hHeld ?_
      (try simp only [Act.put, List.setIfInBounds_toArray, List.set_cons_zero, List.set_cons_succ])
      refine wpAnyH_ready (rs := [9]) (by kernel_rfl) (by simp) (AllReadyH.cons rfl (fun K hK => ?_) AllReadyH.nil)
      rw [if_pos (by rfl)]
      go_simp
      have ho : Own (w1.alloc (.cells zeroPv 35)) w1.heap.size 35 zeroPv := Own.new _ _ _
      have P2 := P1.alloc (.cells zeroPv 35)
      rw [zeroPv_is] at ho P2
      have hlt1 := P1.res.lt
      refine hK.out _ _ P2.sees (fun hHeld => ?_)
      clear hK K
      (try simp only [Act.put, List.setIfInBounds_toArray, List.set_cons_zero, List.set_cons_succ])
      refine wpAnyH_ready (rs := [10]) (by kernel_rfl) (by simp) (AllReadyH.cons rfl (fun K hK => ?_) AllReadyH.nil)
      rw [if_pos (by rfl)]
      refine wp_store_row 35 (.tmp 5) (.tmp 14) rfl w1.heap.size _ rfl rfl 35 _ ho packet_size rfl (encP_one _ _ _ _ _) ?_
      refine hK.out _ _ (P2.row (by have := P2.res.lt; omega) _).sees (fun hHeld => ?_)
      refine wpAnyH_done (by kernel_rfl) ?_ _
      clear hK hHeld
      go_wp2_with fail
      go_meet
      exact ⟨w1.heap.size, a1, ⟨ce, cr⟩, rfl, HG, P2.st (by have := hlt1; omega) ho⟩
    · clear hHeld
      rw [if_pos (by rfl)]
      go_simp
      have ho : Own (W0.alloc (.cells zeroPv 35)) W0.heap.size 35 zeroPv := Own.new _ _ _
      have P1 := P0.alloc (.cells zeroPv 35)
      rw [zeroPv_is] at ho P1
      have hlt1 := P0.res.lt
      have hlt0 := P0.lt
      refine hK.out _ _ P1.sees (fun hHeld => ?_)
      clear hK K
      (try simp only [Act.put, List.setIfInBounds_toArray, List.set_cons_zero, List.set_cons_succ])
      refine wpAnyH_ready (rs := [7]) (by kernel_rfl) (by simp) (AllReadyH.cons rfl (fun K hK => ?_) AllReadyH.nil)
      clear hHeld
      rw [if_pos (by rfl)]
      go_simp
      refine (rconf _ b s a P1.rd).mono ?_
      rintro e w1 (⟨⟨ce, cr⟩, _, a1, hG, rfl, rfl, hr, hg⟩ | ⟨x, hG, rfl, hg⟩)
      rotate_left
      · exact ⟨rfl, .inr ⟨x, getFs_conf_err (by decide) (by decide) hG, rfl, grown_tr P1.gr hg⟩⟩
      have P2 := P1.go hr hg
      have HG := Lib.hid hG
      refine hK.out _ _ P2.sees (fun hHeld => ?_)
      have ho2 := ho.grown hg (by intro e; cases e; omega)
      clear hG hr hg hK K
      (try simp only [Act.put, List.setIfInBounds_toArray, List.set_cons_zero, List.set_cons_succ])
      refine wpAnyH_take (i := 8) (v := .agg (encP { baseP 6 f t with conf := ⟨ce, cr⟩ } { data := #[] } Vc.nil Vc.nil Vc.nil).toArray) rfl (by kernel_rfl) (by kernel_rfl) (by kernel_rfl) (fun _ _ _ h => h) (.inl ⟨by rfl, fun w' hS => by (go_simp; rfl)⟩) hHeld ?_
      (try simp only [Act.put, List.setIfInBounds_toArray, List.set_cons_zero, List.set_cons_succ])
      refine wpAnyH_ready (rs := [10]) (by kernel_rfl) (by simp) (AllReadyH.cons rfl (fun K hK => ?_) AllReadyH.nil)
      rw [if_pos (by rfl)]
      refine wp_store_row 35 (.tmp 5) (.tmp 14) rfl W0.heap.size _ rfl rfl 35 _ ho2 packet_size rfl (encP_one _ _ _ _ _) ?_
      refine hK.out _ _ (P2.row (by have := P2.res.lt; omega) _).sees (fun hHeld => ?_)
      refine wpAnyH_done (by kernel_rfl) ?_ _
      clear hK hHeld
      go_wp2_with fail
      go_meet
      exact ⟨W0.heap.size, a1, ⟨ce, cr⟩, rfl, HG, P2.st (by have := hlt1; omega) ho2⟩
  case rest =>
    obtain ⟨g, a1, c, rfl, HC, S⟩ := hcut
    clear P0
    have hne : g ≠ w.heap.size := by have := S.ge; omega
    have hne2 : w.heap.size ≠ g := by omega
    have HS := Lib.hid hs
    have HL : Hid (b < w.heap.size) := Lib.hid h.lt
    have c0 : wc.cell? ⟨g, 0, none⟩ = some (.int .i64 6) := S.row.at_ 0 _ rfl
    have c1 : wc.cell? ⟨g, 1, none⟩ = some (.int .i64 f) := S.row.at_ 1 _ rfl
    have c15 : wc.cell? ⟨g, 15, none⟩ = some (.int .i64 0) := S.row.at_ 15 _ rfl
    have hbox := S.box
    clear h hs
    have HR : Hid (getFs (rowP (baseP 6 f t)) (baseP 6 f t) (restB s a) = getFs [.x] { baseP 6 f t with conf := c } (restB s a1)) := Lib.hid (getFs_conf (fs := [.x]) rfl HC.out)
    clear HC
    clear c1 c15
    go_wp2_with fail
    refine (rexchange _ b s a1 S.rd).mono ?_
    rintro e w1 (⟨z, _, a2, hG, rfl, ⟨v, rfl, hv⟩, hr, hg⟩ | ⟨x, hG, rfl, hg⟩)
    case inr => exact ⟨rfl, .inr ⟨x, by (rw [HR.out]; simp only [getFs, getF, hG, andG_ok, andG_err]), rfl, grown_tr S.gr hg⟩⟩
    have G1 := Lib.hid hG
    have HE : Hid (getFs (rowP (baseP 6 f t)) (baseP 6 f t) (restB s a) = .ok ({ baseP 6 f t with conf := c, x := [z] }, restB s a2)) := Lib.hid (by rw [HR.out]; simp only [getFs, getF, andG_ok, G1.out])
    have S1 := (S.go hr hg).go (hr.alloc' (.cells (encX z v).toArray 50)) (grown_alloc w1 (.cells (encX z v).toArray 50) (some b))
    have hx := OwnXs.one (hv.mono S.sz) (Nat.le_trans S.sz hg.size)
    have SZ := S1.set 21 (.slice (some ⟨w1.heap.size, 0, none⟩) 1 1) (q' := { baseP 6 f t with conf := c, x := [z] }) (T' := { data := #[] }) (vd' := Vc.nil) (vg' := Vc.nil) (vx' := ⟨some ⟨w1.heap.size, 0, none⟩, 1, 1⟩) rfl ⟨rfl, OwnVec.nil _ _, OwnVec.nil _ _, hx⟩
    have c21 : (w1.alloc (.cells (encX z v).toArray 50)).cell? ⟨g, 21, none⟩ = some (.slice none 0 0) := S1.row.at_ 21 _ rfl
    have f21 := S1.row.free 21
    clear hG hr hg S hbox c0 HR hv hx
    obtain ⟨zw, ⟨ze, zr⟩, zc, zs, zf⟩ := z
    obtain ⟨va, vn, vc⟩ := v
    simp only [encX] at *
    go_upto_region 21 with fail
    go_wp2_with (first | (refine load_packet rfl (.tmp 5) rfl g rfl SZ.row ?_) | (refine store_packet rfl (.tmp 4) (.tmp 93) rfl (w.heap.size + 2) rfl rfl SZ.res ?_))
    (try simp only [Exit.inBlock, Exit.then])
    
    refine bodyPost_ret (results_packet rfl _ _ (w.heap.size + 2) rfl (SZ.res.row _)) rfl ?_
    exact SZ.done (by rw [HE.out])
end Go.Proofs.Ytibngfpjdookkaa

/- Reading a packet's body: kind 7. (Written by wip/gen_rdall.py.) -/
set_option linter.unusedVariables false
set_option linter.unusedSimpArgs false
namespace Go.Proofs.Ytibngfpjdookkaa
open Go.RowKit Go.Sort
set_option maxHeartbeats 4000000 in
set_option maxRecDepth 100000 in
theorem rpacket_7 (w : World) (b : Nat) (s : ByteArray) (a : Nat) (f t : Int) (y : ByteArray) (hs : s.size ≤ 1099511627776) (h : Rd w b s a) :
    Calls Try.prog 22 #[.agg #[.pointer (some ⟨b, 0, none⟩)], .agg #[.int .i64 7, .int .i64 f, .int .i64 t, .string y]] w (RP (getFs (rowP (baseP 7 f t)) (baseP 7 f t)) (PkD w) w b s a) := by
  have P0 := Pre.new h 7 f t y
  rw [zeroPv_is] at P0
  have NC : Hid (∀ (c : PC), (encP { baseP 7 f t with conf := c } { data := #[] } Vc.nil Vc.nil Vc.nil).toArray.size = 22) := Lib.hid fun _ => rfl
  go_enter Try.func22, Try.ntmps22
  go_upto_region 1 with fail
  go_cut [5] (fun s5 wx => Cut w b s a 7 f t s5 wx)
  case first =>
    refine wp_region_held_drew (S := Sees w b 7 f t) (by kernel_rfl) P0.sees (fun hHeld => ?_)
    generalize (((w.alloc (.cells #[.pointer (some ⟨b, 0, none⟩)] 62)).alloc (.cells #[.int .i64 7, .int .i64 f, .int .i64 t, .string y] 56)).alloc (.cells #[.int .i64 0, .int .i64 0, .int .i64 0, .int .u64 0, .int .i64 0, .int .i64 0, .int .u32 0, .int .u64 0, .int .i64 0, .slice none 0 0, .string { data := #[] }, .int .u64 0, .int .u32 0, .slice none 0 0, .int .u64 0, .int .i64 0, .int .u32 0, .int .u64 0, .int .u64 0, .int .i64 0, .int .u64 0, .slice none 0 0] 35)).drew = W0 at *
    refine wpAnyH_take (i := 0) (v := .pointer (some ⟨w.heap.size + 1, 0, none⟩)) rfl (by kernel_rfl) (by kernel_rfl) (by kernel_rfl) (fun _ _ _ h => h) (.inl ⟨by rfl, fun w' hS => by (obtain ⟨s0, s1, s2, s3⟩ := hS; go_simp)⟩) hHeld ?_
    (try simp only [Act.put, List.setIfInBounds_toArray, List.set_cons_zero, List.set_cons_succ])
    refine wpAnyH_take (i := 1) (v := .int .i64 7) rfl (by kernel_rfl) (by kernel_rfl) (by kernel_rfl) (fun _ _ _ h => h) (.inl ⟨by rfl, fun w' hS => by (obtain ⟨s0, s1, s2, s3⟩ := hS; go_simp)⟩) hHeld ?_
    (try simp only [Act.put, List.setIfInBounds_toArray, List.set_cons_zero, List.set_cons_succ])
    refine wpAnyH_take (i := 2) (v := .pointer (some ⟨w.heap.size + 1, 1, none⟩)) rfl (by kernel_rfl) (by kernel_rfl) (by kernel_rfl) (fun _ _ _ h => h) (.inl ⟨by rfl, fun w' hS => by (obtain ⟨s0, s1, s2, s3⟩ := hS; go_simp)⟩) hHeld ?_
    (try simp only [Act.put, List.setIfInBounds_toArray, List.set_cons_zero, List.set_cons_succ])
    refine wpAnyH_take (i := 3) (v := .int .i64 f) rfl (by kernel_rfl) (by kernel_rfl) (by kernel_rfl) (fun _ _ _ h => h) (.inl ⟨by rfl, fun w' hS => by (obtain ⟨s0, s1, s2, s3⟩ := hS; go_simp)⟩) hHeld ?_
    (try simp only [Act.put, List.setIfInBounds_toArray, List.set_cons_zero, List.set_cons_succ])
    refine wpAnyH_take (i := 4) (v := .pointer (some ⟨w.heap.size + 1, 2, none⟩)) rfl (by kernel_rfl) (by kernel_rfl) (by kernel_rfl) (fun _ _ _ h => h) (.inl ⟨by rfl, fun w' hS => by (obtain ⟨s0, s1, s2, s3⟩ := hS; go_simp)⟩) hHeld ?_
    (try simp only [Act.put, List.setIfInBounds_toArray, List.set_cons_zero, List.set_cons_succ])
    refine wpAnyH_take (i := 5) (v := .int .i64 t) rfl (by kernel_rfl) (by kernel_rfl) (by kernel_rfl) (fun _ _ _ h => h) (.inl ⟨by rfl, fun w' hS => by (obtain ⟨s0, s1, s2, s3⟩ := hS; go_simp)⟩) hHeld ?_
    (try simp only [Act.put, List.setIfInBounds_toArray, List.set_cons_zero, List.set_cons_succ])
    refine wpAnyH_take (i := 6) (v := .agg #[.pointer (some ⟨b, 0, none⟩)]) rfl (by kernel_rfl) (by kernel_rfl) (by kernel_rfl) (fun _ _ _ h => h) (.inl ⟨by rfl, fun w' hS => by (obtain ⟨s0, s1, s2, s3⟩ := hS; go_simp)⟩) hHeld ?_
    (try simp only [Act.put, List.setIfInBounds_toArray, List.set_cons_zero, List.set_cons_succ])
    refine wpAnyH_ready (rs := [7, 9]) (by kernel_rfl) (by simp) (AllReadyH.cons rfl (fun K hK => ?_) (AllReadyH.cons rfl (fun K hK => ?_) AllReadyH.nil))
    · clear hHeld
      rw [if_pos (by rfl)]
      go_simp
      refine (rconf _ b s a P0.rd).mono ?_
      rintro e w1 (⟨⟨ce, cr⟩, _, a1, hG, rfl, rfl, hr, hg⟩ | ⟨x, hG, rfl, hg⟩)
      rotate_left
      · exact ⟨rfl, .inr ⟨x, getFs_conf_err (by decide) (by decide) hG, rfl, grown_tr P0.gr hg⟩⟩
      have P1 := P0.go hr hg
      have HG := Lib.hid hG
      refine hK.out _ _ P1.sees (fun hHeld => ?_)
      clear hG hr hg hK K
      (try simp only [Act.put, List.setIfInBounds_toArray, List.set_cons_zero, List.set_cons_succ])
      refine wpAnyH_take (i := 8) (v := .agg (encP { baseP 7 f t with conf := ⟨ce, cr⟩ } { data := #[] } Vc.nil Vc.nil Vc.nil).toArray) rfl (by kernel_rfl) (by kernel_rfl) (by kernel_rfl) (fun _ _ _ h => h) (.inl ⟨by rfl, fun w' hS => by (go_simp; rfl)⟩) hHeld ?_
      (try simp only [Act.put, List.setIfInBounds_toArray, List.set_cons_zero, List.set_cons_succ])
      refine wpAnyH_ready (rs := [9]) (by kernel_rfl) (by simp) (AllReadyH.cons rfl (fun K hK => ?_) AllReadyH.nil)
      rw [if_pos (by rfl)]
      go_simp
      have ho : Own (w1.alloc (.cells zeroPv 35)) w1.heap.size 35 zeroPv := Own.new _ _ _
      have P2 := P1.alloc (.cells zeroPv 35)
      rw [zeroPv_is] at ho P2
      have hlt1 := P1.res.lt
      refine hK.out _ _ P2.sees (fun hHeld => ?_)
      clear hK K
      (try simp only [Act.put, List.setIfInBounds_toArray, List.set_cons_zero, List.set_cons_succ])
      refine wpAnyH_ready (rs := [10]) (by kernel_rfl) (by simp) (AllReadyH.cons rfl (fun K hK => ?_) AllReadyH.nil)
      rw [if_pos (by rfl)]
      refine wp_store_row 35 (.tmp 5) (.tmp 14) rfl w1.heap.size _ rfl rfl 35 _ ho packet_size rfl (encP_one _ _ _ _ _) ?_
      refine hK.out _ _ (P2.row (by have := P2.res.lt; omega) _).sees (fun hHeld => ?_)
      refine wpAnyH_done (by kernel_rfl) ?_ _
      clear hK hHeld
      go_wp2_with fail
      go_meet
      exact ⟨w1.heap.size, a1, ⟨ce, cr⟩, rfl, HG, P2.st (by have := hlt1; omega) ho⟩
    · clear hHeld
      rw [if_pos (by rfl)]
      go_simp
      have ho : Own (W0.alloc (.cells zeroPv 35)) W0.heap.size 35 zeroPv := Own.new _ _ _
      have P1 := P0.alloc (.cells zeroPv 35)
      rw [zeroPv_is] at ho P1
      have hlt1 := P0.res.lt
      have hlt0 := P0.lt
      refine hK.out _ _ P1.sees (fun hHeld => ?_)
      clear hK K
      (try simp only [Act.put, List.setIfInBounds_toArray, List.set_cons_zero, List.set_cons_succ])
      refine wpAnyH_ready (rs := [7]) (by kernel_rfl) (by simp) (AllReadyH.cons rfl (fun K hK => ?_) AllReadyH.nil)
      clear hHeld
      rw [if_pos (by rfl)]
      go_simp
      refine (rconf _ b s a P1.rd).mono ?_
      rintro e w1 (⟨⟨ce, cr⟩, _, a1, hG, rfl, rfl, hr, hg⟩ | ⟨x, hG, rfl, hg⟩)
      rotate_left
      · exact ⟨rfl, .inr ⟨x, getFs_conf_err (by decide) (by decide) hG, rfl, grown_tr P1.gr hg⟩⟩
      have P2 := P1.go hr hg
      have HG := Lib.hid hG
      refine hK.out _ _ P2.sees (fun hHeld => ?_)
      have ho2 := ho.grown hg (by intro e; cases e; omega)
      clear hG hr hg hK K
      (try simp only [Act.put, List.setIfInBounds_toArray, List.set_cons_zero, List.set_cons_succ])
      refine wpAnyH_take (i := 8) (v := .agg (encP { baseP 7 f t with conf := ⟨ce, cr⟩ } { data := #[] } Vc.nil Vc.nil Vc.nil).toArray) rfl (by kernel_rfl) (by kernel_rfl) (by kernel_rfl) (fun _ _ _ h => h) (.inl ⟨by rfl, fun w' hS => by (go_simp; rfl)⟩) hHeld ?_
      (try simp only [Act.put, List.setIfInBounds_toArray, List.set_cons_zero, List.set_cons_succ])
      refine wpAnyH_ready (rs := [10]) (by kernel_rfl) (by simp) (AllReadyH.cons rfl (fun K hK => ?_) AllReadyH.nil)
      rw [if_pos (by rfl)]
      refine wp_store_row 35 (.tmp 5) (.tmp 14) rfl W0.heap.size _ rfl rfl 35 _ ho2 packet_size rfl (encP_one _ _ _ _ _) ?_
      refine hK.out _ _ (P2.row (by have := P2.res.lt; omega) _).sees (fun hHeld => ?_)
      refine wpAnyH_done (by kernel_rfl) ?_ _
      clear hK hHeld
      go_wp2_with fail
      go_meet
      exact ⟨W0.heap.size, a1, ⟨ce, cr⟩, rfl, HG, P2.st (by have := hlt1; omega) ho2⟩
  case rest =>
    obtain ⟨g, a1, c, rfl, HC, S⟩ := hcut
    clear P0
    have hne : g ≠ w.heap.size := by have := S.ge; omega
    have hne2 : w.heap.size ≠ g := by omega
    have HS := Lib.hid hs
    have HL : Hid (b < w.heap.size) := Lib.hid h.lt
    have c0 : wc.cell? ⟨g, 0, none⟩ = some (.int .i64 7) := S.row.at_ 0 _ rfl
    have c1 : wc.cell? ⟨g, 1, none⟩ = some (.int .i64 f) := S.row.at_ 1 _ rfl
    have c15 : wc.cell? ⟨g, 15, none⟩ = some (.int .i64 0) := S.row.at_ 15 _ rfl
    have hbox := S.box
    clear h hs
    have HR : Hid (getFs (rowP (baseP 7 f t)) (baseP 7 f t) (restB s a) = getFs [.b, .l] { baseP 7 f t with conf := c } (restB s a1)) := Lib.hid (getFs_conf (fs := [.b, .l]) rfl HC.out)
    clear HC
    have S0 := S.drew
    clear c1 c15
    go_wp2_with fail
    go_region_held2 (fun w' => w'.cell? ⟨w.heap.size, 0, none⟩ = some (.pointer (some ⟨b, 0, none⟩))) (first | (with_reducible exact S1.box) | (with_reducible exact S2.box) | go_keep)
      (first
        | (go_at_call 45; (with_reducible refine (rnum _ b s _ 8 8 (by decide) S0.rd).mono ?_); rintro e w1 (⟨v1, _, a2, hG, rfl, rfl, hr, hg⟩ | ⟨x, hG, rfl, hg⟩); rotate_left; exact ⟨rfl, .inr ⟨x, by (rw [HR.out]; simp only [getFs, getF, hG, andG_ok, andG_err]), rfl, grown_tr S0.gr hg⟩⟩; (have S1 := S0.go hr hg); (have G1 := Lib.hid hG); clear hG hr hg)
        | (go_at_call 50; (with_reducible refine (rexchanges _ b s _ S1.rd).mono ?_); rintro e w2 (⟨v2, _, a3, hG, rfl, ⟨⟨va, vn, vc⟩, rfl, hv⟩, hr, hg⟩ | ⟨x, hG, rfl, hg⟩); rotate_left; exact ⟨rfl, .inr ⟨x, by (rw [HR.out]; simp only [getFs, getF, hG, andG_ok, andG_err, G1.out]), rfl, grown_tr S1.gr hg⟩⟩; (have S2 := S1.go hr hg); (have G2 := Lib.hid hG); (have V2 := hv.mono S1.sz); (have c17 : w2.cell? ⟨g, 17, none⟩ = some (.int .u64 0) := S2.row.at_ 17 _ rfl); (have f17 := S2.row.free 17); (have c21 : w2.cell? ⟨g, 21, none⟩ = some (.slice none 0 0) := S2.row.at_ 21 _ rfl); (have f21 := S2.row.free 21); clear hG hr hg hv))
    have T0 := S2.set 17 (.int .u64 (v1 : Int)) (q' := { baseP 7 f t with conf := c, mem := v1 }) (T' := { data := #[] }) (vd' := Vc.nil) (vg' := Vc.nil) (vx' := Vc.nil) rfl ⟨rfl, OwnVec.nil _ _, OwnVec.nil _ _, OwnXs.nil _ _⟩
    have SZ := T0.set 21 (.slice va vn vc) (q' := { baseP 7 f t with conf := c, mem := v1, x := v2 }) (T' := { data := #[] }) (vd' := Vc.nil) (vg' := Vc.nil) (vx' := ⟨va, vn, vc⟩) rfl ⟨rfl, OwnVec.nil _ _, OwnVec.nil _ _, (V2).set (by omega) 17 _⟩
    have HE : Hid (getFs (rowP (baseP 7 f t)) (baseP 7 f t) (restB s a) = .ok ({ baseP 7 f t with conf := c, mem := v1, x := v2 }, restB s a3)) := Lib.hid (by rw [HR.out]; simp only [getFs, getF, andG_ok, G1.out, G2.out])
    go_upto_region 21 with fail
    go_wp2_with (first | (refine load_packet rfl (.tmp 5) rfl g rfl SZ.row ?_) | (refine store_packet rfl (.tmp 4) (.tmp 93) rfl (w.heap.size + 2) rfl rfl SZ.res ?_))
    (try simp only [Exit.inBlock, Exit.then])
    
    refine bodyPost_ret (results_packet rfl _ _ (w.heap.size + 2) rfl (SZ.res.row _)) rfl ?_
    exact SZ.done (by rw [HE.out])
end Go.Proofs.Ytibngfpjdookkaa

/- Reading a packet's body: kind 8. (Written by wip/gen_rdall.py.) -/
set_option linter.unusedVariables false
set_option linter.unusedSimpArgs false
namespace Go.Proofs.Ytibngfpjdookkaa
open Go.RowKit Go.Sort
set_option maxHeartbeats 4000000 in
set_option maxRecDepth 100000 in
theorem rpacket_8 (w : World) (b : Nat) (s : ByteArray) (a : Nat) (f t : Int) (y : ByteArray) (hs : s.size ≤ 1099511627776) (h : Rd w b s a) :
    Calls Try.prog 22 #[.agg #[.pointer (some ⟨b, 0, none⟩)], .agg #[.int .i64 8, .int .i64 f, .int .i64 t, .string y]] w (RP (getFs (rowP (baseP 8 f t)) (baseP 8 f t)) (PkD w) w b s a) := by
  have P0 := Pre.new h 8 f t y
  rw [zeroPv_is] at P0
  have NC : Hid (∀ (c : PC), (encP { baseP 8 f t with conf := c } { data := #[] } Vc.nil Vc.nil Vc.nil).toArray.size = 22) := Lib.hid fun _ => rfl
  go_enter Try.func22, Try.ntmps22
  go_upto_region 1 with fail
  go_cut [5] (fun s5 wx => Cut w b s a 8 f t s5 wx)
  case first =>
    refine wp_region_held_drew (S := Sees w b 8 f t) (by kernel_rfl) P0.sees (fun hHeld => ?_)
    generalize (((w.alloc (.cells #[.pointer (some ⟨b, 0, none⟩)] 62)).alloc (.cells #[.int .i64 8, .int .i64 f, .int .i64 t, .string y] 56)).alloc (.cells #[.int .i64 0, .int .i64 0, .int .i64 0, .int .u64 0, .int .i64 0, .int .i64 0, .int .u32 0, .int .u64 0, .int .i64 0, .slice none 0 0, .string { data := #[] }, .int .u64 0, .int .u32 0, .slice none 0 0, .int .u64 0, .int .i64 0, .int .u32 0, .int .u64 0, .int .u64 0, .int .i64 0, .int .u64 0, .slice none 0 0] 35)).drew = W0 at *
    refine wpAnyH_take (i := 0) (v := .pointer (some ⟨w.heap.size + 1, 0, none⟩)) rfl (by kernel_rfl) (by kernel_rfl) (by kernel_rfl) (fun _ _ _ h => h) (.inl ⟨by rfl, fun w' hS => by (obtain ⟨s0, s1, s2, s3⟩ := hS; go_simp)⟩) hHeld ?_
    (try simp only [Act.put, List.setIfInBounds_toArray, List.set_cons_zero, List.set_cons_succ])
    refine wpAnyH_take (i := 1) (v := .int .i64 8) rfl (by kernel_rfl) (by kernel_rfl) (by kernel_rfl) (fun _ _ _ h => h) (.inl ⟨by rfl, fun w' hS => by (obtain ⟨s0, s1, s2, s3⟩ := hS; go_simp)⟩) hHeld ?_
    (try simp only [Act.put, List.setIfInBounds_toArray, List.set_cons_zero, List.set_cons_succ])
    refine wpAnyH_take (i := 2) (v := .pointer (some ⟨w.heap.size + 1, 1, none⟩)) rfl (by kernel_rfl) (by kernel_rfl) (by kernel_rfl) (fun _ _ _ h => h) (.inl ⟨by rfl, fun w' hS => by (obtain ⟨s0, s1, s2, s3⟩ := hS; go_simp)⟩) hHeld ?_
    (try simp only [Act.put, List.setIfInBounds_toArray, List.set_cons_zero, List.set_cons_succ])
    refine wpAnyH_take (i := 3) (v := .int .i64 f) rfl (by kernel_rfl) (by kernel_rfl) (by kernel_rfl) (fun _ _ _ h => h) (.inl ⟨by rfl, fun w' hS => by (obtain ⟨s0, s1, s2, s3⟩ := hS; go_simp)⟩) hHeld ?_
    (try simp only [Act.put, List.setIfInBounds_toArray, List.set_cons_zero, List.set_cons_succ])
    refine wpAnyH_take (i := 4) (v := .pointer (some ⟨w.heap.size + 1, 2, none⟩)) rfl (by kernel_rfl) (by kernel_rfl) (by kernel_rfl) (fun _ _ _ h => h) (.inl ⟨by rfl, fun w' hS => by (obtain ⟨s0, s1, s2, s3⟩ := hS; go_simp)⟩) hHeld ?_
    (try simp only [Act.put, List.setIfInBounds_toArray, List.set_cons_zero, List.set_cons_succ])
    refine wpAnyH_take (i := 5) (v := .int .i64 t) rfl (by kernel_rfl) (by kernel_rfl) (by kernel_rfl) (fun _ _ _ h => h) (.inl ⟨by rfl, fun w' hS => by (obtain ⟨s0, s1, s2, s3⟩ := hS; go_simp)⟩) hHeld ?_
    (try simp only [Act.put, List.setIfInBounds_toArray, List.set_cons_zero, List.set_cons_succ])
    refine wpAnyH_take (i := 6) (v := .agg #[.pointer (some ⟨b, 0, none⟩)]) rfl (by kernel_rfl) (by kernel_rfl) (by kernel_rfl) (fun _ _ _ h => h) (.inl ⟨by rfl, fun w' hS => by (obtain ⟨s0, s1, s2, s3⟩ := hS; go_simp)⟩) hHeld ?_
    (try simp only [Act.put, List.setIfInBounds_toArray, List.set_cons_zero, List.set_cons_succ])
    refine wpAnyH_ready (rs := [7, 9]) (by kernel_rfl) (by simp) (AllReadyH.cons rfl (fun K hK => ?_) (AllReadyH.cons rfl (fun K hK => ?_) AllReadyH.nil))
    · clear hHeld
      rw [if_pos (by rfl)]
      go_simp
      refine (rconf _ b s a P0.rd).mono ?_
      rintro e w1 (⟨⟨ce, cr⟩, _, a1, hG, rfl, rfl, hr, hg⟩ | ⟨x, hG, rfl, hg⟩)
      rotate_left
      · exact ⟨rfl, .inr ⟨x, getFs_conf_err (by decide) (by decide) hG, rfl, grown_tr P0.gr hg⟩⟩
      have P1 := P0.go hr hg
      have HG := Lib.hid hG
      refine hK.out _ _ P1.sees (fun hHeld => ?_)
      clear hG hr hg hK K
      (try simp only [Act.put, List.setIfInBounds_toArray, List.set_cons_zero, List.set_cons_succ])
      refine wpAnyH_take (i := 8) (v := .agg (encP { baseP 8 f t with conf := ⟨ce, cr⟩ } { data := #[] } Vc.nil Vc.nil Vc.nil).toArray) rfl (by kernel_rfl) (by kernel_rfl) (by kernel_rfl) (fun _ _ _ h => h) (.inl ⟨by rfl, fun w' hS => by (go_simp; rfl)⟩) hHeld ?_
      (try simp only [Act.put, List.setIfInBounds_toArray, List.set_cons_zero, List.set_cons_succ])
      refine wpAnyH_ready (rs := [9]) (by kernel_rfl) (by simp) (AllReadyH.cons rfl (fun K hK => ?_) AllReadyH.nil)
      rw [if_pos (by rfl)]
      go_simp
      have ho : Own (w1.alloc (.cells zeroPv 35)) w1.heap.size 35 zeroPv := Own.new _ _ _
      have P2 := P1.alloc (.cells zeroPv 35)
      rw [zeroPv_is] at ho P2
      have hlt1 := P1.res.lt
      refine hK.out _ _ P2.sees (fun hHeld => ?_)
      clear hK K
      (try simp only [Act.put, List.setIfInBounds_toArray, List.set_cons_zero, List.set_cons_succ])
      refine wpAnyH_ready (rs := [10]) (by kernel_rfl) (by simp) (AllReadyH.cons rfl (fun K hK => ?_) AllReadyH.nil)
      rw [if_pos (by rfl)]
      refine wp_store_row 35 (.tmp 5) (.tmp 14) rfl w1.heap.size _ rfl rfl 35 _ ho packet_size rfl (encP_one _ _ _ _ _) ?_
      refine hK.out _ _ (P2.row (by have := P2.res.lt; omega) _).sees (fun hHeld => ?_)
      refine wpAnyH_done (by kernel_rfl) ?_ _
      clear hK hHeld
      go_wp2_with fail
      go_meet
      exact ⟨w1.heap.size, a1, ⟨ce, cr⟩, rfl, HG, P2.st (by have := hlt1; omega) ho⟩
    · clear hHeld
      rw [if_pos (by rfl)]
      go_simp
      have ho : Own (W0.alloc (.cells zeroPv 35)) W0.heap.size 35 zeroPv := Own.new _ _ _
      have P1 := P0.alloc (.cells zeroPv 35)
      rw [zeroPv_is] at ho P1
      have hlt1 := P0.res.lt
      have hlt0 := P0.lt
      refine hK.out _ _ P1.sees (fun hHeld => ?_)
      clear hK K
      (try simp only [Act.put, List.setIfInBounds_toArray, List.set_cons_zero, List.set_cons_succ])
      refine wpAnyH_ready (rs := [7]) (by kernel_rfl) (by simp) (AllReadyH.cons rfl (fun K hK => ?_) AllReadyH.nil)
      clear hHeld
      rw [if_pos (by rfl)]
      go_simp
      refine (rconf _ b s a P1.rd).mono ?_
      rintro e w1 (⟨⟨ce, cr⟩, _, a1, hG, rfl, rfl, hr, hg⟩ | ⟨x, hG, rfl, hg⟩)
      rotate_left
      · exact ⟨rfl, .inr ⟨x, getFs_conf_err (by decide) (by decide) hG, rfl, grown_tr P1.gr hg⟩⟩
      have P2 := P1.go hr hg
      have HG := Lib.hid hG
      refine hK.out _ _ P2.sees (fun hHeld => ?_)
      have ho2 := ho.grown hg (by intro e; cases e; omega)
      clear hG hr hg hK K
      (try simp only [Act.put, List.setIfInBounds_toArray, List.set_cons_zero, List.set_cons_succ])
      refine wpAnyH_take (i := 8) (v := .agg (encP { baseP 8 f t with conf := ⟨ce, cr⟩ } { data := #[] } Vc.nil Vc.nil Vc.nil).toArray) rfl (by kernel_rfl) (by kernel_rfl) (by kernel_rfl) (fun _ _ _ h => h) (.inl ⟨by rfl, fun w' hS => by (go_simp; rfl)⟩) hHeld ?_
      (try simp only [Act.put, List.setIfInBounds_toArray, List.set_cons_zero, List.set_cons_succ])
      refine wpAnyH_ready (rs := [10]) (by kernel_rfl) (by simp) (AllReadyH.cons rfl (fun K hK => ?_) AllReadyH.nil)
      rw [if_pos (by rfl)]
      refine wp_store_row 35 (.tmp 5) (.tmp 14) rfl W0.heap.size _ rfl rfl 35 _ ho2 packet_size rfl (encP_one _ _ _ _ _) ?_
      refine hK.out _ _ (P2.row (by have := P2.res.lt; omega) _).sees (fun hHeld => ?_)
      refine wpAnyH_done (by kernel_rfl) ?_ _
      clear hK hHeld
      go_wp2_with fail
      go_meet
      exact ⟨W0.heap.size, a1, ⟨ce, cr⟩, rfl, HG, P2.st (by have := hlt1; omega) ho2⟩
  case rest =>
    obtain ⟨g, a1, c, rfl, HC, S⟩ := hcut
    clear P0
    have hne : g ≠ w.heap.size := by have := S.ge; omega
    have hne2 : w.heap.size ≠ g := by omega
    have HS := Lib.hid hs
    have HL : Hid (b < w.heap.size) := Lib.hid h.lt
    have c0 : wc.cell? ⟨g, 0, none⟩ = some (.int .i64 8) := S.row.at_ 0 _ rfl
    have c1 : wc.cell? ⟨g, 1, none⟩ = some (.int .i64 f) := S.row.at_ 1 _ rfl
    have c15 : wc.cell? ⟨g, 15, none⟩ = some (.int .i64 0) := S.row.at_ 15 _ rfl
    have hbox := S.box
    clear h hs
    have HR : Hid (getFs (rowP (baseP 8 f t)) (baseP 8 f t) (restB s a) = getFs [.w, .q] { baseP 8 f t with conf := c } (restB s a1)) := Lib.hid (getFs_conf (fs := [.w, .q]) rfl HC.out)
    clear HC
    have S0 := S.drew
    clear c1 c15
    go_wp2_with fail
    go_region_held2 (fun w' => w'.cell? ⟨w.heap.size, 0, none⟩ = some (.pointer (some ⟨b, 0, none⟩))) (first | (with_reducible exact S1.box) | (with_reducible exact S2.box) | go_keep)
      (first
        | (go_at_call 48; (with_reducible refine (rprocess _ b s _ S0.rd).mono ?_); rintro e w1 (⟨v1, _, a2, hG, rfl, rfl, hr, hg⟩ | ⟨x, hG, rfl, hg⟩); rotate_left; exact ⟨rfl, .inr ⟨x, by (rw [HR.out]; simp only [getFs, getF, hG, andG_ok, andG_err]), rfl, grown_tr S0.gr hg⟩⟩; (have S1 := S0.go hr hg); (have G1 := Lib.hid hG); clear hG hr hg)
        | (go_at_call 46; (with_reducible refine (rfour _ b s _ S1.rd).mono ?_); rintro e w2 (⟨v2, _, a3, hG, rfl, rfl, hr, hg⟩ | ⟨x, hG, rfl, hg⟩); rotate_left; exact ⟨rfl, .inr ⟨x, by (rw [HR.out]; simp only [getFs, getF, hG, andG_ok, andG_err, G1.out]), rfl, grown_tr S1.gr hg⟩⟩; (have S2 := S1.go hr hg); (have G2 := Lib.hid hG); (have c15 : w2.cell? ⟨g, 15, none⟩ = some (.int .i64 0) := S2.row.at_ 15 _ rfl); (have f15 := S2.row.free 15); (have c16 : w2.cell? ⟨g, 16, none⟩ = some (.int .u32 0) := S2.row.at_ 16 _ rfl); (have f16 := S2.row.free 16); clear hG hr hg))
    have T0 := S2.set 15 (.int .i64 v1) (q' := { baseP 8 f t with conf := c, whom := v1 }) (T' := { data := #[] }) (vd' := Vc.nil) (vg' := Vc.nil) (vx' := Vc.nil) rfl ⟨rfl, OwnVec.nil _ _, OwnVec.nil _ _, OwnXs.nil _ _⟩
    have SZ := T0.set 16 (.int .u32 (v2 : Int)) (q' := { baseP 8 f t with conf := c, whom := v1, seq := v2 }) (T' := { data := #[] }) (vd' := Vc.nil) (vg' := Vc.nil) (vx' := Vc.nil) rfl ⟨rfl, OwnVec.nil _ _, OwnVec.nil _ _, OwnXs.nil _ _⟩
    have HE : Hid (getFs (rowP (baseP 8 f t)) (baseP 8 f t) (restB s a) = .ok ({ baseP 8 f t with conf := c, whom := v1, seq := v2 }, restB s a3)) := Lib.hid (by rw [HR.out]; simp only [getFs, getF, andG_ok, G1.out, G2.out])
    go_upto_region 21 with fail
    go_wp2_with (first | (refine load_packet rfl (.tmp 5) rfl g rfl SZ.row ?_) | (refine store_packet rfl (.tmp 4) (.tmp 93) rfl (w.heap.size + 2) rfl rfl SZ.res ?_))
    (try simp only [Exit.inBlock, Exit.then])
    
    refine bodyPost_ret (results_packet rfl _ _ (w.heap.size + 2) rfl (SZ.res.row _)) rfl ?_
    exact SZ.done (by rw [HE.out])
end Go.Proofs.Ytibngfpjdookkaa

/- Reading a packet's body: kind 9. (Written by wip/gen_rdall.py.) -/
set_option linter.unusedVariables false
set_option linter.unusedSimpArgs false
namespace Go.Proofs.Ytibngfpjdookkaa
open Go.RowKit Go.Sort
set_option maxHeartbeats 4000000 in
set_option maxRecDepth 100000 in
theorem rpacket_9 (w : World) (b : Nat) (s : ByteArray) (a : Nat) (f t : Int) (y : ByteArray) (hs : s.size ≤ 1099511627776) (h : Rd w b s a) :
    Calls Try.prog 22 #[.agg #[.pointer (some ⟨b, 0, none⟩)], .agg #[.int .i64 9, .int .i64 f, .int .i64 t, .string y]] w (RP (getFs (rowP (baseP 9 f t)) (baseP 9 f t)) (PkD w) w b s a) := by
  have P0 := Pre.new h 9 f t y
  rw [zeroPv_is] at P0
  have NC : Hid (∀ (c : PC), (encP { baseP 9 f t with conf := c } { data := #[] } Vc.nil Vc.nil Vc.nil).toArray.size = 22) := Lib.hid fun _ => rfl
  go_enter Try.func22, Try.ntmps22
  go_upto_region 1 with fail
  go_cut [5] (fun s5 wx => Cut w b s a 9 f t s5 wx)
  case first =>
    refine wp_region_held_drew (S := Sees w b 9 f t) (by kernel_rfl) P0.sees (fun hHeld => ?_)
    generalize (((w.alloc (.cells #[.pointer (some ⟨b, 0, none⟩)] 62)).alloc (.cells #[.int .i64 9, .int .i64 f, .int .i64 t, .string y] 56)).alloc (.cells #[.int .i64 0, .int .i64 0, .int .i64 0, .int .u64 0, .int .i64 0, .int .i64 0, .int .u32 0, .int .u64 0, .int .i64 0, .slice none 0 0, .string { data := #[] }, .int .u64 0, .int .u32 0, .slice none 0 0, .int .u64 0, .int .i64 0, .int .u32 0, .int .u64 0, .int .u64 0, .int .i64 0, .int .u64 0, .slice none 0 0] 35)).drew = W0 at *
    refine wpAnyH_take (i := 0) (v := .pointer (some ⟨w.heap.size + 1, 0, none⟩)) rfl (by kernel_rfl) (by kernel_rfl) (by kernel_rfl) (fun _ _ _ h => h) (.inl ⟨by rfl, fun w' hS => by (obtain ⟨s0, s1, s2, s3⟩ := hS; go_simp)⟩) hHeld ?_
    (try simp only [Act.put, List.setIfInBounds_toArray, List.set_cons_zero, List.set_cons_succ])
    refine wpAnyH_take (i := 1) (v := .int .i64 9) rfl (by kernel_rfl) (by kernel_rfl) (by kernel_rfl) (fun _ _ _ h => h) (.inl ⟨by rfl, fun w' hS => by (obtain ⟨s0, s1, s2, s3⟩ := hS; go_simp)⟩) hHeld ?_
    (try simp only [Act.put, List.setIfInBounds_toArray, List.set_cons_zero, List.set_cons_succ])
    refine wpAnyH_take (i := 2) (v := .pointer (some ⟨w.heap.size + 1, 1, none⟩)) rfl (by kernel_rfl) (by kernel_rfl) (by kernel_rfl) (fun _ _ _ h => h) (.inl ⟨by rfl, fun w' hS => by (obtain ⟨s0, s1, s2, s3⟩ := hS; go_simp)⟩) hHeld ?_
    (try simp only [Act.put, List.setIfInBounds_toArray, List.set_cons_zero, List.set_cons_succ])
    refine wpAnyH_take (i := 3) (v := .int .i64 f) rfl (by kernel_rfl) (by kernel_rfl) (by kernel_rfl) (fun _ _ _ h => h) (.inl ⟨by rfl, fun w' hS => by (obtain ⟨s0, s1, s2, s3⟩ := hS; go_simp)⟩) hHeld ?_
    (try simp only [Act.put, List.setIfInBounds_toArray, List.set_cons_zero, List.set_cons_succ])
    refine wpAnyH_take (i := 4) (v := .pointer (some ⟨w.heap.size + 1, 2, none⟩)) rfl (by kernel_rfl) (by kernel_rfl) (by kernel_rfl) (fun _ _ _ h => h) (.inl ⟨by rfl, fun w' hS => by (obtain ⟨s0, s1, s2, s3⟩ := hS; go_simp)⟩) hHeld ?_
    (try simp only [Act.put, List.setIfInBounds_toArray, List.set_cons_zero, List.set_cons_succ])
    refine wpAnyH_take (i := 5) (v := .int .i64 t) rfl (by kernel_rfl) (by kernel_rfl) (by kernel_rfl) (fun _ _ _ h => h) (.inl ⟨by rfl, fun w' hS => by (obtain ⟨s0, s1, s2, s3⟩ := hS; go_simp)⟩) hHeld ?_
    (try simp only [Act.put, List.setIfInBounds_toArray, List.set_cons_zero, List.set_cons_succ])
    refine wpAnyH_take (i := 6) (v := .agg #[.pointer (some ⟨b, 0, none⟩)]) rfl (by kernel_rfl) (by kernel_rfl) (by kernel_rfl) (fun _ _ _ h => h) (.inl ⟨by rfl, fun w' hS => by (obtain ⟨s0, s1, s2, s3⟩ := hS; go_simp)⟩) hHeld ?_
    (try simp only [Act.put, List.setIfInBounds_toArray, List.set_cons_zero, List.set_cons_succ])
    refine wpAnyH_ready (rs := [7, 9]) (by kernel_rfl) (by simp) (AllReadyH.cons rfl (fun K hK => ?_) (AllReadyH.cons rfl (fun K hK => ?_) AllReadyH.nil))
    · clear hHeld
      rw [if_pos (by rfl)]
      go_simp
      refine (rconf _ b s a P0.rd).mono ?_
      rintro e w1 (⟨⟨ce, cr⟩, _, a1, hG, rfl, rfl, hr, hg⟩ | ⟨x, hG, rfl, hg⟩)
      rotate_left
      · exact ⟨rfl, .inr ⟨x, getFs_conf_err (by decide) (by decide) hG, rfl, grown_tr P0.gr hg⟩⟩
      have P1 := P0.go hr hg
      have HG := Lib.hid hG
      refine hK.out _ _ P1.sees (fun hHeld => ?_)
      clear hG hr hg hK K
      (try simp only [Act.put, List.setIfInBounds_toArray, List.set_cons_zero, List.set_cons_succ])
      refine wpAnyH_take (i := 8) (v := .agg (encP { baseP 9 f t with conf := ⟨ce, cr⟩ } { data := #[] } Vc.nil Vc.nil Vc.nil).toArray) rfl (by kernel_rfl) (by kernel_rfl) (by kernel_rfl) (fun _ _ _ h => h) (.inl ⟨by rfl, fun w' hS => by (go_simp; rfl)⟩) hHeld ?_
      (try simp only [Act.put, List.setIfInBounds_toArray, List.set_cons_zero, List.set_cons_succ])
      refine wpAnyH_ready (rs := [9]) (by kernel_rfl) (by simp) (AllReadyH.cons rfl (fun K hK => ?_) AllReadyH.nil)
      rw [if_pos (by rfl)]
      go_simp
      have ho : Own (w1.alloc (.cells zeroPv 35)) w1.heap.size 35 zeroPv := Own.new _ _ _
      have P2 := P1.alloc (.cells zeroPv 35)
      rw [zeroPv_is] at ho P2
      have hlt1 := P1.res.lt
      refine hK.out _ _ P2.sees (fun hHeld => ?_)
      clear hK K
      (try simp only [Act.put, List.setIfInBounds_toArray, List.set_cons_zero, List.set_cons_succ])
      refine wpAnyH_ready (rs := [10]) (by kernel_rfl) (by simp) (AllReadyH.cons rfl (fun K hK => ?_) AllReadyH.nil)
      rw [if_pos (by rfl)]
      refine wp_store_row 35 (.tmp 5) (.tmp 14) rfl w1.heap.size _ rfl rfl 35 _ ho packet_size rfl (encP_one _ _ _ _ _) ?_
      refine hK.out _ _ (P2.row (by have := P2.res.lt; omega) _).sees (fun hHeld => ?_)
      refine wpAnyH_done (by kernel_rfl) ?_ _
      clear hK hHeld
      go_wp2_with fail
      go_meet
      exact ⟨w1.heap.size, a1, ⟨ce, cr⟩, rfl, HG, P2.st (by have := hlt1; omega) ho⟩
    · clear hHeld
      rw [if_pos (by rfl)]
      go_simp
      have ho : Own (W0.alloc (.cells zeroPv 35)) W0.heap.size 35 zeroPv := Own.new _ _ _
      have P1 := P0.alloc (.cells zeroPv 35)
      rw [zeroPv_is] at ho P1
      have hlt1 := P0.res.lt
      have hlt0 := P0.lt
      refine hK.out _ _ P1.sees (fun hHeld => ?_)
      clear hK K
      (try simp only [Act.put, List.setIfInBounds_toArray, List.set_cons_zero, List.set_cons_succ])
      refine wpAnyH_ready (rs := [7]) (by kernel_rfl) (by simp) (AllReadyH.cons rfl (fun K hK => ?_) AllReadyH.nil)
      clear hHeld
      rw [if_pos (by rfl)]
      go_simp
      refine (rconf _ b s a P1.rd).mono ?_
      rintro e w1 (⟨⟨ce, cr⟩, _, a1, hG, rfl, rfl, hr, hg⟩ | ⟨x, hG, rfl, hg⟩)
      rotate_left
      · exact ⟨rfl, .inr ⟨x, getFs_conf_err (by decide) (by decide) hG, rfl, grown_tr P1.gr hg⟩⟩
      have P2 := P1.go hr hg
      have HG := Lib.hid hG
      refine hK.out _ _ P2.sees (fun hHeld => ?_)
      have ho2 := ho.grown hg (by intro e; cases e; omega)
      clear hG hr hg hK K
      (try simp only [Act.put, List.setIfInBounds_toArray, List.set_cons_zero, List.set_cons_succ])
      refine wpAnyH_take (i := 8) (v := .agg (encP { baseP 9 f t with conf := ⟨ce, cr⟩ } { data := #[] } Vc.nil Vc.nil Vc.nil).toArray) rfl (by kernel_rfl) (by kernel_rfl) (by kernel_rfl) (fun _ _ _ h => h) (.inl ⟨by rfl, fun w' hS => by (go_simp; rfl)⟩) hHeld ?_
      (try simp only [Act.put, List.setIfInBounds_toArray, List.set_cons_zero, List.set_cons_succ])
      refine wpAnyH_ready (rs := [10]) (by kernel_rfl) (by simp) (AllReadyH.cons rfl (fun K hK => ?_) AllReadyH.nil)
      rw [if_pos (by rfl)]
      refine wp_store_row 35 (.tmp 5) (.tmp 14) rfl W0.heap.size _ rfl rfl 35 _ ho2 packet_size rfl (encP_one _ _ _ _ _) ?_
      refine hK.out _ _ (P2.row (by have := P2.res.lt; omega) _).sees (fun hHeld => ?_)
      refine wpAnyH_done (by kernel_rfl) ?_ _
      clear hK hHeld
      go_wp2_with fail
      go_meet
      exact ⟨W0.heap.size, a1, ⟨ce, cr⟩, rfl, HG, P2.st (by have := hlt1; omega) ho2⟩
  case rest =>
    obtain ⟨g, a1, c, rfl, HC, S⟩ := hcut
    clear P0
    have hne : g ≠ w.heap.size := by have := S.ge; omega
    have hne2 : w.heap.size ≠ g := by omega
    have HS := Lib.hid hs
    have HL : Hid (b < w.heap.size) := Lib.hid h.lt
    have c0 : wc.cell? ⟨g, 0, none⟩ = some (.int .i64 9) := S.row.at_ 0 _ rfl
    have c1 : wc.cell? ⟨g, 1, none⟩ = some (.int .i64 f) := S.row.at_ 1 _ rfl
    have c15 : wc.cell? ⟨g, 15, none⟩ = some (.int .i64 0) := S.row.at_ 15 _ rfl
    have hbox := S.box
    clear h hs
    have HR : Hid (getFs (rowP (baseP 9 f t)) (baseP 9 f t) (restB s a) = getFs [.w, .m] { baseP 9 f t with conf := c } (restB s a1)) := Lib.hid (getFs_conf (fs := [.w, .m]) rfl HC.out)
    clear HC
    clear c1
    go_wp2_with fail
    refine (rprocess _ b s a1 S.rd).mono ?_
    rintro e w1 (⟨v, _, a2, hG, rfl, rfl, hr, hg⟩ | ⟨x, hG, rfl, hg⟩)
    case inr => exact ⟨rfl, .inr ⟨x, by (rw [HR.out]; simp only [getFs, getF, hG, andG_ok, andG_err]), rfl, grown_tr S.gr hg⟩⟩
    have G1 := Lib.hid hG
    have S1 := S.go hr hg
    have S2 := S1.set 15 (.int .i64 v) (q' := { baseP 9 f t with conf := c, whom := v }) (T' := { data := #[] }) (vd' := Vc.nil) (vg' := Vc.nil) (vx' := Vc.nil) rfl ⟨rfl, OwnVec.nil _ _, OwnVec.nil _ _, OwnXs.nil _ _⟩
    have c15 : w1.cell? ⟨g, 15, none⟩ = some (.int .i64 0) := S1.row.at_ 15 _ rfl
    have f15 := S1.row.free 15
    have b1 := S1.box
    clear hG hr hg S hbox c0 S1
    go_wp2_with fail
    refine (rmessage _ b s a2 v HS.out S2.rd).mono ?_
    rintro e w2 (⟨m, _, a3, hG, rfl, ⟨T, v', rfl, hT, hv⟩, hr, hg⟩ | ⟨x, hG, rfl, hg⟩)
    case inr => exact ⟨rfl, .inr ⟨x, by (rw [HR.out]; show andG (andG (getP (restB s a1)) _) _ = _; rw [G1.out, andG_ok, andG_ok]; show andG (andG (getM v (restB s a2)) _) _ = _; rw [hG, andG_err, andG_err]), rfl, grown_tr S2.gr hg⟩⟩
    have HE : Hid (getFs (rowP (baseP 9 f t)) (baseP 9 f t) (restB s a) = .ok ({ baseP 9 f t with conf := c, whom := v, m := m }, restB s a3)) := Lib.hid (by rw [HR.out]; show andG (andG (getP (restB s a1)) _) _ = _; rw [G1.out, andG_ok, andG_ok]; show andG (andG (getM v (restB s a2)) _) _ = _; rw [hG, andG_ok, andG_ok]; rfl)
    have S3 := S2.go hr hg
    have SZ := S3.setM m hT (hv.mono S2.sz)
    clear b1 c15 f15
    have c5 : w2.cell? ⟨g, 5, none⟩ = some (.int .i64 0) := S3.row.at_ 5 _ rfl
    have f5 := S3.row.free 5
    have c6 : w2.cell? ⟨g, 6, none⟩ = some (.int .u32 0) := S3.row.at_ 6 _ rfl
    have f6 := S3.row.free 6
    have c7 : w2.cell? ⟨g, 7, none⟩ = some (.int .u64 0) := S3.row.at_ 7 _ rfl
    have f7 := S3.row.free 7
    have c8 : w2.cell? ⟨g, 8, none⟩ = some (.int .i64 0) := S3.row.at_ 8 _ rfl
    have f8 := S3.row.free 8
    have c9 : w2.cell? ⟨g, 9, none⟩ = some (.slice none 0 0) := S3.row.at_ 9 _ rfl
    have f9 := S3.row.free 9
    have c10 : w2.cell? ⟨g, 10, none⟩ = some (.string { data := #[] }) := S3.row.at_ 10 _ rfl
    have f10 := S3.row.free 10
    clear hG hr hg hT hv S2 HR
    obtain ⟨mf, mq, ms, mv, md, mt⟩ := m
    obtain ⟨va, vn, vc⟩ := v'
    dsimp only at SZ
    go_upto_region 21 with fail
    go_wp2_with (first | (refine load_packet rfl (.tmp 5) rfl g rfl SZ.row ?_) | (refine store_packet rfl (.tmp 4) (.tmp 93) rfl (w.heap.size + 2) rfl rfl SZ.res ?_))
    (try simp only [Exit.inBlock, Exit.then])
    
    refine bodyPost_ret (results_packet rfl _ _ (w.heap.size + 2) rfl (SZ.res.row _)) rfl ?_
    exact SZ.done (by rw [HE.out])
end Go.Proofs.Ytibngfpjdookkaa

/- Reading a packet's body: kind 10. (Written by wip/gen_rdall.py.) -/
set_option linter.unusedVariables false
set_option linter.unusedSimpArgs false
namespace Go.Proofs.Ytibngfpjdookkaa
open Go.RowKit Go.Sort
set_option maxHeartbeats 4000000 in
set_option maxRecDepth 100000 in
theorem rpacket_10 (w : World) (b : Nat) (s : ByteArray) (a : Nat) (f t : Int) (y : ByteArray) (hs : s.size ≤ 1099511627776) (h : Rd w b s a) :
    Calls Try.prog 22 #[.agg #[.pointer (some ⟨b, 0, none⟩)], .agg #[.int .i64 10, .int .i64 f, .int .i64 t, .string y]] w (RP (getFs (rowP (baseP 10 f t)) (baseP 10 f t)) (PkD w) w b s a) := by
  have P0 := Pre.new h 10 f t y
  rw [zeroPv_is] at P0
  have NC : Hid (∀ (c : PC), (encP { baseP 10 f t with conf := c } { data := #[] } Vc.nil Vc.nil Vc.nil).toArray.size = 22) := Lib.hid fun _ => rfl
  go_enter Try.func22, Try.ntmps22
  go_upto_region 1 with fail
  go_cut [5] (fun s5 wx => Cut w b s a 10 f t s5 wx)
  case first =>
    refine wp_region_held_drew (S := Sees w b 10 f t) (by kernel_rfl) P0.sees (fun hHeld => ?_)
    generalize (((w.alloc (.cells #[.pointer (some ⟨b, 0, none⟩)] 62)).alloc (.cells #[.int .i64 10, .int .i64 f, .int .i64 t, .string y] 56)).alloc (.cells #[.int .i64 0, .int .i64 0, .int .i64 0, .int .u64 0, .int .i64 0, .int .i64 0, .int .u32 0, .int .u64 0, .int .i64 0, .slice none 0 0, .string { data := #[] }, .int .u64 0, .int .u32 0, .slice none 0 0, .int .u64 0, .int .i64 0, .int .u32 0, .int .u64 0, .int .u64 0, .int .i64 0, .int .u64 0, .slice none 0 0] 35)).drew = W0 at *
    refine wpAnyH_take (i := 0) (v := .pointer (some ⟨w.heap.size + 1, 0, none⟩)) rfl (by kernel_rfl) (by kernel_rfl) (by kernel_rfl) (fun _ _ _ h => h) (.inl ⟨by rfl, fun w' hS => by (obtain ⟨s0, s1, s2, s3⟩ := hS; go_simp)⟩) hHeld ?_
    (try simp only [Act.put, List.setIfInBounds_toArray, List.set_cons_zero, List.set_cons_succ])
    refine wpAnyH_take (i := 1) (v := .int .i64 10) rfl (by kernel_rfl) (by kernel_rfl) (by kernel_rfl) (fun _ _ _ h => h) (.inl ⟨by rfl, fun w' hS => by (obtain ⟨s0, s1, s2, s3⟩ := hS; go_simp)⟩) hHeld ?_
    (try simp only [Act.put, List.setIfInBounds_toArray, List.set_cons_zero, List.set_cons_succ])
    refine wpAnyH_take (i := 2) (v := .pointer (some ⟨w.heap.size + 1, 1, none⟩)) rfl (by kernel_rfl) (by kernel_rfl) (by kernel_rfl) (fun _ _ _ h => h) (.inl ⟨by rfl, fun w' hS => by (obtain ⟨s0, s1, s2, s3⟩ := hS; go_simp)⟩) hHeld ?_
    (try simp only [Act.put, List.setIfInBounds_toArray, List.set_cons_zero, List.set_cons_succ])
    refine wpAnyH_take (i := 3) (v := .int .i64 f) rfl (by kernel_rfl) (by kernel_rfl) (by kernel_rfl) (fun _ _ _ h => h) (.inl ⟨by rfl, fun w' hS => by (obtain ⟨s0, s1, s2, s3⟩ := hS; go_simp)⟩) hHeld ?_
    (try simp only [Act.put, List.setIfInBounds_toArray, List.set_cons_zero, List.set_cons_succ])
    refine wpAnyH_take (i := 4) (v := .pointer (some ⟨w.heap.size + 1, 2, none⟩)) rfl (by kernel_rfl) (by kernel_rfl) (by kernel_rfl) (fun _ _ _ h => h) (.inl ⟨by rfl, fun w' hS => by (obtain ⟨s0, s1, s2, s3⟩ := hS; go_simp)⟩) hHeld ?_
    (try simp only [Act.put, List.setIfInBounds_toArray, List.set_cons_zero, List.set_cons_succ])
    refine wpAnyH_take (i := 5) (v := .int .i64 t) rfl (by kernel_rfl) (by kernel_rfl) (by kernel_rfl) (fun _ _ _ h => h) (.inl ⟨by rfl, fun w' hS => by (obtain ⟨s0, s1, s2, s3⟩ := hS; go_simp)⟩) hHeld ?_
    (try simp only [Act.put, List.setIfInBounds_toArray, List.set_cons_zero, List.set_cons_succ])
    refine wpAnyH_take (i := 6) (v := .agg #[.pointer (some ⟨b, 0, none⟩)]) rfl (by kernel_rfl) (by kernel_rfl) (by kernel_rfl) (fun _ _ _ h => h) (.inl ⟨by rfl, fun w' hS => by (obtain ⟨s0, s1, s2, s3⟩ := hS; go_simp)⟩) hHeld ?_
    (try simp only [Act.put, List.setIfInBounds_toArray, List.set_cons_zero, List.set_cons_succ])
    refine wpAnyH_ready (rs := [7, 9]) (by kernel_rfl) (by simp) (AllReadyH.cons rfl (fun K hK => ?_) (AllReadyH.cons rfl (fun K hK => ?_) AllReadyH.nil))
    · clear hHeld
      rw [if_pos (by rfl)]
      go_simp
      refine (rconf _ b s a P0.rd).mono ?_
      rintro e w1 (⟨⟨ce, cr⟩, _, a1, hG, rfl, rfl, hr, hg⟩ | ⟨x, hG, rfl, hg⟩)
      rotate_left
      · exact ⟨rfl, .inr ⟨x, getFs_conf_err (by decide) (by decide) hG, rfl, grown_tr P0.gr hg⟩⟩
      have P1 := P0.go hr hg
      have HG := Lib.hid hG
      refine hK.out _ _ P1.sees (fun hHeld => ?_)
      clear hG hr hg hK K
      (try simp only [Act.put, List.setIfInBounds_toArray, List.set_cons_zero, List.set_cons_succ])
      refine wpAnyH_take (i := 8) (v := .agg (encP { baseP 10 f t with conf := ⟨ce, cr⟩ } { data := #[] } Vc.nil Vc.nil Vc.nil).toArray) rfl (by kernel_rfl) (by kernel_rfl) (by kernel_rfl) (fun _ _ _ h => h) (.inl ⟨by rfl, fun w' hS => by (go_simp; rfl)⟩) hHeld ?_
      (try simp only [Act.put, List.setIfInBounds_toArray, List.set_cons_zero, List.set_cons_succ])
      refine wpAnyH_ready (rs := [9]) (by kernel_rfl) (by simp) (AllReadyH.cons rfl (fun K hK => ?_) AllReadyH.nil)
      rw [if_pos (by rfl)]
      go_simp
      have ho : Own (w1.alloc (.cells zeroPv 35)) w1.heap.size 35 zeroPv := Own.new _ _ _
      have P2 := P1.alloc (.cells zeroPv 35)
      rw [zeroPv_is] at ho P2
      have hlt1 := P1.res.lt
      refine hK.out _ _ P2.sees (fun hHeld => ?_)
      clear hK K
      (try simp only [Act.put, List.setIfInBounds_toArray, List.set_cons_zero, List.set_cons_succ])
      refine wpAnyH_ready (rs := [10]) (by kernel_rfl) (by simp) (AllReadyH.cons rfl (fun K hK => ?_) AllReadyH.nil)
      rw [if_pos (by rfl)]
      refine wp_store_row 35 (.tmp 5) (.tmp 14) rfl w1.heap.size _ rfl rfl 35 _ ho packet_size rfl (encP_one _ _ _ _ _) ?_
      refine hK.out _ _ (P2.row (by have := P2.res.lt; omega) _).sees (fun hHeld => ?_)
      refine wpAnyH_done (by kernel_rfl) ?_ _
      clear hK hHeld
      go_wp2_with fail
      go_meet
      exact ⟨w1.heap.size, a1, ⟨ce, cr⟩, rfl, HG, P2.st (by have := hlt1; omega) ho⟩
    · clear hHeld
      rw [if_pos (by rfl)]
      go_simp
      have ho : Own (W0.alloc (.cells zeroPv 35)) W0.heap.size 35 zeroPv := Own.new _ _ _
      have P1 := P0.alloc (.cells zeroPv 35)
      rw [zeroPv_is] at ho P1
      have hlt1 := P0.res.lt
      have hlt0 := P0.lt
      refine hK.out _ _ P1.sees (fun hHeld => ?_)
      clear hK K
      (try simp only [Act.put, List.setIfInBounds_toArray, List.set_cons_zero, List.set_cons_succ])
      refine wpAnyH_ready (rs := [7]) (by kernel_rfl) (by simp) (AllReadyH.cons rfl (fun K hK => ?_) AllReadyH.nil)
      clear hHeld
      rw [if_pos (by rfl)]
      go_simp
      refine (rconf _ b s a P1.rd).mono ?_
      rintro e w1 (⟨⟨ce, cr⟩, _, a1, hG, rfl, rfl, hr, hg⟩ | ⟨x, hG, rfl, hg⟩)
      rotate_left
      · exact ⟨rfl, .inr ⟨x, getFs_conf_err (by decide) (by decide) hG, rfl, grown_tr P1.gr hg⟩⟩
      have P2 := P1.go hr hg
      have HG := Lib.hid hG
      refine hK.out _ _ P2.sees (fun hHeld => ?_)
      have ho2 := ho.grown hg (by intro e; cases e; omega)
      clear hG hr hg hK K
      (try simp only [Act.put, List.setIfInBounds_toArray, List.set_cons_zero, List.set_cons_succ])
      refine wpAnyH_take (i := 8) (v := .agg (encP { baseP 10 f t with conf := ⟨ce, cr⟩ } { data := #[] } Vc.nil Vc.nil Vc.nil).toArray) rfl (by kernel_rfl) (by kernel_rfl) (by kernel_rfl) (fun _ _ _ h => h) (.inl ⟨by rfl, fun w' hS => by (go_simp; rfl)⟩) hHeld ?_
      (try simp only [Act.put, List.setIfInBounds_toArray, List.set_cons_zero, List.set_cons_succ])
      refine wpAnyH_ready (rs := [10]) (by kernel_rfl) (by simp) (AllReadyH.cons rfl (fun K hK => ?_) AllReadyH.nil)
      rw [if_pos (by rfl)]
      refine wp_store_row 35 (.tmp 5) (.tmp 14) rfl W0.heap.size _ rfl rfl 35 _ ho2 packet_size rfl (encP_one _ _ _ _ _) ?_
      refine hK.out _ _ (P2.row (by have := P2.res.lt; omega) _).sees (fun hHeld => ?_)
      refine wpAnyH_done (by kernel_rfl) ?_ _
      clear hK hHeld
      go_wp2_with fail
      go_meet
      exact ⟨W0.heap.size, a1, ⟨ce, cr⟩, rfl, HG, P2.st (by have := hlt1; omega) ho2⟩
  case rest =>
    obtain ⟨g, a1, c, rfl, HC, S⟩ := hcut
    clear P0
    have hne : g ≠ w.heap.size := by have := S.ge; omega
    have hne2 : w.heap.size ≠ g := by omega
    have HS := Lib.hid hs
    have HL : Hid (b < w.heap.size) := Lib.hid h.lt
    have c0 : wc.cell? ⟨g, 0, none⟩ = some (.int .i64 10) := S.row.at_ 0 _ rfl
    have c1 : wc.cell? ⟨g, 1, none⟩ = some (.int .i64 f) := S.row.at_ 1 _ rfl
    have c15 : wc.cell? ⟨g, 15, none⟩ = some (.int .i64 0) := S.row.at_ 15 _ rfl
    have hbox := S.box
    clear h hs
    have HR : Hid (getFs (rowP (baseP 10 f t)) (baseP 10 f t) (restB s a) = getFs [] { baseP 10 f t with conf := c } (restB s a1)) := Lib.hid (getFs_conf (fs := []) rfl HC.out)
    clear HC
    have SZ := S
    have HE : Hid (getFs (rowP (baseP 10 f t)) (baseP 10 f t) (restB s a) = .ok ({ baseP 10 f t with conf := c }, restB s a1)) := Lib.hid (by rw [HR.out]; simp only [getFs, getF, andG_ok])
    clear c1 c15
    go_upto_region 21 with fail
    go_wp2_with (first | (refine load_packet rfl (.tmp 5) rfl g rfl SZ.row ?_) | (refine store_packet rfl (.tmp 4) (.tmp 93) rfl (w.heap.size + 2) rfl rfl SZ.res ?_))
    (try simp only [Exit.inBlock, Exit.then])
    
    refine bodyPost_ret (results_packet rfl _ _ (w.heap.size + 2) rfl (SZ.res.row _)) rfl ?_
    exact SZ.done (by rw [HE.out])
end Go.Proofs.Ytibngfpjdookkaa

/- Reading a packet's body: kind 11. (Written by wip/gen_rdall.py.) -/
set_option linter.unusedVariables false
set_option linter.unusedSimpArgs false
namespace Go.Proofs.Ytibngfpjdookkaa
open Go.RowKit Go.Sort
set_option maxHeartbeats 4000000 in
set_option maxRecDepth 100000 in
theorem rpacket_11 (w : World) (b : Nat) (s : ByteArray) (a : Nat) (f t : Int) (y : ByteArray) (hs : s.size ≤ 1099511627776) (h : Rd w b s a) :
    Calls Try.prog 22 #[.agg #[.pointer (some ⟨b, 0, none⟩)], .agg #[.int .i64 11, .int .i64 f, .int .i64 t, .string y]] w (RP (getFs (rowP (baseP 11 f t)) (baseP 11 f t)) (PkD w) w b s a) := by
  have P0 := Pre.new h 11 f t y
  rw [zeroPv_is] at P0
  have NC : Hid (∀ (c : PC), (encP { baseP 11 f t with conf := c } { data := #[] } Vc.nil Vc.nil Vc.nil).toArray.size = 22) := Lib.hid fun _ => rfl
  go_enter Try.func22, Try.ntmps22
  go_upto_region 1 with fail
  go_cut [5] (fun s5 wx => Cut w b s a 11 f t s5 wx)
  case first =>
    refine wp_region_held_drew (S := Sees w b 11 f t) (by kernel_rfl) P0.sees (fun hHeld => ?_)
    generalize (((w.alloc (.cells #[.pointer (some ⟨b, 0, none⟩)] 62)).alloc (.cells #[.int .i64 11, .int .i64 f, .int .i64 t, .string y] 56)).alloc (.cells #[.int .i64 0, .int .i64 0, .int .i64 0, .int .u64 0, .int .i64 0, .int .i64 0, .int .u32 0, .int .u64 0, .int .i64 0, .slice none 0 0, .string { data := #[] }, .int .u64 0, .int .u32 0, .slice none 0 0, .int .u64 0, .int .i64 0, .int .u32 0, .int .u64 0, .int .u64 0, .int .i64 0, .int .u64 0, .slice none 0 0] 35)).drew = W0 at *
    refine wpAnyH_take (i := 0) (v := .pointer (some ⟨w.heap.size + 1, 0, none⟩)) rfl (by kernel_rfl) (by kernel_rfl) (by kernel_rfl) (fun _ _ _ h => h) (.inl ⟨by rfl, fun w' hS => by (obtain ⟨s0, s1, s2, s3⟩ := hS; go_simp)⟩) hHeld ?_
    (try simp only [Act.put, List.setIfInBounds_toArray, List.set_cons_zero, List.set_cons_succ])
    refine wpAnyH_take (i := 1) (v := .int .i64 11) rfl (by kernel_rfl) (by kernel_rfl) (by kernel_rfl) (fun _ _ _ h => h) (.inl ⟨by rfl, fun w' hS => by (obtain ⟨s0, s1, s2, s3⟩ := hS; go_simp)⟩) hHeld ?_
    (try simp only [Act.put, List.setIfInBounds_toArray, List.set_cons_zero, List.set_cons_succ])
    refine wpAnyH_take (i := 2) (v := .pointer (some ⟨w.heap.size + 1, 1, none⟩)) rfl (by kernel_rfl) (by kernel_rfl) (by kernel_rfl) (fun _ _ _ h => h) (.inl ⟨by rfl, fun w' hS => by (obtain ⟨s0, s1, s2, s3⟩ := hS; go_simp)⟩) hHeld ?_
    (try simp only [Act.put, List.setIfInBounds_toArray, List.set_cons_zero, List.set_cons_succ])
    refine wpAnyH_take (i := 3) (v := .int .i64 f) rfl (by kernel_rfl) (by kernel_rfl) (by kernel_rfl) (fun _ _ _ h => h) (.inl ⟨by rfl, fun w' hS => by (obtain ⟨s0, s1, s2, s3⟩ := hS; go_simp)⟩) hHeld ?_
    (try simp only [Act.put, List.setIfInBounds_toArray, List.set_cons_zero, List.set_cons_succ])
    refine wpAnyH_take (i := 4) (v := .pointer (some ⟨w.heap.size + 1, 2, none⟩)) rfl (by kernel_rfl) (by kernel_rfl) (by kernel_rfl) (fun _ _ _ h => h) (.inl ⟨by rfl, fun w' hS => by (obtain ⟨s0, s1, s2, s3⟩ := hS; go_simp)⟩) hHeld ?_
    (try simp only [Act.put, List.setIfInBounds_toArray, List.set_cons_zero, List.set_cons_succ])
    refine wpAnyH_take (i := 5) (v := .int .i64 t) rfl (by kernel_rfl) (by kernel_rfl) (by kernel_rfl) (fun _ _ _ h => h) (.inl ⟨by rfl, fun w' hS => by (obtain ⟨s0, s1, s2, s3⟩ := hS; go_simp)⟩) hHeld ?_
    (try simp only [Act.put, List.setIfInBounds_toArray, List.set_cons_zero, List.set_cons_succ])
    refine wpAnyH_take (i := 6) (v := .agg #[.pointer (some ⟨b, 0, none⟩)]) rfl (by kernel_rfl) (by kernel_rfl) (by kernel_rfl) (fun _ _ _ h => h) (.inl ⟨by rfl, fun w' hS => by (obtain ⟨s0, s1, s2, s3⟩ := hS; go_simp)⟩) hHeld ?_
    (try simp only [Act.put, List.setIfInBounds_toArray, List.set_cons_zero, List.set_cons_succ])
    refine wpAnyH_ready (rs := [7, 9]) (by kernel_rfl) (by simp) (AllReadyH.cons rfl (fun K hK => ?_) (AllReadyH.cons rfl (fun K hK => ?_) AllReadyH.nil))
    · clear hHeld
      rw [if_pos (by rfl)]
      go_simp
      refine (rconf _ b s a P0.rd).mono ?_
      rintro e w1 (⟨⟨ce, cr⟩, _, a1, hG, rfl, rfl, hr, hg⟩ | ⟨x, hG, rfl, hg⟩)
      rotate_left
      · exact ⟨rfl, .inr ⟨x, getFs_conf_err (by decide) (by decide) hG, rfl, grown_tr P0.gr hg⟩⟩
      have P1 := P0.go hr hg
      have HG := Lib.hid hG
      refine hK.out _ _ P1.sees (fun hHeld => ?_)
      clear hG hr hg hK K
      (try simp only [Act.put, List.setIfInBounds_toArray, List.set_cons_zero, List.set_cons_succ])
      refine wpAnyH_take (i := 8) (v := .agg (encP { baseP 11 f t with conf := ⟨ce, cr⟩ } { data := #[] } Vc.nil Vc.nil Vc.nil).toArray) rfl (by kernel_rfl) (by kernel_rfl) (by kernel_rfl) (fun _ _ _ h => h) (.inl ⟨by rfl, fun w' hS => by (go_simp; rfl)⟩) hHeld ?_
      (try simp only [Act.put, List.setIfInBounds_toArray, List.set_cons_zero, List.set_cons_succ])
      refine wpAnyH_ready (rs := [9]) (by kernel_rfl) (by simp) (AllReadyH.cons rfl (fun K hK => ?_) AllReadyH.nil)
      rw [if_pos (by rfl)]
      go_simp
      have ho : Own (w1.alloc (.cells zeroPv 35)) w1.heap.size 35 zeroPv := Own.new _ _ _
      have P2 := P1.alloc (.cells zeroPv 35)
      rw [zeroPv_is] at ho P2
      have hlt1 := P1.res.lt
      refine hK.out _ _ P2.sees (fun hHeld => ?_)
      clear hK K
      (try simp only [Act.put, List.setIfInBounds_toArray, List.set_cons_zero, List.set_cons_succ])
      refine wpAnyH_ready (rs := [10]) (by kernel_rfl) (by simp) (AllReadyH.cons rfl (fun K hK => ?_) AllReadyH.nil)
      rw [if_pos (by rfl)]
      refine wp_store_row 35 (.tmp 5) (.tmp 14) rfl w1.heap.size _ rfl rfl 35 _ ho packet_size rfl (encP_one _ _ _ _ _) ?_
      refine hK.out _ _ (P2.row (by have := P2.res.lt; omega) _).sees (fun hHeld => ?_)
      refine wpAnyH_done (by kernel_rfl) ?_ _
      clear hK hHeld
      go_wp2_with fail
      go_meet
      exact ⟨w1.heap.size, a1, ⟨ce, cr⟩, rfl, HG, P2.st (by have := hlt1; omega) ho⟩
    · clear hHeld
      rw [if_pos (by rfl)]
      go_simp
      have ho : Own (W0.alloc (.cells zeroPv 35)) W0.heap.size 35 zeroPv := Own.new _ _ _
      have P1 := P0.alloc (.cells zeroPv 35)
      rw [zeroPv_is] at ho P1
      have hlt1 := P0.res.lt
      have hlt0 := P0.lt
      refine hK.out _ _ P1.sees (fun hHeld => ?_)
      clear hK K
      (try simp only [Act.put, List.setIfInBounds_toArray, List.set_cons_zero, List.set_cons_succ])
      refine wpAnyH_ready (rs := [7]) (by kernel_rfl) (by simp) (AllReadyH.cons rfl (fun K hK => ?_) AllReadyH.nil)
      clear hHeld
      rw [if_pos (by rfl)]
      go_simp
      refine (rconf _ b s a P1.rd).mono ?_
      rintro e w1 (⟨⟨ce, cr⟩, _, a1, hG, rfl, rfl, hr, hg⟩ | ⟨x, hG, rfl, hg⟩)
      rotate_left
      · exact ⟨rfl, .inr ⟨x, getFs_conf_err (by decide) (by decide) hG, rfl, grown_tr P1.gr hg⟩⟩
      have P2 := P1.go hr hg
      have HG := Lib.hid hG
      refine hK.out _ _ P2.sees (fun hHeld => ?_)
      have ho2 := ho.grown hg (by intro e; cases e; omega)
      clear hG hr hg hK K
      (try simp only [Act.put, List.setIfInBounds_toArray, List.set_cons_zero, List.set_cons_succ])
      refine wpAnyH_take (i := 8) (v := .agg (encP { baseP 11 f t with conf := ⟨ce, cr⟩ } { data := #[] } Vc.nil Vc.nil Vc.nil).toArray) rfl (by kernel_rfl) (by kernel_rfl) (by kernel_rfl) (fun _ _ _ h => h) (.inl ⟨by rfl, fun w' hS => by (go_simp; rfl)⟩) hHeld ?_
      (try simp only [Act.put, List.setIfInBounds_toArray, List.set_cons_zero, List.set_cons_succ])
      refine wpAnyH_ready (rs := [10]) (by kernel_rfl) (by simp) (AllReadyH.cons rfl (fun K hK => ?_) AllReadyH.nil)
      rw [if_pos (by rfl)]
      refine wp_store_row 35 (.tmp 5) (.tmp 14) rfl W0.heap.size _ rfl rfl 35 _ ho2 packet_size rfl (encP_one _ _ _ _ _) ?_
      refine hK.out _ _ (P2.row (by have := P2.res.lt; omega) _).sees (fun hHeld => ?_)
      refine wpAnyH_done (by kernel_rfl) ?_ _
      clear hK hHeld
      go_wp2_with fail
      go_meet
      exact ⟨W0.heap.size, a1, ⟨ce, cr⟩, rfl, HG, P2.st (by have := hlt1; omega) ho2⟩
  case rest =>
    obtain ⟨g, a1, c, rfl, HC, S⟩ := hcut
    clear P0
    have hne : g ≠ w.heap.size := by have := S.ge; omega
    have hne2 : w.heap.size ≠ g := by omega
    have HS := Lib.hid hs
    have HL : Hid (b < w.heap.size) := Lib.hid h.lt
    have c0 : wc.cell? ⟨g, 0, none⟩ = some (.int .i64 11) := S.row.at_ 0 _ rfl
    have c1 : wc.cell? ⟨g, 1, none⟩ = some (.int .i64 f) := S.row.at_ 1 _ rfl
    have c15 : wc.cell? ⟨g, 15, none⟩ = some (.int .i64 0) := S.row.at_ 15 _ rfl
    have hbox := S.box
    clear h hs
    have HR : Hid (getFs (rowP (baseP 11 f t)) (baseP 11 f t) (restB s a) = getFs [] { baseP 11 f t with conf := c } (restB s a1)) := Lib.hid (getFs_conf (fs := []) rfl HC.out)
    clear HC
    have SZ := S
    have HE : Hid (getFs (rowP (baseP 11 f t)) (baseP 11 f t) (restB s a) = .ok ({ baseP 11 f t with conf := c }, restB s a1)) := Lib.hid (by rw [HR.out]; simp only [getFs, getF, andG_ok])
    clear c1 c15
    go_upto_region 21 with fail
    go_wp2_with (first | (refine load_packet rfl (.tmp 5) rfl g rfl SZ.row ?_) | (refine store_packet rfl (.tmp 4) (.tmp 93) rfl (w.heap.size + 2) rfl rfl SZ.res ?_))
    (try simp only [Exit.inBlock, Exit.then])
    
    refine bodyPost_ret (results_packet rfl _ _ (w.heap.size + 2) rfl (SZ.res.row _)) rfl ?_
    exact SZ.done (by rw [HE.out])
end Go.Proofs.Ytibngfpjdookkaa
