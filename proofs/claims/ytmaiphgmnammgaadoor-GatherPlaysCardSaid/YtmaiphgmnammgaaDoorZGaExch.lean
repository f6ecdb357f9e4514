/- Attempts: all exchanges. -/
import Derived.Test.YtmaiphgmnammgaaDoorZGaAdd
import Derived.Test.YtmaiphgmnammgaaDoorZSetLists
set_option linter.unusedVariables false
set_option maxRecDepth 100000
set_option linter.unusedSimpArgs false
namespace Go.Proofs.YtmaiphgmnammgaaDoor
open Go.RowKit Go.Sort Go.Maps

/-- All exchanges, by rising Who. -/
def exN (H : Int → Option Xg) (l : List Nat) : List Xg := l.filterMap fun (p : Nat) => H (p : Int)
def exL (S : Gt) : List Xg := exN S.H (lst S.M)
theorem exN_yes {H : Int → Option Xg} {l : List Nat} {k p : Nat} {x : Xg} (hk : l[k]? = some p) (hx : H (p : Int) = some x) : exN H (l.take (k + 1)) = exN H (l.take k) ++ [x] := by
  unfold exN
  rw [List.take_add_one, hk, List.filterMap_append]
  simp [hx]
theorem exN_no {H : Int → Option Xg} {l : List Nat} {k p : Nat} (hk : l[k]? = some p) (hx : H (p : Int) = none) : exN H (l.take (k + 1)) = exN H (l.take k) := by
  unfold exN
  rw [List.take_add_one, hk, List.filterMap_append]
  simp [hx]
/-- Amid the loop. -/
structure ExSt (w wr : World) (v : Value) (m : Nat) (X L : List Xg) : Prop where
  own : wr.ownsRow w.heap.size 38 6 v m (flat encXg X)
  len : X.length = m
  str : X.map stripX = L.map stripX
  xs : ∀ x ∈ X, XT wr x ∧ ∀ ad, x.a = some ad → w.heap.size ≤ ad.block
  bel : Below w.heap.size w wr
section
variable {w wr w' : World} {v v' : Value} {m : Nat} {X L : List Xg}
theorem ExSt.start (hb : Below w.heap.size w wr) : ExSt w wr (.slice none 0 0) 0 [] [] := ⟨World.ownsRow_nil _ _ _ _, rfl, rfl, (fun x hx => by cases hx), hb⟩
theorem ExSt.later (h : ExSt w wr v m X L) (hb : Below wr.heap.size wr w') : ExSt w w' v m X L :=
  ⟨own_stays h.own fun j _ hl => hb.block j hl, h.len, h.str, fun x hx => ⟨(h.xs x hx).1.below hb, (h.xs x hx).2⟩, h.bel.trans (hb.mono h.bel.size)⟩
theorem ExSt.base {w0 : World} (h : ExSt w wr v m X L) (hb : Below w0.heap.size w0 w) : ExSt w0 wr v m X L :=
  ⟨own_base h.own hb.size, h.len, h.str, fun x hx => ⟨(h.xs x hx).1, fun ad e => Nat.le_trans hb.size ((h.xs x hx).2 ad e)⟩, hb.trans (h.bel.mono hb.size)⟩
theorem ExSt.app (h : ExSt w wr v m X L) {x y : Xg} (hx : XT wr y) (hn : ∀ ad, y.a = some ad → w.heap.size ≤ ad.block) (hs : stripX y = stripX x)
    (ho : w'.ownsRow w.heap.size 38 6 v' (m + 1) (flat encXg (X ++ [y]))) (hg : wr.grownBy w' v.ownBlock) : ExSt w w' v' (m + 1) (X ++ [y]) (L ++ [x]) := by
  have kd : ∀ z, XT wr z → XT w' z := fun z hz => hz.kept fun ad ea => hg.block _ (hz.lt ad ea) fun e2 => by
    obtain ⟨_, cur, hc⟩ := own_typ15 h.own _ e2
    exact hz.ne ad ea hc (by decide) rfl
  refine ⟨ho, by rw [List.length_append, h.len]; rfl, by rw [List.map_append, List.map_append, h.str]; simp [hs], fun z hz => ?_, h.bel.grown hg h.bel.size fun k hk => own_behind h.own k hk⟩
  rcases List.mem_append.1 hz with hz | hz
  · exact ⟨kd z (h.xs z hz).1, (h.xs z hz).2⟩
  · rw [List.mem_singleton.1 hz]; exact ⟨kd y hx, hn⟩
end
/-- What Exchanges answers. -/
def ExSaid (w : World) (S : Gt) (e : Ending) (w' : World) : Prop :=
  ∃ a n c X, e = .returned (.slice a n c) ∧ ExSt w w' (.slice a n c) n X (exL S)
section
variable {w : World} {g mb : Nat} {S : Gt}
set_option maxHeartbeats 4000000 in
theorem gexch (h : GtB w g mb S) :
    Calls Tryd.prog 15 #[.pointer (some ⟨g, 0, none⟩)] w (ExSaid w S) := by
  have c2 := h.c2
  have PL := list_any S.M w h.ok.m
  have HH := Lib.hid h
  clear h
  go_enter Tryd.func15, Tryd.ntmps15
  go_wp2_with fail
  refine PL.mono ?_
  rintro e w1 ⟨rfl, hin, B1⟩
  have HIN := Lib.hid hin
  have HB1 := Lib.hid B1
  have hcd := card_le S.M
  have HLEN := Lib.hid (lst_length S.M)
  clear PL B1 hin c2
  obtain ⟨cd, hcdd⟩ : ∃ cd, cd = card S.M := ⟨_, rfl⟩
  rw [← hcdd] at HIN hcd HLEN
  try rw [← hcdd]
  clear hcdd
  obtain ⟨lb, hlb⟩ : ∃ lb, lb = w.heap.size := ⟨_, rfl⟩
  have HIN2 := HIN.out
  rw [← hlb] at HIN2
  try rw [← hlb]
  have HI := Lib.hid HIN2
  clear HIN2 HIN hlb
  have HS0 := Lib.hid (ExSt.start (Below.refl w1.heap.size w1))
  have HE0 := Lib.hid (show exN S.H ((lst S.M).take 0) = [] by rw [List.take_zero]; rfl)
  have HG1 := Lib.hid (HH.out.later HB1.out)
  go_wp2_with fail
  go_loopw [3, 12] (fun so si wr => ∃ (k m c : Nat) (a : Option Addr) (X : List Xg), k ≤ cd ∧ m ≤ k ∧ so = .slice a m c ∧ si = .int .i64 k ∧ Aside (ExSt w1 wr (.slice a m c) m X (exN S.H ((lst S.M).take k)))) (fun _ si _ => cd - (intOf si).toNat)
  case atStart => exact ⟨0, 0, 0, none, [], Nat.zero_le _, Nat.le_refl _, rfl, rfl, by rw [HE0.out]; exact HS0.out⟩
  case round =>
    clear HS0
    obtain ⟨k, m, c, a, X, hk, hm, rfl, rfl, HS⟩ := hrel
    by_cases hlt : k < cd
    · obtain ⟨p, hp⟩ : ∃ p, (lst S.M)[k]? = some p := ⟨_, List.getElem?_eq_getElem (by rw [HLEN.out]; exact hlt)⟩
      have hp64 := (lst_mem S.M p).1 (List.mem_of_getElem? hp)
      obtain ⟨ad, ead, hcell⟩ := HI.out.src k (p : Int) (by unfold ints; rw [List.getElem?_map, hp]; rfl)
      injection ead with ead
      subst ead
      rw [add_lit10, Nat.zero_add] at hcell
      have c0 := cell_later HS.out.bel hcell
      have HG := Lib.hid (HG1.out.later HS.out.bel)
      have PH := ghas HG.out (p : Int) (small64 p hp64.1)
      have HP := Lib.hid hp
      have h64 := hp64.1
      clear hcell hp hp64
      go_wp2_with fail
      refine PH.mono ?_
      rintro e w2 ⟨rfl, B2⟩
      have HS2 := Lib.hid (HS.out.later B2)
      have HG2 := Lib.hid (HG.out.later B2)
      clear PH B2 HS HG c0
      cases hx : S.H (p : Int) with
      | none =>
        have HE := Lib.hid (exN_no HP.out hx)
        have HS3 := HS2.out
        rw [← HE.out] at HS3
        have HS4 := Lib.hid HS3
        clear HE HS3 HS2 hx
        go_wp2
        go_roundw
        case rel => exact ⟨k + 1, m, c, a, X, by omega, by omega, rfl, by go_num, HS4.out⟩
        case measure => simp [intOf]; omega
      | some x =>
        have HE := Lib.hid (exN_yes HP.out hx)
        have c3 := HG2.out.c3
        have hl := (HG2.out.map.look mapX zeroX zeroXv (p : Int) (small64 p h64)).1
        rw [hx] at hl
        have hxt := HG2.out.xs _ _ hx
        have PO := gown x w2 hxt.at_ hxt.few hxt.u32
        have HSX := Lib.hid (show stripX x = stripX x from rfl)
        obtain ⟨f, oe, op, xa, xn, xc, ct, kn, kp⟩ := x
        unfold encXv encXg at hl PO
        simp only [Option.getD_some] at hl PO
        clear hxt
        go_wp2_with fail
        refine PO.mono ?_
        rintro e w3 ⟨y, rfl, hst, hyt, hyn, B3⟩
        have HS3 := Lib.hid (HS2.out.later B3)
        have L4 := ((Grw.refl w3).alloc (.cells (encXg y).toArray 38)).below
        have X4 := Lib.hid (XgB.new w3 y)
        have HS4 := Lib.hid (HS3.out.later L4)
        have HY4 := Lib.hid (hyt.below L4)
        have HYN := Lib.hid (show ∀ ad, y.a = some ad → w1.heap.size ≤ ad.block from fun ad e => by have := hyn ad e; have := HS2.out.bel.size; omega)
        have HST := Lib.hid hst
        clear PO hl hst hyt hyn B3 L4 HS3 HS2 HG2 c3 hx
        obtain ⟨yw, ye, yp, ya, yn, yc, yct, ykn, ykp⟩ := y
        unfold encXg at *
        simp only at X4 HS4 HY4
        rw [show encXv ⟨yw, ye, yp, ya, yn, yc, yct, ⟨ykn, ykp⟩⟩ = .agg #[.int .i64 yw, .int .u64 ye, .int .i64 yp, .slice ya yn yc, .int .u64 ykn, .int .i64 ykp] from rfl]
        go_wp2_with (at_builtin; refine append_xg _ rfl (.tmp 19) (.tmp 27) rfl w1.heap.size (.slice a m c) m _ rfl HS4.out.own (some ⟨w3.heap.size, 0, none⟩) 1 1 [⟨yw, ye, yp, ya, yn, yc, yct, ⟨ykn, ykp⟩⟩] rfl (fun h => by cases h) (lst_xg1 X4.out) (by omega) HS4.out.bel.size ?_; intro v5 w5 hown hgrow)
        rw [← flat_append] at hown
        obtain ⟨a5, c5, rfl⟩ := own_form' hown
        have HS5 := HS4.out.app HY4.out HYN.out HST.out hown hgrow
        rw [← HE.out] at HS5
        have HS6 := Lib.hid HS5
        clear hown hgrow HS5 HS4 HY4 X4
        go_roundw
        case rel => exact ⟨k + 1, m + 1, c5, a5, _, by omega, by omega, rfl, by go_num, HS6.out⟩
        case measure => simp [intOf]; omega
    · obtain rfl : k = cd := by omega
      have HF := HS.out
      rw [List.take_of_length_le (by rw [HLEN.out]; exact Nat.le_refl _)] at HF
      have HF2 := Lib.hid (HF.base HB1.out)
      clear HF HS
      go_wp2
      go_ret
      exact ⟨a, m, c, X, rfl, HF2.out⟩
end
end Go.Proofs.YtmaiphgmnammgaaDoor
