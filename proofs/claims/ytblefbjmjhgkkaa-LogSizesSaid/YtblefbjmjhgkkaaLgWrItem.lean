/- Layer 19: writing a stable record, an item. (Written by wip/gen_lgwritem.py.) -/
import Derived.Test.YtblefbjmjhgkkaaLgWrRec
import Derived.Test.YtblefbjmjhgkkaaLgItem
set_option linter.unusedVariables false
set_option maxRecDepth 100000
set_option linter.unusedSimpArgs false
namespace Go.Proofs.Ytblefbjmjhgkkaa
open Go.RowKit Go.Sort

/-- A record anywhere below a bound is one that is written so. -/
theorem wrec' (B g : Nat) (l : List UInt8) (w0 w : World) (h : Wr B g w l) (hu : Und B w0 w) (rn re : Nat) (rr : Int) (rm : Nat) (L : List Vw) (a : Option Addr) (k c : Nat) (hx : RcIn w0 ⟨⟨⟨rn, re, rr, rm⟩, L⟩, a, k, c⟩) (hxk : k ≤ 1099511627776) (hl : l.length ≤ 1099500000000) :
    Calls Try.prog 57 #[.pointer (some ⟨g, 0, none⟩), .agg #[.int .u64 (rn : Int), .int .u64 (re : Int), .int .i64 rr, .int .u64 (rm : Int), .slice a k c]] w (WP (errRec ⟨⟨rn, re, rr, rm⟩, L⟩) (putRec ⟨⟨rn, re, rr, rm⟩, L⟩) B g l w) :=
  wrecord B g l w0 w h hu ⟨⟨⟨rn, re, rr, rm⟩, L⟩, a, k, c⟩ hx hxk hl
set_option maxHeartbeats 4000000 in
theorem wstable (B g : Nat) (l : List UInt8) (w0 w : World) (h : Wr B g w l) (hu : Und B w0 w) (x : Stb) (a : Option Addr) (k c : Nat) (hx : RcIn w0 ⟨x.r, a, k, c⟩) (hep : x.ep < 18446744073709551616) (hinc : x.inc < 4294967296) (hxk : k ≤ 1099511627776) (hl : l.length ≤ 1099400000000) :
    Calls Try.prog 36 #[.pointer (some ⟨g, 0, none⟩), .agg (encS x a k c).toArray] w (WP (errRec x.r) (putS x) B g l w) := by
  obtain ⟨ep, ic, ⟨⟨rn, re, rr, rm⟩, L⟩⟩ := x
  simp only at hx hep hinc ⊢
  have HPS := Lib.hid (show putS ⟨ep, ic, ⟨⟨rn, re, rr, rm⟩, L⟩⟩ = pb 1 1 ++ (pb 8 ep ++ (pb 4 ic ++ putRec ⟨⟨rn, re, rr, rm⟩, L⟩)) from rfl)
  have HW := Lib.hid (fun W l (hW : Wr B g W l) (hU : Und B w0 W) (hl : l.length ≤ 1099500000000) => wrec' B g l w0 W hW hU rn re rr rm L a k c hx hxk hl)
  generalize errRec ⟨⟨rn, re, rr, rm⟩, L⟩ = er at *
  generalize putRec ⟨⟨rn, re, rr, rm⟩, L⟩ = pr at *
  generalize putS ⟨ep, ic, ⟨⟨rn, re, rr, rm⟩, L⟩⟩ = ps at *
  have hle := h.le
  have hlt := h.lt
  have HU := Lib.hid hu
  show Calls Try.prog 36 #[.pointer (some ⟨g, 0, none⟩), .agg #[.int .u64 (ep : Int), .int .u32 (ic : Int), .int .u64 (rn : Int), .int .u64 (re : Int), .int .i64 rr, .int .u64 (rm : Int), .slice a k c]] w (WP er ps B g l w)
  have O0 := Own.new w 33 #[.int .u64 (ep : Int), .int .u32 (ic : Int), .int .u64 (rn : Int), .int .u64 (re : Int), .int .i64 rr, .int .u64 (rm : Int), .slice a k c]
  have H0 := h.later ((Grw.refl w).alloc (.cells #[.int .u64 (ep : Int), .int .u32 (ic : Int), .int .u64 (rn : Int), .int .u64 (re : Int), .int .i64 rr, .int .u64 (rm : Int), .slice a k c] 33)).below
  have K0 := wrote_alloc (B := B) (g := g) hle (.cells #[.int .u64 (ep : Int), .int .u32 (ic : Int), .int .u64 (rn : Int), .int .u64 (re : Int), .int .i64 rr, .int .u64 (rm : Int), .slice a k c] 33)
  clear hx hxk h hu
  go_enter Try.func36, Try.ntmps36
  go_wp2_with fail
  refine (wput B g l _ H0 1 1 1 (by decide) (by decide) (by decide) (by decide) (by omega)).mono ?_
  rintro e w1 ⟨rfl, H1, K1⟩
  have O1 := O0.wrote K1 (by omega) (by decide)
  have K1 := K0.trans K1
  have c0 := O1.at_ 0 _ rfl
  clear O0 H0 K0
  go_wp2_with fail
  refine (wput B g _ _ H1 ep 8 8 (by decide) (by decide) (by decide) hep (by rw [List.length_append, pb_length]; omega)).mono ?_
  rintro e w2 ⟨rfl, H2, K2⟩
  have O2 := O1.wrote K2 (by omega) (by decide)
  have K2 := K1.trans K2
  have c1 := O2.at_ 1 _ rfl
  clear O1 H1 K1 c0
  go_wp2_with fail
  refine (wput B g _ _ H2 ic 4 4 (by decide) (by decide) (by decide) (by omega) (by rw [List.length_append, List.length_append, pb_length, pb_length]; omega)).mono ?_
  rintro e w3 ⟨rfl, H3, K3⟩
  have O3 := O2.wrote K3 (by omega) (by decide)
  have K3 := K2.trans K3
  have c2 := O3.at_ 2 _ rfl
  have c3 := O3.at_ 3 _ rfl
  have c4 := O3.at_ 4 _ rfl
  have c5 := O3.at_ 5 _ rfl
  have c6 := O3.at_ 6 _ rfl
  clear O2 H2 K2 c1
  go_wp2_with fail
  refine (HW.out _ _ H3 (HU.out.later K3) (by rw [List.length_append, List.length_append, List.length_append, pb_length, pb_length, pb_length]; omega)).mono ?_
  rintro e w4 (⟨hc, rfl, H4, K4⟩ | ⟨hc, rfl, K4⟩)
  rotate_left
  · exact ⟨rfl, .inr ⟨hc, rfl, K3.trans K4⟩⟩
  have HC := Lib.hid hc
  have K4 := K3.trans K4
  clear O3 H3 K3 c2 c3 c4 c5 c6 hc HW
  go_wp2
  go_end0
  refine .inl ⟨HC.out, rfl, ?_, K4⟩
  rw [HPS.out]
  simpa only [List.append_assoc] using H4
set_option maxHeartbeats 1000000 in
theorem wflags (B g : Nat) (l : List UInt8) (w : World) (h : Wr B g w l) (p q : Bool) (hl : l.length ≤ 1099511000000) :
    Calls Try.prog 60 #[.pointer (some ⟨g, 0, none⟩), .bool p, .bool q] w fun e w' => e = .returned (.tuple #[]) ∧ Wr B g w' (l ++ pb 1 (flagsN p q)) ∧ Wrote B g w w' := by
  have HW := fun (n : Nat) (hn : n < 256) => wput B g l _ h n 1 1 (by decide) (by decide) (by decide) (by omega) hl
  have H0 := HW 0 (by decide)
  have H1 := HW 1 (by decide)
  have H2 := HW 2 (by decide)
  have H3 := HW 3 (by decide)
  clear HW
  cases p <;> cases q
  · clear H1 H2 H3
    go_enter Try.func60, Try.ntmps60
    go_wp2_with fail
    refine H0.mono ?_
    rintro e w1 ⟨rfl, A1, K1⟩
    go_wp2
    go_end0
    exact ⟨rfl, A1, K1⟩
  · clear H0 H1 H3
    go_enter Try.func60, Try.ntmps60
    go_wp2_with fail
    refine H2.mono ?_
    rintro e w1 ⟨rfl, A1, K1⟩
    go_wp2
    go_end0
    exact ⟨rfl, A1, K1⟩
  · clear H0 H2 H3
    go_enter Try.func60, Try.ntmps60
    go_wp2_with fail
    refine H1.mono ?_
    rintro e w1 ⟨rfl, A1, K1⟩
    go_wp2
    go_end0
    exact ⟨rfl, A1, K1⟩
  · clear H0 H1 H2
    go_enter Try.func60, Try.ntmps60
    go_wp2_with fail
    refine H3.mono ?_
    rintro e w1 ⟨rfl, A1, K1⟩
    go_wp2
    go_end0
    exact ⟨rfl, A1, K1⟩
set_option maxHeartbeats 4000000 in
theorem witem_1 (B g : Nat) (l : List UInt8) (w0 w : World) (h : Wr B g w l) (hu : Und B w0 w) (xd : List UInt8) (T : ByteArray) (xi xh : Nat) (xa xb : Bool) (rn re : Nat) (rr : Int) (rm : Nat) (L : List Vw) (a : Option Addr) (pk pc : Nat) (vn ve : Nat) (vr : Int) (vm xn : Nat) (xx xt : Int)
    (hT : T.data.toList = xd) (hTs : T.size ≤ 1000000) (hok : ((⟨1, xd, xi, xh, xa, xb, ⟨⟨rn, re, rr, rm⟩, L⟩, ⟨vn, ve, vr, vm⟩, xn, xx, xt⟩ : Itm)).ok) (hx : RcIn w0 ⟨⟨⟨rn, re, rr, rm⟩, L⟩, a, pk, pc⟩) (hxk : pk ≤ 1099511627776) (hl : l.length ≤ 1099300000000) :
    Calls Try.prog 39 #[.pointer (some ⟨g, 0, none⟩), .agg #[.int .i64 1, .string T, .int .u32 (xi : Int), .int .u64 (xh : Int), .bool xa, .bool xb, .int .u64 (rn : Int), .int .u64 (re : Int), .int .i64 rr, .int .u64 (rm : Int), .slice a pk pc, .int .u64 (vn : Int), .int .u64 (ve : Int), .int .i64 vr, .int .u64 (vm : Int), .int .u64 (xn : Int), .int .i64 xx, .int .i64 xt]] w (WP (errI (⟨1, xd, xi, xh, xa, xb, ⟨⟨rn, re, rr, rm⟩, L⟩, ⟨vn, ve, vr, vm⟩, xn, xx, xt⟩ : Itm)) (putI (⟨1, xd, xi, xh, xa, xb, ⟨⟨rn, re, rr, rm⟩, L⟩, ⟨vn, ve, vr, vm⟩, xn, xx, xt⟩ : Itm)) B g l w) := by
  have h1 := hok.inc
  have h2 := hok.holds
  have h3 := hok.view
  have h4 := hok.num
  simp only at h1 h2 h3 h4
  have hTl : T.data.toList.length = T.size := by rw [Array.length_toList]; rfl
  have HEI := Lib.hid (show errI (⟨1, xd, xi, xh, xa, xb, ⟨⟨rn, re, rr, rm⟩, L⟩, ⟨vn, ve, vr, vm⟩, xn, xx, xt⟩ : Itm) = 0 from rfl)
  have HPI := Lib.hid (show putI (⟨1, xd, xi, xh, xa, xb, ⟨⟨rn, re, rr, rm⟩, L⟩, ⟨vn, ve, vr, vm⟩, xn, xx, xt⟩ : Itm) = pb 1 1 ++ xd from rfl)
  generalize errI (⟨1, xd, xi, xh, xa, xb, ⟨⟨rn, re, rr, rm⟩, L⟩, ⟨vn, ve, vr, vm⟩, xn, xx, xt⟩ : Itm) = ei at *
  generalize putI (⟨1, xd, xi, xh, xa, xb, ⟨⟨rn, re, rr, rm⟩, L⟩, ⟨vn, ve, vr, vm⟩, xn, xx, xt⟩ : Itm) = pi at *
  have hle := h.le
  have hlt := h.lt
  have HU := Lib.hid hu
  have HT := Lib.hid hT
  have HTl := Lib.hid hTl
  have HW := Lib.hid (fun W l (hW : Wr B g W l) (hU : Und B w0 W) (hl : l.length ≤ 1099500000000) => wrec' B g l w0 W hW hU rn re rr rm L a pk pc hx hxk hl)
  have O0 := Own.new w 43 #[.int .i64 1, .string T, .int .u32 (xi : Int), .int .u64 (xh : Int), .bool xa, .bool xb, .int .u64 (rn : Int), .int .u64 (re : Int), .int .i64 rr, .int .u64 (rm : Int), .slice a pk pc, .int .u64 (vn : Int), .int .u64 (ve : Int), .int .i64 vr, .int .u64 (vm : Int), .int .u64 (xn : Int), .int .i64 xx, .int .i64 xt]
  have H0 := h.later ((Grw.refl w).alloc (.cells #[.int .i64 1, .string T, .int .u32 (xi : Int), .int .u64 (xh : Int), .bool xa, .bool xb, .int .u64 (rn : Int), .int .u64 (re : Int), .int .i64 rr, .int .u64 (rm : Int), .slice a pk pc, .int .u64 (vn : Int), .int .u64 (ve : Int), .int .i64 vr, .int .u64 (vm : Int), .int .u64 (xn : Int), .int .i64 xx, .int .i64 xt] 43)).below
  have K0 := wrote_alloc (B := B) (g := g) hle (.cells #[.int .i64 1, .string T, .int .u32 (xi : Int), .int .u64 (xh : Int), .bool xa, .bool xb, .int .u64 (rn : Int), .int .u64 (re : Int), .int .i64 rr, .int .u64 (rm : Int), .slice a pk pc, .int .u64 (vn : Int), .int .u64 (ve : Int), .int .i64 vr, .int .u64 (vm : Int), .int .u64 (xn : Int), .int .i64 xx, .int .i64 xt] 43)
  have c0 := O0.at_ 0 _ rfl
  clear hx hxk h hu hT hTl hok
  generalize hw0 : w.alloc (.cells #[.int .i64 1, .string T, .int .u32 (xi : Int), .int .u64 (xh : Int), .bool xa, .bool xb, .int .u64 (rn : Int), .int .u64 (re : Int), .int .i64 rr, .int .u64 (rm : Int), .slice a pk pc, .int .u64 (vn : Int), .int .u64 (ve : Int), .int .i64 vr, .int .u64 (vm : Int), .int .u64 (xn : Int), .int .i64 xx, .int .i64 xt] 43) = W0 at *
  go_enter Try.func39, Try.ntmps39
  go_upto_region 1 with fail
  try rw [hw0]
  clear hw0
  go_wp2_with fail
  refine (wsmall B g _ _ H0 1 1 1 4 10 1 (by decide) (by decide) (by decide) (by decide) (by decide) (by decide) (by omega)).mono ?_
  rintro e w1 (⟨hc, rfl, H1, K1⟩ | ⟨hc, rfl, K1⟩)
  rotate_left
  · exact absurd (if_pos ⟨by decide, by decide⟩) hc
  have O1 := O0.wrote K1 (by omega) (by decide)
  have K1 := K0.trans K1
  clear O0 H0 K0 c0 hc
  have c0 := O1.at_ 0 _ rfl
  rw [show pb 1 (1 : Int).toNat = pb 1 1 from rfl] at H1
  have c1 := O1.at_ 1 _ rfl
  have HS := Lib.hid (fun W (hW : Wr B g W (l ++ pb 1 1)) => wwriteString B g _ W hW T (by simp only [List.length_append, pb_length, putVw_length, HTl.out]; omega))
  have H1d := Wr.later H1 (Grw.refl w1).drew.below
  have K1d := K1.trans (Wrote.grw (B := B) (g := g) (Grw.refl w1).drew (by have := H1.le; omega))
  go_upto_region 4 with fail
  go_region_held2 (fun w' => w'.cell? ⟨w.heap.size, 1, none⟩ = some (.string T)) (first | (with_reducible exact d1) | go_keep)
    (first | (go_at_call 59; (with_reducible refine (HS.out _ H1d).mono ?_); rintro e w9 ⟨rfl, H9, K9⟩; (have d1 : w9.cell? ⟨w.heap.size, 1, none⟩ = some (.string T) := (O1.drew.wrote K9 (by omega) (by decide)).at_ 1 _ rfl)))
  have K9 := K1d.trans K9
  clear O1 H1 H1d K1d K1 HS c1 d1
  go_wp2
  go_end0
  refine .inl ⟨HEI.out, rfl, ?_, K9⟩
  rw [HPI.out, ← HT.out]
  simpa only [List.append_assoc] using H9
set_option maxHeartbeats 4000000 in
theorem witem_2 (B g : Nat) (l : List UInt8) (w0 w : World) (h : Wr B g w l) (hu : Und B w0 w) (xd : List UInt8) (T : ByteArray) (xi xh : Nat) (xa xb : Bool) (rn re : Nat) (rr : Int) (rm : Nat) (L : List Vw) (a : Option Addr) (pk pc : Nat) (vn ve : Nat) (vr : Int) (vm xn : Nat) (xx xt : Int)
    (hT : T.data.toList = xd) (hTs : T.size ≤ 1000000) (hok : ((⟨2, xd, xi, xh, xa, xb, ⟨⟨rn, re, rr, rm⟩, L⟩, ⟨vn, ve, vr, vm⟩, xn, xx, xt⟩ : Itm)).ok) (hx : RcIn w0 ⟨⟨⟨rn, re, rr, rm⟩, L⟩, a, pk, pc⟩) (hxk : pk ≤ 1099511627776) (hl : l.length ≤ 1099300000000) :
    Calls Try.prog 39 #[.pointer (some ⟨g, 0, none⟩), .agg #[.int .i64 2, .string T, .int .u32 (xi : Int), .int .u64 (xh : Int), .bool xa, .bool xb, .int .u64 (rn : Int), .int .u64 (re : Int), .int .i64 rr, .int .u64 (rm : Int), .slice a pk pc, .int .u64 (vn : Int), .int .u64 (ve : Int), .int .i64 vr, .int .u64 (vm : Int), .int .u64 (xn : Int), .int .i64 xx, .int .i64 xt]] w (WP (errI (⟨2, xd, xi, xh, xa, xb, ⟨⟨rn, re, rr, rm⟩, L⟩, ⟨vn, ve, vr, vm⟩, xn, xx, xt⟩ : Itm)) (putI (⟨2, xd, xi, xh, xa, xb, ⟨⟨rn, re, rr, rm⟩, L⟩, ⟨vn, ve, vr, vm⟩, xn, xx, xt⟩ : Itm)) B g l w) := by
  have h1 := hok.inc
  have h2 := hok.holds
  have h3 := hok.view
  have h4 := hok.num
  simp only at h1 h2 h3 h4
  have hTl : T.data.toList.length = T.size := by rw [Array.length_toList]; rfl
  have HEI := Lib.hid (show errI (⟨2, xd, xi, xh, xa, xb, ⟨⟨rn, re, rr, rm⟩, L⟩, ⟨vn, ve, vr, vm⟩, xn, xx, xt⟩ : Itm) = errRec ⟨⟨rn, re, rr, rm⟩, L⟩ from rfl)
  have HPI := Lib.hid (show putI (⟨2, xd, xi, xh, xa, xb, ⟨⟨rn, re, rr, rm⟩, L⟩, ⟨vn, ve, vr, vm⟩, xn, xx, xt⟩ : Itm) = pb 1 2 ++ (pb 4 xi ++ (pb 8 xh ++ (pb 1 (flagsN xa xb) ++ putRec ⟨⟨rn, re, rr, rm⟩, L⟩))) from rfl)
  generalize errI (⟨2, xd, xi, xh, xa, xb, ⟨⟨rn, re, rr, rm⟩, L⟩, ⟨vn, ve, vr, vm⟩, xn, xx, xt⟩ : Itm) = ei at *
  generalize putI (⟨2, xd, xi, xh, xa, xb, ⟨⟨rn, re, rr, rm⟩, L⟩, ⟨vn, ve, vr, vm⟩, xn, xx, xt⟩ : Itm) = pi at *
  have hle := h.le
  have hlt := h.lt
  have HU := Lib.hid hu
  have HT := Lib.hid hT
  have HTl := Lib.hid hTl
  have HW := Lib.hid (fun W l (hW : Wr B g W l) (hU : Und B w0 W) (hl : l.length ≤ 1099500000000) => wrec' B g l w0 W hW hU rn re rr rm L a pk pc hx hxk hl)
  have O0 := Own.new w 43 #[.int .i64 2, .string T, .int .u32 (xi : Int), .int .u64 (xh : Int), .bool xa, .bool xb, .int .u64 (rn : Int), .int .u64 (re : Int), .int .i64 rr, .int .u64 (rm : Int), .slice a pk pc, .int .u64 (vn : Int), .int .u64 (ve : Int), .int .i64 vr, .int .u64 (vm : Int), .int .u64 (xn : Int), .int .i64 xx, .int .i64 xt]
  have H0 := h.later ((Grw.refl w).alloc (.cells #[.int .i64 2, .string T, .int .u32 (xi : Int), .int .u64 (xh : Int), .bool xa, .bool xb, .int .u64 (rn : Int), .int .u64 (re : Int), .int .i64 rr, .int .u64 (rm : Int), .slice a pk pc, .int .u64 (vn : Int), .int .u64 (ve : Int), .int .i64 vr, .int .u64 (vm : Int), .int .u64 (xn : Int), .int .i64 xx, .int .i64 xt] 43)).below
  have K0 := wrote_alloc (B := B) (g := g) hle (.cells #[.int .i64 2, .string T, .int .u32 (xi : Int), .int .u64 (xh : Int), .bool xa, .bool xb, .int .u64 (rn : Int), .int .u64 (re : Int), .int .i64 rr, .int .u64 (rm : Int), .slice a pk pc, .int .u64 (vn : Int), .int .u64 (ve : Int), .int .i64 vr, .int .u64 (vm : Int), .int .u64 (xn : Int), .int .i64 xx, .int .i64 xt] 43)
  have c0 := O0.at_ 0 _ rfl
  clear hx hxk h hu hT hTl hok
  generalize hw0 : w.alloc (.cells #[.int .i64 2, .string T, .int .u32 (xi : Int), .int .u64 (xh : Int), .bool xa, .bool xb, .int .u64 (rn : Int), .int .u64 (re : Int), .int .i64 rr, .int .u64 (rm : Int), .slice a pk pc, .int .u64 (vn : Int), .int .u64 (ve : Int), .int .i64 vr, .int .u64 (vm : Int), .int .u64 (xn : Int), .int .i64 xx, .int .i64 xt] 43) = W0 at *
  go_enter Try.func39, Try.ntmps39
  go_upto_region 1 with fail
  try rw [hw0]
  clear hw0
  go_wp2_with fail
  refine (wsmall B g _ _ H0 2 1 1 4 10 1 (by decide) (by decide) (by decide) (by decide) (by decide) (by decide) (by omega)).mono ?_
  rintro e w1 (⟨hc, rfl, H1, K1⟩ | ⟨hc, rfl, K1⟩)
  rotate_left
  · exact absurd (if_pos ⟨by decide, by decide⟩) hc
  have O1 := O0.wrote K1 (by omega) (by decide)
  have K1 := K0.trans K1
  clear O0 H0 K0 c0 hc
  have c0 := O1.at_ 0 _ rfl
  rw [show pb 1 (2 : Int).toNat = pb 1 2 from rfl] at H1
  have c2 := O1.at_ 2 _ rfl
  go_wp2_with fail
  refine (wput B g _ _ H1 xi 4 4 (by decide) (by decide) (by decide) (by omega) (by simp only [List.length_append, pb_length, putVw_length, HTl.out]; omega)).mono ?_
  rintro e w2 ⟨rfl, H2, K2⟩
  have O2 := O1.wrote K2 (by omega) (by decide)
  have K2 := K1.trans K2
  clear O1 H1 K1 c0 c2
  have c3 := O2.at_ 3 _ rfl
  go_wp2_with fail
  refine (wput B g _ _ H2 xh 8 8 (by decide) (by decide) (by decide) h2 (by simp only [List.length_append, pb_length, putVw_length, HTl.out]; omega)).mono ?_
  rintro e w3 ⟨rfl, H3, K3⟩
  have O3 := O2.wrote K3 (by omega) (by decide)
  have K3 := K2.trans K3
  clear O2 H2 K2 c3
  have c4 := O3.at_ 4 _ rfl
  have c5 := O3.at_ 5 _ rfl
  go_wp2_with fail
  refine (wflags B g _ _ H3 xa xb (by simp only [List.length_append, pb_length, putVw_length, HTl.out]; omega)).mono ?_
  rintro e w4 ⟨rfl, H4, K4⟩
  have O4 := O3.wrote K4 (by omega) (by decide)
  have K4 := K3.trans K4
  clear O3 H3 K3 c4 c5
  have c6 := O4.at_ 6 _ rfl
  have c7 := O4.at_ 7 _ rfl
  have c8 := O4.at_ 8 _ rfl
  have c9 := O4.at_ 9 _ rfl
  have c10 := O4.at_ 10 _ rfl
  go_wp2_with fail
  refine (HW.out _ _ H4 (HU.out.later K4) (by simp only [List.length_append, pb_length, putVw_length, HTl.out]; omega)).mono ?_
  rintro e w5 (⟨hc, rfl, H5, K5⟩ | ⟨hc, rfl, K5⟩)
  rotate_left
  · exact ⟨rfl, .inr ⟨by rw [HEI.out]; exact hc, by rw [HEI.out], K4.trans K5⟩⟩
  have HC := Lib.hid hc
  have K5 := K4.trans K5
  clear O4 H4 K4 c6 c7 c8 c9 c10 hc HW
  go_wp2
  go_end0
  refine .inl ⟨by rw [HEI.out]; exact HC.out, rfl, ?_, K5⟩
  rw [HPI.out]
  simpa only [List.append_assoc] using H5
set_option maxHeartbeats 4000000 in
theorem witem_3 (B g : Nat) (l : List UInt8) (w0 w : World) (h : Wr B g w l) (hu : Und B w0 w) (xd : List UInt8) (T : ByteArray) (xi xh : Nat) (xa xb : Bool) (rn re : Nat) (rr : Int) (rm : Nat) (L : List Vw) (a : Option Addr) (pk pc : Nat) (vn ve : Nat) (vr : Int) (vm xn : Nat) (xx xt : Int)
    (hT : T.data.toList = xd) (hTs : T.size ≤ 1000000) (hok : ((⟨3, xd, xi, xh, xa, xb, ⟨⟨rn, re, rr, rm⟩, L⟩, ⟨vn, ve, vr, vm⟩, xn, xx, xt⟩ : Itm)).ok) (hx : RcIn w0 ⟨⟨⟨rn, re, rr, rm⟩, L⟩, a, pk, pc⟩) (hxk : pk ≤ 1099511627776) (hl : l.length ≤ 1099300000000) :
    Calls Try.prog 39 #[.pointer (some ⟨g, 0, none⟩), .agg #[.int .i64 3, .string T, .int .u32 (xi : Int), .int .u64 (xh : Int), .bool xa, .bool xb, .int .u64 (rn : Int), .int .u64 (re : Int), .int .i64 rr, .int .u64 (rm : Int), .slice a pk pc, .int .u64 (vn : Int), .int .u64 (ve : Int), .int .i64 vr, .int .u64 (vm : Int), .int .u64 (xn : Int), .int .i64 xx, .int .i64 xt]] w (WP (errI (⟨3, xd, xi, xh, xa, xb, ⟨⟨rn, re, rr, rm⟩, L⟩, ⟨vn, ve, vr, vm⟩, xn, xx, xt⟩ : Itm)) (putI (⟨3, xd, xi, xh, xa, xb, ⟨⟨rn, re, rr, rm⟩, L⟩, ⟨vn, ve, vr, vm⟩, xn, xx, xt⟩ : Itm)) B g l w) := by
  have h1 := hok.inc
  have h2 := hok.holds
  have h3 := hok.view
  have h4 := hok.num
  simp only at h1 h2 h3 h4
  have hTl : T.data.toList.length = T.size := by rw [Array.length_toList]; rfl
  have HEI := Lib.hid (show errI (⟨3, xd, xi, xh, xa, xb, ⟨⟨rn, re, rr, rm⟩, L⟩, ⟨vn, ve, vr, vm⟩, xn, xx, xt⟩ : Itm) = errVw ⟨vn, ve, vr, vm⟩ from rfl)
  have HPI := Lib.hid (show putI (⟨3, xd, xi, xh, xa, xb, ⟨⟨rn, re, rr, rm⟩, L⟩, ⟨vn, ve, vr, vm⟩, xn, xx, xt⟩ : Itm) = pb 1 3 ++ putVw ⟨vn, ve, vr, vm⟩ from rfl)
  generalize errI (⟨3, xd, xi, xh, xa, xb, ⟨⟨rn, re, rr, rm⟩, L⟩, ⟨vn, ve, vr, vm⟩, xn, xx, xt⟩ : Itm) = ei at *
  generalize putI (⟨3, xd, xi, xh, xa, xb, ⟨⟨rn, re, rr, rm⟩, L⟩, ⟨vn, ve, vr, vm⟩, xn, xx, xt⟩ : Itm) = pi at *
  have hle := h.le
  have hlt := h.lt
  have HU := Lib.hid hu
  have HT := Lib.hid hT
  have HTl := Lib.hid hTl
  have HW := Lib.hid (fun W l (hW : Wr B g W l) (hU : Und B w0 W) (hl : l.length ≤ 1099500000000) => wrec' B g l w0 W hW hU rn re rr rm L a pk pc hx hxk hl)
  have O0 := Own.new w 43 #[.int .i64 3, .string T, .int .u32 (xi : Int), .int .u64 (xh : Int), .bool xa, .bool xb, .int .u64 (rn : Int), .int .u64 (re : Int), .int .i64 rr, .int .u64 (rm : Int), .slice a pk pc, .int .u64 (vn : Int), .int .u64 (ve : Int), .int .i64 vr, .int .u64 (vm : Int), .int .u64 (xn : Int), .int .i64 xx, .int .i64 xt]
  have H0 := h.later ((Grw.refl w).alloc (.cells #[.int .i64 3, .string T, .int .u32 (xi : Int), .int .u64 (xh : Int), .bool xa, .bool xb, .int .u64 (rn : Int), .int .u64 (re : Int), .int .i64 rr, .int .u64 (rm : Int), .slice a pk pc, .int .u64 (vn : Int), .int .u64 (ve : Int), .int .i64 vr, .int .u64 (vm : Int), .int .u64 (xn : Int), .int .i64 xx, .int .i64 xt] 43)).below
  have K0 := wrote_alloc (B := B) (g := g) hle (.cells #[.int .i64 3, .string T, .int .u32 (xi : Int), .int .u64 (xh : Int), .bool xa, .bool xb, .int .u64 (rn : Int), .int .u64 (re : Int), .int .i64 rr, .int .u64 (rm : Int), .slice a pk pc, .int .u64 (vn : Int), .int .u64 (ve : Int), .int .i64 vr, .int .u64 (vm : Int), .int .u64 (xn : Int), .int .i64 xx, .int .i64 xt] 43)
  have c0 := O0.at_ 0 _ rfl
  clear hx hxk h hu hT hTl hok
  generalize hw0 : w.alloc (.cells #[.int .i64 3, .string T, .int .u32 (xi : Int), .int .u64 (xh : Int), .bool xa, .bool xb, .int .u64 (rn : Int), .int .u64 (re : Int), .int .i64 rr, .int .u64 (rm : Int), .slice a pk pc, .int .u64 (vn : Int), .int .u64 (ve : Int), .int .i64 vr, .int .u64 (vm : Int), .int .u64 (xn : Int), .int .i64 xx, .int .i64 xt] 43) = W0 at *
  go_enter Try.func39, Try.ntmps39
  go_upto_region 1 with fail
  try rw [hw0]
  clear hw0
  go_wp2_with fail
  refine (wsmall B g _ _ H0 3 1 1 4 10 1 (by decide) (by decide) (by decide) (by decide) (by decide) (by decide) (by omega)).mono ?_
  rintro e w1 (⟨hc, rfl, H1, K1⟩ | ⟨hc, rfl, K1⟩)
  rotate_left
  · exact absurd (if_pos ⟨by decide, by decide⟩) hc
  have O1 := O0.wrote K1 (by omega) (by decide)
  have K1 := K0.trans K1
  clear O0 H0 K0 c0 hc
  have c0 := O1.at_ 0 _ rfl
  rw [show pb 1 (3 : Int).toNat = pb 1 3 from rfl] at H1
  have c11 := O1.at_ 11 _ rfl
  have c12 := O1.at_ 12 _ rfl
  have c13 := O1.at_ 13 _ rfl
  have c14 := O1.at_ 14 _ rfl
  have HV := Lib.hid (fun W (hW : Wr B g W (l ++ pb 1 3)) => wview B g _ W hW ⟨vn, ve, vr, vm⟩ h3 (by simp only [List.length_append, pb_length, putVw_length, HTl.out]; omega))
  simp only at HV
  go_wp2_with fail
  refine (HV.out _ H1).mono ?_
  rintro e w5 (⟨hc, rfl, H5, K5⟩ | ⟨hc, rfl, K5⟩)
  rotate_left
  · exact ⟨rfl, .inr ⟨by rw [HEI.out]; exact hc, by rw [HEI.out], K1.trans K5⟩⟩
  have HC := Lib.hid hc
  have K5 := K1.trans K5
  clear O1 H1 K1 c0 c11 c12 c13 c14 hc HW HV
  go_wp2
  go_end0
  refine .inl ⟨by rw [HEI.out]; exact HC.out, rfl, ?_, K5⟩
  rw [HPI.out]
  simpa only [List.append_assoc] using H5
set_option maxHeartbeats 4000000 in
theorem witem_4 (B g : Nat) (l : List UInt8) (w0 w : World) (h : Wr B g w l) (hu : Und B w0 w) (xd : List UInt8) (T : ByteArray) (xi xh : Nat) (xa xb : Bool) (rn re : Nat) (rr : Int) (rm : Nat) (L : List Vw) (a : Option Addr) (pk pc : Nat) (vn ve : Nat) (vr : Int) (vm xn : Nat) (xx xt : Int)
    (hT : T.data.toList = xd) (hTs : T.size ≤ 1000000) (hok : ((⟨4, xd, xi, xh, xa, xb, ⟨⟨rn, re, rr, rm⟩, L⟩, ⟨vn, ve, vr, vm⟩, xn, xx, xt⟩ : Itm)).ok) (hx : RcIn w0 ⟨⟨⟨rn, re, rr, rm⟩, L⟩, a, pk, pc⟩) (hxk : pk ≤ 1099511627776) (hl : l.length ≤ 1099300000000) :
    Calls Try.prog 39 #[.pointer (some ⟨g, 0, none⟩), .agg #[.int .i64 4, .string T, .int .u32 (xi : Int), .int .u64 (xh : Int), .bool xa, .bool xb, .int .u64 (rn : Int), .int .u64 (re : Int), .int .i64 rr, .int .u64 (rm : Int), .slice a pk pc, .int .u64 (vn : Int), .int .u64 (ve : Int), .int .i64 vr, .int .u64 (vm : Int), .int .u64 (xn : Int), .int .i64 xx, .int .i64 xt]] w (WP (errI (⟨4, xd, xi, xh, xa, xb, ⟨⟨rn, re, rr, rm⟩, L⟩, ⟨vn, ve, vr, vm⟩, xn, xx, xt⟩ : Itm)) (putI (⟨4, xd, xi, xh, xa, xb, ⟨⟨rn, re, rr, rm⟩, L⟩, ⟨vn, ve, vr, vm⟩, xn, xx, xt⟩ : Itm)) B g l w) := by
  have h1 := hok.inc
  have h2 := hok.holds
  have h3 := hok.view
  have h4 := hok.num
  simp only at h1 h2 h3 h4
  have hTl : T.data.toList.length = T.size := by rw [Array.length_toList]; rfl
  have HEI := Lib.hid (show errI (⟨4, xd, xi, xh, xa, xb, ⟨⟨rn, re, rr, rm⟩, L⟩, ⟨vn, ve, vr, vm⟩, xn, xx, xt⟩ : Itm) = if xx < 0 ∨ 65535 < xx ∨ xt < 0 ∨ 65535 < xt then 1 else 0 from rfl)
  have HPI := Lib.hid (show putI (⟨4, xd, xi, xh, xa, xb, ⟨⟨rn, re, rr, rm⟩, L⟩, ⟨vn, ve, vr, vm⟩, xn, xx, xt⟩ : Itm) = pb 1 4 ++ (pb 8 xn ++ (pb 2 xx.toNat ++ (pb 2 xt.toNat ++ xd))) from rfl)
  generalize errI (⟨4, xd, xi, xh, xa, xb, ⟨⟨rn, re, rr, rm⟩, L⟩, ⟨vn, ve, vr, vm⟩, xn, xx, xt⟩ : Itm) = ei at *
  generalize putI (⟨4, xd, xi, xh, xa, xb, ⟨⟨rn, re, rr, rm⟩, L⟩, ⟨vn, ve, vr, vm⟩, xn, xx, xt⟩ : Itm) = pi at *
  have hle := h.le
  have hlt := h.lt
  have HU := Lib.hid hu
  have HT := Lib.hid hT
  have HTl := Lib.hid hTl
  have HW := Lib.hid (fun W l (hW : Wr B g W l) (hU : Und B w0 W) (hl : l.length ≤ 1099500000000) => wrec' B g l w0 W hW hU rn re rr rm L a pk pc hx hxk hl)
  have O0 := Own.new w 43 #[.int .i64 4, .string T, .int .u32 (xi : Int), .int .u64 (xh : Int), .bool xa, .bool xb, .int .u64 (rn : Int), .int .u64 (re : Int), .int .i64 rr, .int .u64 (rm : Int), .slice a pk pc, .int .u64 (vn : Int), .int .u64 (ve : Int), .int .i64 vr, .int .u64 (vm : Int), .int .u64 (xn : Int), .int .i64 xx, .int .i64 xt]
  have H0 := h.later ((Grw.refl w).alloc (.cells #[.int .i64 4, .string T, .int .u32 (xi : Int), .int .u64 (xh : Int), .bool xa, .bool xb, .int .u64 (rn : Int), .int .u64 (re : Int), .int .i64 rr, .int .u64 (rm : Int), .slice a pk pc, .int .u64 (vn : Int), .int .u64 (ve : Int), .int .i64 vr, .int .u64 (vm : Int), .int .u64 (xn : Int), .int .i64 xx, .int .i64 xt] 43)).below
  have K0 := wrote_alloc (B := B) (g := g) hle (.cells #[.int .i64 4, .string T, .int .u32 (xi : Int), .int .u64 (xh : Int), .bool xa, .bool xb, .int .u64 (rn : Int), .int .u64 (re : Int), .int .i64 rr, .int .u64 (rm : Int), .slice a pk pc, .int .u64 (vn : Int), .int .u64 (ve : Int), .int .i64 vr, .int .u64 (vm : Int), .int .u64 (xn : Int), .int .i64 xx, .int .i64 xt] 43)
  have c0 := O0.at_ 0 _ rfl
  clear hx hxk h hu hT hTl hok
  generalize hw0 : w.alloc (.cells #[.int .i64 4, .string T, .int .u32 (xi : Int), .int .u64 (xh : Int), .bool xa, .bool xb, .int .u64 (rn : Int), .int .u64 (re : Int), .int .i64 rr, .int .u64 (rm : Int), .slice a pk pc, .int .u64 (vn : Int), .int .u64 (ve : Int), .int .i64 vr, .int .u64 (vm : Int), .int .u64 (xn : Int), .int .i64 xx, .int .i64 xt] 43) = W0 at *
  go_enter Try.func39, Try.ntmps39
  go_upto_region 1 with fail
  try rw [hw0]
  clear hw0
  go_wp2_with fail
  refine (wsmall B g _ _ H0 4 1 1 4 10 1 (by decide) (by decide) (by decide) (by decide) (by decide) (by decide) (by omega)).mono ?_
  rintro e w1 (⟨hc, rfl, H1, K1⟩ | ⟨hc, rfl, K1⟩)
  rotate_left
  · exact absurd (if_pos ⟨by decide, by decide⟩) hc
  have O1 := O0.wrote K1 (by omega) (by decide)
  have K1 := K0.trans K1
  clear O0 H0 K0 c0 hc
  have c0 := O1.at_ 0 _ rfl
  rw [show pb 1 (4 : Int).toNat = pb 1 4 from rfl] at H1
  have c15 := O1.at_ 15 _ rfl
  go_wp2_with fail
  refine (wput B g _ _ H1 xn 8 8 (by decide) (by decide) (by decide) h4 (by simp only [List.length_append, pb_length, putVw_length, HTl.out]; omega)).mono ?_
  rintro e w2 ⟨rfl, H2, K2⟩
  have O2 := O1.wrote K2 (by omega) (by decide)
  have K2 := K1.trans K2
  clear O1 H1 K1 c0 c15
  have c16 := O2.at_ 16 _ rfl
  go_wp2_with fail
  refine (wsmall B g _ _ H2 xx 0 2 65535 1 2 (by decide) (by decide) (by decide) (by decide) (by decide) (by decide) (by simp only [List.length_append, pb_length, putVw_length, HTl.out]; omega)).mono ?_
  rintro e w3 (⟨hc, rfl, H3, K3⟩ | ⟨hc, rfl, K3⟩)
  rotate_left
  · have hn : ¬ ((0 : Int) ≤ xx ∧ xx ≤ ((65535 : Nat) : Int)) := fun hq => hc (if_pos hq)
    have he : ei = 1 := by rw [HEI.out]; exact if_pos (by omega)
    rw [if_neg hn]
    exact ⟨rfl, .inr ⟨by rw [he]; decide, by rw [he], K2.trans K3⟩⟩
  have hxx : 0 ≤ xx ∧ xx ≤ 65535 := by
    by_cases hq : (0 : Int) ≤ xx ∧ xx ≤ ((65535 : Nat) : Int)
    · omega
    · rw [if_neg hq] at hc; cases hc
  have HQxx := Lib.hid hxx
  have O3 := O2.wrote K3 (by omega) (by decide)
  have K3 := K2.trans K3
  clear hc hxx
  clear O2 H2 K2 c16
  have c17 := O3.at_ 17 _ rfl
  go_wp2_with fail
  refine (wsmall B g _ _ H3 xt 0 2 65535 1 2 (by decide) (by decide) (by decide) (by decide) (by decide) (by decide) (by simp only [List.length_append, pb_length, putVw_length, HTl.out]; omega)).mono ?_
  rintro e w4 (⟨hc, rfl, H4, K4⟩ | ⟨hc, rfl, K4⟩)
  rotate_left
  · have hn : ¬ ((0 : Int) ≤ xt ∧ xt ≤ ((65535 : Nat) : Int)) := fun hq => hc (if_pos hq)
    have he : ei = 1 := by rw [HEI.out]; exact if_pos (by omega)
    rw [if_neg hn]
    exact ⟨rfl, .inr ⟨by rw [he]; decide, by rw [he], K3.trans K4⟩⟩
  have hxt : 0 ≤ xt ∧ xt ≤ 65535 := by
    by_cases hq : (0 : Int) ≤ xt ∧ xt ≤ ((65535 : Nat) : Int)
    · omega
    · rw [if_neg hq] at hc; cases hc
  have HQxt := Lib.hid hxt
  have O4 := O3.wrote K4 (by omega) (by decide)
  have K4 := K3.trans K4
  clear hc hxt
  clear O3 H3 K3 c17
  have c1 := O4.at_ 1 _ rfl
  have HS := Lib.hid (fun W (hW : Wr B g W (l ++ pb 1 4 ++ pb 8 xn ++ pb 2 xx.toNat ++ pb 2 xt.toNat)) => wwriteString B g _ W hW T (by simp only [List.length_append, pb_length, putVw_length, HTl.out]; omega))
  have H4d := Wr.later H4 (Grw.refl w4).drew.below
  have K4d := K4.trans (Wrote.grw (B := B) (g := g) (Grw.refl w4).drew (by have := H4.le; omega))
  go_upto_region 16 with fail
  go_region_held2 (fun w' => w'.cell? ⟨w.heap.size, 1, none⟩ = some (.string T)) (first | (with_reducible exact d1) | go_keep)
    (first | (go_at_call 59; (with_reducible refine (HS.out _ H4d).mono ?_); rintro e w9 ⟨rfl, H9, K9⟩; (have d1 : w9.cell? ⟨w.heap.size, 1, none⟩ = some (.string T) := (O4.drew.wrote K9 (by omega) (by decide)).at_ 1 _ rfl)))
  have K9 := K4d.trans K9
  clear O4 H4 H4d K4d K4 HS c1 d1
  go_wp2
  go_end0
  refine .inl ⟨by rw [HEI.out]; exact if_neg (by have := HQxx.out; have := HQxt.out; omega), rfl, ?_, K9⟩
  rw [HPI.out, ← HT.out]
  simpa only [List.append_assoc] using H9
end Go.Proofs.Ytblefbjmjhgkkaa
