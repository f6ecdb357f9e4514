/- Next. (Written by gen_onext.py.) -/
import Derived.Test.YtfocjcdfpnbkjaaZOrdRipe
set_option linter.unusedVariables false
set_option maxRecDepth 100000
set_option linter.unusedSimpArgs false
namespace Go.Proofs.Ytfocjcdfpnbkjaa
open Go.RowKit Go.Sort Go.Shelf

/-- What Next answers. -/
inductive NextSaid (w : World) (E : Nat → Prop) (g N : Nat) (O : Od) : Option (Mg × Od) → Ending → World → Prop
  | no (w' : World) (hr : ORep w' E g N O) (hB : Below w.heap.size w w') : NextSaid w E g N O none (.returned (.tuple #[valG zeroG, .bool false])) w'
  | yes (m x : Mg) (O' : Od) (w' : World) (h1 : strip x = m) (h2 : DpT w' (fun k => w.heap.size ≤ k) x) (hr : ORep w' E g N O') (hc : Chg (fun k => k = g) w w') : NextSaid w E g N O (some (m, O')) (.returned (.tuple #[valG x, .bool true])) w'
theorem ripe_strip (O : Od) (x : Mg) : ripeO O (strip x) = ripeO O x := rfl
/-- The counts or the last key have turned. -/
theorem OAt.told {w V : World} {E F : Nat → Prop} {g gh gz N : Nat} {zs : ZSl} {O O1 : Od} (h : OAt w E g gh gz N F zs O) (hc : Chg (fun k => k = g) w V) (ho : Own V g 61 (oC gh gz O1).toArray) (hS : O1.S = O.S) (hH : O1.H = O.H) (hok : O1.ok) : OAt V E g gh gz N F zs O1 := by
  have hz : HzAt V gz 0 O1.H zs := by
    rw [hH]
    refine h.hz.kept fun k hk e => ?_
    rcases e with rfl | ⟨x, e, rfl⟩
    · exact hc.block _ hk h.ng
    · exact hc.block _ hk (h.nr x e)
  exact ⟨ho, by rw [hS]; exact h.hold.chg hc fun k hk e => (h.nf k hk).1 e, hz, by rw [hH]; exact h.wt, hok, h.eg, h.ez, h.er, h.ef, fun k hk => Nat.lt_of_lt_of_le (h.lim k hk) hc.size, h.ng, h.nf⟩
section
variable {w : World} {E : Nat → Prop} {g N : Nat} {O : Od}
/-- What the head of the sorted heads is. -/
theorem head_best {L X M : List Mg} {x : Mg} {r : List Mg} (hk : ∀ y ∈ L, ∀ z ∈ L, y.key = z.key → y = z) (hX : X.map strip = L) (h : IsSrt Mg.key X M) (hM : M = x :: r) : bestK L none = some (strip x) := by
  have h1 := isSrt_strip h
  rw [hX, hM] at h1
  exact best_sorted hk h1 rfl
theorem heads_len (O : Od) : (headsO O).length ≤ 64 := by
  have h1 := headsK_len O (lst O.ms)
  rw [lst_length] at h1
  exact Nat.le_trans h1 (card_le O.ms)
set_option maxHeartbeats 4000000 in
theorem onext_empty (h : ORep w E g N O) (hN : N ≤ 1000) (hb : bestK (headsO O) none = none) :
    Calls Try.prog 61 #[.pointer (some ⟨g, 0, none⟩)] w (NextSaid w E g N O none) := by
  have h0 := h
  obtain ⟨gh, gz, F, zs, h⟩ := h.ex
  have B1 := ((Grw.refl w).alloc (.cells #[.int .i64 0, .int .u32 0, .int .u64 0, .int .i64 0, .slice none 0 0, .string { data := #[] }] 47)).below
  have KH := oheads (h0.below B1) hN
  have M1 : MgB (w.alloc (.cells #[.int .i64 0, .int .u32 0, .int .u64 0, .int .i64 0, .slice none 0 0, .string { data := #[] }] 47)) w.heap.size zeroG := MgB.new w zeroG
  have hws : (w.alloc (.cells #[.int .i64 0, .int .u32 0, .int .u64 0, .int .i64 0, .slice none 0 0, .string { data := #[] }] 47)).heap.size = w.heap.size + 1 := by simp
  have HO := Lib.hid h
  have H0 := Lib.hid h0
  have LB := Lib.hid B1
  have HLEN := Lib.hid (heads_len O)
  have HAP := Lib.hid (heads_apart h.ok)
  clear h h0 B1
  go_enter Try.func61, Try.ntmps61
  go_upto_region 1 with fail
  obtain ⟨rb, hrb⟩ : ∃ rb, rb = w.heap.size := ⟨_, rfl⟩
  rw [← hrb] at M1 hws
  try rw [← hrb]
  have HRB := Lib.hid hrb
  clear hrb
  generalize w.alloc (.cells #[.int .i64 0, .int .u32 0, .int .u64 0, .int .i64 0, .slice none 0 0, .string { data := #[] }] 47) = w1 at *
  have HWS := Lib.hid hws
  clear hws
  go_wp2_with fail
  refine KH.mono ?_
  rintro e w2 ⟨a, n, c, X, rfl, hown, hlen, hdp, hstr, hB⟩
  have M2 := M1.later hB
  have HB2 := Lib.hid (LB.out.trans (hB.mono LB.out.size))
  have HB := Lib.hid hB
  have hn0 : n = 0 := by
    have h1 := congrArg List.length hstr
    rw [List.length_map, hlen, bestK_none hb] at h1
    exact h1
  subst hn0
  have HNX := Lib.hid (show Below rb w (w2.setRow rb (encG zeroG).toArray) from by have := HRB.out; subst this; exact belowRow10 HB2.out _ (Nat.le_refl _) _)
  clear KH hown hlen hdp hstr hB M1 hb
  go_wp2_with (refine store_mg rfl (.tmp 2) (.tmp 12) rfl rb zeroG rfl rfl M2 ?_)
  (try simp only [Exit.inBlock, Exit.then])
  have hrb := HRB.out
  subst hrb
  exact bodyPost_ret (v := .tuple #[valG zeroG, .bool false]) (results_mg2 (p := 2) (u := 3) rfl _ _ w.heap.size rfl (M2.row zeroG)) rfl (.no _ (H0.out.below HNX.out) HNX.out)
set_option maxHeartbeats 8000000 in
theorem onext_not (h : ORep w E g N O) (hN : N ≤ 1000) (m : Mg) (hb : bestK (headsO O) none = some m) (hr : ripeO O m = false) :
    Calls Try.prog 61 #[.pointer (some ⟨g, 0, none⟩)] w (NextSaid w E g N O none) := by
  have h0 := h
  obtain ⟨gh, gz, F, zs, h⟩ := h.ex
  have B1 := ((Grw.refl w).alloc (.cells #[.int .i64 0, .int .u32 0, .int .u64 0, .int .i64 0, .slice none 0 0, .string { data := #[] }] 47)).below
  have KH := oheads (h0.below B1) hN
  have M1 : MgB (w.alloc (.cells #[.int .i64 0, .int .u32 0, .int .u64 0, .int .i64 0, .slice none 0 0, .string { data := #[] }] 47)) w.heap.size zeroG := MgB.new w zeroG
  have hws : (w.alloc (.cells #[.int .i64 0, .int .u32 0, .int .u64 0, .int .i64 0, .slice none 0 0, .string { data := #[] }] 47)).heap.size = w.heap.size + 1 := by simp
  have HO := Lib.hid h
  have H0 := Lib.hid h0
  have LB := Lib.hid B1
  have HLEN := Lib.hid (heads_len O)
  have HAP := Lib.hid (heads_apart h.ok)
  clear h h0 B1
  go_enter Try.func61, Try.ntmps61
  go_upto_region 1 with fail
  obtain ⟨rb, hrb⟩ : ∃ rb, rb = w.heap.size := ⟨_, rfl⟩
  rw [← hrb] at M1 hws
  try rw [← hrb]
  have HRB := Lib.hid hrb
  clear hrb
  generalize w.alloc (.cells #[.int .i64 0, .int .u32 0, .int .u64 0, .int .i64 0, .slice none 0 0, .string { data := #[] }] 47) = w1 at *
  have HWS := Lib.hid hws
  clear hws
  go_wp2_with fail
  refine KH.mono ?_
  rintro e w2 ⟨a, n, c, X, rfl, hown, hlen, hdp, hstr, hB⟩
  have M2 := M1.later hB
  have HB2 := Lib.hid (LB.out.trans (hB.mono LB.out.size))
  have HB := Lib.hid hB
  have hn64 : n ≤ 64 := by
    have h1 := congrArg List.length hstr
    rw [List.length_map, hlen] at h1
    rw [h1]; exact HLEN.out
  have hn0 : 0 < n := by
    have h1 := congrArg List.length hstr
    rw [List.length_map, hlen] at h1
    rcases Nat.eq_zero_or_pos n with e | e
    · rw [e] at h1
      rw [List.eq_nil_of_length_eq_zero h1.symm] at hb
      cases hb
    · exact e
  have hln : (( n : Int) == 0) = false := by simp; omega
  have KS := sort_any n (stable_all n (by omega)) a c X w2 (own_lst' encG_length hlen hown) (fun e => by
    obtain ⟨_, _, e', _⟩ := (own_lst' (enc := encG) encG_length hlen hown).src hn0
    rw [e] at e'; cases e') (by omega)
  have HX := Lib.hid (And.intro hdp hstr)
  clear KH hown hlen hdp hstr hB M1
  go_wp2_with fail
  refine KS.mono ?_
  rintro e w3 ⟨ao, cc, M, rfl, hc0, hM, hLM, hB3⟩
  have hMl : M.length = n := hLM.size
  obtain ⟨x, r, hMx⟩ : ∃ x r, M = x :: r := by
    match M, hMl with
    | [], h => simp at h; omega
    | x :: r, _ => exact ⟨x, r, rfl⟩
  have hbx := head_best HAP.out HX.out.2 hM hMx
  rw [hb] at hbx
  have hsx : strip x = m := by injection hbx with hbx; exact hbx.symm
  have hxX : x ∈ X := (hM.fil.mem x).1 (by rw [hMx]; exact List.mem_cons_self)
  have HT := Lib.hid (show DpT w3 (fun k => rb + 1 ≤ k) x from by
    have h1 := (HX.out.1 x hxX).below hB3
    rw [HWS.out] at h1
    exact h1)
  obtain ⟨b, off, hao, hR⟩ := hLM.src hn0
  subst hao
  have hcell : ∀ j v, (encG x)[j]? = some v → w3.cell? ⟨b, off + j, none⟩ = some v := fun j v hv => by
    have := hR 0 x (by rw [hMx]; rfl) j v hv
    rwa [Nat.zero_mul, Nat.add_zero] at this
  have d0 := hcell 0 _ rfl
  have d1 := hcell 1 _ rfl
  have d2 := hcell 2 _ rfl
  have d3 := hcell 3 _ rfl
  have d4 := hcell 4 _ rfl
  have d5 := hcell 5 _ rfl
  rw [Nat.add_zero] at d0
  have M3 := M2.later hB3
  have HB3 := Lib.hid (HB2.out.trans (hB3.mono HB2.out.size))
  have HSX := Lib.hid hsx
  have hn0' : (0 : Int) < (n : Int) := by omega
  clear KS hMl hMx hbx hsx hxX hM hLM hR hcell hB3 HX HB2 HB M2 hc0
  obtain ⟨f, q, ss, v, da, dl, dc, deps, text⟩ := x
  simp only at d0 d1 d2 d3 d4 d5
  have L4 := ((Grw.refl w3).alloc (.cells #[.int .i64 f, .int .u32 q, .int .u64 ss, .int .i64 v, .slice da dl dc, .string text] 47)).below
  have M4 := M3.later L4
  have X4 := MgB.new w3 ⟨f, q, ss, v, da, dl, dc, deps, text⟩
  have HB4 := Lib.hid (HB3.out.trans (L4.mono HB3.out.size))
  have HT4 := Lib.hid (HT.out.below L4)
  have HMB := Lib.hid (show rb + 1 ≤ w3.heap.size by have := HB3.out.size; have := M3.lt; omega)
  go_upto_region 5 with fail
  clear L4 M3 HT HB3 d0 d1 d2 d3 d4 d5
  obtain ⟨mb, hmb⟩ : ∃ mb, mb = w3.heap.size := ⟨_, rfl⟩
  change MgB (w3.alloc (.cells #[.int .i64 f, .int .u32 q, .int .u64 ss, .int .i64 v, .slice da dl dc, .string text] 47)) w3.heap.size ⟨f, q, ss, v, da, dl, dc, deps, text⟩ at X4
  rw [← hmb] at X4 HMB
  try rw [← hmb]
  clear hmb
  generalize w3.alloc (.cells #[.int .i64 f, .int .u32 q, .int .u64 ss, .int .i64 v, .slice da dl dc, .string text] 47) = w4 at *
  have KR := oripe (H0.out.below HB4.out) ⟨f, q, ss, v, da, dl, dc, deps, text⟩
  rw [← ripe_strip, HSX.out, hr] at KR
  unfold valG at KR
  simp only [encG] at KR
  have KR := Lib.hid KR
  go_wp2_with (first | (refine load_mg rfl (.tmp 5) rfl mb rfl X4 ?_) | fail)
  (try unfold valG)
  (try simp only [encG])
  refine KR.out.mono ?_
  rintro e w5 ⟨rfl, hB5⟩
  have M5 := M4.later hB5
  have X5 := X4.later hB5
  have HB5 := Lib.hid (HB4.out.trans (hB5.mono HB4.out.size))
  have HT5 := Lib.hid (HT4.out.below hB5)
  clear KR hB5 M4 X4 HB4 HT4
  have HNX := Lib.hid (show Below rb w (w5.setRow rb (encG zeroG).toArray) from by have := HRB.out; subst this; exact belowRow10 HB5.out _ (Nat.le_refl _) _)
  go_wp2_with (refine store_mg rfl (.tmp 2) (.tmp 21) rfl rb zeroG rfl rfl M5 ?_)
  (try simp only [Exit.inBlock, Exit.then])
  have hrb := HRB.out
  subst hrb
  exact bodyPost_ret (v := .tuple #[valG zeroG, .bool false]) (results_mg2 (p := 2) (u := 3) rfl _ _ w.heap.size rfl (M5.row zeroG)) rfl (.no _ (H0.out.below HNX.out) HNX.out)
set_option maxHeartbeats 8000000 in
theorem onext_yes (h : ORep w E g N O) (hN : N ≤ 1000) (m : Mg) (hb : bestK (headsO O) none = some m) (hr : ripeO O m = true) (hm : m ∈ headsO O) :
    Calls Try.prog 61 #[.pointer (some ⟨g, 0, none⟩)] w (NextSaid w E g N O (some (m, delO O m))) := by
  have h0 := h
  obtain ⟨gh, gz, F, zs, h⟩ := h.ex
  have B1 := ((Grw.refl w).alloc (.cells #[.int .i64 0, .int .u32 0, .int .u64 0, .int .i64 0, .slice none 0 0, .string { data := #[] }] 47)).below
  have KH := oheads (h0.below B1) hN
  have M1 : MgB (w.alloc (.cells #[.int .i64 0, .int .u32 0, .int .u64 0, .int .i64 0, .slice none 0 0, .string { data := #[] }] 47)) w.heap.size zeroG := MgB.new w zeroG
  have hws : (w.alloc (.cells #[.int .i64 0, .int .u32 0, .int .u64 0, .int .i64 0, .slice none 0 0, .string { data := #[] }] 47)).heap.size = w.heap.size + 1 := by simp
  have HO := Lib.hid h
  have H0 := Lib.hid h0
  have LB := Lib.hid B1
  have HLEN := Lib.hid (heads_len O)
  have HAP := Lib.hid (heads_apart h.ok)
  clear h h0 B1
  go_enter Try.func61, Try.ntmps61
  go_upto_region 1 with fail
  obtain ⟨rb, hrb⟩ : ∃ rb, rb = w.heap.size := ⟨_, rfl⟩
  rw [← hrb] at M1 hws
  try rw [← hrb]
  have HRB := Lib.hid hrb
  clear hrb
  generalize w.alloc (.cells #[.int .i64 0, .int .u32 0, .int .u64 0, .int .i64 0, .slice none 0 0, .string { data := #[] }] 47) = w1 at *
  have HWS := Lib.hid hws
  clear hws
  go_wp2_with fail
  refine KH.mono ?_
  rintro e w2 ⟨a, n, c, X, rfl, hown, hlen, hdp, hstr, hB⟩
  have M2 := M1.later hB
  have HB2 := Lib.hid (LB.out.trans (hB.mono LB.out.size))
  have HB := Lib.hid hB
  have hn64 : n ≤ 64 := by
    have h1 := congrArg List.length hstr
    rw [List.length_map, hlen] at h1
    rw [h1]; exact HLEN.out
  have hn0 : 0 < n := by
    have h1 := congrArg List.length hstr
    rw [List.length_map, hlen] at h1
    rcases Nat.eq_zero_or_pos n with e | e
    · rw [e] at h1
      rw [List.eq_nil_of_length_eq_zero h1.symm] at hb
      cases hb
    · exact e
  have hln : (( n : Int) == 0) = false := by simp; omega
  have KS := sort_any n (stable_all n (by omega)) a c X w2 (own_lst' encG_length hlen hown) (fun e => by
    obtain ⟨_, _, e', _⟩ := (own_lst' (enc := encG) encG_length hlen hown).src hn0
    rw [e] at e'; cases e') (by omega)
  have HX := Lib.hid (And.intro hdp hstr)
  clear KH hown hlen hdp hstr hB M1
  go_wp2_with fail
  refine KS.mono ?_
  rintro e w3 ⟨ao, cc, M, rfl, hc0, hM, hLM, hB3⟩
  have hMl : M.length = n := hLM.size
  obtain ⟨x, r, hMx⟩ : ∃ x r, M = x :: r := by
    match M, hMl with
    | [], h => simp at h; omega
    | x :: r, _ => exact ⟨x, r, rfl⟩
  have hbx := head_best HAP.out HX.out.2 hM hMx
  rw [hb] at hbx
  have hsx : strip x = m := by injection hbx with hbx; exact hbx.symm
  have hxX : x ∈ X := (hM.fil.mem x).1 (by rw [hMx]; exact List.mem_cons_self)
  have HT := Lib.hid (show DpT w3 (fun k => rb + 1 ≤ k) x from by
    have h1 := (HX.out.1 x hxX).below hB3
    rw [HWS.out] at h1
    exact h1)
  obtain ⟨b, off, hao, hR⟩ := hLM.src hn0
  subst hao
  have hcell : ∀ j v, (encG x)[j]? = some v → w3.cell? ⟨b, off + j, none⟩ = some v := fun j v hv => by
    have := hR 0 x (by rw [hMx]; rfl) j v hv
    rwa [Nat.zero_mul, Nat.add_zero] at this
  have d0 := hcell 0 _ rfl
  have d1 := hcell 1 _ rfl
  have d2 := hcell 2 _ rfl
  have d3 := hcell 3 _ rfl
  have d4 := hcell 4 _ rfl
  have d5 := hcell 5 _ rfl
  rw [Nat.add_zero] at d0
  have M3 := M2.later hB3
  have HB3 := Lib.hid (HB2.out.trans (hB3.mono HB2.out.size))
  have HSX := Lib.hid hsx
  have hn0' : (0 : Int) < (n : Int) := by omega
  clear KS hMl hMx hbx hsx hxX hM hLM hR hcell hB3 HX HB2 HB M2 hc0
  obtain ⟨f, q, ss, v, da, dl, dc, deps, text⟩ := x
  simp only at d0 d1 d2 d3 d4 d5
  have L4 := ((Grw.refl w3).alloc (.cells #[.int .i64 f, .int .u32 q, .int .u64 ss, .int .i64 v, .slice da dl dc, .string text] 47)).below
  have M4 := M3.later L4
  have X4 := MgB.new w3 ⟨f, q, ss, v, da, dl, dc, deps, text⟩
  have HB4 := Lib.hid (HB3.out.trans (L4.mono HB3.out.size))
  have HT4 := Lib.hid (HT.out.below L4)
  have HMB := Lib.hid (show rb + 1 ≤ w3.heap.size by have := HB3.out.size; have := M3.lt; omega)
  go_upto_region 5 with fail
  clear L4 M3 HT HB3 d0 d1 d2 d3 d4 d5
  obtain ⟨mb, hmb⟩ : ∃ mb, mb = w3.heap.size := ⟨_, rfl⟩
  change MgB (w3.alloc (.cells #[.int .i64 f, .int .u32 q, .int .u64 ss, .int .i64 v, .slice da dl dc, .string text] 47)) w3.heap.size ⟨f, q, ss, v, da, dl, dc, deps, text⟩ at X4
  rw [← hmb] at X4 HMB
  try rw [← hmb]
  clear hmb
  generalize w3.alloc (.cells #[.int .i64 f, .int .u32 q, .int .u64 ss, .int .i64 v, .slice da dl dc, .string text] 47) = w4 at *
  have KR := oripe (H0.out.below HB4.out) ⟨f, q, ss, v, da, dl, dc, deps, text⟩
  rw [← ripe_strip, HSX.out, hr] at KR
  unfold valG at KR
  simp only [encG] at KR
  have KR := Lib.hid KR
  go_wp2_with (first | (refine load_mg rfl (.tmp 5) rfl mb rfl X4 ?_) | fail)
  (try unfold valG)
  (try simp only [encG])
  refine KR.out.mono ?_
  rintro e w5 ⟨rfl, hB5⟩
  have M5 := M4.later hB5
  have X5 := X4.later hB5
  have HB5 := Lib.hid (HB4.out.trans (hB5.mono HB4.out.size))
  have HT5 := Lib.hid (HT4.out.below hB5)
  clear KR hB5 M4 X4 HB4 HT4
  obtain ⟨p, hp, -, hf, hq, hdc, -⟩ := head_is HO.out.ok hm
  have hf2 : f = (p : Int) := by have := congrArg Mg.f HSX.out; exact this.trans hf
  have hq2 : q = (O.dn p : Int) + 1 := by have := congrArg Mg.q HSX.out; exact this.trans hq
  have hdn : O.dn p ≤ 1000 := by
    have h1 := HO.out.ok.dc p hp
    have h2 := HO.out.hold.bnd p hp
    omega
  obtain ⟨d, hd⟩ : ∃ d, d = O.dn p := ⟨_, rfl⟩
  rw [← hd] at hq2
  subst hf2 hq2
  have hd1 : d ≤ 1000 := by omega
  have HD := Lib.hid hd
  have HOK := Lib.hid (del_ok HO.out.ok hm)
  have HDEL := Lib.hid (show delO O m = { O with dn := updF O.dn p (d + 1), last := m.key } by unfold delO; rw [hf, Int.toNat_natCast, hd])
  have HKEY := Lib.hid (show m.key = ⟨ss, (p : Int)⟩ by rw [← HSX.out]; rfl)
  have hp' : (p : Int) < 64 := by omega
  have hO5 := HO.out.below (show Below w.heap.size w w5 from HB5.out)
  have HO5 := Lib.hid hO5
  have e0 := X5.own.at_ 0 _ rfl
  clear hf hq hdc hdn hd hm hb hr hO5
  go_upto_region 7 with fail
  go_quiet (fail)
  clear e0
  go_upto_region 8 with fail
  have HB6 := Lib.hid ((((Grw.refl w5).drewN nq).drew).below)
  have hM6 := M5.later HB6.out
  have hX6 := X5.later HB6.out
  have hO6 := HO5.out.below HB6.out
  have HBW := Lib.hid (show Below w.heap.size w (w5.drewN nq).drew from HB5.out.trans (HB6.out.mono HB5.out.size))
  have HT6 := Lib.hid (HT5.out.below HB6.out)
  refine wp_region_held_drew (S := fun w' => MgB w' mb ⟨(p : Int), (d : Int) + 1, ss, v, da, dl, dc, deps, text⟩) (by kernel_rfl) hX6 (fun hHeld => ?_)
  clear M5 X5 HO5 HB5 HT5 HB6
  generalize (w5.drewN nq).drew = w6 at *
  have HM6 := Lib.hid hM6
  have HX6 := Lib.hid hX6
  have HO6 := Lib.hid hO6
  clear hM6 hX6 hO6
  refine stake (i := 0) (v := (.pointer (some ⟨g, 4 + p * 2, none⟩))) 28 rfl (by kernel_rfl) (by kernel_rfl) (by kernel_rfl) (by kernel_rfl) (fun _ _ _ h => h) (.inl ⟨by kernel_rfl, fun w' hS => by (go_simp)⟩) hHeld ?_
  (try simp only [Act.put, List.setIfInBounds_toArray, List.set_cons_zero, List.set_cons_succ])
  refine stake (i := 1) (v := (.pointer (some ⟨g, 4 + p * 2, none⟩))) 29 rfl (by kernel_rfl) (by kernel_rfl) (by kernel_rfl) (by kernel_rfl) (fun _ _ _ h => h) (.inl ⟨by kernel_rfl, fun w' hS => by (go_simp)⟩) hHeld ?_
  (try simp only [Act.put, List.setIfInBounds_toArray, List.set_cons_zero, List.set_cons_succ])
  refine stake (i := 2) (v := (.pointer (some ⟨g, 4 + p * 2, none⟩))) 30 rfl (by kernel_rfl) (by kernel_rfl) (by kernel_rfl) (by kernel_rfl) (fun _ _ _ h => h) (.inl ⟨by kernel_rfl, fun w' hS => by (go_simp)⟩) hHeld ?_
  (try simp only [Act.put, List.setIfInBounds_toArray, List.set_cons_zero, List.set_cons_succ])
  refine stake (i := 3) (v := (.pointer (some ⟨g, 4 + p * 2, none⟩))) 31 rfl (by kernel_rfl) (by kernel_rfl) (by kernel_rfl) (by kernel_rfl) (fun _ _ _ h => h) (.inl ⟨by kernel_rfl, fun w' hS => by (go_simp)⟩) hHeld ?_
  (try simp only [Act.put, List.setIfInBounds_toArray, List.set_cons_zero, List.set_cons_succ])
  refine stake (i := 4) (v := (.pointer (some ⟨g, 4 + p * 2, none⟩))) 32 rfl (by kernel_rfl) (by kernel_rfl) (by kernel_rfl) (by kernel_rfl) (fun _ _ _ h => h) (.inl ⟨by kernel_rfl, fun w' hS => by (go_simp)⟩) hHeld ?_
  (try simp only [Act.put, List.setIfInBounds_toArray, List.set_cons_zero, List.set_cons_succ])
  refine stake (i := 7) (v := (.pointer (some ⟨mb, 1, none⟩))) 35 rfl (by kernel_rfl) (by kernel_rfl) (by kernel_rfl) (by kernel_rfl) (fun _ _ _ h => h) (.inl ⟨by kernel_rfl, fun w' hS => by (go_simp)⟩) hHeld ?_
  (try simp only [Act.put, List.setIfInBounds_toArray, List.set_cons_zero, List.set_cons_succ])
  refine stake (i := 8) (v := (.int .u32 ((d : Int) + 1))) 36 rfl (by kernel_rfl) (by kernel_rfl) (by kernel_rfl) (by kernel_rfl) (fun _ _ _ h => h) (.inl ⟨by kernel_rfl, fun w' hS => by (have hc : w'.cell? ⟨mb, 1, none⟩ = some (.int .u32 ((d : Int) + 1)) := (MgB.own hS).at_ 1 _ rfl; go_simp)⟩) hHeld ?_
  (try simp only [Act.put, List.setIfInBounds_toArray, List.set_cons_zero, List.set_cons_succ])
  refine wpAnyH_ready (rs := [5]) (by kernel_rfl) (by simp) (AllReadyH.cons rfl (fun K hK => ?_) AllReadyH.nil)
  have ct := HO6.out.t0 p hp
  rw [← HD.out] at ct
  clear hHeld
  rw [if_pos (by kernel_rfl)]
  go_simp
  refine hK.out _ _ HX6.out (fun hHeld => ?_)
  clear hK K ct
  (try simp only [Act.put, List.setIfInBounds_toArray, List.set_cons_zero, List.set_cons_succ])
  refine stake (i := 6) (v := (.int .u32 ((d : Int) + 1))) 34 rfl (by kernel_rfl) (by kernel_rfl) (by kernel_rfl) (by kernel_rfl) (fun _ _ _ h => h) (.inl ⟨by kernel_rfl, fun w' hS => by (have hw : IntKind.u32.wrap ((d : Int) + 1) = (d : Int) + 1 := IntWalk.u32_in _ (by omega); go_simp)⟩) hHeld ?_
  (try simp only [Act.put, List.setIfInBounds_toArray, List.set_cons_zero, List.set_cons_succ])
  refine stake (i := 9) (v := (.pointer (some ⟨g, 4 + p * 2, none⟩))) 37 rfl (by kernel_rfl) (by kernel_rfl) (by kernel_rfl) (by kernel_rfl) (fun _ _ _ h => h) (.inl ⟨by kernel_rfl, fun w' hS => by (go_simp)⟩) hHeld ?_
  (try simp only [Act.put, List.setIfInBounds_toArray, List.set_cons_zero, List.set_cons_succ])
  refine stake (i := 10) (v := (.pointer (some ⟨g, 4 + p * 2, none⟩))) 38 rfl (by kernel_rfl) (by kernel_rfl) (by kernel_rfl) (by kernel_rfl) (fun _ _ _ h => h) (.inl ⟨by kernel_rfl, fun w' hS => by (go_simp)⟩) hHeld ?_
  (try simp only [Act.put, List.setIfInBounds_toArray, List.set_cons_zero, List.set_cons_succ])
  refine wpAnyH_ready (rs := [11]) (by kernel_rfl) (by simp) (AllReadyH.cons rfl (fun K hK => ?_) AllReadyH.nil)
  have ct := HO6.out.t0 p hp
  have ft := HO6.out.free (4 + p * 2)
  have HW7 := Lib.hid (HO6.out.own.set (4 + p * 2) (.int .u32 ((d : Int) + 1)))
  have hgm : mb ≠ g := by have := HO.out.lim g HO.out.eg; have := HRB.out; have := HMB.out; omega
  have HX7 := Lib.hid (Own.set_other (HX6.out.own) g (4 + p * 2) (.int .u32 ((d : Int) + 1)) hgm)
  have HG7 := Lib.hid (grown_set13 w6 g (4 + p * 2) (.int .u32 ((d : Int) + 1)))
  clear hHeld
  rw [if_pos (by kernel_rfl)]
  go_simp
  refine hK.out _ _ HX7.out (fun hHeld => ?_)
  clear hK K ct ft
  (try simp only [Act.put, List.setIfInBounds_toArray, List.set_cons_zero, List.set_cons_succ])
  generalize w6.setCell ⟨g, 4 + p * 2, none⟩ (.int .u32 ((d : Int) + 1)) = w7 at *
  refine stake (i := 12) (v := (.pointer (some ⟨g, 4 + p * 2, none⟩))) 39 rfl (by kernel_rfl) (by kernel_rfl) (by kernel_rfl) (by kernel_rfl) (fun _ _ _ h => h) (.inl ⟨by kernel_rfl, fun w' hS => by (go_simp)⟩) hHeld ?_
  (try simp only [Act.put, List.setIfInBounds_toArray, List.set_cons_zero, List.set_cons_succ])
  refine stake (i := 13) (v := (.pointer (some ⟨g, 4 + p * 2 + 1, none⟩))) 40 rfl (by kernel_rfl) (by kernel_rfl) (by kernel_rfl) (by kernel_rfl) (fun _ _ _ h => h) (.inl ⟨by kernel_rfl, fun w' hS => by (go_simp)⟩) hHeld ?_
  (try simp only [Act.put, List.setIfInBounds_toArray, List.set_cons_zero, List.set_cons_succ])
  refine wpAnyH_ready (rs := [14]) (by kernel_rfl) (by simp) (AllReadyH.cons rfl (fun K hK => ?_) AllReadyH.nil)
  have ct : w7.cell? ⟨g, 4 + p * 2 + 1, none⟩ = some (.int .u32 (O.dn p : Int)) := by
    refine HW7.out.at_ _ _ ?_
    rw [Array.getElem?_setIfInBounds_ne (by omega)]
    have := HO6.out.t1 p hp
    rw [cell_of_row _ _ _ _ _ _ HO6.out.own] at this
    exact this
  have ft := HW7.out.free (4 + p * 2 + 1)
  have HW8 := Lib.hid (HW7.out.set (4 + p * 2 + 1) (.int .u32 ((d : Int) + 1)))
  have HX8 := Lib.hid (Own.set_other (HX7.out) g (4 + p * 2 + 1) (.int .u32 ((d : Int) + 1)) hgm)
  have HG8 := Lib.hid (grown_set13 w7 g (4 + p * 2 + 1) (.int .u32 ((d : Int) + 1)))
  clear hHeld
  rw [if_pos (by kernel_rfl)]
  go_simp
  refine hK.out _ _ HX8.out (fun hHeld => ?_)
  clear hK K ct ft hHeld
  generalize w7.setCell ⟨g, 4 + p * 2 + 1, none⟩ (.int .u32 ((d : Int) + 1)) = w8 at *
  refine wpAnyH_done (by kernel_rfl) ?_ _
  have hC8 : Chg (fun k => k = g) w w8 := (Chg.after HBW.out (Chg.grown HG7.out (fun k e => by cases e; rfl))).trans (Chg.grown HG8.out (fun k e => by cases e; rfl))
  have ho8 := HW8.out
  rw [show (d : Int) + 1 = ((d + 1 : Nat) : Int) by omega, oC_tally gh gz O p (d + 1) hp] at ho8
  have hgr : rb ≠ g := by have := HO.out.lim g HO.out.eg; have := HRB.out; omega
  have hM8 : MgB w8 rb zeroG := (HG8.out.block rb (Nat.lt_of_lt_of_le HM6.out.lt HG7.out.size) (fun e => hgr (by cases e; rfl))).trans ((HG7.out.block rb HM6.out.lt (fun e => hgr (by cases e; rfl))).trans HM6.out)
  have KO := of12_any ⟨(p : Int), (d : Int) + 1, ss, v, da, dl, dc, deps, text⟩ w8
  simp only [encG] at KO
  have KO := Lib.hid KO
  have HX9 := Lib.hid (show MgB w8 mb ⟨(p : Int), (d : Int) + 1, ss, v, da, dl, dc, deps, text⟩ from HX8.out)
  have HP8 := Lib.hid (And.intro hC8 (And.intro ho8 hM8))
  have HL8 := Lib.hid (show w6.heap.size ≤ w8.heap.size from Nat.le_trans HG7.out.size HG8.out.size)
  have HD8 := Lib.hid (show DpT w8 (fun k => rb + 1 ≤ k) ⟨(p : Int), (d : Int) + 1, ss, v, da, dl, dc, deps, text⟩ from (HT6.out.kept fun ad e => (HG7.out.block _ (HT6.out.lt ad e) (fun e2 => by have h1 := (HT6.out.typ ad e).1; injection e2 with e2; have := HO.out.lim g HO.out.eg; have := HRB.out; omega))).kept fun ad e => (HG8.out.block _ (Nat.lt_of_lt_of_le (HT6.out.lt ad e) HG7.out.size) (fun e2 => by have h1 := (HT6.out.typ ad e).1; injection e2 with e2; have := HO.out.lim g HO.out.eg; have := HRB.out; omega)))
  clear HW7 HX7 HG7 HW8 HX8 HG8 HM6 HX6 HO6 hC8 ho8 hM8 HT6 HBW
  go_wp2_with (first | (refine load_mg rfl (.tmp 5) rfl mb rfl HX9.out ?_) | fail)
  (try unfold valG)
  (try simp only [encG])
  refine KO.out.mono ?_
  rintro e w9 ⟨rfl, hG9⟩
  have ho9 := HP8.out.2.1.below hG9.below HP8.out.2.1.lt
  obtain ⟨l0, l1⟩ := cell_last ho9
  have f0 := ho9.free 132
  have f1 := ho9.free 133
  have HP9 := Lib.hid (And.intro (HP8.out.1.then hG9.below) (And.intro ho9 (HP8.out.2.2.later hG9.below)))
  have HXA := Lib.hid (HX9.out.later hG9.below)
  have HD9 := Lib.hid (HD8.out.below hG9.below)
  clear KO hG9 ho9 HP8 HD8 HX9
  go_upto_region 10 with fail
  have HK2 := Lib.hid (show ({ f := (p : Int), q := (d : Int) + 1, s := ss, v := v, a := da, dl := dl, dc := dc, deps := deps, text := text } : Mg).key = m.key from HKEY.out.symm)
  rw [HK2.out]
  have ho10 := (HP9.out.2.1.set 132 (.int .u64 m.key.n)).set 133 (.int .i64 m.key.p)
  rw [oC_last] at ho10
  have hg1 := grown_set13 w9 g 132 (.int .u64 m.key.n)
  have hg2 := grown_set13 (w9.setCell ⟨g, 132, none⟩ (.int .u64 m.key.n)) g 133 (.int .i64 m.key.p)
  have hX10 : MgB ((w9.setCell ⟨g, 132, none⟩ (.int .u64 m.key.n)).setCell ⟨g, 133, none⟩ (.int .i64 m.key.p)) mb ⟨(p : Int), (d : Int) + 1, ss, v, da, dl, dc, deps, text⟩ := Own.set_other (Own.set_other HXA.out.own g 132 _ hgm) g 133 _ hgm
  have hM10 : MgB ((w9.setCell ⟨g, 132, none⟩ (.int .u64 m.key.n)).setCell ⟨g, 133, none⟩ (.int .i64 m.key.p)) rb zeroG := Own.set_other (Own.set_other HP9.out.2.2.own g 132 _ hgr) g 133 _ hgr
  have hC10 : Chg (fun k => k = g) w ((w9.setCell ⟨g, 132, none⟩ (.int .u64 m.key.n)).setCell ⟨g, 133, none⟩ (.int .i64 m.key.p)) := (HP9.out.1.trans (Chg.grown hg1 (fun k e => by cases e; rfl))).trans (Chg.grown hg2 (fun k e => by cases e; rfl))
  have hlg := HO.out.lim g HO.out.eg
  have hD10 : DpT ((w9.setCell ⟨g, 132, none⟩ (.int .u64 m.key.n)).setCell ⟨g, 133, none⟩ (.int .i64 m.key.p)) (fun k => rb + 1 ≤ k) ⟨(p : Int), (d : Int) + 1, ss, v, da, dl, dc, deps, text⟩ := (HD9.out.kept fun ad e => (hg1.block _ (HD9.out.lt ad e) (fun e2 => by have h1 := (HD9.out.typ ad e).1; injection e2 with e2; have := HRB.out; omega))).kept fun ad e => (hg2.block _ (Nat.lt_of_lt_of_le (HD9.out.lt ad e) hg1.size) (fun e2 => by have h1 := (HD9.out.typ ad e).1; injection e2 with e2; have := HRB.out; omega))
  have HP10 := Lib.hid (And.intro hC10 (And.intro ho10 (And.intro hM10 hD10)))
  have HX10 := Lib.hid hX10
  clear HP9 HXA HD9 l0 l1 f0 f1 ho10 hg1 hg2 hX10 hM10 hC10 hD10
  generalize (w9.setCell ⟨g, 132, none⟩ (.int .u64 m.key.n)).setCell ⟨g, 133, none⟩ (.int .i64 m.key.p) = w10 at *
  go_wp2_with (first | (refine load_mg rfl (.tmp 5) rfl mb rfl HX10.out ?_) | (refine store_mg rfl (.tmp 2) (.tmp 46) rfl rb ⟨(p : Int), (d : Int) + 1, ss, v, da, dl, dc, deps, text⟩ rfl rfl HP10.out.2.2.1 ?_))
  (try simp only [Exit.inBlock, Exit.then])
  obtain ⟨hC, ho, hM, hD⟩ := HP10.out
  have hrb := HRB.out
  have hB11 : Chg (fun k => k = g) w (w10.setRow rb (encG ⟨(p : Int), (d : Int) + 1, ss, v, da, dl, dc, deps, text⟩).toArray) := by
    have h1 := belowRow10 (B := w.heap.size) (a := w10) ⟨rfl, rfl, rfl, Nat.le_refl _, fun _ _ => rfl⟩ rb (by omega) (encG ⟨(p : Int), (d : Int) + 1, ss, v, da, dl, dc, deps, text⟩).toArray
    exact ⟨h1.os.trans hC.os, h1.tape.trans hC.tape, h1.output.trans hC.output, Nat.le_trans hC.size h1.size, fun k hk hn => (h1.block k hk).trans (hC.block k hk hn)⟩
  have hOF := HO.out.told (O1 := delO O m) hB11 (by
    rw [HDEL.out]
    exact (setRow_other _ _ _ _ (fun e => hgr e.symm)).trans ho) rfl rfl HOK.out
  refine bodyPost_ret (v := .tuple #[valG ⟨(p : Int), (d : Int) + 1, ss, v, da, dl, dc, deps, text⟩, .bool true]) (results_mg2 (p := 2) (u := 3) rfl _ _ rb rfl (hM.row ⟨(p : Int), (d : Int) + 1, ss, v, da, dl, dc, deps, text⟩)) rfl (.yes m _ _ _ HSX.out ?_ ⟨_, _, _, _, hOF⟩ hB11)
  exact (hD.kept fun ad e => setRow_other _ _ _ _ (by have := (hD.typ ad e).1; omega)).more fun k _ hk => by omega
theorem onext (h : ORep w E g N O) (hN : N ≤ 1000) :
    Calls Try.prog 61 #[.pointer (some ⟨g, 0, none⟩)] w (NextSaid w E g N O (nextO O)) := by
  cases hb : bestK (headsO O) none with
  | none =>
    have e : nextO O = none := by unfold nextO; rw [hb]
    rw [e]
    exact onext_empty h hN hb
  | some m =>
    rw [nextO_best hb]
    cases hr : ripeO O m with
    | false => exact onext_not h hN m hb hr
    | true =>
      have hm : m ∈ headsO O := by
        rcases bestK_mem _ _ _ hb with e | e
        · exact e
        · cases e
      exact onext_yes h hN m hb hr hm
end
end Go.Proofs.Ytfocjcdfpnbkjaa
