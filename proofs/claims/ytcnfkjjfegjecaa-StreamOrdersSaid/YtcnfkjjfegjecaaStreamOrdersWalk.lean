/- The walk of 'StreamOrders'. -/
import Derived.Test.YtcnfkjjfegjecaaSLoop
set_option linter.unusedVariables false
set_option linter.unusedSimpArgs false
namespace Go.Proofs.Ytcnfkjjfegjecaa
open Go.RowKit Go.Sort Go.Maps

/-- What the two rows and the stream hold, some calls on. -/
structure OrdSt (wr : World) (B g b k : Nat) (l : List Mg) (S : Sm Mg) (F1 A1 : List Mg) (fo : Option Addr) (fc : Nat) (ao : Option Addr) (ac : Nat) : Prop where
  ord : Ord sqG S F1 A1
  sub : ∀ m ∈ F1, m ∈ l
  few : F1.length ≤ k
  rep : SmRep wr (FF g b fo ao) g b S
  fst : OutAt wr (FF g b fo ao) B fo fc F1
  all : OutAt wr (FF g b fo ao) B ao ac A1
  apart : ∀ x y, fo = some x → ao = some y → x.block ≠ y.block
  base : B ≤ wr.heap.size
theorem DpIn.below_to {w w' : World} {m : Mg} {ao : Option Addr} {len : Nat} {l : List Mg} (h : DpIn w m) (_ : Lst encG 6 w ao len l) (hb : Below w.heap.size w w') : DpIn w' m := h.below hb
theorem OrdSt.cnt {wr : World} {B g b k : Nat} {l : List Mg} {S : Sm Mg} {F1 A1 : List Mg} {fo : Option Addr} {fc : Nat} {ao : Option Addr} {ac : Nat} (h : OrdSt wr B g b k l S F1 A1 fo fc ao ac) : A1.length ≤ k ∧ S.count ≤ k := by
  have h1 := h.ord.len
  have h2 := h.few
  have h3 := h.ord.count
  omega
/-- Behind Take, ahead of the rows. -/
structure OrdMid (wr : World) (B g b k : Nat) (l : List Mg) (S' : Sm Mg) (F1 A1 : List Mg) (fo : Option Addr) (fc : Nat) (ao : Option Addr) (ac : Nat) (oo : Option Addr) (oc : Nat) (out : List Mg) (b0 : Nat) : Prop where
  sub : ∀ m ∈ F1, m ∈ l
  rep : SmRep wr (FF g b fo ao) g b S'
  fst : OutAt wr (FF g b fo ao) B fo fc F1
  all : OutAt wr (FF g b fo ao) B ao ac A1
  out : OutAt wr (FF g b fo ao) b0 oo oc out
  apart : ∀ x y, fo = some x → ao = some y → x.block ≠ y.block
  apartO : ∀ x y, fo = some x → oo = some y → x.block ≠ y.block
  base : B ≤ wr.heap.size
theorem OrdSt.took {w0 wr w' : World} {B g b k : Nat} {l : List Mg} {S : Sm Mg} {F1 A1 : List Mg} {fo : Option Addr} {fc : Nat} {ao : Option Addr} {ac : Nat} (h : OrdSt wr B g b k l S F1 A1 fo fc ao ac) (hg : g < B) (hb : b < B) {m : Mg} {oo : Option Addr} {oc : Nat}
    (hR : SmRep w' (FF g b fo ao) g b (takeS sqG S m)) (hO : OutAt w' (FF g b fo ao) wr.heap.size oo oc (outS sqG S m)) (hM : Mv g b wr w') : OrdMid w' B g b k l (takeS sqG S m) F1 A1 fo fc ao ac oo oc (outS sqG S m) wr.heap.size where
  sub := h.sub
  rep := hR
  fst := h.fst.kept (fun k hk hn => hM.block k hk (fun e => hn (e ▸ ff_g g b fo ao)) (fun e => hn (e ▸ ff_b g b fo ao))) (fun x e hk => by have := h.fst.place x e; exact hM.block _ hk (by omega) (by omega))
  all := h.all.kept (fun k hk hn => hM.block k hk (fun e => hn (e ▸ ff_g g b fo ao)) (fun e => hn (e ▸ ff_b g b fo ao))) (fun x e hk => by have := h.all.place x e; exact hM.block _ hk (by omega) (by omega))
  out := hO
  apart := h.apart
  apartO := fun x y e e2 => by have := (h.fst.place x e).2; have := (hO.place y e2).1; omega
  base := Nat.le_trans h.base hM.size
theorem OrdMid.later {wr w' : World} {B g b k : Nat} {l : List Mg} {S' : Sm Mg} {F1 A1 : List Mg} {fo : Option Addr} {fc : Nat} {ao : Option Addr} {ac : Nat} {oo : Option Addr} {oc : Nat} {out : List Mg} {b0 : Nat} (h : OrdMid wr B g b k l S' F1 A1 fo fc ao ac oo oc out b0) (hb : Below wr.heap.size wr w') : OrdMid w' B g b k l S' F1 A1 fo fc ao ac oo oc out b0 :=
  ⟨h.sub, h.rep.below hb, h.fst.below hb, h.all.below hb, h.out.below hb, h.apart, h.apartO, Nat.le_trans h.base hb.size⟩
/-- One more that was taken. -/
theorem OrdMid.first {wr w' : World} {B g b k : Nat} {l : List Mg} {S' : Sm Mg} {F1 A1 : List Mg} {fo : Option Addr} {fc : Nat} {ao : Option Addr} {ac : Nat} {oo : Option Addr} {oc : Nat} {out : List Mg} {b0 : Nat} (h : OrdMid wr B g b k l S' F1 A1 fo fc ao ac oo oc out b0) (hg : g < B) (hb : b < B) {m : Mg} (hm : m ∈ l) {fo' : Option Addr} {fc' : Nat}
    (h1 : OutAt w' (addB (FF g b fo ao) fo') B fo' fc' (F1 ++ [m])) (h2 : wr.grownBy w' (Value.slice fo F1.length fc).ownBlock) (h3 : ∀ x, fo' = some x → fo = some x ∨ x.block = wr.heap.size) : OrdMid w' B g b k l S' (F1 ++ [m]) A1 fo' fc' ao ac oo oc out b0 := by
  have hF : ∀ x, fo = some x → FF g b fo ao x.block := ff_f
  have hn := addB_new (w := wr) hF h3
  have hsub : ∀ k, FF g b fo ao k → addB (FF g b fo ao) fo' k := fun k hk => .inl hk
  have hl : ∀ k, addB (FF g b fo ao) fo' k → k < w'.heap.size := fun k hk => by
    rcases hk with hk | ⟨x, e, rfl⟩
    · exact Nat.lt_of_lt_of_le (h.rep.lim k hk) h2.size
    · exact (h1.place x e).2
  refine ⟨fun x hx => ?_, ?_, h1.less ff_sub_f, ?_, ?_, fun x y e e2 => ?_, fun x y e e2 => ?_, Nat.le_trans h.base h2.size⟩
  · rcases List.mem_append.1 hx with hx | hx
    · exact h.sub x hx
    · rw [List.mem_singleton.1 hx]; exact hm
  · exact (h.rep.grow h2 (fun j hj => by
      obtain ⟨x, e, rfl⟩ := own_of_slice hj
      have := h.fst.place x e
      exact ⟨ff_f x e, by omega, by omega⟩) hsub hn hl).less ff_sub_f (ff_g _ _ _ _) (ff_b _ _ _ _)
  · exact (h.all.grow h2 (fun j hj => by
      obtain ⟨x, e, rfl⟩ := own_of_slice hj
      exact ⟨ff_f x e, fun y e2 e3 => h.apart x y e e2 e3.symm⟩) hsub hn).less ff_sub_f
  · exact (h.out.grow h2 (fun j hj => by
      obtain ⟨x, e, rfl⟩ := own_of_slice hj
      exact ⟨ff_f x e, fun y e2 e3 => h.apartO x y e e2 e3.symm⟩) hsub hn).less ff_sub_f
  · have := (h.all.place y e2).2
    rcases h3 x e with e3 | e3
    · exact h.apart x y e3 e2
    · omega
  · have := (h.out.place y e2).2
    rcases h3 x e with e3 | e3
    · exact h.apartO x y e3 e2
    · omega
/-- Those that are answered now. -/
theorem OrdMid.done {wr w' : World} {B g b k : Nat} {l : List Mg} {S' : Sm Mg} {F1 A1 : List Mg} {fo : Option Addr} {fc : Nat} {ao : Option Addr} {ac : Nat} {oo : Option Addr} {oc : Nat} {out : List Mg} {b0 : Nat} (h : OrdMid wr B g b k l S' F1 A1 fo fc ao ac oo oc out b0) (hg : g < B) (hb : b < B) (ho : Ord sqG S' F1 (A1 ++ out)) (hf : F1.length ≤ k + 1) {ao' : Option Addr} {ac' : Nat}
    (h1 : OutAt w' (addB (FF g b fo ao) ao') B ao' ac' (A1 ++ out)) (h2 : wr.grownBy w' (Value.slice ao A1.length ac).ownBlock) (h3 : ∀ x, ao' = some x → ao = some x ∨ x.block = wr.heap.size) : OrdSt w' B g b (k + 1) l S' F1 (A1 ++ out) fo fc ao' ac' := by
  have hF : ∀ x, ao = some x → FF g b fo ao x.block := ff_a
  have hn := addB_new (w := wr) hF h3
  have hsub : ∀ k, FF g b fo ao k → addB (FF g b fo ao) ao' k := fun k hk => .inl hk
  have hl : ∀ k, addB (FF g b fo ao) ao' k → k < w'.heap.size := fun k hk => by
    rcases hk with hk | ⟨x, e, rfl⟩
    · exact Nat.lt_of_lt_of_le (h.rep.lim k hk) h2.size
    · exact (h1.place x e).2
  refine ⟨ho, h.sub, hf, ?_, ?_, h1.less ff_sub_a, fun x y e e2 => ?_, Nat.le_trans h.base h2.size⟩
  · exact (h.rep.grow h2 (fun j hj => by
      obtain ⟨x, e, rfl⟩ := own_of_slice hj
      have := h.all.place x e
      exact ⟨ff_a x e, by omega, by omega⟩) hsub hn hl).less ff_sub_a (ff_g _ _ _ _) (ff_b _ _ _ _)
  · exact (h.fst.grow h2 (fun j hj => by
      obtain ⟨x, e, rfl⟩ := own_of_slice hj
      exact ⟨ff_a x e, fun y e2 e3 => h.apart y x e2 e e3⟩) hsub hn).less ff_sub_a
  · have := (h.fst.place x e).2
    rcases h3 y e2 with e3 | e3
    · exact h.apart x y e e3
    · omega
theorem OrdSt.start {wr : World} {B g b : Nat} {l : List Mg} {n : Int} (h : SmRep wr (Two10 g b) g b (newS n)) (hB : B ≤ wr.heap.size) : OrdSt wr B g b 0 l (newS n) [] [] none 0 none 0 where
  ord := ⟨newS_inv n, rfl, fun i x h => by simp at h, (fun x h => by rcases h with h | h <;> cases h), rfl⟩
  sub := fun m hm => by cases hm
  few := Nat.le_refl _
  rep := by
    obtain ⟨H, hS, hR⟩ := h.ex
    have hs : ∀ k, FF g b none none k → Two10 g b k := by
      rintro k ((hk | ⟨x, e, _⟩) | ⟨x, e, _⟩)
      · exact hk
      · cases e
      · cases e
    exact ⟨ff_g _ _ _ _, ff_b _ _ _ _, fun k hk => h.lim k (hs k hk), H, hS, hR.more fun k hk => .inl (hs k hk)⟩
  fst := OutAt.nil _ _ _
  all := OutAt.nil _ _ _
  apart := fun x y e => by cases e
  base := hB
theorem OrdSt.below {wr w' : World} {B g b k : Nat} {l : List Mg} {S : Sm Mg} {F1 A1 : List Mg} {fo : Option Addr} {fc : Nat} {ao : Option Addr} {ac : Nat} (h : OrdSt wr B g b k l S F1 A1 fo fc ao ac) (hb : Below wr.heap.size wr w') : OrdSt w' B g b k l S F1 A1 fo fc ao ac :=
  ⟨h.ord, h.sub, h.few, h.rep.below hb, h.fst.below hb, h.all.below hb, h.apart, Nat.le_trans h.base hb.size⟩
/-- What the search says of the first k. -/
def foundB (F1 : List Mg) (m : Mg) (k : Nat) (fb : Bool) : Prop := ∀ j, j < k → F1[j]? = some m → fb = true
set_option maxHeartbeats 8000000 in
set_option maxRecDepth 100000 in
theorem orders_core (n : Int) (n0 : -9223372036854775808 ≤ n) (n1 : n ≤ 9223372036854775807) (ao : Option Addr) (len cap : Nat) (l : List Mg) (w : World) (hl : Lst encG 6 w ao len l) (hm : ∀ m ∈ l, DpIn w m ∧ 0 ≤ m.q ∧ m.q < 4294967296) :
    Calls Try.prog 4 #[.int .i64 n, .slice ao len cap] w fun e w' => e = .returned (.bool true) ∧ Below w.heap.size w w' := by
  have HL := Lib.hid hl
  have HM := Lib.hid hm
  have HAW := Lib.hid (sawake w)
  have mixed : Try.prog.follows .mixedOrders = true := by kernel_rfl
  clear hl hm
  go_enter Try.func4, Try.ntmps4
  go_wp2_with fail
  refine HAW.out.mono ?_
  rintro e w1 ⟨rfl, L1⟩
  have HFE := Lib.hid (fewG_any ao len cap l w1 (HL.out.below L1))
  have HL1 := Lib.hid L1
  clear HAW L1
  go_wp2_with fail
  refine HFE.out.mono ?_
  rintro e w2 ⟨(rfl | ⟨rfl, h300, hdl⟩), L2⟩
  · have HL2 := Lib.hid (HL1.out.trans (L2.mono HL1.out.size))
    clear HFE HL1 L2
    go_wp2_with fail
    go_ret
    exact ⟨rfl, HL2.out⟩
  have HL2 := Lib.hid (HL1.out.trans (L2.mono HL1.out.size))
  have HNW := Lib.hid (snew_any n w2 n0 n1)
  have HDL := Lib.hid hdl
  clear HFE HL1 L2 hdl
  go_wp2_with fail
  refine HNW.out.mono ?_
  rintro e w3 ⟨rfl, R3, L3⟩
  have HL3 := Lib.hid (HL2.out.trans (L3.mono HL2.out.size))
  obtain ⟨hg3, hb3⟩ := R3.lt
  have h23 := HL2.out.size
  obtain ⟨g, hge⟩ : ∃ g, g = w2.heap.size + 1 := ⟨_, rfl⟩
  obtain ⟨b, hbe⟩ : ∃ b, b = w2.heap.size := ⟨_, rfl⟩
  rw [← hge, ← hbe] at R3
  rw [← hge] at hg3 ⊢
  rw [← hbe] at hb3
  have HST := Lib.hid (OrdSt.start (B := w3.heap.size) (l := l) R3 (Nat.le_refl _))
  have hgw : w.heap.size ≤ g := by omega
  have hbw : w.heap.size ≤ b := by omega
  clear HNW R3 L3 HL2 hge hbe h23
  have hgB : g < w3.heap.size := hg3
  have hbB : b < w3.heap.size := hb3
  have hwB : w.heap.size ≤ w3.heap.size := by omega
  clear hg3 hb3
  generalize w3.heap.size = B at *
  go_wp2_with fail
  go_loopw [6, 7, 8] (fun sf sa si wr => ∃ (k : Nat) (S : Sm Mg) (F1 A1 : List Mg) (fo : Option Addr) (fc : Nat) (oa : Option Addr) (oc : Nat), k ≤ len ∧ si = .int .i64 k ∧ sf = .slice fo F1.length fc ∧ sa = .slice oa A1.length oc ∧
      OrdSt wr B g b k l S F1 A1 fo fc oa oc ∧ Below w.heap.size w wr) (fun _ _ si _ => len - (intOf si).toNat)
  case atStart => exact ⟨0, newS n, [], [], none, 0, none, 0, Nat.zero_le _, rfl, rfl, rfl, HST.out, HL3.out⟩
  case round =>
    obtain ⟨k, S, F1, A1, fo, fc, oa, oc, hk, rfl, rfl, rfl, hst, hB⟩ := hrel
    have HSTK := Lib.hid hst
    have HBB := Lib.hid hB
    clear hst hB
    by_cases hlt : k < len
    · obtain ⟨b1, o1, m, rfl, hx, hb1, h1⟩ := HL.out.atG hlt
      have hmem := List.mem_of_getElem? hx
      obtain ⟨hmd, hq0, hq1⟩ := HM.out m hmem
      have hcnt := HSTK.out.cnt
      have HT : Hid (Calls Try.prog 11 #[.pointer (some ⟨g, 0, none⟩), .agg #[.int .i64 m.f, .int .u32 m.q, .int .u64 m.s, .int .i64 m.v, .slice m.a m.dl m.dc, .string m.text]] wr (TookPost wr (FF g b fo oa) g b S m)) :=
        Lib.hid (stake_any HSTK.out.rep HSTK.out.ord.inv m (hmd.below_to HL.out HBB.out) hq0 hq1 (by have := HDL.out m hmem; omega) (by omega))
      have hbs := HBB.out.size
      have hbw1 : b1 < wr.heap.size := by omega
      have HC1 := Lib.hid h1
      have a0 := cell_later HBB.out (h1 0 _ rfl)
      have a1 := cell_later HBB.out (h1 1 _ rfl)
      have a2 := cell_later HBB.out (h1 2 _ rfl)
      have a3 := cell_later HBB.out (h1 3 _ rfl)
      have a4 := cell_later HBB.out (h1 4 _ rfl)
      have a5 := cell_later HBB.out (h1 5 _ rfl)
      simp only [Nat.add_zero] at a0
      have HMM := Lib.hid (show m ∈ l ∧ DpIn w m from ⟨hmem, hmd⟩)
      clear h1 hx hmd hmem hq0 hq1 hcnt
      by_cases hc : codeS sqG S m = 0
      · have HORD : Hid (Ord sqG (takeS sqG S m) (F1 ++ [m]) (A1 ++ outS sqG S m)) := Lib.hid (by have := HSTK.out.ord.step sqG m; rw [if_pos hc] at this; exact this)
        have HOL : Hid ((outS sqG S m).length ≤ 200) := Lib.hid (by have := HORD.out.len; have := HSTK.out.ord.len; have := HSTK.out.ord.inv.few; simp at *; omega)
        have HT2 : Hid (Calls Try.prog 11 #[.pointer (some ⟨g, 0, none⟩), .agg #[.int .i64 m.f, .int .u32 m.q, .int .u64 m.s, .int .i64 m.v, .slice m.a m.dl m.dc, .string m.text]] wr fun e w' => ∃ oo oc2, e = .returned (.tuple #[.slice oo (outS sqG S m).length oc2, .int .i64 0]) ∧
          OrdMid w' B g b k l (takeS sqG S m) F1 A1 fo fc oa oc oo oc2 (outS sqG S m) wr.heap.size ∧ Mv g b wr w') := Lib.hid (HT.out.mono fun e w' ⟨oo, oc2, he, R4, O4, M4⟩ => by
            have hmid := HSTK.out.took (w0 := wr) hgB hbB R4 O4 M4
            rw [hc] at he
            exact ⟨oo, oc2, he, hmid, M4⟩)
        have HF1 := Lib.hid HSTK.out.few
        clear hc HT HSTK
        generalize outS sqG S m = out at *
        generalize takeS sqG S m = S' at *
        go_upto_region 14 with (go_at_call 11; refine HT2.out.mono ?_; rintro e w4 ⟨oo, oc2, rfl, MID, M4⟩; have HMID := Lib.hid MID; have HB4 := Lib.hid (HBB.out.trans (M4.below hbs hgw hbw)); clear MID M4)
        clear a0 a1 a2 a3 a4 a5 HT2
        have a0 := cell_later HB4.out (HC1.out 0 _ rfl)
        have a1 := cell_later HB4.out (HC1.out 1 _ rfl)
        have a2 := cell_later HB4.out (HC1.out 2 _ rfl)
        have a3 := cell_later HB4.out (HC1.out 3 _ rfl)
        have a4 := cell_later HB4.out (HC1.out 4 _ rfl)
        have a5 := cell_later HB4.out (HC1.out 5 _ rfl)
        simp only [Nat.add_zero] at a0
        have G5 : Grw w4 (w4.alloc (.cells #[.int .i64 m.f, .int .u32 m.q, .int .u64 m.s, .int .i64 m.v, .slice m.a m.dl m.dc, .string m.text] 37)) := (Grw.refl w4).alloc _
        have HM5 := Lib.hid (HMID.out.later G5.below)
        have HB5 := Lib.hid (HB4.out.trans (G5.below.mono HB4.out.size))
        have HO5 : Hid (OutAt (w4.alloc (.cells #[.int .i64 m.f, .int .u32 m.q, .int .u64 m.s, .int .i64 m.v, .slice m.a m.dl m.dc, .string m.text] 37)) (FF g b fo oa) w4.heap.size (some ⟨w4.heap.size, 0, none⟩) 1 [m]) := Lib.hid (out_one (MgB.new w4 m) (Like.refl m) ⟨HMM.out.2.below HB5.out, fun ad e h0 hf => by
          obtain ⟨q1, q2, q3, q4⟩ := HMM.out.2.src h0
          rw [e] at q3
          injection q3 with q3
          have hl := HMM.out.2.size
          have h1 := q4 0 _ (List.getElem?_eq_getElem (by omega)) 0 _ rfl
          have h2 := World.block_lt_of_cell? _ _ h1
          subst q3
          simp only at h2 hf
          rcases hf with ((hf | hf) | ⟨x, e2, hf⟩) | ⟨x, e2, hf⟩
          · omega
          · omega
          · have := HMID.out.fst.place x e2; omega
          · have := HMID.out.all.place x e2; omega⟩)
        clear G5 HMID HB4
        go_wp2_with (first
          | (at_builtin; refine append_out _ rfl (.tmp 45) (.tmp 50) rfl (FF g b fo oa) B fo fc F1 rfl HM5.out.fst w4.heap.size _ 1 [m] rfl HO5.out ff_f (by have := HF1.out; simp; omega) HM5.out.base ?_; intro fo6 fc6 w6 O6 G6 LC6; have HM6 := Lib.hid (HM5.out.first hgB hbB HMM.out.1 O6 G6 LC6); have HB6 := Lib.hid (HB5.out.grown G6 HB5.out.size (fun j hj => by obtain ⟨x, e, rfl⟩ := own_of_slice hj; have := HM5.out.fst.place x e; omega)); clear O6 G6 LC6 HM5 HB5 HO5)
          | (at_builtin; refine append_out _ rfl (.tmp 52) (.tmp 53) rfl (FF g b fo6 oa) B oa oc A1 rfl HM6.out.all wr.heap.size oo oc2 out rfl HM6.out.out ff_a (by have := HF1.out; have := HORD.out.len; have := HOL.out; simp at *; omega) HM6.out.base ?_; intro ao7 ac7 w7 O7 G7 LC7; have HDONE := Lib.hid (HM6.out.done hgB hbB HORD.out (by have := HF1.out; simp; omega) O7 G7 LC7); have HB7 := Lib.hid (HB6.out.grown G7 HB6.out.size (fun j hj => by obtain ⟨x, e, rfl⟩ := own_of_slice hj; have := HM6.out.all.place x e; omega)); clear O7 G7 LC7 HM6))
        go_roundw
        case rel => exact ⟨k + 1, S', F1 ++ [m], A1 ++ out, fo6, fc6, ao7, ac7, by omega, by go_num, by first | rfl | simp, by first | rfl | simp, HDONE.out, HB7.out⟩
        case measure => simp [intOf]; omega
      · have hout : outS sqG S m = [] := if_neg hc
        have htk : takeS sqG S m = S := if_neg hc
        obtain ⟨c, hcc⟩ : ∃ c, c = codeS sqG S m := ⟨_, rfl⟩
        have hc2 : ((c : Int) != 0) = true := by simp; omega
        have hc3 : ((c : Int) == 0) = false := by simp; omega
        have HORD : Hid (Ord sqG S F1 (A1 ++ [])) := Lib.hid (by rw [List.append_nil]; exact HSTK.out.ord)
        have HT2 : Hid (Calls Try.prog 11 #[.pointer (some ⟨g, 0, none⟩), .agg #[.int .i64 m.f, .int .u32 m.q, .int .u64 m.s, .int .i64 m.v, .slice m.a m.dl m.dc, .string m.text]] wr fun e w' => ∃ oo oc2, e = .returned (.tuple #[.slice oo 0 oc2, .int .i64 c]) ∧
          OrdMid w' B g b k l S F1 A1 fo fc oa oc oo oc2 [] wr.heap.size ∧ Mv g b wr w') := Lib.hid (HT.out.mono fun e w' ⟨oo, oc2, he, R4, O4, M4⟩ => by
            have hmid := HSTK.out.took (w0 := wr) hgB hbB R4 O4 M4
            rw [hout, htk] at hmid
            rw [hout, ← hcc] at he
            exact ⟨oo, oc2, he, hmid, M4⟩)
        have HF1 := Lib.hid HSTK.out.few
        clear hc hcc hout htk HT HSTK
        go_wp2_with (first
          | (go_at_call 11; refine HT2.out.mono ?_; rintro e w4 ⟨oo, oc2, rfl, MID, M4⟩; have HMID := Lib.hid MID; have HB4 := Lib.hid (HBB.out.trans (M4.below hbs hgw hbw)); clear MID M4)
          | (at_builtin; refine append_out _ rfl (.tmp 52) (.tmp 53) rfl (FF g b fo oa) B oa oc A1 rfl HMID.out.all wr.heap.size oo oc2 [] rfl HMID.out.out ff_a (by have := HF1.out; have := HORD.out.len; simp at this ⊢; omega) HMID.out.base ?_; intro ao5 ac5 w5 O5 G5 LC5; have HDONE := Lib.hid (HMID.out.done hgB hbB HORD.out (by have := HF1.out; omega) O5 G5 LC5); have HB5 := Lib.hid (HB4.out.grown G5 HB4.out.size (fun j hj => by obtain ⟨x, e, rfl⟩ := own_of_slice hj; have := HMID.out.all.place x e; omega)); clear O5 G5 LC5 HMID))
        go_roundw
        case rel => exact ⟨k + 1, S, F1, A1 ++ [], fo, fc, ao5, ac5, by omega, by go_num, rfl, by rw [List.append_nil], HDONE.out, HB5.out⟩
        case measure => simp [intOf]; omega
    · obtain ⟨w5, hw5⟩ : ∃ w5, w5 = wr := ⟨_, rfl⟩
      subst hw5
      have HORD := Lib.hid HSTK.out.ord
      have HF := Lib.hid HSTK.out.fst
      have HA := Lib.hid HSTK.out.all
      have HR := Lib.hid HSTK.out.rep
      have hcnt := HSTK.out.cnt
      have hfew := HSTK.out.few
      have hkl : k = len := by omega
      subst hkl
      have HDF : Hid (∀ m ∈ F1, m.dl ≤ 20000) := Lib.hid fun m hm => HDL.out m (HSTK.out.sub m hm)
      have hinv := HSTK.out.ord.inv.few
      have HLENS := Lib.hid HSTK.out.ord.len
      have HCOUNT := Lib.hid HSTK.out.ord.count
      clear HSTK HM HL HDL HST HL3
      go_wp2_with fail
      go_loopw [11] (fun si wq => ∃ i : Nat, i ≤ A1.length ∧ si = .int .i64 i ∧ Below w5.heap.size w5 wq) (fun si _ => A1.length - (intOf si).toNat)
      case atStart => exact ⟨0, Nat.zero_le _, rfl, Below.refl _ _⟩
      case round =>
        obtain ⟨i, hi, rfl, hBq⟩ := hrel
        obtain ⟨wq, hwq⟩ : ∃ wq, wq = wr := ⟨_, rfl⟩
        subst hwq
        have HBQ := Lib.hid hBq
        clear hBq
        by_cases hlt2 : i < A1.length
        · obtain ⟨m, hmi⟩ : ∃ m, A1[i]? = some m := ⟨_, List.getElem?_eq_getElem hlt2⟩
          obtain ⟨ka, x, rfl, hka, hlx, hdx, hcx⟩ := HA.out.elem hmi
          have HMF : Hid (∃ j, j < F1.length ∧ F1[j]? = some m) := Lib.hid (by
            obtain ⟨j, hj, he⟩ := List.mem_iff_getElem.1 (HORD.out.mem m (.inl (List.mem_of_getElem? hmi)))
            exact ⟨j, hj, by rw [List.getElem?_eq_getElem hj, he]⟩)
          obtain ⟨d, hd⟩ : ∃ d : Nat, d = i + 1 := ⟨_, rfl⟩
          have hde : (i : Int) + 1 = (d : Int) := by omega
          have hxq : x.q = (d : Int) := by
            rw [hlx.q]
            have := HORD.out.seqs i m hmi
            unfold sqG at this
            omega
          have HCX : Hid (∀ c v, (encG x)[c]? = some v → ∀ wz, Below w5.heap.size w5 wz → wz.cell? ⟨ka, i * 6 + c, none⟩ = some v) := Lib.hid fun c v hv wz hz => cell_later hz (hcx c v hv)
          have HDX : Hid (∀ wz, Below w5.heap.size w5 wz → DpIn wz x) := Lib.hid fun wz hz => hdx.deps.below hz
          have HLX := Lib.hid hlx
          have HXQ : Hid (∀ wz, Below w5.heap.size w5 wz → wz.cell? ⟨ka, i * 6 + 1, none⟩ = some (.int .u32 (d : Int))) := Lib.hid fun wz hz => by rw [← hxq]; exact HCX.out 1 _ rfl wz hz
          clear hcx hdx hlx hmi hxq hd
          go_wp2_with fail
          go_loopw [12, 13] (fun sf sj wz => ∃ (j : Nat) (fb : Bool), j ≤ F1.length ∧ sf = .bool fb ∧ sj = .int .i64 j ∧ Hid (foundB F1 m j fb) ∧ Below w5.heap.size w5 wz) (fun _ sj _ => F1.length - (intOf sj).toNat)
          case atStart => exact ⟨0, false, Nat.zero_le _, rfl, rfl, Lib.hid fun j hj => absurd hj (Nat.not_lt_zero _), HBQ.out⟩
          case round =>
            obtain ⟨j, fb, hj, rfl, rfl, HFB, hBz⟩ := hrel
            obtain ⟨wz, hwz⟩ : ∃ wz, wz = wr := ⟨_, rfl⟩
            subst hwz
            have HBZ := Lib.hid hBz
            clear hBz
            by_cases hlt3 : j < F1.length
            · cases fb with
              | true =>
                go_wp2_with fail
                go_quiet (fail)
                go_wp2_with fail
                go_roundw
                case rel => exact ⟨j + 1, true, by omega, rfl, by go_num, Lib.hid fun _ _ _ => rfl, below_drewG HBZ.out _⟩
                case measure => simp [intOf]; omega
              | false =>
                obtain ⟨m2, hm2⟩ : ∃ m2, F1[j]? = some m2 := ⟨_, List.getElem?_eq_getElem hlt3⟩
                obtain ⟨kf, y, rfl, hkf, hly, hdy, hcy⟩ := HF.out.elem hm2
                have hdl : y.dl ≤ 1048576 := by rw [hly.dl]; have := HDF.out m2 (List.mem_of_getElem? hm2); omega
                have HNX : Hid (foundB F1 m (j + 1) (sameG y x)) := Lib.hid fun t ht he => by
                  by_cases e : t < j
                  · have := HFB.out t e he; cases this
                  · have e2 : t = j := by omega
                    subst e2
                    rw [hm2] at he
                    injection he with he
                    subst he
                    exact like_same hly HLX.out
                have hs : ∀ n os, Calls Try.prog 18 #[.agg (encG y).toArray, .agg (encG x).toArray] (grow (wz.drewN n) os) fun e w' => e = .returned (.bool (sameG y x)) ∧ ∃ q os', w' = grow ((grow (wz.drewN n) os).drewN q) os' := fun n os =>
                  sameG_any y x _ (hdy.deps.below (HBZ.out.trans ((Grw.below ⟨n, os, rfl⟩).mono HBZ.out.size))) (HDX.out _ (HBZ.out.trans ((Grw.below ⟨n, os, rfl⟩).mono HBZ.out.size))) hdl
                have hbz := HBZ.out.size
                have c1 : ∀ c v, (encG y)[c]? = some v → ∀ n os, (grow (wz.drewN n) os).cell? ⟨kf, j * 6 + c, none⟩ = some v := fun c v hv => cell_grown (by show kf < wz.heap.size; omega) (cell_later HBZ.out (hcy c v hv))
                have c2 : ∀ c v, (encG x)[c]? = some v → ∀ n os, (grow (wz.drewN n) os).cell? ⟨ka, i * 6 + c, none⟩ = some v := fun c v hv => cell_grown (by show ka < wz.heap.size; omega) (HCX.out c v hv wz HBZ.out)
                clear hm2 hly hdy hcy hdl
                generalize sameG y x = sb at *
                have y0 := c1 0 _ rfl
                have y1 := c1 1 _ rfl
                have y2 := c1 2 _ rfl
                have y3 := c1 3 _ rfl
                have y4 := c1 4 _ rfl
                have y5 := c1 5 _ rfl
                have x0 := c2 0 _ rfl
                have x1 := c2 1 _ rfl
                have x2 := c2 2 _ rfl
                have x3 := c2 3 _ rfl
                have x4 := c2 4 _ rfl
                have x5 := c2 5 _ rfl
                simp only [Nat.add_zero] at x0 y0
                simp only [encG] at hs
                clear c1 c2
                go_wp2_with fail
                go_quiet_grown ((go_at_call 18; exact Calls.grown_of (hs _ _)))
                go_wp2_with fail
                go_roundw
                case rel => exact ⟨j + 1, sb, by omega, rfl, by go_num, HNX.out, HBZ.out.trans ((Grw.below ⟨nq, osq, rfl⟩).mono HBZ.out.size)⟩
                case measure => simp [intOf]; omega
            · have hjl : j = F1.length := by omega
              subst hjl
              have hfb : fb = true := by
                obtain ⟨t, ht, he⟩ := HMF.out
                exact HFB.out t ht he
              subst hfb
              have x1 := HXQ.out wz HBZ.out
              clear HFB
              go_wp2_with fail
              go_roundw
              case rel => exact ⟨i + 1, by omega, by go_num, HBZ.out⟩
              case measure => simp [intOf]; omega
        · have hil : i = A1.length := by omega
          subst hil
          have CO := Lib.hid (scount_any (HR.out.below HBQ.out))
          have HE := Lib.hid (sheld_any (HR.out.below HBQ.out))
          have k1 : S.count = A1.length := HCOUNT.out
          have hlen := HLENS.out
          rw [k1] at CO
          obtain ⟨hn, hhn⟩ : ∃ hn : Nat, hn = S.held.length := ⟨_, rfl⟩
          rw [← hhn] at HE hinv hlen
          have HFIN := Lib.hid (HBB.out.trans (HBQ.out.mono HBB.out.size))
          clear hhn k1 HCOUNT HLENS HORD HF HA HR HDF
          have hsum : (A1.length : Int) + (hn : Int) = (F1.length : Int) := by omega
          have hle63 : (hn : Int) ≤ 63 := by omega
          have hna : A1.length ≤ 300 := by omega
          have hnf : F1.length ≤ 300 := by omega
          have hhn2 : hn ≤ 63 := by omega
          clear hlen hinv hlt2 hi hlt hcnt hfew
          generalize A1.length = na at *
          generalize F1.length = nf at *
          go_wp2_with (first
            | (go_at_call 16; refine CO.out.mono ?_; rintro e w6 ⟨rfl, rfl⟩)
            | (go_at_call 17; refine HE.out.mono ?_; rintro e w6 ⟨rfl, rfl⟩))
          go_ret
          exact ⟨rfl, HFIN.out⟩
theorem walk_StreamOrders {w : World} (n : Int) (wn : (Lit.int .i64 n).wf = true) (ao : Option Addr) (len cap : Nat) (l : List Mg) (hl : Lst encG 6 w ao len l ∧ (ao = none → cap = 0) ∧ ∀ m ∈ l, DpIn w m ∧ 0 ≤ m.q ∧ m.q < 4294967296) :
    Calls Try.prog 4 #[.int .i64 n, .slice ao len cap] w fun e w' => e = .returned (.bool true) ∧ Below w.heap.size w w' := by
  have b0 := Go.bounds_i64 wn
  exact orders_core n (by omega) (by omega) ao len cap l w hl.1 hl.2.2
end Go.Proofs.Ytcnfkjjfegjecaa
