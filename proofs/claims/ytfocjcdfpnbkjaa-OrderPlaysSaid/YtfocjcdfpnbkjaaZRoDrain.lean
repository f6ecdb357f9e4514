/- The document's order: Drain. -/
import Derived.Test.YtfocjcdfpnbkjaaZOrdRel
import Derived.Test.YtfocjcdfpnbkjaaZOrdOpens
set_option linter.unusedVariables false
set_option maxRecDepth 100000
set_option linter.unusedSimpArgs false
namespace Go.Proofs.Ytfocjcdfpnbkjaa
open Go.RowKit Go.Sort Go.Shelf

theorem ORel.cntb {O : Od} {r : Ro} {L : List Mg} {T : List Td} (h : ORel O r L T) (hL : L.length ≤ 1000) (p : Nat) (hp : p < 64) : O.S.cnt p ≤ 1000 := by
  rw [h.P.cnt p hp]
  exact Nat.le_trans (cntA_le L _) hL
theorem ORel.dnb {O : Od} {r : Ro} {L : List Mg} {T : List Td} (h : ORel O r L T) (hL : L.length ≤ 1000) (p : Nat) (hp : p < 64) : r.dn p ≤ 1000 := by
  have h1 := h.ok.dc p hp
  have h2 := h.cntb hL p hp
  rw [h.dn] at h1
  omega
theorem ORel.leftb {O : Od} {r : Ro} {L : List Mg} {T : List Td} (h : ORel O r L T) (hL : L.length ≤ 1000) : leftO O ≤ 64000 := by
  have h1 := leftK_le O 1000 (fun p hp => h.cntb hL p hp) 64 (Nat.le_refl _)
  unfold leftO
  omega
theorem bestR_mem (r : Ro) (L : List Mg) : ∀ k p m, bestR r L k = some (p, m) → m ∈ L
  | 0, p, m, h => by cases h
  | k + 1, p, m, h => by
    have ih := bestR_mem r L k
    change pickR (bestR r L k) k (findA L r.lo (k : Int) (r.dn k + 1)) (r.ms.testBit k) = some (p, m) at h
    cases hf : findA L r.lo (k : Int) (r.dn k + 1) with
    | none => rw [hf, pickR_none] at h; exact ih p m h
    | some x =>
      rw [hf] at h
      unfold pickR at h
      simp only at h
      split at h
      · cases h; exact findA_mem _ _ hf
      · exact ih p m h
/-- Amid Drain. -/
structure DrR (w V : World) (e0 : Nat) (O : Od) (r : Ro) (L : List Mg) (T : List Td) (v : Value) (n : Nat) (X : List Mg) (O1 : Od) (r1 : Ro) : Prop where
  below : Below e0 w V
  e : RoB V e0 r1
  z : RoB V (e0 + 1) ro0
  sz : e0 + 2 ≤ V.heap.size
  own : V.ownsRow (e0 + 2) 47 6 v n (flat encG X)
  len : X.length = n
  mem : ∀ x ∈ X, x ∈ L
  rel : ORel O1 r1 L T
  hs : r1.hs = r.hs
  zs : r1.zs = r.zs
  pend : ∀ l P, Drains O1 l P → Drains O (X.map strip ++ l) P
  few : n + leftO O1 ≤ leftO O
/-- What the document's Drain answers. -/
def RDrain (w : World) (O : Od) (r : Ro) (L : List Mg) (T : List Td) (e : Ending) (w' : World) : Prop :=
  ∃ a n c X P r', e = .returned (.tuple #[.agg r'.cs.toArray, .slice a n c]) ∧ w'.ownsRow w.heap.size 47 6 (.slice a n c) n (flat encG X) ∧ X.length = n ∧ (∀ x ∈ X, x ∈ L) ∧ Drains O (X.map strip) P ∧ ORel P r' L T ∧ r'.hs = r.hs ∧ r'.zs = r.zs ∧ n ≤ 64000 ∧ Below w.heap.size w w'
section
variable {w V V' : World} {e0 : Nat} {O O1 : Od} {r r1 : Ro} {L : List Mg} {T : List Td} {v : Value} {n : Nat} {X : List Mg}
theorem DrR.later (h : DrR w V e0 O r L T v n X O1 r1) (hb : Below V.heap.size V V') : DrR w V' e0 O r L T v n X O1 r1 :=
  ⟨h.below.trans (hb.mono (by have := h.sz; omega)), h.e.below hb, h.z.below hb, Nat.le_trans h.sz hb.size, own_later h.own hb, h.len, h.mem, h.rel, h.hs, h.zs, h.pend, h.few⟩
/-- The next one is taken. -/
theorem DrR.step (h : DrR w V e0 O r L T v n X O1 r1) {m : Mg} {r2 : Ro} {O2 : Od} (hn : nextO O1 = some (strip m, O2)) (hrel : ORel O2 r2 L T) (hh : r2.hs = r1.hs) (hz : r2.zs = r1.zs) (hm : m ∈ L) {v' : Value} {V6 : World} (hb6 : Below (V.setRow e0 r2.cs.toArray).heap.size (V.setRow e0 r2.cs.toArray) V6) (ho : V'.ownsRow (e0 + 2) 47 6 v' (n + 1) (flat encG (X ++ [m]))) (hg : V6.grownBy V' v.ownBlock) : DrR w V' e0 O r L T v' (n + 1) (X ++ [m]) O2 r2 := by
  have hbl : Below e0 w (V.setRow e0 r2.cs.toArray) := belowRow10 h.below _ (Nat.le_refl _) _
  have hsz : (V.setRow e0 r2.cs.toArray).heap.size = V.heap.size := size_setRow _ _ _
  have hown : ∀ k, v.ownBlock = some k → e0 + 2 ≤ k := fun k e => own_behind h.own k e
  have hs := h.sz
  have hs6 := hb6.size
  have hbl6 : Below e0 w V6 := hbl.trans (hb6.mono (by omega))
  have hr6 : RoB V6 e0 r2 := (h.e.row r2).below hb6
  have hz6 : RoB V6 (e0 + 1) ro0 := RoB.below ((setRow_other _ _ _ _ (by omega)).trans h.z) hb6
  refine ⟨hbl6.grown hg (by omega) (fun k e => by have := hown k e; omega), (hg.block e0 (by omega) (fun e => by have := hown e0 e.symm; omega)).trans hr6, (hg.block (e0 + 1) (by omega) (fun e => by have := hown (e0 + 1) e.symm; omega)).trans hz6, by have := hg.size; omega, ho, by rw [List.length_append, h.len]; rfl, fun x hx => ?_, hrel, hh.trans h.hs, hz.trans h.zs, fun l P k => ?_, ?_⟩
  · rcases List.mem_append.1 hx with hx | hx
    · exact h.mem x hx
    · rw [List.mem_singleton.1 hx]; exact hm
  · have := h.pend (strip m :: l) P (.more hn k)
    rw [List.map_append, List.append_assoc]
    exact this
  · have h1 := h.few
    have h2 := next_left h.rel.ok hn
    omega
end
theorem two_vars (w4 : World) (r : Ro) (x : Mg) :
    RoB ((w4.alloc (.cells ro0.cs.toArray 41)).alloc (.cells #[.int .i64 0, .int .u32 0, .int .u64 0, .int .i64 0, .slice none 0 0, .string { data := #[] }] 47)) w4.heap.size ro0 ∧ MgB (((w4.alloc (.cells ro0.cs.toArray 41)).alloc (.cells #[.int .i64 0, .int .u32 0, .int .u64 0, .int .i64 0, .slice none 0 0, .string { data := #[] }] 47)).setRow w4.heap.size r.cs.toArray) (w4.heap.size + 1) zeroG ∧
    RoB ((((w4.alloc (.cells ro0.cs.toArray 41)).alloc (.cells #[.int .i64 0, .int .u32 0, .int .u64 0, .int .i64 0, .slice none 0 0, .string { data := #[] }] 47)).setRow w4.heap.size r.cs.toArray).setRow (w4.heap.size + 1) (encG x).toArray) w4.heap.size r ∧ MgB ((((w4.alloc (.cells ro0.cs.toArray 41)).alloc (.cells #[.int .i64 0, .int .u32 0, .int .u64 0, .int .i64 0, .slice none 0 0, .string { data := #[] }] 47)).setRow w4.heap.size r.cs.toArray).setRow (w4.heap.size + 1) (encG x).toArray) (w4.heap.size + 1) x ∧
    Below w4.heap.size w4 ((((w4.alloc (.cells ro0.cs.toArray 41)).alloc (.cells #[.int .i64 0, .int .u32 0, .int .u64 0, .int .i64 0, .slice none 0 0, .string { data := #[] }] 47)).setRow w4.heap.size r.cs.toArray).setRow (w4.heap.size + 1) (encG x).toArray) := by
  have B := (((Grw.refl w4).alloc (.cells ro0.cs.toArray 41)).alloc (.cells #[.int .i64 0, .int .u32 0, .int .u64 0, .int .i64 0, .slice none 0 0, .string { data := #[] }] 47)).below
  have N5 : RoB ((w4.alloc (.cells ro0.cs.toArray 41)).alloc (.cells #[.int .i64 0, .int .u32 0, .int .u64 0, .int .i64 0, .slice none 0 0, .string { data := #[] }] 47)) w4.heap.size ro0 := (RoB.new w4 ro0).below ((Grw.refl _).alloc _).below
  have N6 : MgB ((w4.alloc (.cells ro0.cs.toArray 41)).alloc (.cells #[.int .i64 0, .int .u32 0, .int .u64 0, .int .i64 0, .slice none 0 0, .string { data := #[] }] 47)) (w4.heap.size + 1) zeroG := by
    have := MgB.new (w4.alloc (.cells ro0.cs.toArray 41)) zeroG
    rw [show (w4.alloc (.cells ro0.cs.toArray 41)).heap.size = w4.heap.size + 1 by simp] at this
    exact this
  have N7 : MgB (((w4.alloc (.cells ro0.cs.toArray 41)).alloc (.cells #[.int .i64 0, .int .u32 0, .int .u64 0, .int .i64 0, .slice none 0 0, .string { data := #[] }] 47)).setRow w4.heap.size r.cs.toArray) (w4.heap.size + 1) zeroG := (setRow_other _ _ _ _ (by omega)).trans N6
  exact ⟨N5, N7, (N5.row r).kept (setRow_other _ _ _ _ (by omega)), N7.row x, belowRow10 (belowRow10 B _ (Nat.le_refl _) _) _ (Nat.le_succ _) _⟩
set_option maxHeartbeats 8000000 in
theorem ro_drain (O : Od) (r : Ro) (L : List Mg) (T : List Td) (w : World) (hV : RoV w r L T) (h : ORel O r L T) :
    Calls Try.prog 70 #[.agg r.cs.toArray] w (RDrain w O r L T) := by
  have hL : L.length ≤ 1000 := by rw [hV.hold.len]; exact hV.few
  have hlb := h.leftb hL
  have F := TmSt.first w r
  have HV := Lib.hid (show ∀ w', Below w.heap.size w w' → RoV w' r L T from fun w' hb => hV.below hb)
  have HL := Lib.hid hL
  have HLB := Lib.hid hlb
  have hz := ro_zero
  have HOW := Lib.hid (World.ownsRow_nil ((w.alloc (.cells r.cs.toArray 41)).alloc (.cells ro0.cs.toArray 41)) (w.heap.size + 2) 47 6)
  have H0 : Hid (DrR w _ w.heap.size O r L T (.slice none 0 0) 0 [] O r) := Lib.hid ⟨F.below, F.e, F.z, F.sz, HOW.out, rfl, (fun x hx => by cases hx), h, rfl, rfl, fun l P k => k, by omega⟩
  clear hV hL hlb F HOW h
  go_enter Try.func70, Try.ntmps70
  go_upto_region 1 with fail
  generalize (w.alloc (.cells r.cs.toArray 41)).alloc (.cells ro0.cs.toArray 41) = W at *
  generalize he0 : w.heap.size = e0 at *
  have HE0 := Lib.hid he0
  clear he0
  go_wp2_with fail
  go_loopg [4] (leftO O) (fun kx so wr => ∃ (a : Option Addr) (n c : Nat) (X : List Mg) (O1 : Od) (r1 : Ro), so = .slice a n c ∧ leftO O1 ≤ kx ∧ Hid (DrR w wr e0 O r L T (.slice a n c) n X O1 r1))
  case atStart => exact ⟨none, 0, 0, [], O, r, rfl, Nat.le_refl _, H0⟩
  case round =>
    clear H0
    obtain ⟨a, n, c, X, O1, r1, rfl, hkx, HS⟩ := hrel
    have hV1 : RoV wr r1 L T := by
      have h1 := HV.out wr HS.out.below
      exact ⟨by rw [HS.out.hs]; exact h1.hold, by rw [HS.out.zs]; exact h1.told, by rw [HS.out.hs]; exact h1.few, by rw [HS.out.zs]; exact h1.fewz⟩
    have hrl := HS.out.rel
    have PN := ro_next r1 L T wr hV1 (by rw [← hrl.ms]; exact hrl.ok.m) (fun k hk => hrl.dnb HL.out k hk) hrl.P.proc hrl.Z.tok (fun p hp => (hrl.Z.up p hp).upD hrl.Z.tok)
    have HKX := Lib.hid hkx
    clear hV1 hrl hkx
    go_wp2_with (first | (refine load_ro rfl (.tmp 1) rfl e0 r1 rfl HS.out.e ?_) | fail)
    with_reducible refine PN.mono ?_
    rintro e w4 hs
    cases hs with
    | no _ hno hB =>
      have TV := two_vars w4 r1 zeroG
      have V1 := Lib.hid TV.1
      have V2 := Lib.hid TV.2.1
      have S5 := Lib.hid ((HS.out.later hB).later TV.2.2.2.2)
      have HNX := Lib.hid (HS.out.rel.next_no hno)
      clear PN hno hB TV HS
      go_upto_region 3 with (first | (refine store_ro rfl (.tmp 5) (.tmp 11) rfl w4.heap.size r1 rfl rfl V1.out ?_) | (refine store_mg rfl (.tmp 6) (.tmp 12) rfl (w4.heap.size + 1) zeroG rfl rfl V2.out ?_) | fail)
      generalize (((w4.alloc (.cells ro0.cs.toArray 41)).alloc (.cells #[.int .i64 0, .int .u32 0, .int .u64 0, .int .i64 0, .slice none 0 0, .string { data := #[] }] 47)).setRow w4.heap.size r1.cs.toArray).setRow (w4.heap.size + 1) (encG zeroG).toArray = w5 at *
      clear V1 V2
      go_wp2_with (first | (refine load_ro rfl (.tmp 1) rfl e0 r1 rfl S5.out.e ?_) | (refine store_ro rfl (.tmp 2) (.tmp 16) rfl (e0 + 1) r1 rfl rfl S5.out.z ?_))
      (try simp only [Exit.inBlock, Exit.then])
      have hn6 : n ≤ 64000 := by have := S5.out.few; have := HLB.out; omega
      have hownR := S5.out.own
      exact bodyPost_ret (v := .tuple #[.agg r1.cs.toArray, .slice a n c]) (results_ro2 (p := 2) (u := 3) rfl _ _ (e0 + 1) rfl (S5.out.z.row r1)) rfl (by
        refine ⟨a, n, c, X, O1, r1, rfl, ?_, S5.out.len, S5.out.mem, ?_, S5.out.rel, S5.out.hs, S5.out.zs, hn6, by rw [HE0.out]; exact belowRow10 S5.out.below _ (by omega) _⟩
        · rw [HE0.out]
          refine own_base (own_kept hownR fun k hk => setRow_other _ _ _ _ (by have := own_behind hownR k hk.symm; omega)) (by omega)
        · have := S5.out.pend [] O1 (.stop HNX.out)
          rw [List.append_nil] at this
          exact this)
    | yes p m _ hbo hrp hB =>
      obtain ⟨O2, hn2, hrel2⟩ := HS.out.rel.next_yes hbo hrp
      have hmL := bestR_mem r1 L allZ p m hbo
      have TV := two_vars w4 (tookR r1 p m) m
      have V1 := Lib.hid TV.1
      have V2 := Lib.hid TV.2.1
      have N5 := Lib.hid TV.2.2.1
      have N6 := Lib.hid TV.2.2.2.1
      have S5 := Lib.hid ((HS.out.later hB).later TV.2.2.2.2)
      have HST := Lib.hid (And.intro hn2 (And.intro hrel2 hmL))
      have hsz5 : e0 + 2 ≤ w4.heap.size := (HS.out.later hB).sz
      obtain ⟨r2, hr2⟩ : ∃ r2, r2 = tookR r1 p m := ⟨_, rfl⟩
      have HR2 : Hid (r2.hs = r1.hs ∧ r2.zs = r1.zs) := Lib.hid (by rw [hr2]; exact ⟨rfl, rfl⟩)
      rw [← hr2] at V2 N5 N6 S5 HST
      rw [← hr2]
      clear PN hbo hrp hB TV HS hn2 hrel2 hmL hr2
      obtain ⟨f, q, sx, v, xa, dl, dc, deps, text⟩ := m
      go_upto_region 3 with (first | (refine store_ro rfl (.tmp 5) (.tmp 11) rfl w4.heap.size r2 rfl rfl V1.out ?_) | (refine store_mg rfl (.tmp 6) (.tmp 12) rfl (w4.heap.size + 1) ⟨f, q, sx, v, xa, dl, dc, deps, text⟩ rfl rfl V2.out ?_) | fail)
      generalize (((w4.alloc (.cells ro0.cs.toArray 41)).alloc (.cells #[.int .i64 0, .int .u32 0, .int .u64 0, .int .i64 0, .slice none 0 0, .string { data := #[] }] 47)).setRow w4.heap.size r2.cs.toArray).setRow (w4.heap.size + 1) (encG ⟨f, q, sx, v, xa, dl, dc, deps, text⟩).toArray = w5 at *
      clear V1 V2
      go_upto_region 6 with (first | (refine load_ro rfl (.tmp 5) rfl w4.heap.size r2 rfl N5.out ?_) | (refine store_ro rfl (.tmp 1) (.tmp 18) rfl e0 r2 rfl rfl S5.out.e ?_) | fail)
      have M6 := Lib.hid (show MgB (w5.setRow e0 r2.cs.toArray) (w4.heap.size + 1) ⟨f, q, sx, v, xa, dl, dc, deps, text⟩ from (setRow_other _ _ _ _ (by omega)).trans N6.out)
      have O6 := Lib.hid (own_kept S5.out.own fun k hk => setRow_other w5 e0 k r2.cs.toArray (by have := own_behind S5.out.own k hk.symm; omega))
      have HSZ6 := Lib.hid (show (w5.setRow e0 r2.cs.toArray).heap.size = w5.heap.size from size_setRow _ _ _)
      have hn5 : n + 1 ≤ 200000 := by have := S5.out.few; have := HLB.out; omega
      have HN5 := Lib.hid hn5
      have L6 := Lib.hid ((Grw.refl (w5.setRow e0 r2.cs.toArray)).alloc (.cells #[.int .i64 f, .int .u32 q, .int .u64 sx, .int .i64 v, .slice xa dl dc, .string text] 47)).below
      have O7 := Lib.hid (own_later O6.out L6.out)
      have X7 := Lib.hid (lst_one (MgB.new (w5.setRow e0 r2.cs.toArray) ⟨f, q, sx, v, xa, dl, dc, deps, text⟩))
      have hbz : e0 + 2 ≤ ((w5.setRow e0 r2.cs.toArray).alloc (.cells #[.int .i64 f, .int .u32 q, .int .u64 sx, .int .i64 v, .slice xa dl dc, .string text] 47)).heap.size := by
        have h1 := L6.out.size
        have h2 := HSZ6.out
        have h3 := S5.out.sz
        omega
      have HBZ := Lib.hid hbz
      have m0 := M6.out.own.at_ 0 _ rfl
      have m1 := M6.out.own.at_ 1 _ rfl
      have m2 := M6.out.own.at_ 2 _ rfl
      have m3 := M6.out.own.at_ 3 _ rfl
      have m4 := M6.out.own.at_ 4 _ rfl
      have m5 := M6.out.own.at_ 5 _ rfl
      clear hn5 hbz O6
      obtain ⟨w6, hw6⟩ : ∃ w6, w6 = w5.setRow e0 r2.cs.toArray := ⟨_, rfl⟩
      have HW6 := Lib.hid hw6
      rw [← hw6] at L6 O7 X7 HBZ m0 m1 m2 m3 m4 m5 HSZ6
      rw [← hw6]
      clear hw6 M6
      go_upto_region 77 with (at_builtin; have test : True := trivial; revert test)
      intro test
      refine append_mg _ rfl (.tmp 19) (.tmp 21) rfl (e0 + 2) (.slice a n c) n _ rfl O7.out (some ⟨w6.heap.size, 0, none⟩) 1 1 [⟨f, q, sx, v, xa, dl, dc, deps, text⟩] rfl (fun e => by cases e) X7.out HN5.out HBZ.out ?_
      intro v8 w8 h1 h2
      rw [← flat_append] at h1
      obtain ⟨a8, c8, rfl⟩ := own_form' h1
      have HNEW := Lib.hid (S5.out.step HST.out.1 HST.out.2.1 HR2.out.1 HR2.out.2 HST.out.2.2 (V6 := w6.alloc (.cells #[.int .i64 f, .int .u32 q, .int .u64 sx, .int .i64 v, .slice xa dl dc, .string text] 47)) (by rw [← HW6.out]; exact L6.out) h1 h2)
      have hms : leftO O2 < gk := by
        have h3 := next_left S5.out.rel.ok HST.out.1
        have := HKX.out
        omega
      have HMS := Lib.hid hms
      clear h1 h2 O7 X7 L6 S5 HST m0 m1 m2 m3 m4 m5 hms
      go_wp2_with fail
      go_roundg (leftO O2)
      case measure => exact HMS.out
      case rel => exact ⟨a8, n + 1, c8, _, O2, r2, rfl, Nat.le_refl _, HNEW⟩
end Go.Proofs.Ytfocjcdfpnbkjaa
