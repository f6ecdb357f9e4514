/- The walk of 'NetTrue'. -/
import Derived.Test.YtpbeohonohcgdaaRNetDiffer
set_option linter.unusedVariables false
set_option linter.unusedSimpArgs false
namespace Go.Proofs.YtpbeohonohcgdaaR
open Go.RowKit Go.Sort

theorem below_of {w w' : World} {g B : Nat} {N N' : Nt} {ao : Option Addr} {cap : Nat} (h : NetAt w g B N ao cap) (G : Gone w g B N' ao w') {B' : Nat} (hB : B' ≤ B) : Go.RowKit.Below B' w w' := by
  obtain ⟨_, _, _, m⟩ := G
  exact m.below h hB
/-- Does an act tell of a datagram? -/
def matchB (a : Ac) (d : Dg) : Bool := decide (a.kind = 0) && decide (a.d.frm = d.frm) && decide (a.d.to = d.to) && (decide (gapS a.d.data d.data = 0) && !d.torn || decide (gapS a.d.data d.data = 1) && d.torn)
/-- Each datagram under way was sent by one of the first k acts, and at most one byte of it is another one. -/
def Sent (l : List Ac) (k : Nat) (d : Dg) : Prop := ∃ j a, j < k ∧ l[j]? = some a ∧ a.kind = 0 ∧ a.d.frm = d.frm ∧ a.d.to = d.to ∧ ((d.torn = false ∧ a.d.data = d.data) ∨ (d.torn = true ∧ gapS a.d.data d.data = 1))
/-- None of the first k acts tells of d. -/
def NoM (l : List Ac) (d : Dg) (k : Nat) : Prop := ∀ j x, j < k → l[j]? = some x → matchB x d = false
theorem Sent.next {l : List Ac} {k : Nat} {d : Dg} (h : Sent l k d) : Sent l (k + 1) d := by
  obtain ⟨j, a, h1, h2⟩ := h
  exact ⟨j, a, by omega, h2⟩
theorem Sent.found {l : List Ac} {k : Nat} {d : Dg} (h : Sent l k d) : ∃ j a, j < k ∧ l[j]? = some a ∧ matchB a d = true := by
  obtain ⟨j, a, h1, h2, h3, h4, h5, h6⟩ := h
  refine ⟨j, a, h1, h2, ?_⟩
  unfold matchB
  rw [decide_eq_true h3, decide_eq_true h4, decide_eq_true h5]
  rcases h6 with ⟨h7, h8⟩ | ⟨h7, h8⟩
  · rw [h7, h8, gap_same]; rfl
  · rw [h7, h8]; rfl
/-- The act as it is played: what is sent isn't Torn. -/
def plain (a : Ac) : Ac := { a with d := { a.d with torn := false } }
theorem plain_ok {a : Ac} (h : a.ok) : (plain a).ok := ⟨⟨h.d.f0, h.d.f1, h.d.t0, h.d.t1, h.d.sz⟩, h.k0, h.k1, h.i0, h.i1, h.at0, h.at1, h.m, h.s⟩
theorem placeN_lt (at_ : Int) (n : Nat) (h : 0 < n) : placeN at_ n < n := Nat.mod_lt _ h
theorem drop_sub (N : Nt) (i : Int) : ∀ d ∈ (dropN N i).rows, d ∈ N.rows := by
  intro d hd
  unfold dropN at hd
  split at hd
  · exact List.mem_of_mem_eraseIdx hd
  · exact hd
theorem getD_mem {l : List Dg} {k : Nat} (h : k < l.length) : l.getD k D3 ∈ l := List.mem_of_getElem? (getD_row h)
theorem step_sent (l : List Ac) (k : Nat) (a : Ac) (ha : l[k]? = some a) (hok : a.ok) (N : Nt) (h : ∀ d ∈ N.rows, Sent l k d) : ∀ d ∈ (stepN N (plain a)).rows, Sent l (k + 1) d := by
  have next : ∀ d ∈ N.rows, Sent l (k + 1) d := fun d hd => (h d hd).next
  intro d hd
  unfold stepN at hd
  split at hd
  · rename_i k0
    unfold sendN at hd
    split at hd
    · rcases List.mem_append.1 hd with h1 | h1
      · exact next d h1
      · rw [List.mem_singleton.1 h1]
        exact ⟨k, a, by omega, ha, k0, rfl, rfl, .inl ⟨rfl, rfl⟩⟩
    · exact next d hd
  split at hd
  · exact next d (drop_sub N _ d hd)
  split at hd
  · exact next d (drop_sub N _ d hd)
  split at hd
  · unfold doubleN at hd
    split at hd
    · rename_i hx
      rcases List.mem_append.1 hd with h1 | h1
      · exact next d h1
      · have hb : hasB N.rows.length (plain a).i = true := by simp at hx; exact hx.1
        obtain ⟨j, hj, hjl⟩ := hasB_yes hb
        rw [List.mem_singleton.1 h1, hj, Int.toNat_natCast]
        exact next _ (getD_mem hjl)
    · exact next d hd
  split at hd
  · unfold turnN at hd
    split at hd
    · rename_i hb
      obtain ⟨j, hj, hjl⟩ := hasB_yes hb
      split at hd
      · rename_i ht
        rcases List.mem_or_eq_of_mem_set hd with h1 | h1
        · exact next d h1
        · rw [hj, Int.toNat_natCast] at h1 ht
          obtain ⟨j2, b, hj2, hb2, b0, b1, b2, b3⟩ := h _ (getD_mem hjl)
          have ht2 := (turnable_iff _ _).1 ht
          have hsz := (str_pos _).2 ht2.2.1
          rcases b3 with ⟨_, b4⟩ | ⟨b4, _⟩
          · refine ⟨j2, b, by omega, hb2, b0, by rw [h1]; exact b1, by rw [h1]; exact b2, .inr ⟨by rw [h1]; rfl, ?_⟩⟩
            rw [h1, b4]
            exact gap_turn _ _ _ (placeN_lt _ _ hsz) hok.m ht2.2.2
          · rw [ht2.1] at b4; cases b4
      · exact next d hd
    · exact next d hd
  split at hd
  · exact next d hd
  split at hd
  · exact next d hd
  · exact next d hd
theorem drop_sent (l : List Ac) (k : Nat) (N : Nt) (i : Int) (h : ∀ d ∈ N.rows, Sent l k d) : ∀ d ∈ (dropN N i).rows, Sent l (k + 1) d := fun d hd => (h d (drop_sub N i d hd)).next

/-- An act in a block of the call's own. -/
def AcB (w : World) (g : Nat) (a : Ac) : Prop := Own w g 31 #[.int .i64 a.kind, .int .i64 a.d.frm, .int .i64 a.d.to, .string a.d.data, .bool a.d.torn, .int .i64 a.i, .int .i64 a.at_, .int .u8 (a.mask : Int), .int .u64 (a.s : Int)]
theorem AcB.own {w : World} {g : Nat} {a : Ac} (h : AcB w g a) : Own w g 31 #[.int .i64 a.kind, .int .i64 a.d.frm, .int .i64 a.d.to, .string a.d.data, .bool a.d.torn, .int .i64 a.i, .int .i64 a.at_, .int .u8 (a.mask : Int), .int .u64 (a.s : Int)] := h
def noneA : Ac := ⟨0, ⟨0, 0, { data := #[] }, false⟩, 0, 0, 0, 0⟩
theorem ac_size : (Try.prog.info? 31).map (·.size) = some 9 := by kernel_rfl
theorem ac_one (a : Ac) : (#[.int .i64 a.kind, .int .i64 a.d.frm, .int .i64 a.d.to, .string a.d.data, .bool a.d.torn, .int .i64 a.i, .int .i64 a.at_, .int .u8 (a.mask : Int), .int .u64 (a.s : Int)] : Array Value).all (·.oneCell') = true := by simp [Value.oneCell']
abbrev valA (a : Ac) : Value := .agg #[.int .i64 a.kind, .int .i64 a.d.frm, .int .i64 a.d.to, .string a.d.data, .bool a.d.torn, .int .i64 a.i, .int .i64 a.at_, .int .u8 (a.mask : Int), .int .u64 (a.s : Int)]
theorem store_ac {ops : Array Oper} {rest : List Oper} {o : Oper} {A : Act} {w : World} {Q : Exit → Act → World → Prop} (hgd : o.guard = none) (x y : Operand) (ho : o.op = .store 31 x y)
    (g : Nat) (a : Ac) (hx : A.eval x = .pointer (some ⟨g, 0, none⟩)) (hy : A.eval y = valA a)
    {a0 : Ac} (hg : AcB w g a0)
    (h : wpList Try.prog ops Q rest (A.put o.dst undef) (w.setRow g #[.int .i64 a.kind, .int .i64 a.d.frm, .int .i64 a.d.to, .string a.d.data, .bool a.d.torn, .int .i64 a.i, .int .i64 a.at_, .int .u8 (a.mask : Int), .int .u64 (a.s : Int)])) : wpList Try.prog ops Q (o :: rest) A w :=
  wpList_store_row hgd 31 x y ho g _ hx hy 31 _ hg ac_size rfl (ac_one a) h
theorem load_ac {ops : Array Oper} {rest : List Oper} {o : Oper} {A : Act} {w : World} {Q : Exit → Act → World → Prop} (hgd : o.guard = none) (x : Operand) (ho : o.op = .load 31 x)
    (g : Nat) (hx : A.eval x = .pointer (some ⟨g, 0, none⟩)) {a : Ac} (hg : AcB w g a)
    (h : wpList Try.prog ops Q rest (A.put o.dst (valA a)) w) : wpList Try.prog ops Q (o :: rest) A w :=
  wpList_load_row hgd 31 x ho g hx 31 _ _ _ hg Try.underlying31 rfl ac_size h
def putA (w : World) (a : Ac) : World := (w.alloc (.cells #[.int .i64 0, .int .i64 0, .int .i64 0, .string { data := #[] }, .bool false, .int .i64 0, .int .i64 0, .int .u8 0, .int .u64 0] 31)).setRow w.heap.size #[.int .i64 a.kind, .int .i64 a.d.frm, .int .i64 a.d.to, .string a.d.data, .bool a.d.torn, .int .i64 a.i, .int .i64 a.at_, .int .u8 (a.mask : Int), .int .u64 (a.s : Int)]
theorem putA_new (w : World) : AcB (w.alloc (.cells #[.int .i64 0, .int .i64 0, .int .i64 0, .string { data := #[] }, .bool false, .int .i64 0, .int .i64 0, .int .u8 0, .int .u64 0] 31)) w.heap.size noneA := Own.new w _ _
theorem putA_at (w : World) (a : Ac) : AcB (putA w a) w.heap.size a := setRow_heap _ _ _ _ _ _ (putA_new w)
theorem putA_below (w : World) (a : Ac) : Go.RowKit.Below w.heap.size w (putA w a) := belowRow ((Below.refl w.heap.size w).alloc (Nat.le_refl _) _) w.heap.size (Nat.le_refl _) _
theorem putA_is (w : World) (a : Ac) : (w.alloc (.cells #[.int .i64 0, .int .i64 0, .int .i64 0, .string { data := #[] }, .bool false, .int .i64 0, .int .i64 0, .int .u8 0, .int .u64 0] 31)).setRow w.heap.size #[.int .i64 a.kind, .int .i64 a.d.frm, .int .i64 a.d.to, .string a.d.data, .bool a.d.torn, .int .i64 a.i, .int .i64 a.at_, .int .u8 (a.mask : Int), .int .u64 (a.s : Int)] = putA w a := rfl
theorem AcB.plain {w : World} {g : Nat} {a : Ac} (h : AcB w g a) : AcB (w.setCell ⟨g, 4, none⟩ (.bool false)) g (plain a) := h.own.set 4 (.bool false)
theorem AcB.below {w w' : World} {g B : Nat} {a : Ac} (h : AcB w g a) (hb : Go.RowKit.Below B w w') (hB : g < B) : AcB w' g a := (hb.block g hB).trans h

theorem take_cases (N : Nt) (i : Int) : takeV N i = .tuple #[.agg #[.int .i64 0, .int .i64 0, .string { data := #[] }, .bool false], .bool false] ∨ ∃ d ∈ N.rows, takeV N i = .tuple #[valD d, .bool true] ∧ linkedB N d.frm d.to = true := by
  unfold takeV
  by_cases hb : hasB N.rows.length i = true
  · rw [if_pos hb]
    obtain ⟨k, rfl, hk⟩ := hasB_yes hb
    rw [Int.toNat_natCast]
    unfold takenV
    by_cases hl : linkedB N (N.rows.getD k D3).frm (N.rows.getD k D3).to = true
    · rw [if_pos hl]
      exact .inr ⟨_, getD_mem hk, rfl, hl⟩
    · rw [if_neg hl]
      exact .inl rfl
  · rw [if_neg hb]
    exact .inl rfl
theorem drop_linked (N : Nt) (i p q : Int) : linkedB (dropN N i) p q = linkedB N p q := by
  unfold dropN
  split <;> rfl

set_option maxHeartbeats 8000000 in
set_option maxRecDepth 100000 in
theorem full_NetTrue (n : Int) (h0 : -9223372036854775808 ≤ n) (h1 : n ≤ 9223372036854775807) (ao : Option Addr) (len cap : Nat) (l : List Ac) (w : World) (hl : Lst encAc 9 w ao len l) (hle : len ≤ maxLen) (hok : ∀ m ∈ l, m.ok) :
    Calls Try.prog 3 #[.int .i64 n, .slice ao len cap] w fun e w' => e = .returned (.bool true) ∧ Below w.heap.size w w' := by
  have hlen := hl.size
  have HL := Lib.hid hl
  have HOK := Lib.hid hok
  clear hl hok
  go_enter Try.func3, Try.ntmps3
  go_wp2_with fail
  refine (nawake _).mono ?_
  rintro e w1 ⟨rfl, L1⟩
  go_wp2_with fail
  refine (nfew ao len cap l w1 (HL.out.below L1) hle HOK.out).mono ?_
  rintro e w' ⟨⟨bf, rfl⟩, rfl⟩
  cases bf
  · go_wp2
    go_ret
    exact ⟨rfl, L1⟩
  go_wp2_with (go_at_call 9; refine (nnew n w1 h0 h1).mono ?_; rintro e w2 ⟨rfl, A2, L2'⟩)
  have L2 := L1.trans (L2'.mono L1.size)
  clear L2'
  have hs1 := L1.size
  generalize w1.heap.size = g at *
  clear L1
  unfold maxLen at hle
  go_loopw [6] (fun i wr => ∃ (q : Nat) (N : Nt) (ao' : Option Addr) (cap' : Nat), q ≤ len ∧ i = .int .i64 q ∧ NetAt wr g g N ao' cap' ∧ Below w.heap.size w wr ∧ ∀ d ∈ N.rows, Sent l q d) (fun i _ => len - (intOf i).toNat)
  case atStart => exact ⟨0, _, _, _, Nat.zero_le _, rfl, A2, L2, fun d hd => by cases hd⟩
  case round =>
    obtain ⟨q, M, ao2, cap2, hq, rfl, A1, L1, hsent⟩ := hrel
    clear A2 L2
    by_cases hlt : q < len
    · have hql : q < l.length := by omega
      have S1 := HL.out.below L1
      obtain ⟨b, o, rfl, R⟩ := S1.src (by omega)
      have hx := List.getElem?_eq_getElem hql
      have ha := HOK.out _ (List.getElem_mem hql)
      generalize l[q] = a at hx ha
      obtain ⟨c0, c1, c2, c3, c4, c5, c6, c7, c8⟩ := lst_at (len := len) R q a hx
      have HX := Lib.hid hx
      have HS := Lib.hid hsent
      have HOKA := Lib.hid ha
      have HA1 := Lib.hid A1
      have HL1 := Lib.hid L1
      clear A1 L1 S1 R hx ha hql hsent
      go_upto_region 10 with (refine store_ac rfl (.tmp 7) (.tmp 30) rfl wr.heap.size a rfl rfl (putA_new wr) ?_)
      rw [putA_is]
      have Y := putA_at wr a
      have HB2 := putA_below wr a
      have A2 := HA1.out.below HB2
      have L2 := HL1.out.trans (HB2.mono HL1.out.size)
      have hgr := HA1.out.lt
      have HSP := Lib.hid HA1.out.spot
      have hwr0 := HL1.out.size
      generalize putA wr a = w2 at *
      generalize wr.heap.size = r at *
      have f4 := Y.own.free 4
      have y4 := Y.own.at_ 4 _ rfl
      clear c0 c1 c2 c3 c4 c5 c6 c7 c8 HA1 HL1 HB2
      have hsp : ∀ x, ao2 = some x → x.block < r := fun x e => by
        rcases HSP.out with ⟨e1, _⟩ | ⟨b, e1, _, e2, _⟩
        · rw [e1] at e; cases e
        · rw [e1] at e; cases e; exact e2
      have hwr : w.heap.size ≤ r := by omega
      go_upto_region 11 with fail
      have Y3 := Y.plain
      have A3 : NetAt (w2.setCell ⟨r, 4, none⟩ (.bool false)) g g M ao2 cap2 := A2.kept fun k hk e => heap_setCell_other w2 _ _ _ (by
        show k ≠ r
        rcases e with rfl | ⟨x, e1, rfl⟩
        · omega
        · have := hsp x e1; omega)
      have L3 : Go.RowKit.Below w.heap.size w (w2.setCell ⟨r, 4, none⟩ (.bool false)) := L2.setCell hwr _
      clear Y A2 L2 f4 y4
      generalize w2.setCell ⟨r, 4, none⟩ (.bool false) = w3 at *
      have y0 := Y3.own.at_ 0 _ rfl
      have y5 := Y3.own.at_ 5 _ rfl
      change w3.cell? ⟨r, 0, none⟩ = some (.int .i64 a.kind) at y0
      change w3.cell? ⟨r, 5, none⟩ = some (.int .i64 a.i) at y5
      by_cases k1 : a.kind = 1
      · have HT : Hid (Calls Try.prog 11 #[.pointer (some ⟨g, 0, none⟩), .int .i64 a.i] w3 fun e w' => e = .returned (takeV M a.i) ∧ Gone w3 g g (dropN M a.i) ao2 w') := Lib.hid (ntake_any A3 a.i HOKA.out.i0 HOKA.out.i1)
        have HD := Lib.hid (drop_sent l q M a.i HS.out)
        have HSE := HS
        have HLK := Lib.hid (drop_linked M a.i)
        have TC := take_cases M a.i
        rw [k1] at y0
        have HA3 := Lib.hid A3
        have HL3 := Lib.hid L3
        clear k1 Y3 HS A3 L3
        generalize takeV M a.i = tv at *
        rcases TC with rfl | ⟨d, hd, rfl, hlk⟩
        · go_upto_region 14 with (first | (go_at_call 11; refine HT.out.mono ?_; rintro e w4 ⟨rfl, G⟩) | (refine store_dg rfl (.tmp 8) (.tmp 44) rfl w4.heap.size 0 0 { data := #[] } false rfl rfl (DgB.new w4 0 0 { data := #[] } false) ?_))
          rw [putD_is]
          have L4 := HL3.out.trans (below_of HA3.out G hs1)
          have HP := putD_below w4 0 0 { data := #[] } false
          obtain ⟨ao3, cap3, A4, _⟩ := G
          have A5 := Lib.hid (A4.below HP)
          have L5 := Lib.hid (L4.trans (HP.mono L4.size))
          generalize putD w4 0 0 { data := #[] } false = w5 at *
          clear HP A4 L4 HT y0 y5
          go_wp2
          go_roundw
          case rel => exact ⟨q + 1, _, ao3, cap3, by omega, by go_num, A5.out, L5.out, HD.out⟩
          case measure => simp [intOf]; omega
        · go_upto_region 14 with (first | (go_at_call 11; refine HT.out.mono ?_; rintro e w4 ⟨rfl, G⟩) | (refine store_dg rfl (.tmp 8) (.tmp 44) rfl w4.heap.size d.frm d.to d.data d.torn rfl rfl (DgB.new w4 0 0 { data := #[] } false) ?_))
          rw [putD_is]
          have L4 := HL3.out.trans (below_of HA3.out G hs1)
          have HP := putD_below w4 d.frm d.to d.data d.torn
          have Y5 := putD_at w4 d.frm d.to d.data d.torn
          obtain ⟨ao3, cap3, A4, _⟩ := G
          have A5 := Lib.hid (A4.below HP)
          have L5 := Lib.hid (L4.trans (HP.mono L4.size))
          have HF := (HSE.out d hd).found
          have HDO := Lib.hid (HA3.out.ok d hd)
          generalize putD w4 d.frm d.to d.data d.torn = w5 at *
          generalize w4.heap.size = rd at *
          clear HP A4 L4 HT y0 y5 HA3 HL3
          go_wp2
          go_loopw [10, 11] (fun f i wr => ∃ (kk : Nat) (fb : Bool), kk ≤ q ∧ i = .int .i64 kk ∧ f = .bool fb ∧ (fb = false → NoM l d kk) ∧ NetAt wr g g (dropN M a.i) ao3 cap3 ∧ Below w.heap.size w wr ∧ DgB wr rd d.frm d.to d.data d.torn) (fun _ i _ => q - (intOf i).toNat)
          case atStart => exact ⟨0, false, Nat.zero_le _, rfl, rfl, fun _ j x hj => by omega, A5.out, L5.out, Y5⟩
          case round =>
            obtain ⟨kk, fb, hkk, rfl, rfl, hno, A6, L6, Y6⟩ := hrel
            clear Y5
            cases fb
            · have hltk : kk < q := by
                rcases Nat.lt_or_ge kk q with h | h
                · exact h
                · obtain ⟨j, x, hj, hx, hm⟩ := HF
                  rw [hno rfl j x (by omega) hx] at hm
                  cases hm
              have HNO := Lib.hid (hno rfl)
              have hxl : kk < l.length := by omega
              have hx := List.getElem?_eq_getElem hxl
              have hox := HOK.out _ (List.getElem_mem hxl)
              generalize l[kk] = x at hx hox
              obtain ⟨b', o', e', R⟩ := (HL.out.below L6).src (by omega)
              cases e'
              obtain ⟨c0, c1, c2, c3, c4, c5, c6, c7, c8⟩ := lst_at (len := len) R kk x hx
              have HX2 := Lib.hid hx
              have HA6 := Lib.hid A6
              have HL6 := Lib.hid L6
              have HY6 := Lib.hid Y6
              have dz := hox.d.sz
              have dz2 := HDO.out.sz
              clear R hx A6 L6 Y6 hno HF hxl hox
              go_upto_region 20 with (refine store_dg rfl (.tmp 12) (.tmp 61) rfl wr.heap.size x.d.frm x.d.to x.d.data x.d.torn rfl rfl (DgB.new wr 0 0 { data := #[] } false) ?_)
              rw [putD_is]
              have HP := putD_below wr x.d.frm x.d.to x.d.data x.d.torn
              have Z7 := putD_at wr x.d.frm x.d.to x.d.data x.d.torn
              have Y7 := HY6.out.below HP HY6.out.lt
              have A7 := HA6.out.below HP
              have L7 := HL6.out.trans (HP.mono HL6.out.size)
              generalize putD wr x.d.frm x.d.to x.d.data x.d.torn = w7 at *
              generalize wr.heap.size = rs at *
              clear HP c0 c1 c2 c3 c4 c5 c6 c7 c8 HA6 HL6 HY6
              have z2 := Z7.c2
              have v2 := Y7.c2
              go_upto_region 21 with (go_at_call 12; refine (ndiffer x.d.data d.data w7 dz dz2).mono ?_; rintro e w8 ⟨rfl, nd, rfl⟩)
              have A8 := Lib.hid (A7.drewN nd)
              have L8 := Lib.hid (below_drewN L7 nd)
              have Y8 : DgB (w7.drewN nd) rd d.frm d.to d.data d.torn := Y7
              have Z8 : DgB (w7.drewN nd) rs x.d.frm x.d.to x.d.data x.d.torn := Z7
              have R8 := HL.out.below L8.out
              clear A7 L7 Y7 Z7 z2 v2
              generalize w7.drewN nd = w8 at *
              obtain ⟨b', o', e', R⟩ := R8.src (by omega)
              cases e'
              obtain ⟨x', hx', hk'⟩ : ∃ x', l[kk]? = some x' ∧ x'.kind = x.kind := ⟨x, HX2.out, rfl⟩
              obtain ⟨e0, _⟩ := lst_at (len := len) R kk x' hx'
              rw [hk'] at e0
              clear hx' hk' R R8
              have HM : ∀ fb', matchB x d = fb' → Hid (fb' = false → NoM l d (kk + 1)) := fun fb' hm => Lib.hid fun e j y hj hy => by
                rcases Nat.lt_or_ge j kk with h | h
                · exact HNO.out j y h hy
                · obtain rfl : j = kk := by omega
                  rw [HX2.out] at hy
                  cases hy
                  rw [hm]; exact e
              unfold matchB at HM
              have HM := Lib.hid HM
              have z0 := Z8.c0
              have z1 := Z8.c1
              have v0 := Y8.c0
              have v1 := Y8.c1
              have v3 := Y8.c3
              have HY8 := Lib.hid Y8
              clear Y8 Z8 dz dz2
              generalize gapS x.d.data d.data = gp at *
              generalize x.d.frm = xf at *
              generalize x.d.to = xt at *
              generalize x.kind = xk at *
              generalize hdt : d.torn = dt at *
              have hdt := Lib.hid hdt
              by_cases k0 : xk = 0
              case neg =>
                have HM' := HM.out false (by rw [decide_eq_false k0]; rfl)
                have d0 : (xk == 0) = false := by simp [k0]
                clear k0 HM
                go_wp2
                go_roundw
                case rel => exact ⟨kk + 1, _, by omega, by go_num, rfl, HM'.out, A8.out, L8.out, by rw [← hdt.out] at HY8; exact HY8.out⟩
                case measure => simp [intOf]; omega
              subst k0
              by_cases k1 : xf = d.frm
              case neg =>
                have HM' := HM.out false (by rw [decide_eq_false k1]; simp)
                have d1 : (xf == d.frm) = false := by simp [k1]
                clear k1 HM
                go_wp2
                go_roundw
                case rel => exact ⟨kk + 1, _, by omega, by go_num, rfl, HM'.out, A8.out, L8.out, by rw [← hdt.out] at HY8; exact HY8.out⟩
                case measure => simp [intOf]; omega
              by_cases k2 : xt = d.to
              case neg =>
                have HM' := HM.out false (by rw [decide_eq_false k2]; simp)
                have d1 : (xf == d.frm) = true := by simp [k1]
                have d2 : (xt == d.to) = false := by simp [k2]
                clear k1 k2 HM
                go_wp2
                go_roundw
                case rel => exact ⟨kk + 1, _, by omega, by go_num, rfl, HM'.out, A8.out, L8.out, by rw [← hdt.out] at HY8; exact HY8.out⟩
                case measure => simp [intOf]; omega
              have d1 : (xf == d.frm) = true := by simp [k1]
              have d2 : (xt == d.to) = true := by simp [k2]
              have HM := Lib.hid (show ∀ fb', (decide (gp = 0) && !dt || decide (gp = 1) && dt) = fb' → _ from fun fb' h => HM.out fb' (by rw [decide_eq_true k1, decide_eq_true k2]; simpa using h))
              clear k1 k2
              cases dt
              · by_cases k3 : gp = 0
                · subst k3
                  have HM' := HM.out true rfl
                  clear HM
                  go_wp2
                  go_roundw
                  case rel => exact ⟨kk + 1, _, by omega, by go_num, rfl, HM'.out, A8.out, L8.out, by rw [← hdt.out] at HY8; exact HY8.out⟩
                  case measure => simp [intOf]; omega
                · have HM' := HM.out false (by rw [decide_eq_false k3]; simp)
                  have d3 : (gp == 0) = false := by simp [k3]
                  clear HM
                  by_cases k4 : gp = 1
                  · have d4 : (gp == 1) = true := by simp [k4]
                    clear k3 k4
                    go_wp2
                    go_roundw
                    case rel => exact ⟨kk + 1, _, by omega, by go_num, rfl, HM'.out, A8.out, L8.out, by rw [← hdt.out] at HY8; exact HY8.out⟩
                    case measure => simp [intOf]; omega
                  · have d4 : (gp == 1) = false := by simp [k4]
                    clear k3 k4
                    go_wp2
                    go_roundw
                    case rel => exact ⟨kk + 1, _, by omega, by go_num, rfl, HM'.out, A8.out, L8.out, by rw [← hdt.out] at HY8; exact HY8.out⟩
                    case measure => simp [intOf]; omega
              · by_cases k4 : gp = 1
                · subst k4
                  have HM' := HM.out true rfl
                  clear HM
                  go_wp2
                  go_roundw
                  case rel => exact ⟨kk + 1, _, by omega, by go_num, rfl, HM'.out, A8.out, L8.out, by rw [← hdt.out] at HY8; exact HY8.out⟩
                  case measure => simp [intOf]; omega
                · have HM' := HM.out false (by rw [decide_eq_false k4]; simp)
                  have d4 : (gp == 1) = false := by simp [k4]
                  clear HM
                  by_cases k3 : gp = 0
                  · have d3 : (gp == 0) = true := by simp [k3]
                    clear k3 k4
                    go_wp2
                    go_roundw
                    case rel => exact ⟨kk + 1, _, by omega, by go_num, rfl, HM'.out, A8.out, L8.out, by rw [← hdt.out] at HY8; exact HY8.out⟩
                    case measure => simp [intOf]; omega
                  · have d3 : (gp == 0) = false := by simp [k3]
                    clear k3 k4
                    go_wp2
                    go_roundw
                    case rel => exact ⟨kk + 1, _, by omega, by go_num, rfl, HM'.out, A8.out, L8.out, by rw [← hdt.out] at HY8; exact HY8.out⟩
                    case measure => simp [intOf]; omega
            · have HLK2 : Hid (Calls Try.prog 13 #[.pointer (some ⟨g, 0, none⟩), .int .i64 d.frm, .int .i64 d.to] wr fun e w' => e = .returned (.bool true) ∧ wr = w') := Lib.hid (by
                have := nlinked A6 d.frm d.to HDO.out.f0 HDO.out.f1 HDO.out.t0 HDO.out.t1
                rw [HLK.out, hlk] at this
                exact this)
              have v0 := Y6.c0
              have v1 := Y6.c1
              have HA6 := Lib.hid A6
              have HL6 := Lib.hid L6
              clear A6 L6 Y6 hno HF hlk hd
              go_wp2_with (go_at_call 13; refine HLK2.out.mono ?_; rintro e w' ⟨rfl, rfl⟩)
              all_goals
                go_roundw
                case rel => exact ⟨q + 1, _, ao3, cap3, by omega, by go_num, HA6.out, HL6.out, HD.out⟩
                case measure => simp [intOf]; omega
      · have hd1 : (a.kind != 1) = true := by simp [k1]
        have HACT : Hid (Calls Try.prog 10 #[.pointer (some ⟨g, 0, none⟩), valA (plain a)] w3 fun e w' => e = .returned (.tuple #[]) ∧ Gone w3 g g (stepN M (plain a)) ao2 w') := Lib.hid (nact A3 (plain a) (plain_ok HOKA.out))
        have HD := Lib.hid (step_sent l q a HX.out HOKA.out M HS.out)
        have HA3 := Lib.hid A3
        have HL3 := Lib.hid L3
        clear k1 HS A3 L3
        go_wp2_with (first | (refine load_ac rfl (.tmp 7) rfl r rfl Y3 ?_) | (go_at_call 10; refine HACT.out.mono ?_; rintro e w4 ⟨rfl, G⟩; (have HG := Lib.hid G); clear G))
        go_roundw
        case rel =>
          have L4 := HL3.out.trans (below_of HA3.out HG.out hs1)
          obtain ⟨ao3, cap3, A4, _⟩ := HG.out
          exact ⟨q + 1, _, ao3, cap3, by omega, by go_num, A4, L4, HD.out⟩
        case measure => simp [intOf]; omega
    · go_wp2
      go_ret
      exact ⟨rfl, L1⟩
theorem walk_NetTrue {w : World} (n : Int) (wn : (Lit.int .i64 n).wf = true) (ao : Option Addr) (len cap : Nat) (l : List Ac) (hl : Lst encAc 9 w ao len l ∧ len ≤ maxLen ∧ ∀ m ∈ l, m.ok) :
    Calls Try.prog 3 #[.int .i64 n, .slice ao len cap] w fun e w' => e = .returned (.bool true) ∧ Below w.heap.size w w' := by
  have b0 := Go.bounds_i64 wn
  exact full_NetTrue n (by omega) (by omega) ao len cap l w hl.1 hl.2.1 hl.2.2
end Go.Proofs.YtpbeohonohcgdaaR
