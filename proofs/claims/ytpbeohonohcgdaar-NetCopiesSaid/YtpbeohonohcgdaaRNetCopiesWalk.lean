/- The walk of 'NetCopies'. -/
import Derived.Test.YtpbeohonohcgdaaRNetCopy
set_option linter.unusedVariables false
set_option linter.unusedSimpArgs false
namespace Go.Proofs.YtpbeohonohcgdaaR
open Go.RowKit Go.Sort

/-- A block that is none of the net's. -/
structure Sep (w : World) (g : Nat) (ao : Option Addr) (x : Nat) : Prop where
  lt : x < w.heap.size
  ne : x ≠ g
  row : ∀ a, ao = some a → x ≠ a.block
theorem Sep.moved {w w' : World} {g : Nat} {ao ao' : Option Addr} {x : Nat} (h : Sep w g ao x) (m : Moved w w' g ao ao') : Sep w' g ao' x where
  lt := Nat.lt_of_lt_of_le h.lt m.size
  ne := h.ne
  row := fun a e => by
    rcases m.own a e with ⟨a0, e0, e1⟩ | e0
    · rw [← e1]; exact h.row a0 e0
    · have := h.lt; omega
theorem own_kept {w w' : World} {base n : Nat} {v : Value} {xs : List Value} (h : w.ownsRow base 28 4 v n xs) (hb : ∀ k, v.ownBlock = some k → w'.heap[k]? = w.heap[k]?) : w'.ownsRow base 28 4 v n xs := by
  refine ⟨h.1, ?_⟩
  rcases h.2 with h1 | ⟨b, c, cur, h1, h2, h3, h4⟩
  · exact .inl h1
  · exact .inr ⟨b, c, cur, h1, h2, (hb b (by rw [h1]; rfl)).trans h3, h4⟩
/-- A copy, and what was kept of it. -/
structure Cop (w : World) (g : Nat) (ao : Option Addr) (gc Bc Bk : Nat) (N : Nt) (aoc : Option Addr) (capc : Nat) (kv : Value) : Prop where
  net : NetAt w gc Bc N aoc capc
  row : w.ownsRow Bk 28 4 kv N.rows.length (flat encD N.rows)
  s1 : Sep w g ao gc
  s2 : ∀ a, aoc = some a → Sep w g ao a.block
  s3 : ∀ k, kv.ownBlock = some k → Sep w g ao k
theorem Cop.moved {w w' : World} {g : Nat} {ao ao' : Option Addr} {gc Bc Bk : Nat} {N : Nt} {aoc : Option Addr} {capc : Nat} {kv : Value} (h : Cop w g ao gc Bc Bk N aoc capc kv) (m : Moved w w' g ao ao') : Cop w' g ao' gc Bc Bk N aoc capc kv where
  net := h.net.kept fun k hk e => by
    rcases e with rfl | ⟨a, e1, rfl⟩
    · exact m.block _ hk h.s1.ne h.s1.row
    · exact m.block _ hk (h.s2 a e1).ne (h.s2 a e1).row
  row := own_kept h.row fun k e => m.block k (h.s3 k e).lt (h.s3 k e).ne (h.s3 k e).row
  s1 := h.s1.moved m
  s2 := fun a e => (h.s2 a e).moved m
  s3 := fun k e => (h.s3 k e).moved m
/-- The variables c, kept, links: not yet, or once the copy was made. -/
def Stands (w : World) (g : Nat) (ao : Option Addr) (k : Nat) (at_ : Int) (c kept links : Value) : Prop :=
  (c = .pointer none ∧ kept = .slice none 0 0 ∧ links = .bool false) ∨
  ∃ gc Bc Bk N aoc capc, at_ < k ∧ c = .pointer (some ⟨gc, 0, none⟩) ∧ links = .bool (linkedB N 0 1) ∧ Cop w g ao gc Bc Bk N aoc capc kept
theorem Stands.moved {w w' : World} {g : Nat} {ao ao' : Option Addr} {k : Nat} {at_ : Int} {c kept links : Value} (h : Stands w g ao k at_ c kept links) (m : Moved w w' g ao ao') : Stands w' g ao' (k + 1) at_ c kept links := by
  rcases h with h1 | ⟨gc, Bc, Bk, N, aoc, capc, h1, h2, h3, h4⟩
  · exact .inl h1
  · exact .inr ⟨gc, Bc, Bk, N, aoc, capc, by omega, h2, h3, h4.moved m⟩

theorem Stands.kept {w w' : World} {g : Nat} {ao ao' : Option Addr} {k : Nat} {at_ : Int} {c kept links : Value} (h : Stands w g ao k at_ c kept links) (m : Moved w w' g ao ao') : Stands w' g ao' k at_ c kept links := by
  rcases h with h1 | ⟨gc, Bc, Bk, N, aoc, capc, h1, h2, h3, h4⟩
  · exact .inl h1
  · exact .inr ⟨gc, Bc, Bk, N, aoc, capc, h1, h2, h3, h4.moved m⟩
theorem Gone.under {w w' : World} {g B : Nat} {N N' : Nt} {ao : Option Addr} {cap : Nat} (h : NetAt w g B N ao cap) (G : Gone w g B N' ao w') {B' : Nat} (hB : B' ≤ B) : Go.RowKit.Below B' w w' := by
  obtain ⟨_, _, _, m⟩ := G
  exact m.below h hB
set_option maxHeartbeats 8000000 in
set_option maxRecDepth 100000 in
theorem full_NetCopies (n at_ : Int) (h0 : -9223372036854775808 ≤ n) (h1 : n ≤ 9223372036854775807) (t0 : -9223372036854775808 ≤ at_) (t1 : at_ ≤ 9223372036854775807) (ao : Option Addr) (len cap : Nat) (l : List Ac) (w : World) (hl : Lst encAc 9 w ao len l) (hle : len ≤ maxLen) (hok : ∀ m ∈ l, m.ok) :
    Calls Try.prog 5 #[.int .i64 n, .slice ao len cap, .int .i64 at_] w fun e w' => e = .returned (.bool true) ∧ Below w.heap.size w w' := by
  have hlen := hl.size
  have HL := Lib.hid hl
  have HOK := Lib.hid hok
  clear hl hok
  go_enter Try.func5, Try.ntmps5
  go_wp2_with fail
  refine (nawake _).mono ?_
  rintro e w1 ⟨rfl, L1⟩
  go_wp2_with fail
  refine (nfew ao len cap l w1 (HL.out.below L1) hle HOK.out).mono ?_
  rintro e w' ⟨⟨bf, rfl⟩, rfl⟩
  cases bf
  · go_wp2
    go_ret
    exact ⟨rfl, L1⟩
  go_wp2_with (go_at_call 9; refine (nnew n w1 h0 h1).mono ?_; rintro e w2 ⟨rfl, A2, L2'⟩)
  have L2 := L1.trans (L2'.mono L1.size)
  clear L2'
  have hs1 := L1.size
  generalize w1.heap.size = g at *
  clear L1
  unfold maxLen at hle
  go_loopw [8, 9, 10, 11] (fun c kept links i wr => ∃ (q : Nat) (N : Nt) (ao' : Option Addr) (cap' : Nat), q ≤ len ∧ i = .int .i64 q ∧ NetAt wr g g N ao' cap' ∧ Below w.heap.size w wr ∧ Stands wr g ao' q at_ c kept links) (fun _ _ _ i _ => len - (intOf i).toNat)
  case atStart => exact ⟨0, _, _, _, Nat.zero_le _, rfl, A2, L2, .inl ⟨rfl, rfl, rfl⟩⟩
  case round =>
    obtain ⟨q, M, ao2, cap2, hq, rfl, A1, L1, ST⟩ := hrel
    clear A2 L2
    by_cases hlt : q < len
    · have hql : q < l.length := by omega
      have HX := List.getElem?_eq_getElem hql
      have HOA := HOK.out _ (List.getElem_mem hql)
      generalize l[q] = a at *
      have HX := Lib.hid HX
      have HOA := Lib.hid HOA
      clear hql
      by_cases heq : (q : Int) = at_
      · have hd : ((q : Int) == at_) = true := by simp [heq]
        rcases ST with ⟨rfl, rfl, rfl⟩ | ⟨gc, Bc, Bk, N, aoc, capc, hlt', _⟩
        case inr => omega
        have HQ := Lib.hid heq
        clear heq
        have HC := Lib.hid (ncopy A1)
        have HA1 := Lib.hid A1
        have HL1 := Lib.hid L1
        have hgr := A1.lt
        clear A1 L1
        go_upto_region 14 with (go_at_call 18; refine HC.out.mono ?_; rintro e w3 ⟨gc, aoc, capc, rfl, C3, B3⟩)
        have A3 := HA1.out.below B3
        have L3 := HL1.out.trans (B3.mono HL1.out.size)
        have hsp : ∀ x, ao2 = some x → x.block < wr.heap.size := fun x e => by
          rcases HA1.out.spot with ⟨e1, _⟩ | ⟨b, e1, _, e2, _⟩
          · rw [e1] at e; cases e
          · rw [e1] at e; cases e; exact e2
        have hspc : ∀ x, aoc = some x → wr.heap.size ≤ x.block ∧ x.block < w3.heap.size := fun x e => by
          rcases C3.spot with ⟨e1, _⟩ | ⟨b, e1, e2, e3, _⟩
          · rw [e1] at e; cases e
          · rw [e1] at e; cases e; exact ⟨e2, e3⟩
        have hsp := Lib.hid hsp
        have hspc := Lib.hid hspc
        have hgc := C3.base
        have hgc2 := C3.lt
        have hB3 := B3.size
        clear HC HA1 HL1 B3
        generalize wr.heap.size = r at *
        have HK := nlinked A3 0 1 (by decide) (by decide) (by decide) (by decide)
        have HK := Lib.hid HK
        have HA3 := Lib.hid A3
        have HC3 := Lib.hid C3
        have HL3 := Lib.hid L3
        have hM := A3.few
        clear A3 C3 L3
        go_wp2_with (go_at_call 13; refine HK.out.mono ?_; rintro e w' ⟨rfl, rfl⟩)
        obtain ⟨Bk, hBk⟩ : ∃ Bk, w3.heap.size = Bk := ⟨_, rfl⟩
        have hgB : g < Bk := by omega
        have hgcB : gc < Bk := by omega
        have HBk := Lib.hid hBk
        clear hBk HK
        go_loopw [9, 12] (fun kept k wq => ∃ kk : Nat, kk ≤ M.rows.length ∧ k = .int .i64 kk ∧ wq.ownsRow Bk 28 4 kept kk (flat encD (M.rows.take kk)) ∧ Below Bk w3 wq) (fun _ k _ => M.rows.length - (intOf k).toNat)
        case atStart => exact ⟨0, Nat.zero_le _, rfl, World.ownsRow_nil _ _ _ _, Below.refl _ _⟩
        case round =>
          obtain ⟨kk, hkk, rfl, hrow, B4⟩ := hrel
          have B4' : Go.RowKit.Below w3.heap.size w3 wr := by rw [HBk.out]; exact B4
          have A4 := HA3.out.below B4'
          have HN := nlen A4
          by_cases hk2 : kk < M.rows.length
          · have hx := List.getElem?_eq_getElem hk2
            have hT : Hid (M.rows.take (kk + 1) = M.rows.take kk ++ [M.rows[kk]]) := Lib.hid (List.take_succ_eq_append_getElem hk2)
            generalize M.rows[kk] = d at *
            have HAT := Lib.hid (nat_yes A4 kk d hx)
            have HN := Lib.hid HN
            have HR := Lib.hid hrow
            have HB4 := Lib.hid B4
            have hBs : Bk ≤ wr.heap.size := by have := B4.size; have := HBk.out; omega
            obtain ⟨ka, kc, rfl⟩ := own_form' hrow
            generalize hml : M.rows.length = ml at *
            have hml := Lib.hid hml
            clear A4 B4' B4 hrow hx
            go_upto_region 19 with (first | (go_at_call 19; refine HN.out.mono ?_; rintro e w' ⟨rfl, rfl⟩) | (go_at_call 20; refine HAT.out.mono ?_; rintro e w5 ⟨rfl, B5⟩) | (refine store_dg rfl (.tmp 13) (.tmp 48) rfl w5.heap.size d.frm d.to d.data d.torn rfl rfl (DgB.new w5 0 0 { data := #[] } false) ?_))
            rw [putD_is]
            have HP := putD_below w5 d.frm d.to d.data d.torn
            have Y6 := putD_at w5 d.frm d.to d.data d.torn
            have B6 := HB4.out.trans ((B5.mono hBs).trans (HP.mono (Nat.le_trans hBs B5.size)))
            have R6 := own_kept (own_kept HR.out (w' := w5) fun k e => B5.block k (HR.out.lt k e).2) (w' := putD w5 d.frm d.to d.data d.torn) fun k e => HP.block k (Nat.lt_of_lt_of_le (HR.out.lt k e).2 B5.size)
            have hB6 : Bk ≤ (putD w5 d.frm d.to d.data d.torn).heap.size := Nat.le_trans hBs (Nat.le_trans B5.size HP.size)
            generalize putD w5 d.frm d.to d.data d.torn = w6 at *
            generalize w5.heap.size = rs at *
            obtain ⟨i0, hi0, hz0, hz1, hz2⟩ := info_parts infoD
            clear HP B5 HAT HN HR HB4 hBs
            go_wp2_with (first | (refine load_dg rfl (.tmp 13) rfl rs rfl Y6 ?_) | (at_builtin; refine wpList_append_own _ rfl _ _ 43 rfl Bk 28 i0 zeroD 4 40 Try.underlying43 hi0 hz0 hz1 hz2 rfl (by decide) (.slice ka kk kc) kk (flat encD (M.rows.take kk)) rfl (R6.alloc _) ⟨w6.heap.size, 0, none⟩ 1 1 (encD d) rfl rfl (World.news_of_block (Own.new w6 28 #[.int .i64 d.frm, .int .i64 d.to, .string d.data, .bool d.torn])) (encD_one d) (by unfold maxLen; omega) (by omega) (by simp; omega) ?_; intro v' w7 hown hgrow hnil; (have HV := Lib.hid hown); (have HW := Lib.hid hgrow); clear hown hgrow hnil))
            go_roundw
            case rel =>
              refine ⟨kk + 1, by omega, by go_num, by rw [hT.out, flat_append, flat_cons, flat_nil, List.append_nil]; exact HV.out, ?_⟩
              exact (B6.trans ((((Below.refl Bk w6).alloc hB6 _)))).grown HW.out (by simp; omega) (by intro k hk; exact (R6.lt k (by simpa using hk)).1)
            case measure => simp [intOf]; omega
          · have hkm : kk = M.rows.length := by omega
            have hT : M.rows.take kk = M.rows := List.take_of_length_le (by omega)
            rw [hT, hkm] at hrow
            have C4 := HC3.out.below B4'
            have L4 := HL3.out.trans (B4'.mono HL3.out.size)
            have hBs : Bk ≤ wr.heap.size := by have := B4.size; have := HBk.out; omega
            have ST4 : Stands wr g ao2 (q + 1) at_ (.pointer (some ⟨gc, 0, none⟩)) u9 (.bool (linkedB M 0 1)) := .inr ⟨gc, r, Bk, M, aoc, capc, by have := HQ.out; omega, rfl, rfl,
              ⟨C4, hrow, ⟨by omega, by omega, fun a e => by have := hsp.out a e; omega⟩, fun x e => ⟨by have := (hspc.out x e).2; have := HBk.out; omega, by have := (hspc.out x e).1; omega, fun a e2 => by have := (hspc.out x e).1; have := hsp.out a e2; omega⟩, fun k e => ⟨(hrow.lt k e).2, by have := (hrow.lt k e).1; omega, fun a e2 => by have := (hrow.lt k e).1; have := hsp.out a e2; omega⟩⟩⟩
            have HN := Lib.hid HN
            clear C4 B4 B4' hrow hT hkm
            have S1 := HL.out.below L4
            obtain ⟨b, o, e', R⟩ := S1.src (by omega)
            cases e'
            obtain ⟨c0, c1, c2, c3, c4, c5, c6, c7, c8⟩ := lst_at (len := len) R q a HX.out
            have HACT : Hid (Calls Try.prog 10 #[.pointer (some ⟨g, 0, none⟩), .agg #[.int .i64 a.kind, .int .i64 a.d.frm, .int .i64 a.d.to, .string a.d.data, .bool a.d.torn, .int .i64 a.i, .int .i64 a.at_, .int .u8 (a.mask : Int), .int .u64 (a.s : Int)]] wr fun e w' => e = .returned (.tuple #[]) ∧ Gone wr g g (stepN M a) ao2 w') := Lib.hid (nact A4 a HOA.out)
            have HA1 := Lib.hid A4
            have HL1 := Lib.hid L4
            have HST := Lib.hid ST4
            clear A4 L4 ST4 S1 R
            go_wp2_with (first | (go_at_call 19; refine HN.out.mono ?_; rintro e w' ⟨rfl, rfl⟩) | (go_at_call 10; refine HACT.out.mono ?_; rintro e w9 ⟨rfl, G⟩; (have HG := Lib.hid G); clear G))
            go_roundw
            case rel =>
              have L9 := HL1.out.trans (Gone.under HA1.out HG.out hs1)
              obtain ⟨ao3, cap3, A9, M9⟩ := HG.out
              exact ⟨q + 1, _, ao3, cap3, by omega, by go_num, A9, L9, HST.out.kept M9⟩
            case measure => simp [intOf]; omega
      · have hd : ((q : Int) == at_) = false := by simp [heq]
        clear heq
        have S1 := HL.out.below L1
        obtain ⟨b, o, e', R⟩ := S1.src (by omega)
        cases e'
        obtain ⟨c0, c1, c2, c3, c4, c5, c6, c7, c8⟩ := lst_at (len := len) R q a HX.out
        have HACT : Hid (Calls Try.prog 10 #[.pointer (some ⟨g, 0, none⟩), .agg #[.int .i64 a.kind, .int .i64 a.d.frm, .int .i64 a.d.to, .string a.d.data, .bool a.d.torn, .int .i64 a.i, .int .i64 a.at_, .int .u8 (a.mask : Int), .int .u64 (a.s : Int)]] wr fun e w' => e = .returned (.tuple #[]) ∧ Gone wr g g (stepN M a) ao2 w') := Lib.hid (nact A1 a HOA.out)
        have HA1 := Lib.hid A1
        have HL1 := Lib.hid L1
        have HST := Lib.hid ST
        clear A1 L1 ST S1 R
        go_wp2_with (go_at_call 10; refine HACT.out.mono ?_; rintro e w9 ⟨rfl, G⟩; (have HG := Lib.hid G); clear G)
        go_roundw
        case rel =>
          have L9 := HL1.out.trans (Gone.under HA1.out HG.out hs1)
          obtain ⟨ao3, cap3, A9, M9⟩ := HG.out
          exact ⟨q + 1, _, ao3, cap3, by omega, by go_num, A9, L9, HST.out.moved M9⟩
        case measure => simp [intOf]; omega
    · rcases ST with ⟨rfl, rfl, rfl⟩ | ⟨gc, Bc, Bk, N, aoc, capc, _, rfl, rfl, C⟩
      · go_wp2
        go_ret
        exact ⟨rfl, L1⟩
      have HN := Lib.hid (nlen C.net)
      have HK := Lib.hid (nlinked C.net 0 1 (by decide) (by decide) (by decide) (by decide))
      have HC := Lib.hid C.net
      have HR := Lib.hid C.row
      have HL1 := Lib.hid L1
      have hfew := C.net.few
      obtain ⟨ka, kc, rfl⟩ := own_form' C.row
      clear C A1 L1
      generalize hml : N.rows.length = ml at *
      have hml := Lib.hid hml
      generalize linkedB N 0 1 = lk at *
      have hlk : (lk != lk) = false := by cases lk <;> rfl
      go_wp2_with (first | (go_at_call 19; refine HN.out.mono ?_; rintro e w' ⟨rfl, rfl⟩) | (go_at_call 13; refine HK.out.mono ?_; rintro e w' ⟨rfl, rfl⟩))
      clear HN HK
      go_loopw [15] (fun i wq => ∃ kk : Nat, kk ≤ ml ∧ i = .int .i64 kk ∧ NetAt wq gc Bc N aoc capc ∧ wq.ownsRow Bk 28 4 (.slice ka ml kc) ml (flat encD N.rows) ∧ Below w.heap.size w wq) (fun i _ => ml - (intOf i).toNat)
      case atStart => exact ⟨0, Nat.zero_le _, rfl, HC.out, HR.out, HL1.out⟩
      case round =>
        obtain ⟨kk, hkk, rfl, A4, R4, L4⟩ := hrel
        clear HC HR HL1
        by_cases hk2 : kk < ml
        · have hkl : kk < N.rows.length := by rw [hml.out]; exact hk2
          have hx := List.getElem?_eq_getElem hkl
          generalize N.rows[kk] = d at *
          have HAT := Lib.hid (nat_yes A4 kk d hx)
          obtain ⟨kb, kcap, hv, hkb1, hkb2⟩ := R4.form (by omega)
          injection hv with e1 _ e2
          subst e1 e2
          have cell : ∀ c v, (encD d)[c]? = some v → wr.cell? ⟨kb, kk * 4 + c, none⟩ = some v := fun c v hv => by
            have hc : c < 4 := (List.getElem?_eq_some_iff.1 hv).1
            rw [R4.cellAt (kk * 4 + c) (by omega), flat_at encD 4 encD_length N.rows kk d hx c hc]
            exact hv
          have d0 := cell 0 _ rfl
          have d1 := cell 1 _ rfl
          have d2 := cell 2 _ rfl
          have d3 := cell 3 _ rfl
          rw [Nat.add_zero] at d0
          have HA4 := Lib.hid A4
          have HR4 := Lib.hid R4
          have HL4 := Lib.hid L4
          clear A4 R4 L4 cell hx hkl
          go_upto_region 29 with (first | (go_at_call 20; refine HAT.out.mono ?_; rintro e w5 ⟨rfl, B5⟩) | (refine store_dg rfl (.tmp 16) (.tmp 83) rfl w5.heap.size d.frm d.to d.data d.torn rfl rfl (DgB.new w5 0 0 { data := #[] } false) ?_))
          rw [putD_is]
          have HP := putD_below w5 d.frm d.to d.data d.torn
          have Y6 := putD_at w5 d.frm d.to d.data d.torn
          have B6 : Go.RowKit.Below wr.heap.size wr (putD w5 d.frm d.to d.data d.torn) := B5.trans (HP.mono B5.size)
          have A6 := HA4.out.below B6
          have L6 := HL4.out.trans (B6.mono HL4.out.size)
          have R6 := own_kept HR4.out fun k e => B6.block k (HR4.out.lt k e).2
          have q0 := cell_later B6 d0
          have q1 := cell_later B6 d1
          have q2 := cell_later B6 d2
          have q3 := cell_later B6 d3
          clear d0 d1 d2 d3 HP B5 B6 HA4 HR4 HL4 HAT
          generalize putD w5 d.frm d.to d.data d.torn = w6 at *
          generalize w5.heap.size = rs at *
          have y0 := Y6.c0
          have y1 := Y6.c1
          have y2 := Y6.c2
          have y3 := Y6.c3
          have P := Lib.hid (fun nq => (⟨A6.drewN nq, R6, below_drewN L6 nq⟩ : NetAt (w6.drewN nq) gc Bc N aoc capc ∧ w6.ownsRow Bk 28 4 (.slice (some ⟨kb, 0, none⟩) ml kc) ml (flat encD N.rows) ∧ Go.RowKit.Below w.heap.size w (w6.drewN nq)))
          clear A6 R6 L6 Y6
          go_wp2_with fail
          go_quiet (fail)
          go_wp2
          go_roundw
          case rel => exact ⟨kk + 1, by omega, by go_num, (P.out _).1, (P.out 0).2.1, (P.out _).2.2⟩
          case measure => simp [intOf]; omega
        · have HL4 := Lib.hid L4
          clear A4 R4 L4
          go_wp2
          go_ret
          exact ⟨rfl, HL4.out⟩
theorem walk_NetCopies {w : World} (n : Int) (wn : (Lit.int .i64 n).wf = true) (ao : Option Addr) (len cap : Nat) (l : List Ac) (hl : Lst encAc 9 w ao len l ∧ len ≤ maxLen ∧ ∀ m ∈ l, m.ok) (at_ : Int) (wa : (Lit.int .i64 at_).wf = true) :
    Calls Try.prog 5 #[.int .i64 n, .slice ao len cap, .int .i64 at_] w fun e w' => e = .returned (.bool true) ∧ Below w.heap.size w w' := by
  have b0 := Go.bounds_i64 wn
  have b1 := Go.bounds_i64 wa
  exact full_NetCopies n at_ (by omega) (by omega) (by omega) (by omega) ao len cap l w hl.1 hl.2.1 hl.2.2
end Go.Proofs.YtpbeohonohcgdaaR
