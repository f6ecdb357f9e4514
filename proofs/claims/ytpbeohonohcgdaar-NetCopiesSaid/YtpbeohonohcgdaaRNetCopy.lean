/- Copy. -/
import Derived.Test.YtpbeohonohcgdaaRNetOpen
import Derived.Deep.MidRow
import Derived.Deep.RegionHeld3
import Derived.Shelf.SlLaysE0
import Derived.Shelf.SlicesE.Clone
set_option linter.unusedVariables false
set_option linter.unusedSimpArgs false
namespace Go.Proofs.YtpbeohonohcgdaaR
open Go.RowKit Go.Sort

def cloneRenD : Go.Shelf.Ren := ⟨fun | 41 => 31 | n => n, fun | 4 => 4 | 22 => 43 | 23 => 28 | n => n, fun n => n⟩
theorem cloneLaysD : SlLaysE0.n41 Try.prog cloneRenD := {
  mixed := by kernel_rfl
  f41 := ⟨Try.f31.name, by decide +kernel, by kernel_rfl⟩
  t4 := Try.underlying4
  a4 := Try.isAgg4
  z4 := Try.sizeOf4
  v4 := Try.zeroValue4
  t22 := Try.underlying43
  a22 := Try.isAgg43
  z22 := Try.sizeOf43
  v22 := Try.zeroValue43 }
/-- What Clone answers: a row like it, in new memory. -/
def Cloned (w : World) (n : Nat) (R : List Dg) (e : Ending) (w' : World) : Prop := ∃ ao' cap', e = .returned (.slice ao' n cap') ∧ w'.ownsRow w.heap.size 28 4 (.slice ao' n cap') n (flat encD R) ∧ Go.RowKit.Below w.heap.size w w'
set_option maxHeartbeats 1000000 in
theorem nclone {w : World} {g B : Nat} {N : Nt} {ao : Option Addr} {cap : Nat} (h : NetAt w g B N ao cap) :
    Calls Try.prog 31 #[.slice ao N.rows.length cap] w (Cloned w N.rows.length N.rows) := by
  rcases h.spot with ⟨rfl, rfl, e⟩ | ⟨b, rfl, hb1, hb2, hb3, hb4, hb5⟩
  · rw [e]
    have := AnyE.slices_Clone_nil cloneLaysD 0 0 w
    refine Calls.mono this fun e' w' ⟨h1, h2⟩ => ?_
    subst h2
    exact ⟨none, 0, h1, World.ownsRow_nil _ _ _ _, Below.refl _ _⟩
  · obtain ⟨i0, hi, hz0, hz1, hz2⟩ := info_parts infoD
    by_cases h0 : N.rows.length = 0
    · have hR : N.rows = [] := List.eq_nil_of_length_eq_zero h0
      rw [hR]
      have q22 : ∀ (w : World) (a : Option Addr) (n c n' c' : Nat), (binOp .eql 43 (.slice a n c) (.slice none n' c')).run Try.prog w = .ok (.bool a.isNone) w := fun w a n c n' c' => Lib.run_eql_slice_nil w _ _ a n c n' c' Try.underlying43
      clear h hb4 h0 hR
      go_enter Try.func31, Try.ntmps31
      go_wp2_with (at_builtin; refine wpList_append_own _ rfl _ _ 43 rfl w.heap.size 28 i0 zeroD 4 40 Try.underlying43 hi hz0 hz1 hz2 rfl (by decide) _ _ _ rfl (World.ownsRow_made w #[] 0 (Nat.le_refl _) (Nat.zero_le _) (by simp)) ⟨b, 0, none⟩ 0 cap [] rfl rfl (fun j u hj => by simp at hj) (fun u hu => by cases hu) (Nat.zero_le _) (Nat.zero_le _) (by simp) ?_)
      intro v' w1 hown hgrow hnil
      go_wp2
      go_ret
      rcases hown.2 with ⟨h', _⟩ | ⟨g', c, cur, rfl, hb, hg, _⟩
      · exact absurd h' hnil
      · exact ⟨_, c, rfl, by rw [flat_nil]; simpa using hown, ((Below.refl _ w).alloc (Nat.le_refl _) _).grown hgrow (by simp) (by intro k hk; simp [Value.ownBlock] at hk; omega)⟩
    · have hfew := h.few
      have hfl := flat_length encD 4 encD_length N.rows
      have := AnyE.slices_Clone cloneLaysD i0 zeroD 4 40 hi hz0 hz1 hz2 rfl (by decide) Try.sizeOf28 b 0 N.rows.length cap (flat encD N.rows) w hfl (by unfold maxLen; omega) (by omega)
        (fun j u hu => by
          have hj : j < N.rows.length * 4 := by rw [← hfl]; exact (List.getElem?_eq_some_iff.1 hu).1
          rw [Nat.zero_add, h.row.cellAt j hj]; exact hu) flatD_one
      refine Calls.mono this fun e w' ⟨v', he, hown, hne, hB⟩ => ?_
      obtain ⟨ao', cap', rfl⟩ := own_form' hown
      exact ⟨ao', cap', he, hown, hB⟩

/-- The struct built of its three parts. -/
theorem build_net (p : Int) (f : Nat → Int) (ao : Option Addr) (n c : Nat) (w : World) :
    (Instr.build 56 #[(0, .int .u64 p), (1, .agg ((List.range 64).map fun i => Value.int .u64 (f i)).toArray), (2, .slice ao n c)]).run Try.prog w = .ok (.agg (Value.int .u64 p :: (((List.range 64).map fun i => Value.int .u64 (f i)) ++ [.slice ao n c])).toArray) w := by kernel_rfl
theorem range_links (L : List Nat) (h : L.length = 64) : cellsU L = (List.range 64).map fun i => Value.int .u64 ((L.getD i 0 : Nat) : Int) := by
  apply List.ext_getElem?
  intro i
  unfold cellsU
  rw [List.getElem?_map, List.getElem?_map]
  by_cases hi : i < 64
  · rw [List.getElem?_range hi, List.getElem?_eq_getElem (show i < L.length by omega)]
    simp [List.getD_eq_getElem?_getD, show i < L.length by omega]
  · rw [List.getElem?_eq_none (by omega), List.getElem?_eq_none (by simp; omega)]; rfl
theorem build_cells (N : Nt) (h : N.links.length = 64) (ao : Option Addr) (n c : Nat) (w : World) :
    (Instr.build 56 #[(0, .int .u64 (N.procs : Int)), (1, .agg (cellsU N.links).toArray), (2, .slice ao n c)]).run Try.prog w = .ok (.agg (N.cells (.slice ao n c)).toArray) w := by
  unfold Nt.cells
  rw [range_links _ h]
  exact build_net _ _ _ _ _ _
/-- Take an operation first; its slot by its number. -/
theorem take_slot {P : Program} {md : Region.Mode} {ops : Array Oper} {Q : Exit → Act → World → Prop} {S : World → Prop} {i : Nat} {oi : Oper} {v : Value} {fuel : Nat} {listed : Array Bool} {a : Act} {w : World} (d : Nat) (hi : ops[i]? = some oi) (hd : oi.dst = some d)
    (hs : Region.noSelect ops = true) (hf : Region.free md ops listed i = true) (hr : (Region.ready md ops listed).contains i = true)
    (hQ : ∀ c a w, Q (.panic c) (a.put oi.dst v) w → Q (.panic c) a w) (hy : YieldsIf P ops S oi v a) (hS : S w)
    (h : wpAnyH P md ops Q S fuel (listed.setIfInBounds i true) (a.put (some d) v) w) : wpAnyH P md ops Q S (fuel + 1) listed a w :=
  wpAnyH_take hi hs hf hr hQ hy hS (by rw [hd]; exact h)
/-- The net's block, whole. -/
def Held (g : Nat) (N : Nt) (v : Value) (w : World) : Prop := Own w g 56 (N.cells v).toArray
theorem Held.links {g : Nat} {N : Nt} {v : Value} {w : World} (h : Held g N v w) : w.rangeAt g 1 (cellsU N.links) := fun j u hu => by
  refine Own.at_ h (1 + j) u ?_
  rw [List.getElem?_toArray, Nt.cells, Nat.add_comm, List.getElem?_cons_succ, List.getElem?_append_left (List.getElem?_eq_some_iff.1 hu).1]
  exact hu
theorem Held.c0 {g : Nat} {N : Nt} {v : Value} {w : World} (h : Held g N v w) : w.cell? ⟨g, 0, none⟩ = some (.int .u64 (N.procs : Int)) := Own.at_ h 0 _ rfl
theorem Held.c65 {g : Nat} {N : Nt} {v : Value} {w : World} (h : Held g N v w) (hl : N.links.length = 64) : w.cell? ⟨g, 65, none⟩ = some v := by
  refine Own.at_ h 65 _ ?_
  rw [List.getElem?_toArray, Nt.cells, List.getElem?_cons_succ, List.getElem?_append_right (by simp [cellsU, hl])]
  simp [cellsU, hl]
theorem links_size : (Try.prog.info? 54).map (·.size) = some 64 := by kernel_rfl
theorem yields_links {ops : Array Oper} {g : Nat} {N : Nt} {v : Value} {op : Oper} {a : Act} (hl : N.links.length = 64) (hw : Region.wanted op (yielded ops a.tmps) = true) (x : Operand) (ho : op.op = .load 54 x)
    (hx : a.eval x = .pointer (some ⟨g, 1, none⟩)) : YieldsIf Try.prog ops (Held g N v) op (.agg (cellsU N.links).toArray) a :=
  .inl ⟨hw, fun w hw' => by
    unfold execOp
    simp only [ho, hx, Instr.loadAt, Instr.sureAddr, Sem.run_bind, Sem.run_pure, Result.andThen_ok, run_loadVar_mid w g 1 54 (cellsU N.links) _ hw'.links Try.underlying54 rfl (by rw [links_size]; simp [cellsU, hl])]⟩
theorem yields_built {ops : Array Oper} {g : Nat} {N : Nt} {v : Value} {op : Oper} {a : Act} (hl : N.links.length = 64) (hw : Region.wanted op (yielded ops a.tmps) = true) (x y z : Operand) (ho : op.op = .build 56 #[(0, x), (1, y), (2, z)])
    (ao : Option Addr) (n c : Nat) (hx : a.eval x = .int .u64 (N.procs : Int)) (hy : a.eval y = .agg (cellsU N.links).toArray) (hz : a.eval z = .slice ao n c) : YieldsIf Try.prog ops (Held g N v) op (.agg (N.cells (.slice ao n c)).toArray) a :=
  .inl ⟨hw, fun w hw' => by
    unfold execOp
    simp only [ho, List.map_toArray, List.map_cons, List.map_nil, hx, hy, hz, Sem.run_bind, Sem.run_pure, Result.andThen_ok, build_cells N hl ao n c]⟩
set_option maxHeartbeats 4000000 in
set_option maxRecDepth 100000 in
theorem ncopy {w : World} {g B : Nat} {N : Nt} {ao : Option Addr} {cap : Nat} (h : NetAt w g B N ao cap) :
    Calls Try.prog 18 #[.pointer (some ⟨g, 0, none⟩)] w fun e w' => ∃ gc ao' cap', e = .returned (.pointer (some ⟨gc, 0, none⟩)) ∧ NetAt w' gc w.heap.size N ao' cap' ∧ Go.RowKit.Below w.heap.size w w' := by
  have hlen := h.len
  have hH : Held g N (.slice ao N.rows.length cap) w.drew := h.own
  have HA := Lib.hid (h.drewN 1)
  have hgl := h.lt
  have HK := Lib.hid h
  clear h
  go_enter Try.func18, Try.ntmps18
  go_upto_region 1 with fail
  refine wp_region_held_drew (S := Held g N (.slice ao N.rows.length cap)) (by kernel_rfl) hH (fun hHeld => ?_)
  refine take_slot (i := 0) (v := .pointer (some ⟨g, 0, none⟩)) 3 rfl (by kernel_rfl) (by kernel_rfl) (by kernel_rfl) (by kernel_rfl) (fun _ _ _ h => h) (.inl ⟨by kernel_rfl, fun w' hS => by (go_simp)⟩) hHeld ?_
  (try simp only [Act.put, List.setIfInBounds_toArray, List.set_cons_zero, List.set_cons_succ])
  refine take_slot (i := 1) (v := .pointer (some ⟨g, 0, none⟩)) 4 rfl (by kernel_rfl) (by kernel_rfl) (by kernel_rfl) (by kernel_rfl) (fun _ _ _ h => h) (.inl ⟨by kernel_rfl, fun w' hS => by (go_simp)⟩) hHeld ?_
  (try simp only [Act.put, List.setIfInBounds_toArray, List.set_cons_zero, List.set_cons_succ])
  refine take_slot (i := 2) (v := .pointer (some ⟨g, 0, none⟩)) 5 rfl (by kernel_rfl) (by kernel_rfl) (by kernel_rfl) (by kernel_rfl) (fun _ _ _ h => h) (.inl ⟨by kernel_rfl, fun w' hS => by (go_simp)⟩) hHeld ?_
  (try simp only [Act.put, List.setIfInBounds_toArray, List.set_cons_zero, List.set_cons_succ])
  refine take_slot (i := 3) (v := .int .u64 (N.procs : Int)) 6 rfl (by kernel_rfl) (by kernel_rfl) (by kernel_rfl) (by kernel_rfl) (fun _ _ _ h => h) (.inl ⟨by kernel_rfl, fun w' hS => by (have c := hS.c0; go_simp)⟩) hHeld ?_
  (try simp only [Act.put, List.setIfInBounds_toArray, List.set_cons_zero, List.set_cons_succ])
  refine take_slot (i := 4) (v := .pointer (some ⟨g, 0, none⟩)) 7 rfl (by kernel_rfl) (by kernel_rfl) (by kernel_rfl) (by kernel_rfl) (fun _ _ _ h => h) (.inl ⟨by kernel_rfl, fun w' hS => by (go_simp)⟩) hHeld ?_
  (try simp only [Act.put, List.setIfInBounds_toArray, List.set_cons_zero, List.set_cons_succ])
  refine take_slot (i := 5) (v := .pointer (some ⟨g, 0, none⟩)) 8 rfl (by kernel_rfl) (by kernel_rfl) (by kernel_rfl) (by kernel_rfl) (fun _ _ _ h => h) (.inl ⟨by kernel_rfl, fun w' hS => by (go_simp)⟩) hHeld ?_
  (try simp only [Act.put, List.setIfInBounds_toArray, List.set_cons_zero, List.set_cons_succ])
  refine take_slot (i := 6) (v := .pointer (some ⟨g, 1, none⟩)) 9 rfl (by kernel_rfl) (by kernel_rfl) (by kernel_rfl) (by kernel_rfl) (fun _ _ _ h => h) (.inl ⟨by kernel_rfl, fun w' hS => by (go_simp)⟩) hHeld ?_
  (try simp only [Act.put, List.setIfInBounds_toArray, List.set_cons_zero, List.set_cons_succ])
  refine take_slot (i := 7) (v := .agg (cellsU N.links).toArray) 10 rfl (by kernel_rfl) (by kernel_rfl) (by kernel_rfl) (by kernel_rfl) (fun _ _ _ h => h) (yields_links hlen (by kernel_rfl) (.tmp 9) rfl (by kernel_rfl)) hHeld ?_
  (try simp only [Act.put, List.setIfInBounds_toArray, List.set_cons_zero, List.set_cons_succ])
  refine take_slot (i := 8) (v := .pointer (some ⟨g, 0, none⟩)) 11 rfl (by kernel_rfl) (by kernel_rfl) (by kernel_rfl) (by kernel_rfl) (fun _ _ _ h => h) (.inl ⟨by kernel_rfl, fun w' hS => by (go_simp)⟩) hHeld ?_
  (try simp only [Act.put, List.setIfInBounds_toArray, List.set_cons_zero, List.set_cons_succ])
  refine take_slot (i := 9) (v := .pointer (some ⟨g, 0, none⟩)) 12 rfl (by kernel_rfl) (by kernel_rfl) (by kernel_rfl) (by kernel_rfl) (fun _ _ _ h => h) (.inl ⟨by kernel_rfl, fun w' hS => by (go_simp)⟩) hHeld ?_
  (try simp only [Act.put, List.setIfInBounds_toArray, List.set_cons_zero, List.set_cons_succ])
  refine take_slot (i := 10) (v := .pointer (some ⟨g, 65, none⟩)) 13 rfl (by kernel_rfl) (by kernel_rfl) (by kernel_rfl) (by kernel_rfl) (fun _ _ _ h => h) (.inl ⟨by kernel_rfl, fun w' hS => by (go_simp)⟩) hHeld ?_
  (try simp only [Act.put, List.setIfInBounds_toArray, List.set_cons_zero, List.set_cons_succ])
  refine take_slot (i := 11) (v := .slice ao N.rows.length cap) 14 rfl (by kernel_rfl) (by kernel_rfl) (by kernel_rfl) (by kernel_rfl) (fun _ _ _ h => h) (.inl ⟨by kernel_rfl, fun w' hS => by (have c := hS.c65 hlen; go_simp)⟩) hHeld ?_
  (try simp only [Act.put, List.setIfInBounds_toArray, List.set_cons_zero, List.set_cons_succ])
  refine wpAnyH_ready (rs := [12]) (by kernel_rfl) (by simp) (AllReadyH.cons rfl (fun K hK => ?_) AllReadyH.nil)
  clear hHeld
  rw [if_pos (by kernel_rfl)]
  go_simp
  refine (nclone (w := w.drew) HA.out).mono ?_
  rintro e w2 ⟨ao', cap', rfl, R2, L2⟩
  change Go.RowKit.Below w.heap.size w.drew w2 at L2
  have H2 : Held g N (.slice ao N.rows.length cap) w2 := (L2.block g hgl).trans hH
  have LL : Go.RowKit.Below w.heap.size w w2 := ⟨L2.os, L2.tape, L2.output, L2.size, L2.block⟩
  change w2.ownsRow w.heap.size 28 4 (.slice ao' N.rows.length cap') N.rows.length (flat encD N.rows) at R2
  refine hK.out _ _ H2 (fun hHeld => ?_)
  clear hK K
  (try simp only [Act.put, List.setIfInBounds_toArray, List.set_cons_zero, List.set_cons_succ])
  refine take_slot (i := 13) (v := .agg (N.cells (.slice ao' N.rows.length cap')).toArray) 16 rfl (by kernel_rfl) (by kernel_rfl) (by kernel_rfl) (by kernel_rfl) (fun _ _ _ h => h) (yields_built hlen (by kernel_rfl) (.tmp 6) (.tmp 10) (.tmp 15) rfl ao' N.rows.length cap' (by kernel_rfl) (by kernel_rfl) (by kernel_rfl)) hHeld ?_
  (try simp only [Act.put, List.setIfInBounds_toArray, List.set_cons_zero, List.set_cons_succ])
  refine wpAnyH_ready (rs := [14]) (by kernel_rfl) (by simp) (AllReadyH.cons rfl (fun K hK => ?_) AllReadyH.nil)
  clear hHeld
  rw [if_pos (by kernel_rfl)]
  go_simp
  have H3 : Held g N (.slice ao N.rows.length cap) (w2.alloc (.cells (N.cells (.slice ao' N.rows.length cap')).toArray 56)) := ((Grw.refl w2).alloc _).below.block g (Nat.lt_of_lt_of_le hgl LL.size) |>.trans H2
  refine hK.out _ _ H3 (fun hHeld => ?_)
  clear hK K
  (try simp only [Act.put, List.setIfInBounds_toArray, List.set_cons_zero, List.set_cons_succ])
  refine take_slot (i := 15) (v := .pointer (some ⟨w2.heap.size, 0, none⟩)) 2 rfl (by kernel_rfl) (by kernel_rfl) (by kernel_rfl) (by kernel_rfl) (fun _ _ _ h => h) (.inl ⟨by kernel_rfl, fun w' hS => by (go_simp)⟩) hHeld ?_
  (try simp only [Act.put, List.setIfInBounds_toArray, List.set_cons_zero, List.set_cons_succ])
  refine wpAnyH_done (by kernel_rfl) ?_ _
  clear hHeld
  have HN : Hid (NetAt (w2.alloc (.cells (N.cells (.slice ao' N.rows.length cap')).toArray 56)) w2.heap.size w.heap.size N ao' cap') := Lib.hid
    ⟨Own.new w2 _ _, R2.alloc _, LL.size, HK.out.len, HK.out.pr, HK.out.lk, HK.out.ok, HK.out.few⟩
  have HB := Lib.hid (LL.trans (((Grw.refl w2).alloc (.cells (N.cells (.slice ao' N.rows.length cap')).toArray 56)).below.mono LL.size))
  clear R2 H2 H3 L2 LL hH HA HK hlen hgl
  generalize w2.alloc (.cells (N.cells (.slice ao' N.rows.length cap')).toArray 56) = w3 at *
  generalize w2.heap.size = gc at *
  go_wp2
  go_ret
  exact ⟨gc, ao', cap', rfl, HN.out, HB.out⟩
end Go.Proofs.YtpbeohonohcgdaaR
