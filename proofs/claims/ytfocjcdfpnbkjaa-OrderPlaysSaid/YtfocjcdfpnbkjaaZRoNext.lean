/- The document's order: Next. (Written by gen_ronext.py.) -/
import Derived.Test.YtfocjcdfpnbkjaaZRoTrims
import Derived.Test.YtfocjcdfpnbkjaaZRhKits
import Derived.Test.YtfocjcdfpnbkjaaZBel
import Derived.Test.YtfocjcdfpnbkjaaZKeyMaths
import Derived.Shelf.SlSortCmp.QuietGrown
import Derived.BigQuiet
set_option linter.unusedVariables false
set_option maxRecDepth 100000
set_option linter.unusedSimpArgs false
namespace Go.Proofs.Ytfocjcdfpnbkjaa
open Go.RowKit Go.Sort Go.Shelf

def pickR (prev : Option (Nat × Mg)) (k : Nat) (o : Option Mg) (b : Bool) : Option (Nat × Mg) :=
  match o with
  | none => prev
  | some m => if b = true ∧ (∀ x, prev = some x → m.key.less x.2.key = true) then some (k, m) else prev
/-- The least head among the first k. -/
def bestR (r : Ro) (L : List Mg) : Nat → Option (Nat × Mg)
  | 0 => none
  | k + 1 => pickR (bestR r L k) k (findA L r.lo (k : Int) (r.dn k + 1)) (r.ms.testBit k)
def headR (o : Option (Nat × Mg)) : Mg := match o with | none => zeroG | some x => x.2
def numR (o : Option (Nat × Mg)) : Int := match o with | none => -1 | some x => (x.1 : Int)
/-- Amid Next. -/
structure NxSt (w V : World) (e0 : Nat) (r : Ro) (h : Mg) : Prop where
  below : Below e0 w V
  e : RoB V e0 r
  z : RoB V (e0 + 1) ro0
  m0 : MgB V (e0 + 2) zeroG
  hd : MgB V (e0 + 3) h
  sz : e0 + 4 ≤ V.heap.size
section
variable {w V V' : World} {e0 : Nat} {r : Ro} {h : Mg}
theorem NxSt.later (k : NxSt w V e0 r h) (hb : Below V.heap.size V V') : NxSt w V' e0 r h :=
  ⟨k.below.trans (hb.mono (by have := k.sz; omega)), k.e.below hb, k.z.below hb, MgB.later k.m0 hb, MgB.later k.hd hb, Nat.le_trans k.sz hb.size⟩
theorem NxSt.head (k : NxSt w V e0 r h) (m : Mg) : NxSt w (V.setRow (e0 + 3) (encG m).toArray) e0 r m :=
  ⟨belowRow10 k.below _ (by omega) _, k.e.kept (setRow_other _ _ _ _ (by omega)), k.z.kept (setRow_other _ _ _ _ (by omega)), (setRow_other _ _ _ _ (by omega)).trans k.m0, k.hd.row m, by rw [size_setRow]; exact k.sz⟩
theorem NxSt.rowAt (k : NxSt w V e0 r h) (mb : Nat) (hmb : e0 + 4 ≤ mb) (cs : Array Value) : NxSt w (V.setRow mb cs) e0 r h :=
  ⟨belowRow10 k.below _ (by omega) _, k.e.kept (setRow_other _ _ _ _ (by omega)), k.z.kept (setRow_other _ _ _ _ (by omega)), (setRow_other _ _ _ _ (by omega)).trans k.m0, (setRow_other _ _ _ _ (by omega)).trans k.hd, by rw [size_setRow]; exact k.sz⟩
theorem NxSt.first (w : World) (r : Ro) : NxSt w ((((w.alloc (.cells r.cs.toArray 41)).alloc (.cells ro0.cs.toArray 41)).alloc (.cells #[.int .i64 0, .int .u32 0, .int .u64 0, .int .i64 0, .slice none 0 0, .string { data := #[] }] 47)).alloc (.cells #[.int .i64 0, .int .u32 0, .int .u64 0, .int .i64 0, .slice none 0 0, .string { data := #[] }] 47)) w.heap.size r zeroG := by
  have G1 := (Grw.refl w).alloc (.cells r.cs.toArray 41)
  have G2 := G1.alloc (.cells ro0.cs.toArray 41)
  have G3 := G2.alloc (.cells #[.int .i64 0, .int .u32 0, .int .u64 0, .int .i64 0, .slice none 0 0, .string { data := #[] }] 47)
  have G4 := G3.alloc (.cells #[.int .i64 0, .int .u32 0, .int .u64 0, .int .i64 0, .slice none 0 0, .string { data := #[] }] 47)
  have hs1 : (w.alloc (.cells r.cs.toArray 41)).heap.size = w.heap.size + 1 := by simp
  have hs2 : ((w.alloc (.cells r.cs.toArray 41)).alloc (.cells ro0.cs.toArray 41)).heap.size = w.heap.size + 2 := by simp
  have hs3 : (((w.alloc (.cells r.cs.toArray 41)).alloc (.cells ro0.cs.toArray 41)).alloc (.cells #[.int .i64 0, .int .u32 0, .int .u64 0, .int .i64 0, .slice none 0 0, .string { data := #[] }] 47)).heap.size = w.heap.size + 3 := by simp
  refine ⟨G4.below, (((RoB.new w r).below ((Grw.refl _).alloc _).below).below ((Grw.refl _).alloc _).below).below ((Grw.refl _).alloc _).below, ?_, ?_, ?_, by simp⟩
  · have := ((RoB.new (w.alloc (.cells r.cs.toArray 41)) ro0).below ((Grw.refl _).alloc (.cells #[.int .i64 0, .int .u32 0, .int .u64 0, .int .i64 0, .slice none 0 0, .string { data := #[] }] 47)).below).below ((Grw.refl _).alloc (.cells #[.int .i64 0, .int .u32 0, .int .u64 0, .int .i64 0, .slice none 0 0, .string { data := #[] }] 47)).below
    rw [hs1] at this
    exact this
  · have := MgB.later (MgB.new ((w.alloc (.cells r.cs.toArray 41)).alloc (.cells ro0.cs.toArray 41)) zeroG) ((Grw.refl _).alloc (.cells #[.int .i64 0, .int .u32 0, .int .u64 0, .int .i64 0, .slice none 0 0, .string { data := #[] }] 47)).below
    rw [hs2] at this
    exact this
  · have := MgB.new (((w.alloc (.cells r.cs.toArray 41)).alloc (.cells ro0.cs.toArray 41)).alloc (.cells #[.int .i64 0, .int .u32 0, .int .u64 0, .int .i64 0, .slice none 0 0, .string { data := #[] }] 47)) zeroG
    rw [hs3] at this
    exact this
end
/-- The document's order, loaded whole in a region that draws. -/
theorem quiet_load_ro {ops : Array Oper} {C : World → Prop} {Q : Act → Prop} {o : Oper} {rest : List Oper} {a : Act} (hw : Region.wanted o (yielded ops a.tmps) = true) (x : Operand) (ho : o.op = .load 41 x)
    (g : Nat) (r : Ro) (hx : a.eval x = .pointer (some ⟨g, 0, none⟩)) (hC : ∀ w, C w → RoB w g r)
    (h : wpQuiet Try.prog ops C Q rest (a.put o.dst (.agg r.cs.toArray))) : wpQuiet Try.prog ops C Q (o :: rest) a :=
  wpQuiet_step fun K hK => by
  rw [if_pos hw]
  exact ⟨_, fun w hw' => by
    unfold Oper.quietAt execOp
    simp only [ho, hx, Instr.loadAt, Instr.sureAddr, Sem.run_bind, Sem.run_pure, Result.andThen_ok, run_ro (hC w hw')]
    exact ⟨rfl, rfl⟩, hK _ h⟩
theorem RoB.grownQ {w : World} {b : Nat} {r : Ro} (h : RoB w b r) : ∀ w', (∃ p : GrownBy, w' = grow (w.drewN p.n) p.os) → RoB w' b r := fun w' ⟨p, hp⟩ => by
  rw [hp]; exact h.below (Grw.below ⟨p.n, p.os, rfl⟩)
/-- The document's hold within its order, in a held region. -/
theorem yields_hold {ops : Array Oper} {S : World → Prop} {op : Oper} {a : Act} (hw : Region.wanted op (yielded ops a.tmps) = true) (x : Operand) (ho : op.op = .load 33 x)
    (g : Nat) (r : Ro) (hx : a.eval x = .pointer (some ⟨g, 2, none⟩)) (hS : ∀ w, S w → RoB w g r) : YieldsIf Try.prog ops S op (.agg (rhC r.hs r.lo).toArray) a :=
  yieldsIf_load_mid hw 33 x ho g 2 hx (rhC r.hs r.lo) _ (fun w' hS' => (hS w' hS').hold) Try.underlying33 rfl (by rw [rhC_length]; exact rh_size)
theorem bestR_lt (r : Ro) (L : List Mg) : ∀ k p m, bestR r L k = some (p, m) → p < k
  | 0, p, m, h => by cases h
  | k + 1, p, m, h => by
    have ih := bestR_lt r L k
    change pickR (bestR r L k) k (findA L r.lo (k : Int) (r.dn k + 1)) (r.ms.testBit k) = some (p, m) at h
    unfold pickR at h
    split at h
    · have := ih p m h; omega
    · split at h
      · cases h; exact Nat.lt_succ_self _
      · have := ih p m h; omega
/-- May a head be delivered? -/
def ripeR (r : Ro) (T : List Td) (m : Mg) : Prop := ¬ (allD r.oth r.clk T : Int) < m.s ∧ ¬ (m.v = 2 ∧ (safeD r.oth r.clk T : Int) < m.s)
def tookR (r : Ro) (p : Nat) (m : Mg) : Ro := { r with dn := updF r.dn p (r.dn p + 1), last := m.key }
/-- What the document's Next answers. -/
inductive RNext (w : World) (r : Ro) (L : List Mg) (T : List Td) : Ending → World → Prop
  | no (w' : World) (h : ∀ p m, bestR r L allZ = some (p, m) → ¬ ripeR r T m) (hb : Below w.heap.size w w') : RNext w r L T (.returned (.tuple #[.agg r.cs.toArray, valG zeroG, .bool false])) w'
  | yes (p : Nat) (m : Mg) (w' : World) (h : bestR r L allZ = some (p, m)) (hr : ripeR r T m) (hb : Below w.heap.size w w') : RNext w r L T (.returned (.tuple #[.agg (tookR r p m).cs.toArray, valG m, .bool true])) w'
theorem Ro.cs_setDn (r : Ro) (p n : Nat) (hp : p < 64) : r.cs.set (133 + p) (.int .u32 (n : Int)) = ({ r with dn := updF r.dn p n } : Ro).cs := by
  unfold Ro.cs
  rw [List.set_append_right _ _ (by simp; omega), List.set_append_right _ _ (by rw [rhC_length]; simp; omega), List.set_append_right _ _ (by rw [rhC_length, rzC_length]; simp; omega), rhC_length, rzC_length]
  rw [show 133 + p - [Value.int .i64 r.me, .int .u64 (r.ms : Int)].length - 65 - 66 = p by simp; omega]
  unfold endK
  rw [List.set_append_left _ _ (by rw [rowF_length]; exact hp)]
  have h2 := rowF_set vU r.dn p n hp
  rw [← h2]; rfl
theorem Ro.set_end (r : Ro) (E : List Value) (i : Nat) (v : Value) (hi : 133 ≤ i) : ([Value.int .i64 r.me, .int .u64 (r.ms : Int)] ++ (rhC r.hs r.lo ++ (rzC r.clk r.oth r.zs ++ E))).set i v = [Value.int .i64 r.me, .int .u64 (r.ms : Int)] ++ (rhC r.hs r.lo ++ (rzC r.clk r.oth r.zs ++ E.set (i - 133) v)) := by
  rw [List.set_append_right _ _ (by simp; omega), List.set_append_right _ _ (by rw [rhC_length]; simp; omega), List.set_append_right _ _ (by rw [rhC_length, rzC_length]; simp; omega), rhC_length, rzC_length]
  rw [show i - [Value.int .i64 r.me, Value.int .u64 (r.ms : Int)].length - 65 - 66 = i - 133 by simp; omega]
theorem Ro.cs_setLast (r : Ro) (k : K) : (r.cs.set 197 (.int .u64 k.n)).set 198 (.int .i64 k.p) = ({ r with last := k } : Ro).cs := by
  unfold Ro.cs
  rw [Ro.set_end _ _ 197 _ (by decide), Ro.set_end _ _ 198 _ (by decide)]
  unfold endK
  rw [List.set_append_right _ _ (by rw [rowF_length]; decide), rowF_length, List.set_append_right _ _ (by rw [rowF_length]; decide), rowF_length]
  rfl
section
variable {w V : World} {e0 : Nat} {r : Ro} {h : Mg}
theorem NxSt.setDn (k : NxSt w V e0 r h) (p n : Nat) (hp : p < 64) : NxSt w (V.setCell ⟨e0, 133 + p, none⟩ (.int .u32 (n : Int))) e0 { r with dn := updF r.dn p n } h := by
  have h1 := k.e.own.set (133 + p) (.int .u32 (n : Int))
  rw [List.setIfInBounds_toArray, r.cs_setDn p n hp] at h1
  exact ⟨k.below.setCell (Nat.le_refl _) _, h1, Own.set_other k.z _ _ _ (by omega), Own.set_other k.m0 _ _ _ (by omega), Own.set_other k.hd _ _ _ (by omega), by
    have := (grown_set13 V e0 (133 + p) (.int .u32 (n : Int))).size
    have := k.sz
    omega⟩
theorem NxSt.setLast (k : NxSt w V e0 r h) (y : K) : NxSt w ((V.setCell ⟨e0, 197, none⟩ (.int .u64 y.n)).setCell ⟨e0, 198, none⟩ (.int .i64 y.p)) e0 { r with last := y } h := by
  have h1 := (k.e.own.set 197 (.int .u64 y.n)).set 198 (.int .i64 y.p)
  rw [List.setIfInBounds_toArray, List.setIfInBounds_toArray, r.cs_setLast y] at h1
  exact ⟨(k.below.setCell (Nat.le_refl _) _).setCell (Nat.le_refl _) _, h1, Own.set_other (Own.set_other k.z _ _ _ (by omega)) _ _ _ (by omega), Own.set_other (Own.set_other k.m0 _ _ _ (by omega)) _ _ _ (by omega), Own.set_other (Own.set_other k.hd _ _ _ (by omega)) _ _ _ (by omega), by
    have := (grown_set13 V e0 197 (.int .u64 y.n)).size
    have := (grown_set13 (V.setCell ⟨e0, 197, none⟩ (.int .u64 y.n)) e0 198 (.int .i64 y.p)).size
    have := k.sz
    omega⟩
/-- Both results are laid down. -/
theorem NxSt.done (k : NxSt w V e0 r h) (r' : Ro) (m : Mg) : RoB ((V.setRow (e0 + 1) r'.cs.toArray).setRow (e0 + 2) (encG m).toArray) (e0 + 1) r' ∧ MgB ((V.setRow (e0 + 1) r'.cs.toArray).setRow (e0 + 2) (encG m).toArray) (e0 + 2) m ∧ Below e0 w ((V.setRow (e0 + 1) r'.cs.toArray).setRow (e0 + 2) (encG m).toArray) :=
  ⟨(k.z.row r').kept (setRow_other _ _ _ _ (by omega)), MgB.row (show MgB (V.setRow (e0 + 1) r'.cs.toArray) (e0 + 2) zeroG from (setRow_other _ _ _ _ (by omega)).trans k.m0) m, belowRow10 (belowRow10 k.below _ (by omega) _) _ (by omega) _⟩
theorem NxSt.m1 (k : NxSt w V e0 r h) (cs : Array Value) : MgB (V.setRow (e0 + 1) cs) (e0 + 2) zeroG := (setRow_other _ _ _ _ (by omega)).trans k.m0
end
/-- The document's horizon within its order, in a quiet region. -/
theorem quiet_load_hz {ops : Array Oper} {C : World → Prop} {Q : Act → Prop} {o : Oper} {rest : List Oper} {a : Act} (hw : Region.wanted o (yielded ops a.tmps) = true) (x : Operand) (ho : o.op = .load 37 x)
    (g : Nat) (r : Ro) (hx : a.eval x = .pointer (some ⟨g, 67, none⟩)) (hC : ∀ w, C w → RoB w g r)
    (h : wpQuiet Try.prog ops C Q rest (a.put o.dst (.agg (rzC r.clk r.oth r.zs).toArray))) : wpQuiet Try.prog ops C Q (o :: rest) a :=
  wpQuiet_step fun K hK => by
  rw [if_pos hw]
  exact ⟨_, fun w hw' => by
    unfold Oper.quietAt execOp
    simp only [ho, hx, Instr.loadAt, Instr.sureAddr, Sem.run_bind, Sem.run_pure, Result.andThen_ok, run_loadVar_mid w g 67 37 (rzC r.clk r.oth r.zs) _ (hC w hw').hz Try.underlying37 rfl (by rw [rzC_length]; exact rz_size)]
    exact ⟨rfl, rfl⟩, hK _ h⟩
theorem RoB.formB {w : World} {b : Nat} {r : Ro} (h : RoB w b r) : ∀ w', (∃ p : BelBy, w' = grow (atD w p.n) p.os) → RoB w' b r := fun w' ⟨p, hp⟩ => by
  rw [hp]; exact h.below (below_of_form w p.n p.os)
theorem yields_ro {ops : Array Oper} {S : World → Prop} {op : Oper} {a : Act} (hw : Region.wanted op (yielded ops a.tmps) = true) (x : Operand) (ho : op.op = .load 41 x)
    (g : Nat) (r : Ro) (hx : a.eval x = .pointer (some ⟨g, 0, none⟩)) (hS : ∀ w, S w → RoB w g r) : YieldsIf Try.prog ops S op (.agg r.cs.toArray) a :=
  yieldsIf_load_mid hw 41 x ho g 0 hx r.cs _ (fun w' hS' j v hj => by rw [Nat.zero_add]; exact (hS w' hS').own.at_ j v (by rw [List.getElem?_toArray]; exact hj)) Try.underlying41 rfl (by rw [Ro.cs_length]; exact ro_size)
theorem yields_mgR {ops : Array Oper} {S : World → Prop} {op : Oper} {a : Act} (hw : Region.wanted op (yielded ops a.tmps) = true) (x : Operand) (ho : op.op = .load 47 x)
    (g : Nat) (hx : a.eval x = .pointer (some ⟨g, 0, none⟩)) {m : Mg} (hS : ∀ w, S w → MgB w g m) : YieldsIf Try.prog ops S op (valG m) a :=
  yieldsIf_load_mid hw 47 x ho g 0 hx (encG m) _ (fun w' hS' j v hj => by rw [Nat.zero_add]; exact Own.at_ (hS w' hS') j v (by rw [List.getElem?_toArray]; exact hj)) Try.underlying47 rfl msg_size
theorem rget_both {w : World} {o : Option Mg} {e : Ending} {w' : World} (h : RGet w o e w') : ∃ ok x, e = .returned (.tuple #[valG x, .bool ok]) ∧ ((o = none ∧ ok = false) ∨ (o = some x ∧ ok = true)) ∧ Below w.heap.size w w' := by
  cases h with
  | no w' hb => exact ⟨false, zeroG, rfl, .inl ⟨rfl, rfl⟩, hb⟩
  | yes m w' hb => exact ⟨true, m, rfl, .inr ⟨rfl, rfl⟩, hb⟩
set_option maxHeartbeats 8000000 in
theorem ro_next (r : Ro) (L : List Mg) (T : List Td) (w : World) (hV : RoV w r L T) (hm : r.ms < 18446744073709551616) (hd : ∀ k, k < 64 → r.dn k ≤ 1000) (hf : ∀ m ∈ L, 0 ≤ m.f ∧ m.f < 64) (hto : ∀ t ∈ T, t.ok) (hup : ∀ p : Nat, p < 64 → UpD T (p : Int)) :
    Calls Try.prog 68 #[.agg r.cs.toArray] w (RNext w r L T) := by
  have mixed : Try.prog.follows .mixedOrders = true := by kernel_rfl
  have FST2 := Lib.hid (NxSt.first w r)
  have HV := Lib.hid hV
  have HF := Lib.hid hf
  have HTO := Lib.hid hto
  have HUP := Lib.hid hup
  have HDN := Lib.hid hd
  have hz := ro_zero
  clear hV hf hto hup
  go_enter Try.func68, Try.ntmps68
  go_upto_region 3 with fail
  generalize ((((w.alloc (.cells r.cs.toArray 41)).alloc (.cells ro0.cs.toArray 41)).alloc (.cells #[.int .i64 0, .int .u32 0, .int .u64 0, .int .i64 0, .slice none 0 0, .string { data := #[] }] 47)).alloc (.cells #[.int .i64 0, .int .u32 0, .int .u64 0, .int .i64 0, .slice none 0 0, .string { data := #[] }] 47)) = W at *
  generalize he0 : w.heap.size = e0 at *
  have HE0 := Lib.hid he0
  clear he0
  have H0 : Hid (NxSt w W e0 r (headR (bestR r L 0))) := FST2
  clear FST2
  go_wp2_with fail
  go_loopw [5, 7] (fun sb sp wr => ∃ k : Nat, k ≤ 64 ∧ sp = .int .i64 k ∧ sb = .int .i64 (numR (bestR r L k)) ∧ Hid (NxSt w wr e0 r (headR (bestR r L k)))) (fun _ sp _ => 64 - (intOf sp).toNat)
  case atStart => exact ⟨0, Nat.zero_le _, rfl, rfl, H0⟩
  case round =>
    clear H0
    obtain ⟨k, hk, rfl, rfl, HS⟩ := hrel
    by_cases hlt : k < 64
    · have hk' : (k : Int) < 64 := by omega
      have hdk := hd k hlt
      obtain ⟨bo, hbo⟩ : ∃ bo, bo = bestR r L k := ⟨_, rfl⟩
      rw [← hbo] at HS
      rw [← hbo]
      have HBO := Lib.hid hbo
      clear hbo
      obtain ⟨d, hd0⟩ : ∃ d, d = r.dn k := ⟨_, rfl⟩
      rw [← hd0] at hdk
      have HD := Lib.hid hd0
      clear hd0
      obtain ⟨bn, hbn⟩ : ∃ bn, bn = numR bo := ⟨_, rfl⟩
      rw [← hbn]
      have HBN := Lib.hid hbn
      clear hbn
      have hw : IntKind.u32.wrap ((d : Int) + 1) = ((d + 1 : Nat) : Int) := by rw [IntKind.wrap_u32']; omega
      go_upto_region 6 with fail
      go_cut [8, 9] from 8 to 25 (fun s8 s9 wx => ∃ (mb : Nat) (x : Mg) (ok : Bool), s8 = .pointer (some ⟨mb, 0, none⟩) ∧ s9 = .bool ok ∧ NxSt w wx e0 r (headR bo) ∧ MgB wx mb x ∧ e0 + 4 ≤ mb ∧ ((findA L r.lo (k : Int) (d + 1) = none ∧ ok = false) ∨ (findA L r.lo (k : Int) (d + 1) = some x ∧ ok = true)))
      case first =>
        have S6 := Lib.hid (HS.out.later (Grw.refl wr).drew.below)
        clear HS
        refine wp_region_held_drew (S := fun w' => RoB w' e0 r) (by kernel_rfl) S6.out.e (fun hHeld => ?_)
        generalize wr.drew = w6 at *
        refine stake (i := 0) (v := (.pointer (some ⟨e0, 2, none⟩))) 15 rfl (by kernel_rfl) (by kernel_rfl) (by kernel_rfl) (by kernel_rfl) (fun _ _ _ h => h) (.inl ⟨by kernel_rfl, fun w' hS => by (go_simp)⟩) hHeld ?_
        (try simp only [Act.put, List.setIfInBounds_toArray, List.set_cons_zero, List.set_cons_succ])
        refine stake (i := 1) (v := (.agg (rhC r.hs r.lo).toArray)) 16 rfl (by kernel_rfl) (by kernel_rfl) (by kernel_rfl) (by kernel_rfl) (fun _ _ _ h => h) (yields_hold (by kernel_rfl) (.tmp 15) rfl e0 r (by kernel_rfl) (fun w hS => hS)) hHeld ?_
        (try simp only [Act.put, List.setIfInBounds_toArray, List.set_cons_zero, List.set_cons_succ])
        refine stake (i := 2) (v := (.int .i64 (k : Int))) 17 rfl (by kernel_rfl) (by kernel_rfl) (by kernel_rfl) (by kernel_rfl) (fun _ _ _ h => h) (.inl ⟨by kernel_rfl, fun w' hS => by (go_simp)⟩) hHeld ?_
        (try simp only [Act.put, List.setIfInBounds_toArray, List.set_cons_zero, List.set_cons_succ])
        refine stake (i := 3) (v := (.int .i64 (k : Int))) 18 rfl (by kernel_rfl) (by kernel_rfl) (by kernel_rfl) (by kernel_rfl) (fun _ _ _ h => h) (.inl ⟨by kernel_rfl, fun w' hS => by (go_simp)⟩) hHeld ?_
        (try simp only [Act.put, List.setIfInBounds_toArray, List.set_cons_zero, List.set_cons_succ])
        refine stake (i := 4) (v := (.pointer (some ⟨e0, 133, none⟩))) 19 rfl (by kernel_rfl) (by kernel_rfl) (by kernel_rfl) (by kernel_rfl) (fun _ _ _ h => h) (.inl ⟨by kernel_rfl, fun w' hS => by (go_simp)⟩) hHeld ?_
        (try simp only [Act.put, List.setIfInBounds_toArray, List.set_cons_zero, List.set_cons_succ])
        refine stake (i := 5) (v := (.pointer (some ⟨e0, 133 + k, none⟩))) 20 rfl (by kernel_rfl) (by kernel_rfl) (by kernel_rfl) (by kernel_rfl) (fun _ _ _ h => h) (.inl ⟨by kernel_rfl, fun w' hS => by (go_simp)⟩) hHeld ?_
        (try simp only [Act.put, List.setIfInBounds_toArray, List.set_cons_zero, List.set_cons_succ])
        refine stake (i := 6) (v := (.int .u32 (d : Int))) 21 rfl (by kernel_rfl) (by kernel_rfl) (by kernel_rfl) (by kernel_rfl) (fun _ _ _ h => h) (.inl ⟨by kernel_rfl, fun w' hS => by (have hc := RoB.dn hS k hlt; rw [← HD.out] at hc; go_simp)⟩) hHeld ?_
        (try simp only [Act.put, List.setIfInBounds_toArray, List.set_cons_zero, List.set_cons_succ])
        refine stake (i := 7) (v := (.int .u32 ((d + 1 : Nat) : Int))) 22 rfl (by kernel_rfl) (by kernel_rfl) (by kernel_rfl) (by kernel_rfl) (fun _ _ _ h => h) (.inl ⟨by kernel_rfl, fun w' hS => by (go_simp)⟩) hHeld ?_
        (try simp only [Act.put, List.setIfInBounds_toArray, List.set_cons_zero, List.set_cons_succ])
        refine wpAnyH_ready (rs := [8, 12]) (by kernel_rfl) (by simp) (AllReadyH.cons rfl (fun K hK => ?_) (AllReadyH.cons rfl (fun K hK => ?_) AllReadyH.nil))
        · have PG := rh_get r.hs r.lo L (k : Int) (d + 1) (by omega) w6 (Lst.below HV.out.hold.lst (by rw [HE0.out]; exact S6.out.below)) HV.out.few HF.out
          clear hHeld
          rw [if_pos (by kernel_rfl)]
          go_simp
          refine PG.mono ?_
          rintro e w7 hs
          obtain ⟨ok, x, rfl, hx, hB⟩ := rget_both hs
          have S7 := Lib.hid (S6.out.later hB)
          have HX := Lib.hid hx
          obtain ⟨f, q, s, v, xa, dl, dc, deps, text⟩ := x
          unfold valG
          simp only [encG]
          refine hK.out _ _ S7.out.e (fun hHeld => ?_)
          clear hK K
          (try simp only [Act.put, List.setIfInBounds_toArray, List.set_cons_zero, List.set_cons_succ])
          clear PG hs hx hB S6
          refine stake (i := 9) (v := (.tuple #[.agg #[.int .i64 f, .int .u32 q, .int .u64 s, .int .i64 v, .slice xa dl dc, .string text], .bool ok])) 14 rfl (by kernel_rfl) (by kernel_rfl) (by kernel_rfl) (by kernel_rfl) (fun _ _ _ h => h) (.inl ⟨by kernel_rfl, fun w' hS => by (go_simp)⟩) hHeld ?_
          (try simp only [Act.put, List.setIfInBounds_toArray, List.set_cons_zero, List.set_cons_succ])
          refine stake (i := 10) (v := (.agg #[.int .i64 f, .int .u32 q, .int .u64 s, .int .i64 v, .slice xa dl dc, .string text])) 24 rfl (by kernel_rfl) (by kernel_rfl) (by kernel_rfl) (by kernel_rfl) (fun _ _ _ h => h) (.inl ⟨by kernel_rfl, fun w' hS => by (go_simp)⟩) hHeld ?_
          (try simp only [Act.put, List.setIfInBounds_toArray, List.set_cons_zero, List.set_cons_succ])
          refine stake (i := 11) (v := (.bool ok)) 25 rfl (by kernel_rfl) (by kernel_rfl) (by kernel_rfl) (by kernel_rfl) (fun _ _ _ h => h) (.inl ⟨by kernel_rfl, fun w' hS => by (go_simp)⟩) hHeld ?_
          (try simp only [Act.put, List.setIfInBounds_toArray, List.set_cons_zero, List.set_cons_succ])
          refine wpAnyH_ready (rs := [12]) (by kernel_rfl) (by simp) (AllReadyH.cons rfl (fun K hK => ?_) AllReadyH.nil)
          clear hHeld
          rw [if_pos (by kernel_rfl)]
          go_simp
          have HMB : Hid (e0 + 4 ≤ w7.heap.size) := Lib.hid S7.out.sz
          have S8 := Lib.hid (S7.out.later ((Grw.refl w7).alloc (.cells #[.int .i64 0, .int .u32 0, .int .u64 0, .int .i64 0, .slice none 0 0, .string { data := #[] }] 47)).below)
          have M8 := Lib.hid (MgB.new w7 zeroG)
          refine hK.out _ _ S8.out.e (fun hHeld => ?_)
          clear hK K
          (try simp only [Act.put, List.setIfInBounds_toArray, List.set_cons_zero, List.set_cons_succ])
          refine wpAnyH_ready (rs := [13]) (by kernel_rfl) (by simp) (AllReadyH.cons rfl (fun K hK => ?_) AllReadyH.nil)
          clear hHeld
          rw [if_pos (by kernel_rfl)]
          refine wp_store_row 47 (.tmp 8) (.tmp 24) rfl w7.heap.size (encG ⟨f, q, s, v, xa, dl, dc, deps, text⟩).toArray rfl rfl 47 _ M8.out.own msg_size rfl (mg_one _) ?_
          have S9 := Lib.hid (S8.out.rowAt w7.heap.size HMB.out (encG ⟨f, q, s, v, xa, dl, dc, deps, text⟩).toArray)
          have M9 := Lib.hid (M8.out.row ⟨f, q, s, v, xa, dl, dc, deps, text⟩)
          refine hK.out _ _ S9.out.e (fun hHeld => ?_)
          clear hK K
          (try simp only [Act.put, List.setIfInBounds_toArray, List.set_cons_zero, List.set_cons_succ])
          refine stake (i := 14) (v := (.bool ok)) 9 rfl (by kernel_rfl) (by kernel_rfl) (by kernel_rfl) (by kernel_rfl) (fun _ _ _ h => h) (.inl ⟨by kernel_rfl, fun w' hS => by (go_simp)⟩) hHeld ?_
          (try simp only [Act.put, List.setIfInBounds_toArray, List.set_cons_zero, List.set_cons_succ])
          refine wpAnyH_done (by kernel_rfl) ?_ _
          clear hHeld
          go_wp2_with fail
          go_meet
          exact ⟨w7.heap.size, ⟨f, q, s, v, xa, dl, dc, deps, text⟩, ok, rfl, rfl, S9.out, M9.out, HMB.out, HX.out⟩
        · clear hHeld
          rw [if_pos (by kernel_rfl)]
          go_simp
          have HMB : Hid (e0 + 4 ≤ w6.heap.size) := Lib.hid S6.out.sz
          replace S6 := Lib.hid (S6.out.later ((Grw.refl w6).alloc (.cells #[.int .i64 0, .int .u32 0, .int .u64 0, .int .i64 0, .slice none 0 0, .string { data := #[] }] 47)).below)
          have M6 := Lib.hid (MgB.new w6 zeroG)
          refine hK.out _ _ S6.out.e (fun hHeld => ?_)
          clear hK K
          obtain ⟨mb, hmb⟩ : ∃ mb, mb = w6.heap.size := ⟨_, rfl⟩
          have M6' : Hid (MgB (w6.alloc (.cells #[.int .i64 0, .int .u32 0, .int .u64 0, .int .i64 0, .slice none 0 0, .string { data := #[] }] 47)) mb zeroG) := Lib.hid (by rw [hmb]; exact M6.out)
          rw [← hmb] at HMB
          try rw [← hmb]
          generalize w6.alloc (.cells #[.int .i64 0, .int .u32 0, .int .u64 0, .int .i64 0, .slice none 0 0, .string { data := #[] }] 47) = w66 at *
          clear M6 hmb
          (try simp only [Act.put, List.setIfInBounds_toArray, List.set_cons_zero, List.set_cons_succ])
          refine wpAnyH_ready (rs := [8]) (by kernel_rfl) (by simp) (AllReadyH.cons rfl (fun K hK => ?_) AllReadyH.nil)
          have PG := rh_get r.hs r.lo L (k : Int) (d + 1) (by omega) w66 (Lst.below HV.out.hold.lst (by rw [HE0.out]; exact S6.out.below)) HV.out.few HF.out
          clear hHeld
          rw [if_pos (by kernel_rfl)]
          go_simp
          refine PG.mono ?_
          rintro e w7 hs
          obtain ⟨ok, x, rfl, hx, hB⟩ := rget_both hs
          have S7 := Lib.hid (S6.out.later hB)
          have HX := Lib.hid hx
          obtain ⟨f, q, s, v, xa, dl, dc, deps, text⟩ := x
          unfold valG
          simp only [encG]
          refine hK.out _ _ S7.out.e (fun hHeld => ?_)
          clear hK K
          (try simp only [Act.put, List.setIfInBounds_toArray, List.set_cons_zero, List.set_cons_succ])
          have M7 := Lib.hid (MgB.later M6'.out hB)
          clear PG hs hx hB S6 M6'
          refine stake (i := 9) (v := (.tuple #[.agg #[.int .i64 f, .int .u32 q, .int .u64 s, .int .i64 v, .slice xa dl dc, .string text], .bool ok])) 14 rfl (by kernel_rfl) (by kernel_rfl) (by kernel_rfl) (by kernel_rfl) (fun _ _ _ h => h) (.inl ⟨by kernel_rfl, fun w' hS => by (go_simp)⟩) hHeld ?_
          (try simp only [Act.put, List.setIfInBounds_toArray, List.set_cons_zero, List.set_cons_succ])
          refine stake (i := 10) (v := (.agg #[.int .i64 f, .int .u32 q, .int .u64 s, .int .i64 v, .slice xa dl dc, .string text])) 24 rfl (by kernel_rfl) (by kernel_rfl) (by kernel_rfl) (by kernel_rfl) (fun _ _ _ h => h) (.inl ⟨by kernel_rfl, fun w' hS => by (go_simp)⟩) hHeld ?_
          (try simp only [Act.put, List.setIfInBounds_toArray, List.set_cons_zero, List.set_cons_succ])
          refine stake (i := 11) (v := (.bool ok)) 25 rfl (by kernel_rfl) (by kernel_rfl) (by kernel_rfl) (by kernel_rfl) (fun _ _ _ h => h) (.inl ⟨by kernel_rfl, fun w' hS => by (go_simp)⟩) hHeld ?_
          (try simp only [Act.put, List.setIfInBounds_toArray, List.set_cons_zero, List.set_cons_succ])
          refine wpAnyH_ready (rs := [13]) (by kernel_rfl) (by simp) (AllReadyH.cons rfl (fun K hK => ?_) AllReadyH.nil)
          clear hHeld
          rw [if_pos (by kernel_rfl)]
          refine wp_store_row 47 (.tmp 8) (.tmp 24) rfl mb (encG ⟨f, q, s, v, xa, dl, dc, deps, text⟩).toArray rfl rfl 47 _ M7.out.own msg_size rfl (mg_one _) ?_
          have S9 := Lib.hid (S7.out.rowAt mb HMB.out (encG ⟨f, q, s, v, xa, dl, dc, deps, text⟩).toArray)
          have M9 := Lib.hid (M7.out.row ⟨f, q, s, v, xa, dl, dc, deps, text⟩)
          refine hK.out _ _ S9.out.e (fun hHeld => ?_)
          clear hK K
          (try simp only [Act.put, List.setIfInBounds_toArray, List.set_cons_zero, List.set_cons_succ])
          refine stake (i := 14) (v := (.bool ok)) 9 rfl (by kernel_rfl) (by kernel_rfl) (by kernel_rfl) (by kernel_rfl) (fun _ _ _ h => h) (.inl ⟨by kernel_rfl, fun w' hS => by (go_simp)⟩) hHeld ?_
          (try simp only [Act.put, List.setIfInBounds_toArray, List.set_cons_zero, List.set_cons_succ])
          refine wpAnyH_done (by kernel_rfl) ?_ _
          clear hHeld
          go_wp2_with fail
          go_meet
          exact ⟨mb, ⟨f, q, s, v, xa, dl, dc, deps, text⟩, ok, rfl, rfl, S9.out, M9.out, HMB.out, HX.out⟩
      case rest =>
        obtain ⟨mb, x, ok, rfl, rfl, hS7, hM7, hmb, hx⟩ := hcut
        have HS7 := Lib.hid hS7
        have HM7 := Lib.hid hM7
        have HMB := Lib.hid hmb
        clear hS7 hM7 hmb hw HS
        cases ok with
        | false =>
          have hfn : findA L r.lo (k : Int) (d + 1) = none := by
            rcases hx with h | h
            · exact h.1
            · exact absurd h.2 (by decide)
          have HFN := Lib.hid hfn
          clear hx hfn
          go_upto_region 7 with fail
          go_quiet (fail)
          have HN := Lib.hid (HS7.out.later ((Grw.refl wc).drewN nq).below)
          have HNX : Hid (bestR r L (k + 1) = bo) := Lib.hid (by
            show pickR (bestR r L k) k (findA L r.lo (k : Int) (r.dn k + 1)) (r.ms.testBit k) = bo
            rw [← HBO.out, ← HD.out]
            rw [HFN.out]; rfl)
          clear HS7 HM7
          go_wp2_with fail
          go_roundw
          case rel => exact ⟨k + 1, by omega, by go_num, by rw [HNX.out, HBN.out], by rw [HNX.out]; exact HN⟩
          case measure => simp [intOf]; omega
        | true =>
          have hfn : findA L r.lo (k : Int) (d + 1) = some x := by
            rcases hx with h | h
            · exact absurd h.2 (by decide)
            · exact h.1
          have HFN := Lib.hid hfn
          clear hx hfn
          have RG := Lib.hid HS7.out.e.grownQ
          have hmem0 := fun W => ro_member r (k : Int) W hm
          rw [mem_nat _ _ hlt] at hmem0
          obtain ⟨f, q, s, v, xa, dl, dc, deps, text⟩ := x
          cases hbit : r.ms.testBit k with
          | false =>
            have hmem := hmem0
            rw [hbit] at hmem
            clear hmem0
            go_upto_region 7 with fail
            refine wp_region_quiet_grown (by assumption) (by kernel_rfl) ?_
            repeat (first | go_big_quiet_skip | (refine quiet_load_ro (by rfl) (.tmp 1) rfl e0 r rfl RG.out ?_) | quiet_step ((go_at_call 108; exact Calls.grown_of (hmem _))))
            refine wpQuiet_nil ?_
            intro _ hw'
            obtain ⟨⟨nq, osq⟩, hw''⟩ := hw'
            subst hw''
            have HN := Lib.hid (HS7.out.later (Grw.below (w := wc) ⟨nq, osq, rfl⟩))
            have HNX : Hid (bestR r L (k + 1) = bo) := Lib.hid (by
              show pickR (bestR r L k) k (findA L r.lo (k : Int) (r.dn k + 1)) (r.ms.testBit k) = bo
              rw [← HBO.out, ← HD.out]
              rw [HFN.out, hbit]; unfold pickR; exact if_neg (fun e => Bool.noConfusion e.1))
            clear HS7 HM7 hmem RG
            go_wp2_with fail
            go_roundw
            case rel => exact ⟨k + 1, by omega, by go_num, by rw [HNX.out, HBN.out], by rw [HNX.out]; exact HN⟩
            case measure => simp [intOf]; omega
          | true =>
            have hmem := hmem0
            rw [hbit] at hmem
            clear hmem0
            have hml := HM7.out.lt
            have y0 := fun n os => cell_grown (a := ⟨mb, 0, none⟩) (n := n) (os := os) hml (HM7.out.own.at_ 0 _ rfl)
            have y1 := fun n os => cell_grown (a := ⟨mb, 1, none⟩) (n := n) (os := os) hml (HM7.out.own.at_ 1 _ rfl)
            have y2 := fun n os => cell_grown (a := ⟨mb, 2, none⟩) (n := n) (os := os) hml (HM7.out.own.at_ 2 _ rfl)
            have y3 := fun n os => cell_grown (a := ⟨mb, 3, none⟩) (n := n) (os := os) hml (HM7.out.own.at_ 3 _ rfl)
            have y4 := fun n os => cell_grown (a := ⟨mb, 4, none⟩) (n := n) (os := os) hml (HM7.out.own.at_ 4 _ rfl)
            have y5 := fun n os => cell_grown (a := ⟨mb, 5, none⟩) (n := n) (os := os) hml (HM7.out.own.at_ 5 _ rfl)
            have ho : ∀ (f q s v : Int) (a : Option Addr) (dl dc : Nat) (text : ByteArray) W, Calls Try.prog 79 #[.agg #[.int .i64 f, .int .u32 q, .int .u64 s, .int .i64 v, .slice a dl dc, .string text]] W fun e w' => e = .returned (.agg #[.int .u64 s, .int .i64 f]) ∧ Grw W w' :=
              fun f q s v a dl dc text W => refOf12_any ⟨f, q, s, v, a, dl, dc, [], text⟩ W
            cases bo with
            | none =>
              have hbn : bn = -1 := HBN.out
              subst hbn
              go_upto_region 7 with fail
              refine wp_region_quiet_grown (by assumption) (by kernel_rfl) ?_
              repeat (first | go_big_quiet_skip | (refine quiet_load_ro (by rfl) (.tmp 1) rfl e0 r rfl RG.out ?_) | quiet_step ((go_at_call 108; exact Calls.grown_of (hmem _))))
              refine wpQuiet_nil ?_
              intro _ hw'
              obtain ⟨⟨nq, osq⟩, hw''⟩ := hw'
              subst hw''
              have HN := Lib.hid (HS7.out.later (Grw.below (w := wc) ⟨nq, osq, rfl⟩))
              have HNX : Hid (bestR r L (k + 1) = some (k, ⟨f, q, s, v, xa, dl, dc, deps, text⟩)) := Lib.hid (by
                show pickR (bestR r L k) k (findA L r.lo (k : Int) (r.dn k + 1)) (r.ms.testBit k) = _
                rw [← HBO.out, ← HD.out]
                rw [HFN.out, hbit]; unfold pickR; exact if_pos ⟨rfl, fun x hx => by cases hx⟩)
              have M9 := Lib.hid (MgB.later HM7.out (Grw.below (w := wc) ⟨nq, osq, rfl⟩))
              have N9 := Lib.hid (HN.out.head ⟨f, q, s, v, xa, dl, dc, deps, text⟩)
              clear HS7 HM7 hmem RG ho y0 y1 y2 y3 y4 y5 hml
              generalize grow (wc.drewN nq) osq = w9 at *
              go_wp2_with (first | (refine load_mg rfl (.tmp 8) rfl mb rfl M9.out ?_) | (refine store_mg rfl (.tmp 6) (.tmp 44) rfl (e0 + 3) ⟨f, q, s, v, xa, dl, dc, deps, text⟩ rfl rfl HN.out.hd ?_) | fail)
              go_roundw
              case rel => exact ⟨k + 1, by omega, by go_num, by rw [HNX.out]; rfl, by rw [HNX.out]; exact N9⟩
              case measure => simp [intOf]; omega
            | some bp =>
              obtain ⟨p0, hf, hq, hs, hv, hxa, hdl, hdc, hdeps, htext⟩ := bp
              have hbn : bn = (p0 : Int) := HBN.out
              subst hbn
              have HH7 : Hid (MgB wc (e0 + 3) ⟨hf, hq, hs, hv, hxa, hdl, hdc, hdeps, htext⟩) := Lib.hid HS7.out.hd
              have hhl := HH7.out.lt
              have x0 := fun n os => cell_grown (a := ⟨e0 + 3, 0, none⟩) (n := n) (os := os) hhl (HH7.out.own.at_ 0 _ rfl)
              have x1 := fun n os => cell_grown (a := ⟨e0 + 3, 1, none⟩) (n := n) (os := os) hhl (HH7.out.own.at_ 1 _ rfl)
              have x2 := fun n os => cell_grown (a := ⟨e0 + 3, 2, none⟩) (n := n) (os := os) hhl (HH7.out.own.at_ 2 _ rfl)
              have x3 := fun n os => cell_grown (a := ⟨e0 + 3, 3, none⟩) (n := n) (os := os) hhl (HH7.out.own.at_ 3 _ rfl)
              have x4 := fun n os => cell_grown (a := ⟨e0 + 3, 4, none⟩) (n := n) (os := os) hhl (HH7.out.own.at_ 4 _ rfl)
              have x5 := fun n os => cell_grown (a := ⟨e0 + 3, 5, none⟩) (n := n) (os := os) hhl (HH7.out.own.at_ 5 _ rfl)
              have hl0 : ∀ W, Calls Try.prog 78 #[.agg #[.int .u64 s, .int .i64 f], .agg #[.int .u64 hs, .int .i64 hf]] W fun e w' => e = .returned (.bool (K.less ⟨s, f⟩ ⟨hs, hf⟩)) ∧ Grw W w' := fun W => less12_any ⟨s, f⟩ ⟨hs, hf⟩ W
              cases hlb : K.less ⟨s, f⟩ ⟨hs, hf⟩ with
              | false =>
                have hl1 := hl0
                rw [hlb] at hl1
                clear hl0
                go_upto_region 7 with fail
                refine wp_region_quiet_grown (by assumption) (by kernel_rfl) ?_
                repeat (first | go_big_quiet_skip | (refine quiet_load_ro (by rfl) (.tmp 1) rfl e0 r rfl RG.out ?_) | quiet_step (first | (go_at_call 108; exact Calls.grown_of (hmem _)) | (go_at_call 79; exact Calls.grown_of (ho _ _ _ _ _ _ _ _ _)) | (go_at_call 78; with_reducible exact Calls.grown_of (hl1 _))))
                refine wpQuiet_nil ?_
                intro _ hw'
                obtain ⟨⟨nq, osq⟩, hw''⟩ := hw'
                subst hw''
                have HN := Lib.hid (HS7.out.later (Grw.below (w := wc) ⟨nq, osq, rfl⟩))
                have HNX : Hid (bestR r L (k + 1) = (some (p0, ⟨hf, hq, hs, hv, hxa, hdl, hdc, hdeps, htext⟩))) := Lib.hid (by
                  show pickR (bestR r L k) k (findA L r.lo (k : Int) (r.dn k + 1)) (r.ms.testBit k) = (some (p0, ⟨hf, hq, hs, hv, hxa, hdl, hdc, hdeps, htext⟩))
                  rw [← HBO.out, ← HD.out]
                  rw [HFN.out, hbit]; unfold pickR; exact if_neg (fun e => Bool.noConfusion ((e.2 _ rfl).symm.trans (show K.less ⟨s, f⟩ ⟨hs, hf⟩ = false from hlb))))
                clear HS7 HM7 HH7 hmem RG ho hl1 y0 y1 y2 y3 y4 y5 x0 x1 x2 x3 x4 x5 hml hhl
                go_wp2_with fail
                go_roundw
                case rel => exact ⟨k + 1, by omega, by go_num, by rw [HNX.out, HBN.out], by rw [HNX.out]; exact HN⟩
                case measure => simp [intOf]; omega
              | true =>
                have hl1 := hl0
                rw [hlb] at hl1
                clear hl0
                go_upto_region 7 with fail
                refine wp_region_quiet_grown (by assumption) (by kernel_rfl) ?_
                repeat (first | go_big_quiet_skip | (refine quiet_load_ro (by rfl) (.tmp 1) rfl e0 r rfl RG.out ?_) | quiet_step (first | (go_at_call 108; exact Calls.grown_of (hmem _)) | (go_at_call 79; exact Calls.grown_of (ho _ _ _ _ _ _ _ _ _)) | (go_at_call 78; with_reducible exact Calls.grown_of (hl1 _))))
                refine wpQuiet_nil ?_
                intro _ hw'
                obtain ⟨⟨nq, osq⟩, hw''⟩ := hw'
                subst hw''
                have HN := Lib.hid (HS7.out.later (Grw.below (w := wc) ⟨nq, osq, rfl⟩))
                have HNX : Hid (bestR r L (k + 1) = some (k, ⟨f, q, s, v, xa, dl, dc, deps, text⟩)) := Lib.hid (by
                  show pickR (bestR r L k) k (findA L r.lo (k : Int) (r.dn k + 1)) (r.ms.testBit k) = _
                  rw [← HBO.out, ← HD.out]
                  rw [HFN.out, hbit]; unfold pickR; exact if_pos ⟨rfl, fun x hx => by cases hx; exact hlb⟩)
                have M9 := Lib.hid (MgB.later HM7.out (Grw.below (w := wc) ⟨nq, osq, rfl⟩))
                have N9 := Lib.hid (HN.out.head ⟨f, q, s, v, xa, dl, dc, deps, text⟩)
                clear HS7 HM7 HH7 hmem RG ho hl1 y0 y1 y2 y3 y4 y5 x0 x1 x2 x3 x4 x5 hml hhl
                generalize grow (wc.drewN nq) osq = w9 at *
                go_wp2_with (first | (refine load_mg rfl (.tmp 8) rfl mb rfl M9.out ?_) | (refine store_mg rfl (.tmp 6) (.tmp 44) rfl (e0 + 3) ⟨f, q, s, v, xa, dl, dc, deps, text⟩ rfl rfl HN.out.hd ?_) | fail)
                go_roundw
                case rel => exact ⟨k + 1, by omega, by go_num, by rw [HNX.out]; rfl, by rw [HNX.out]; exact N9⟩
                case measure => simp [intOf]; omega
    · have HB64 : bestR r L k = bestR r L allZ := by rw [allZ_eq, show k = 64 by omega]
      rw [HB64] at HS
      rw [HB64]
      obtain ⟨bo, hbo⟩ : ∃ bo, bo = bestR r L allZ := ⟨_, rfl⟩
      rw [← hbo] at HS
      rw [← hbo]
      have HBO := Lib.hid hbo
      clear hbo HB64
      obtain ⟨bn, hbn⟩ : ∃ bn, bn = numR bo := ⟨_, rfl⟩
      rw [← hbn]
      have HBN := Lib.hid hbn
      clear hbn
      cases bo with
      | none =>
        have hbn : bn = -1 := HBN.out
        subst hbn
        go_upto_region 10 with fail
        go_quiet (fail)
        have S11 := Lib.hid (HS.out.later ((Grw.refl wr).drewN nq).below)
        clear HS
        generalize wr.drewN nq = w11 at *
        go_wp2_with (first | (refine load_ro rfl (.tmp 1) rfl e0 _ rfl S11.out.e ?_) | (refine store_ro rfl (.tmp 2) (.tmp 68) rfl (e0 + 1) r rfl rfl S11.out.z ?_) | (refine store_mg rfl (.tmp 3) (.tmp 69) rfl (e0 + 2) zeroG rfl rfl (S11.out.m1 _) ?_))
        (try simp only [Exit.inBlock, Exit.then])
        have DN := S11.out.done r zeroG
        exact bodyPost_ret (v := .tuple #[.agg r.cs.toArray, valG zeroG, .bool false]) (results_ro3 (p := 2) (q := 3) (u := 4) rfl _ _ (e0 + 1) (e0 + 2) rfl rfl DN.1 DN.2.1) rfl (.no _ (fun p m e => by rw [← HBO.out] at e; cases e) (by rw [HE0.out]; exact DN.2.2))
      | some bp =>
        obtain ⟨p0, f, q, s, v, xa, dl, dc, deps, text⟩ := bp
        have hbn : bn = (p0 : Int) := HBN.out
        subst hbn
        have hp64 : p0 < 64 := by have := bestR_lt r L allZ p0 _ HBO.out.symm; rw [allZ_eq] at this; exact this
        have HH : Hid (MgB wr (e0 + 3) ⟨f, q, s, v, xa, dl, dc, deps, text⟩) := Lib.hid HS.out.hd
        have hhl := HH.out.lt
        have x0 := fun n os => cell_form (a := ⟨e0 + 3, 0, none⟩) hhl (HH.out.own.at_ 0 _ rfl) n os
        have x1 := fun n os => cell_form (a := ⟨e0 + 3, 1, none⟩) hhl (HH.out.own.at_ 1 _ rfl) n os
        have x2 := fun n os => cell_form (a := ⟨e0 + 3, 2, none⟩) hhl (HH.out.own.at_ 2 _ rfl) n os
        have x3 := fun n os => cell_form (a := ⟨e0 + 3, 3, none⟩) hhl (HH.out.own.at_ 3 _ rfl) n os
        have x4 := fun n os => cell_form (a := ⟨e0 + 3, 4, none⟩) hhl (HH.out.own.at_ 4 _ rfl) n os
        have x5 := fun n os => cell_form (a := ⟨e0 + 3, 5, none⟩) hhl (HH.out.own.at_ 5 _ rfl) n os
        have RZ := Lib.hid HS.out.e.formB
        obtain ⟨al, hal⟩ : ∃ al, al = allD r.oth r.clk T := ⟨_, rfl⟩
        obtain ⟨sf, hsf⟩ : ∃ sf, sf = safeD r.oth r.clk T := ⟨_, rfl⟩
        have hLst : ∀ nn os, Lst encD 4 (grow (atD wr nn) os) r.zs.a r.zs.n T := fun nn os => Lst.below (Lst.below HV.out.told.lst (by rw [HE0.out]; exact HS.out.below)) (below_of_form wr nn os)
        have KA := Lib.hid (fun nn os => rz_all r.clk r.oth r.zs T (grow (atD wr nn) os) (hLst nn os) HV.out.fewz HTO.out HUP.out)
        have KS := Lib.hid (fun nn os => rz_safe r.clk r.oth r.zs T (grow (atD wr nn) os) (hLst nn os) HV.out.fewz HTO.out HUP.out)
        rw [← hal] at KA
        rw [← hsf] at KS
        have HAL := Lib.hid hal
        have HSF := Lib.hid hsf
        clear hLst hal hsf hd
        by_cases h1 : (al : Int) < s
        · go_upto_region 10 with fail
          refine wp_region_quiet_below (by kernel_rfl) (by kernel_rfl) ?_
          repeat (first | go_big_quiet_skip | (refine quiet_load_hz (by rfl) (.tmp 50) rfl e0 r rfl RZ.out ?_) | (refine quiet_load_hz (by rfl) (.tmp 62) rfl e0 r rfl RZ.out ?_) | quiet_step (first | (go_at_call 111; exact calls_below (KA.out _ _)) | (go_at_call 112; exact calls_below (KS.out _ _))))
          refine wpQuiet_nil ?_
          intro _ hw'
          obtain ⟨⟨nq, osq⟩, hw''⟩ := hw'
          subst hw''
          have S11 := Lib.hid (HS.out.later (below_of_form wr nq osq))
          clear HS x0 x1 x2 x3 x4 x5 RZ KA KS HH hhl
          generalize grow (atD wr nq) osq = w11 at *
          go_wp2_with (first | (refine load_ro rfl (.tmp 1) rfl e0 _ rfl S11.out.e ?_) | (refine store_ro rfl (.tmp 2) (.tmp 68) rfl (e0 + 1) r rfl rfl S11.out.z ?_) | (refine store_mg rfl (.tmp 3) (.tmp 69) rfl (e0 + 2) zeroG rfl rfl (S11.out.m1 _) ?_))
          (try simp only [Exit.inBlock, Exit.then])
          have DN := S11.out.done r zeroG
          exact bodyPost_ret (v := .tuple #[.agg r.cs.toArray, valG zeroG, .bool false]) (results_ro3 (p := 2) (q := 3) (u := 4) rfl _ _ (e0 + 1) (e0 + 2) rfl rfl DN.1 DN.2.1) rfl (.no _ (fun p m e hr => by rw [← HBO.out] at e; cases e; exact hr.1 (by rw [← HAL.out]; exact h1)) (by rw [HE0.out]; exact DN.2.2))
        · by_cases h2 : v = 2
          · subst h2
            by_cases h3 : (sf : Int) < s
            · go_upto_region 10 with fail
              refine wp_region_quiet_below (by kernel_rfl) (by kernel_rfl) ?_
              repeat (first | go_big_quiet_skip | (refine quiet_load_hz (by rfl) (.tmp 50) rfl e0 r rfl RZ.out ?_) | (refine quiet_load_hz (by rfl) (.tmp 62) rfl e0 r rfl RZ.out ?_) | quiet_step (first | (go_at_call 111; exact calls_below (KA.out _ _)) | (go_at_call 112; exact calls_below (KS.out _ _))))
              refine wpQuiet_nil ?_
              intro _ hw'
              obtain ⟨⟨nq, osq⟩, hw''⟩ := hw'
              subst hw''
              have S11 := Lib.hid (HS.out.later (below_of_form wr nq osq))
              clear HS x0 x1 x2 x3 x4 x5 RZ KA KS HH hhl
              generalize grow (atD wr nq) osq = w11 at *
              go_wp2_with (first | (refine load_ro rfl (.tmp 1) rfl e0 _ rfl S11.out.e ?_) | (refine store_ro rfl (.tmp 2) (.tmp 68) rfl (e0 + 1) r rfl rfl S11.out.z ?_) | (refine store_mg rfl (.tmp 3) (.tmp 69) rfl (e0 + 2) zeroG rfl rfl (S11.out.m1 _) ?_))
              (try simp only [Exit.inBlock, Exit.then])
              have DN := S11.out.done r zeroG
              exact bodyPost_ret (v := .tuple #[.agg r.cs.toArray, valG zeroG, .bool false]) (results_ro3 (p := 2) (q := 3) (u := 4) rfl _ _ (e0 + 1) (e0 + 2) rfl rfl DN.1 DN.2.1) rfl (.no _ (fun p m e hr => by rw [← HBO.out] at e; cases e; exact hr.2 ⟨rfl, by rw [← HSF.out]; exact h3⟩) (by rw [HE0.out]; exact DN.2.2))
            · go_upto_region 10 with fail
              refine wp_region_quiet_below (by kernel_rfl) (by kernel_rfl) ?_
              repeat (first | go_big_quiet_skip | (refine quiet_load_hz (by rfl) (.tmp 50) rfl e0 r rfl RZ.out ?_) | (refine quiet_load_hz (by rfl) (.tmp 62) rfl e0 r rfl RZ.out ?_) | quiet_step (first | (go_at_call 111; exact calls_below (KA.out _ _)) | (go_at_call 112; exact calls_below (KS.out _ _))))
              refine wpQuiet_nil ?_
              intro _ hw'
              obtain ⟨⟨nq, osq⟩, hw''⟩ := hw'
              subst hw''
              have S11 := Lib.hid (HS.out.later (below_of_form wr nq osq))
              clear HS x0 x1 x2 x3 x4 x5 RZ KA KS HH hhl
              generalize grow (atD wr nq) osq = w11 at *
              obtain ⟨d, hd0⟩ : ∃ d, d = r.dn p0 := ⟨_, rfl⟩
              have cd := S11.out.e.dn p0 hp64
              have hdk := HDN.out p0 hp64
              rw [← hd0] at cd hdk
              have cf := S11.out.e.free (133 + p0)
              have hp64' : (p0 : Int) < 64 := by omega
              have hw : IntKind.u32.wrap ((d : Int) + 1) = (d : Int) + 1 := by rw [IntKind.wrap_u32']; omega
              have S120 := S11.out.setDn p0 (d + 1) hp64
              rw [show ((d + 1 : Nat) : Int) = (d : Int) + 1 by omega] at S120
              have S12 := Lib.hid S120
              have HD0 := Lib.hid hd0
              clear S11 hd0 hdk S120
              go_upto_region 13 with fail
              generalize w11.setCell ⟨e0, 133 + p0, none⟩ (.int .u32 ((d : Int) + 1)) = w12 at *
              clear cd cf hw
              have hdm : MgB w12 (e0 + 3) ⟨f, q, s, 2, xa, dl, dc, deps, text⟩ := S12.out.hd
              have HDM := Lib.hid hdm
              clear hdm
              have PO := refOf12_any ⟨f, q, s, 2, xa, dl, dc, deps, text⟩ w12
              simp only [encG] at PO
              go_wp2_with (first | (refine load_mg rfl (.tmp 6) rfl (e0 + 3) rfl HDM.out ?_; unfold valG; simp only [encG]) | fail)
              with_reducible refine PO.mono ?_
              rintro e w13 ⟨rfl, hG⟩
              have S13 := Lib.hid (S12.out.later hG.below)
              have g0 := S13.out.e.free 197
              have g1 := S13.out.e.free 198
              have l0 := S13.out.e.l0
              have l1 := S13.out.e.l1
              have S14 := Lib.hid (S13.out.setLast (⟨f, q, s, 2, xa, dl, dc, deps, text⟩ : Mg).key)
              clear PO hG S12 HDM
              go_upto_region 14 with fail
              generalize (w13.setCell ⟨e0, 197, none⟩ (.int .u64 (⟨f, q, s, 2, xa, dl, dc, deps, text⟩ : Mg).key.n)).setCell ⟨e0, 198, none⟩ (.int .i64 (⟨f, q, s, 2, xa, dl, dc, deps, text⟩ : Mg).key.p) = w15 at *
              clear S13 g0 g1 l0 l1
              have S16 : Hid (NxSt w w15.drew e0 (tookR r p0 ⟨f, q, s, 2, xa, dl, dc, deps, text⟩) ⟨f, q, s, 2, xa, dl, dc, deps, text⟩) := Lib.hid (by
                unfold tookR
                rw [← HD0.out]
                exact S14.out.later (Grw.refl w15).drew.below)
              clear S14
              obtain ⟨rT, hrT⟩ : ∃ rT, rT = tookR r p0 ⟨f, q, s, 2, xa, dl, dc, deps, text⟩ := ⟨_, rfl⟩
              rw [← hrT] at S16
              have HRT := Lib.hid hrT
              clear hrT
              refine wp_region_held_drew (S := fun w' => RoB w' e0 rT ∧ MgB w' (e0 + 3) ⟨f, q, s, 2, xa, dl, dc, deps, text⟩) (by kernel_rfl) ⟨S16.out.e, S16.out.hd⟩ (fun hHeld => ?_)
              generalize w15.drew = w16 at *
              refine stake (i := 0) (v := (.agg rT.cs.toArray)) 80 rfl (by kernel_rfl) (by kernel_rfl) (by kernel_rfl) (by kernel_rfl) (fun _ _ _ h => h) (yields_ro (by kernel_rfl) (.tmp 1) rfl e0 rT (by kernel_rfl) (fun w hS => hS.1)) hHeld ?_
              (try simp only [Act.put, List.setIfInBounds_toArray, List.set_cons_zero, List.set_cons_succ])
              refine stake (i := 1) (v := (valG ⟨f, q, s, 2, xa, dl, dc, deps, text⟩)) 81 rfl (by kernel_rfl) (by kernel_rfl) (by kernel_rfl) (by kernel_rfl) (fun _ _ _ h => h) (yields_mgR (m := ⟨f, q, s, 2, xa, dl, dc, deps, text⟩) (by kernel_rfl) (.tmp 6) rfl (e0 + 3) (by kernel_rfl) (fun w hS => hS.2)) hHeld ?_
              (try simp only [Act.put, List.setIfInBounds_toArray, List.set_cons_zero, List.set_cons_succ])
              refine wpAnyH_ready (rs := [2]) (by kernel_rfl) (by simp) (AllReadyH.cons rfl (fun K hK => ?_) AllReadyH.nil)
              clear hHeld
              rw [if_pos (by kernel_rfl)]
              refine wp_store_row 41 (.tmp 2) (.tmp 80) rfl (e0 + 1) rT.cs.toArray rfl rfl 41 _ S16.out.z.own (by rw [List.size_toArray, Ro.cs_length]; exact ro_size) (by rw [List.size_toArray, List.size_toArray, Ro.cs_length, Ro.cs_length]) rT.cs_one ?_
              refine hK.out _ _ ⟨S16.out.e.kept (setRow_other _ _ _ _ (by omega)), (setRow_other _ _ _ _ (by omega)).trans S16.out.hd⟩ (fun hHeld => ?_)
              clear hK K
              (try simp only [Act.put, List.setIfInBounds_toArray, List.set_cons_zero, List.set_cons_succ])
              refine wpAnyH_ready (rs := [3]) (by kernel_rfl) (by simp) (AllReadyH.cons rfl (fun K hK => ?_) AllReadyH.nil)
              clear hHeld
              rw [if_pos (by kernel_rfl)]
              refine wp_store_row 47 (.tmp 3) (.tmp 81) rfl (e0 + 2) (encG ⟨f, q, s, 2, xa, dl, dc, deps, text⟩).toArray rfl rfl 47 _ (S16.out.m1 _).own msg_size rfl (mg_one _) ?_
              have DN := S16.out.done rT ⟨f, q, s, 2, xa, dl, dc, deps, text⟩
              refine hK.out _ _ ⟨(S16.out.e.kept (setRow_other _ _ _ _ (by omega))).kept (setRow_other _ _ _ _ (by omega)), (setRow_other _ _ _ _ (by omega)).trans ((setRow_other _ _ _ _ (by omega)).trans S16.out.hd)⟩ (fun hHeld => ?_)
              clear hK K
              (try simp only [Act.put, List.setIfInBounds_toArray, List.set_cons_zero, List.set_cons_succ])
              refine stake (i := 4) (v := (.bool true)) 4 rfl (by kernel_rfl) (by kernel_rfl) (by kernel_rfl) (by kernel_rfl) (fun _ _ _ h => h) (.inl ⟨by kernel_rfl, fun w' hS => by (go_simp)⟩) hHeld ?_
              (try simp only [Act.put, List.setIfInBounds_toArray, List.set_cons_zero, List.set_cons_succ])
              refine wpAnyH_done (by kernel_rfl) ?_ _
              clear hHeld
              generalize (w16.setRow (e0 + 1) rT.cs.toArray).setRow (e0 + 2) (encG ⟨f, q, s, 2, xa, dl, dc, deps, text⟩).toArray = w17 at *
              go_wp2_with fail
              (try simp only [Exit.inBlock, Exit.then])
              exact bodyPost_ret (v := .tuple #[.agg rT.cs.toArray, valG ⟨f, q, s, 2, xa, dl, dc, deps, text⟩, .bool true]) (results_ro3 (p := 2) (q := 3) (u := 4) rfl _ _ (e0 + 1) (e0 + 2) rfl rfl DN.1 DN.2.1) rfl (by rw [HRT.out]; exact .yes p0 ⟨f, q, s, 2, xa, dl, dc, deps, text⟩ _ HBO.out.symm ⟨(by rw [← HAL.out]; show ¬ (al : Int) < s; omega), fun e => (by have h4 := e.2; rw [← HSF.out] at h4; exact absurd h4 (show ¬ (sf : Int) < s by omega))⟩ (by rw [HE0.out]; exact DN.2.2))
          · have hd2 : decide (v = 2) = false := decide_eq_false h2
            go_upto_region 10 with fail
            refine wp_region_quiet_below (by kernel_rfl) (by kernel_rfl) ?_
            repeat (first | go_big_quiet_skip | (refine quiet_load_hz (by rfl) (.tmp 50) rfl e0 r rfl RZ.out ?_) | (refine quiet_load_hz (by rfl) (.tmp 62) rfl e0 r rfl RZ.out ?_) | quiet_step (first | (go_at_call 111; exact calls_below (KA.out _ _)) | (go_at_call 112; exact calls_below (KS.out _ _))))
            refine wpQuiet_nil ?_
            intro _ hw'
            obtain ⟨⟨nq, osq⟩, hw''⟩ := hw'
            subst hw''
            have S11 := Lib.hid (HS.out.later (below_of_form wr nq osq))
            clear HS x0 x1 x2 x3 x4 x5 RZ KA KS HH hhl
            generalize grow (atD wr nq) osq = w11 at *
            obtain ⟨d, hd0⟩ : ∃ d, d = r.dn p0 := ⟨_, rfl⟩
            have cd := S11.out.e.dn p0 hp64
            have hdk := HDN.out p0 hp64
            rw [← hd0] at cd hdk
            have cf := S11.out.e.free (133 + p0)
            have hp64' : (p0 : Int) < 64 := by omega
            have hw : IntKind.u32.wrap ((d : Int) + 1) = (d : Int) + 1 := by rw [IntKind.wrap_u32']; omega
            have S120 := S11.out.setDn p0 (d + 1) hp64
            rw [show ((d + 1 : Nat) : Int) = (d : Int) + 1 by omega] at S120
            have S12 := Lib.hid S120
            have HD0 := Lib.hid hd0
            clear S11 hd0 hdk S120
            go_upto_region 13 with fail
            generalize w11.setCell ⟨e0, 133 + p0, none⟩ (.int .u32 ((d : Int) + 1)) = w12 at *
            clear cd cf hw
            have hdm : MgB w12 (e0 + 3) ⟨f, q, s, v, xa, dl, dc, deps, text⟩ := S12.out.hd
            have HDM := Lib.hid hdm
            clear hdm
            have PO := refOf12_any ⟨f, q, s, v, xa, dl, dc, deps, text⟩ w12
            simp only [encG] at PO
            go_wp2_with (first | (refine load_mg rfl (.tmp 6) rfl (e0 + 3) rfl HDM.out ?_; unfold valG; simp only [encG]) | fail)
            with_reducible refine PO.mono ?_
            rintro e w13 ⟨rfl, hG⟩
            have S13 := Lib.hid (S12.out.later hG.below)
            have g0 := S13.out.e.free 197
            have g1 := S13.out.e.free 198
            have l0 := S13.out.e.l0
            have l1 := S13.out.e.l1
            have S14 := Lib.hid (S13.out.setLast (⟨f, q, s, v, xa, dl, dc, deps, text⟩ : Mg).key)
            clear PO hG S12 HDM
            go_upto_region 14 with fail
            generalize (w13.setCell ⟨e0, 197, none⟩ (.int .u64 (⟨f, q, s, v, xa, dl, dc, deps, text⟩ : Mg).key.n)).setCell ⟨e0, 198, none⟩ (.int .i64 (⟨f, q, s, v, xa, dl, dc, deps, text⟩ : Mg).key.p) = w15 at *
            clear S13 g0 g1 l0 l1
            have S16 : Hid (NxSt w w15.drew e0 (tookR r p0 ⟨f, q, s, v, xa, dl, dc, deps, text⟩) ⟨f, q, s, v, xa, dl, dc, deps, text⟩) := Lib.hid (by
              unfold tookR
              rw [← HD0.out]
              exact S14.out.later (Grw.refl w15).drew.below)
            clear S14
            obtain ⟨rT, hrT⟩ : ∃ rT, rT = tookR r p0 ⟨f, q, s, v, xa, dl, dc, deps, text⟩ := ⟨_, rfl⟩
            rw [← hrT] at S16
            have HRT := Lib.hid hrT
            clear hrT
            refine wp_region_held_drew (S := fun w' => RoB w' e0 rT ∧ MgB w' (e0 + 3) ⟨f, q, s, v, xa, dl, dc, deps, text⟩) (by kernel_rfl) ⟨S16.out.e, S16.out.hd⟩ (fun hHeld => ?_)
            generalize w15.drew = w16 at *
            refine stake (i := 0) (v := (.agg rT.cs.toArray)) 80 rfl (by kernel_rfl) (by kernel_rfl) (by kernel_rfl) (by kernel_rfl) (fun _ _ _ h => h) (yields_ro (by kernel_rfl) (.tmp 1) rfl e0 rT (by kernel_rfl) (fun w hS => hS.1)) hHeld ?_
            (try simp only [Act.put, List.setIfInBounds_toArray, List.set_cons_zero, List.set_cons_succ])
            refine stake (i := 1) (v := (valG ⟨f, q, s, v, xa, dl, dc, deps, text⟩)) 81 rfl (by kernel_rfl) (by kernel_rfl) (by kernel_rfl) (by kernel_rfl) (fun _ _ _ h => h) (yields_mgR (m := ⟨f, q, s, v, xa, dl, dc, deps, text⟩) (by kernel_rfl) (.tmp 6) rfl (e0 + 3) (by kernel_rfl) (fun w hS => hS.2)) hHeld ?_
            (try simp only [Act.put, List.setIfInBounds_toArray, List.set_cons_zero, List.set_cons_succ])
            refine wpAnyH_ready (rs := [2]) (by kernel_rfl) (by simp) (AllReadyH.cons rfl (fun K hK => ?_) AllReadyH.nil)
            clear hHeld
            rw [if_pos (by kernel_rfl)]
            refine wp_store_row 41 (.tmp 2) (.tmp 80) rfl (e0 + 1) rT.cs.toArray rfl rfl 41 _ S16.out.z.own (by rw [List.size_toArray, Ro.cs_length]; exact ro_size) (by rw [List.size_toArray, List.size_toArray, Ro.cs_length, Ro.cs_length]) rT.cs_one ?_
            refine hK.out _ _ ⟨S16.out.e.kept (setRow_other _ _ _ _ (by omega)), (setRow_other _ _ _ _ (by omega)).trans S16.out.hd⟩ (fun hHeld => ?_)
            clear hK K
            (try simp only [Act.put, List.setIfInBounds_toArray, List.set_cons_zero, List.set_cons_succ])
            refine wpAnyH_ready (rs := [3]) (by kernel_rfl) (by simp) (AllReadyH.cons rfl (fun K hK => ?_) AllReadyH.nil)
            clear hHeld
            rw [if_pos (by kernel_rfl)]
            refine wp_store_row 47 (.tmp 3) (.tmp 81) rfl (e0 + 2) (encG ⟨f, q, s, v, xa, dl, dc, deps, text⟩).toArray rfl rfl 47 _ (S16.out.m1 _).own msg_size rfl (mg_one _) ?_
            have DN := S16.out.done rT ⟨f, q, s, v, xa, dl, dc, deps, text⟩
            refine hK.out _ _ ⟨(S16.out.e.kept (setRow_other _ _ _ _ (by omega))).kept (setRow_other _ _ _ _ (by omega)), (setRow_other _ _ _ _ (by omega)).trans ((setRow_other _ _ _ _ (by omega)).trans S16.out.hd)⟩ (fun hHeld => ?_)
            clear hK K
            (try simp only [Act.put, List.setIfInBounds_toArray, List.set_cons_zero, List.set_cons_succ])
            refine stake (i := 4) (v := (.bool true)) 4 rfl (by kernel_rfl) (by kernel_rfl) (by kernel_rfl) (by kernel_rfl) (fun _ _ _ h => h) (.inl ⟨by kernel_rfl, fun w' hS => by (go_simp)⟩) hHeld ?_
            (try simp only [Act.put, List.setIfInBounds_toArray, List.set_cons_zero, List.set_cons_succ])
            refine wpAnyH_done (by kernel_rfl) ?_ _
            clear hHeld
            generalize (w16.setRow (e0 + 1) rT.cs.toArray).setRow (e0 + 2) (encG ⟨f, q, s, v, xa, dl, dc, deps, text⟩).toArray = w17 at *
            go_wp2_with fail
            (try simp only [Exit.inBlock, Exit.then])
            exact bodyPost_ret (v := .tuple #[.agg rT.cs.toArray, valG ⟨f, q, s, v, xa, dl, dc, deps, text⟩, .bool true]) (results_ro3 (p := 2) (q := 3) (u := 4) rfl _ _ (e0 + 1) (e0 + 2) rfl rfl DN.1 DN.2.1) rfl (by rw [HRT.out]; exact .yes p0 ⟨f, q, s, v, xa, dl, dc, deps, text⟩ _ HBO.out.symm ⟨(by rw [← HAL.out]; show ¬ (al : Int) < s; omega), fun e => h2 e.1⟩ (by rw [HE0.out]; exact DN.2.2))
end Go.Proofs.Ytfocjcdfpnbkjaa
