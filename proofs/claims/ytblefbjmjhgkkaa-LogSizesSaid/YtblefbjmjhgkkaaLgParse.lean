/- Layer 19: a stable record parsed, an item parsed: the closures that give up by panic. -/
import Derived.Test.YtblefbjmjhgkkaaLgCatch
set_option linter.unusedVariables false
set_option maxRecDepth 100000
set_option linter.unusedSimpArgs false
namespace Go.Proofs.Ytblefbjmjhgkkaa
open Go.RowKit Go.Sort

theorem getN_err_ne {n : Nat} {l : List UInt8} {x : Nat} (h : getN n l = .error x) : x ≠ 0 := by
  unfold getN at h; split at h
  · cases h; decide
  · cases h
/-- No error's number is nought. -/
def NoNought {α : Type} (g : List UInt8 → Got α) : Prop := ∀ l x, g l = .error x → x ≠ 0
theorem NoNought.and {α β : Type} {g : List UInt8 → Got α} {f : α → List UInt8 → Got β} (hg : NoNought g) (hf : ∀ a, NoNought (f a)) : NoNought fun l => andG (g l) f := by
  intro l x h
  simp only at h
  cases e : g l with
  | error y => rw [e, andG_err] at h; cases h; exact hg l _ e
  | ok p => obtain ⟨a, r⟩ := p; rw [e, andG_ok] at h; exact hf a r x h
theorem NoNought.bad {β : Type} {c : Nat} (hc : c ≠ 0) {is : Prop} [Decidable is] {f : List UInt8 → Got β} (hf : NoNought f) : NoNought fun l => badG c is (f l) := by
  intro l x h
  simp only [badG] at h
  split at h
  · cases h; exact hc
  · exact hf l x h
theorem NoNought.ok {α : Type} (v : α) : NoNought fun r => .ok (v, r) := fun l x h => by cases h
theorem nn_N (n : Nat) : NoNought (getN n) := fun l x h => getN_err_ne h
theorem nn_P : NoNought getP := (nn_N 1).and fun p => .bad (by decide) (.ok _)
theorem nn_V19 : NoNought getVw := (nn_N 8).and fun n => (nn_N 8).and fun e => nn_P.and fun p => (nn_N 8).and fun m => .ok _
theorem nn_Vs : ∀ n, NoNought (getVws n)
  | 0 => .ok _
  | n + 1 => nn_V19.and fun v => (nn_Vs n).and fun vs => .ok _
theorem nn_R : NoNought getRec := nn_V19.and fun v => (nn_N 1).and fun n => .bad (by decide) ((nn_Vs n).and fun vs => .ok _)
theorem nn_St : NoNought getSt := (nn_N 8).and fun e => (nn_N 4).and fun i => nn_R.and fun x => .ok _
theorem nn_K (m : Nat) : NoNought (getK m) := (nn_N 1).and fun k => .bad (by decide) (.ok _)
theorem nn_It (k : Nat) : NoNought (getIt k) := by
  intro l x h
  unfold getIt at h
  split at h
  · cases h
  · split at h
    · exact (NoNought.and (nn_N 4) fun i => (nn_N 8).and fun h => (nn_N 1).and fun f => .bad (by decide) (nn_R.and fun x => .ok _)) l x h
    · split at h
      · exact (NoNought.and nn_V19 fun v => .ok _) l x h
      · exact (NoNought.and (nn_N 8) fun n => (nn_N 2).and fun i => (nn_N 2).and fun t => (fun l x h => by cases h)) l x h
/-- A stable record, by its first byte and the rest. -/
theorem getS_k (l : List UInt8) : getS l = andG (getK 1 l) fun _ r => getSt r := by
  unfold getS getK getSt
  cases getN 1 l with
  | error e => simp only [andG_err]
  | ok x =>
    obtain ⟨k, r⟩ := x
    simp only [andG_ok, badG]
    by_cases h : k = 1
    · subst h; rfl
    · rw [if_pos h, if_pos (show k < 1 ∨ 1 < k by omega)]; rfl
theorem parseI_k (l : List UInt8) : parseI l = match getK 4 l with
    | .error e => .error e
    | .ok (k, r) => if 1024 < l.length then .error 3 else endG (getIt k r) := by
  unfold parseI getK
  cases getN 1 l with
  | error e => simp only [andG_err]
  | ok x =>
    obtain ⟨k, r⟩ := x
    simp only [andG_ok, badG]
    by_cases h : k < 1 ∨ 4 < k
    · rw [if_pos h, if_pos h]
    · rw [if_neg h, if_neg h]
      simp only [getBody_it]
/-- What a closure that parses does. -/
def CP {α : Type} (G : Except Nat α) (D : World → α → Value → Prop) (w : World) (e : Ending) (w' : World) : Prop :=
  Below w.heap.size w w' ∧ ((∃ v val, G = .ok v ∧ e = .returned val ∧ D w' v val) ∨ (∃ c, c ≠ 0 ∧ G = .error c ∧ e = .panicked (pan c)))
/-- Amid it: the result's block, the reader, its copy. -/
structure PcSt (w W : World) (s : ByteArray) (a : Nat) (zt : TypeId) (z : Array Value) : Prop where
  res : Own W w.heap.size zt z
  rd : Rd W (w.heap.size + 1) s a
  box : Own W (w.heap.size + 2) 67 #[.pointer (some ⟨w.heap.size + 1, 0, none⟩)]
  below : Below w.heap.size w W
theorem below_of_by {w w' : World} {b B : Nat} (h : w.grownBy w' (some b)) (hB : B ≤ b) (hz : B ≤ w.heap.size) : Below B w w' :=
  ⟨h.os, h.tape, h.output, h.size, fun k hk => h.block k (by omega) (by intro e; injection e with e; omega)⟩
theorem PcSt.go {w W W' : World} {s : ByteArray} {a a' : Nat} {zt : TypeId} {z : Array Value} (h : PcSt w W s a zt z) (hr : Rd W' (w.heap.size + 1) s a') (hg : W.grownBy W' (some (w.heap.size + 1))) : PcSt w W' s a' zt z :=
  ⟨h.res.grown hg (by intro e; injection e with e; omega), hr, h.box.grown hg (by intro e; injection e with e; omega), h.below.trans (below_of_by hg (by omega) h.below.size)⟩
theorem PcSt.later {w W W' : World} {s : ByteArray} {a : Nat} {zt : TypeId} {z : Array Value} (h : PcSt w W s a zt z) (hb : Below W.heap.size W W') : PcSt w W' s a zt z :=
  ⟨h.res.below hb h.res.lt, h.rd.after hb, h.box.below hb h.box.lt, h.below.trans (hb.mono h.below.size)⟩
theorem PcSt.new (w : World) (s : ByteArray) (hs : s.size ≤ 1099511627776) (zt : TypeId) (z : Array Value) {w2 : World} (hw2 : (w.alloc (.cells z zt)).alloc (.cells #[.string s, .int .i64 0] 98) = w2) :
    PcSt w (w2.alloc (.cells #[.pointer (some ⟨w.heap.size + 1, 0, none⟩)] 67)) s 0 zt z := by
  obtain ⟨A1, h1⟩ : ∃ A1, A1 = w.alloc (.cells z zt) := ⟨_, rfl⟩
  have o1 : Own A1 w.heap.size zt z := by rw [h1]; exact Own.new _ _ _
  have z1 : A1.heap.size = w.heap.size + 1 := by rw [h1]; simp
  have g1 : Grw w A1 := by rw [h1]; exact (Grw.refl _).alloc _
  rw [← h1] at hw2
  have r2 : Rd w2 A1.heap.size s 0 := by rw [← hw2]; exact Rd.new A1 _ (by omega)
  have z2 : w2.heap.size = w.heap.size + 2 := by rw [← hw2]; simp [z1]
  have g2 : Grw A1 w2 := by rw [← hw2]; exact (Grw.refl _).alloc _
  rw [z1] at r2
  have g3 : Grw w2 (w2.alloc (.cells #[.pointer (some ⟨w.heap.size + 1, 0, none⟩)] 67)) := (Grw.refl _).alloc _
  exact ⟨(o1.below g2.below o1.lt).below g3.below (by omega), r2.after g3.below, by rw [← z2]; exact Own.new _ _ _, ((g1.trans g2).trans g3).below⟩
theorem stable_size : (Try.prog.info? 33).map (·.size) = some 7 := by kernel_rfl
theorem encS_one (x : Stb) (a : Option Addr) (k c : Nat) : (encS x a k c).toArray.all (·.oneCell') = true := by simp [encS, Value.oneCell']
theorem store_stable {ops : Array Oper} {rest : List Oper} {o : Oper} {A : Act} {w : World} {Q : Exit → Act → World → Prop} (hgd : o.guard = none) (x y : Operand) (ho : o.op = .store 33 x y)
    (g : Nat) {p : Stb} {a : Option Addr} {k c : Nat} (hx : A.eval x = .pointer (some ⟨g, 0, none⟩)) (hy : A.eval y = .agg (encS p a k c).toArray)
    {p0 : Stb} {a0 : Option Addr} {k0 c0 : Nat} (hg : Own w g 33 (encS p0 a0 k0 c0).toArray)
    (h : wpList Try.prog ops Q rest (A.put o.dst undef) (w.setRow g (encS p a k c).toArray)) : wpList Try.prog ops Q (o :: rest) A w :=
  wpList_store_row hgd 33 x y ho g _ hx hy 33 _ hg stable_size rfl (encS_one _ _ _ _) h
theorem load_stable {ops : Array Oper} {rest : List Oper} {o : Oper} {A : Act} {w : World} {Q : Exit → Act → World → Prop} (hgd : o.guard = none) (x : Operand) (ho : o.op = .load 33 x)
    (g : Nat) (hx : A.eval x = .pointer (some ⟨g, 0, none⟩)) {p : Stb} {a : Option Addr} {k c : Nat} (hg : Own w g 33 (encS p a k c).toArray)
    (h : wpList Try.prog ops Q rest (A.put o.dst (.agg (encS p a k c).toArray)) w) : wpList Try.prog ops Q (o :: rest) A w :=
  wpList_load_row hgd 33 x ho g hx 33 _ _ _ hg Try.underlying33 rfl stable_size h
theorem results_stable {fn : Func} {p : Tmp} (h : fn.results = #[.cell p 33]) (tmps : Array Value) (w : World) (g : Nat) {q : Stb} {a : Option Addr} {k c : Nat}
    (hp : tmps.getD p undef = .pointer (some ⟨g, 0, none⟩)) (hg : Own w g 33 (encS q a k c).toArray) :
    (results fn tmps).run Try.prog w = .ok (.agg (encS q a k c).toArray) w :=
  results_cell_row h tmps w g 33 _ (0, 0) _ hp hg Try.underlying33 rfl stable_size
def zeroS : Stb := ⟨0, 0, ⟨⟨0, 0, 0, 0⟩, []⟩⟩
theorem zeroS_is : (encS zeroS none 0 0).toArray = #[.int .u64 0, .int .u32 0, .int .u64 0, .int .u64 0, .int .i64 0, .int .u64 0, .slice none 0 0] := rfl
theorem ritem (w : World) (b : Nat) (s : ByteArray) (a k : Nat) (h : Rd w b s a) (hs : s.size ≤ 1099511627776) (hk : 1 ≤ k ∧ k ≤ 4) :
    Calls Try.prog 32 #[.agg #[.pointer (some ⟨b, 0, none⟩)], .int .i64 (k : Int)] w (RP (getIt k) (ItD w.heap.size) w b s a) := by
  obtain rfl | rfl | rfl | rfl : k = 1 ∨ k = 2 ∨ k = 3 ∨ k = 4 := by omega
  · exact ritem_1 w b s a h hs
  · exact ritem_2 w b s a h hs
  · exact ritem_3 w b s a h hs
  · exact ritem_4 w b s a h hs
theorem restB_zero (s : ByteArray) : restB s 0 = s.data.toList := by unfold restB; rw [List.drop_zero]
theorem endG_nil {α : Type} (v : α) {l : List UInt8} (h : l = []) : endG (.ok (v, l)) = (.ok v : Except Nat α) := by rw [h]; rfl
theorem endG_left {α : Type} (v : α) {l : List UInt8} (h : l ≠ []) : endG (.ok (v, l)) = (.error 4 : Except Nat α) := by
  cases l with
  | nil => exact absurd rfl h
  | cons x xs => rfl

set_option maxHeartbeats 4000000 in
theorem parse1S (s : ByteArray) (hs : s.size ≤ 1099511627776) (g : Nat) (w : World) (hc : w.cell? ⟨g, 0, none⟩ = some (.string s)) :
    Calls Try.prog 21 #[.pointer (some ⟨g, 0, none⟩)] w (CP (parseS s.data.toList) (OwnS w.heap.size) w) := by
  have hgl : g < w.heap.size := World.block_lt_of_cell? _ _ hc
  have hc1 : (w.alloc (.cells #[.int .u64 0, .int .u32 0, .int .u64 0, .int .u64 0, .int .i64 0, .int .u64 0, .slice none 0 0] 33)).cell? ⟨g, 0, none⟩ = some (.string s) := cell_later ((Grw.refl w).alloc _).below hc
  have HPS := Lib.hid (show parseS s.data.toList = endG (andG (getK 1 (restB s 0)) fun _ r => getSt r) by unfold parseS; rw [getS_k, restB_zero])
  clear hc
  go_enter Try.func21, Try.ntmps21
  go_wp2_with fail
  refine (new_any _ _).mono ?_
  rintro e w2 ⟨rfl, hw2⟩
  have P0 := PcSt.new w s hs 33 #[.int .u64 0, .int .u32 0, .int .u64 0, .int .u64 0, .int .i64 0, .int .u64 0, .slice none 0 0] hw2
  have z1 : (w.alloc (.cells #[.int .u64 0, .int .u32 0, .int .u64 0, .int .u64 0, .int .i64 0, .int .u64 0, .slice none 0 0] 33)).heap.size = w.heap.size + 1 := by simp
  have z2 : w2.heap.size = w.heap.size + 2 := by rw [← hw2]; simp
  clear hw2 hc1
  try simp only [z1]
  go_upto_region 2 with fail
  try simp only [z2]
  generalize w2.alloc (.cells #[.pointer (some ⟨w.heap.size + 1, 0, none⟩)] 67) = w3 at *
  clear z1 z2
  have b3 : w3.cell? ⟨w.heap.size + 2, 0, none⟩ = some (.pointer (some ⟨w.heap.size + 1, 0, none⟩)) := P0.box.at_ 0 _ rfl
  go_wp2_with fail
  refine (rkind _ _ s 0 1 P0.rd).mono ?_
  rintro e w4 (⟨v, _, a1, hG, rfl, rfl, hr, hg⟩ | ⟨q, hG, rfl, hg⟩)
  rotate_left
  · exact ⟨rfl, P0.below.trans (below_of_by hg (by omega) P0.below.size), .inr ⟨q, nn_K _ _ _ hG, by rw [HPS.out, hG, andG_err]; rfl, rfl⟩⟩
  have P4 := P0.go hr hg
  have G4 := Lib.hid hG
  have b4 : w4.cell? ⟨w.heap.size + 2, 0, none⟩ = some (.pointer (some ⟨w.heap.size + 1, 0, none⟩)) := P4.box.at_ 0 _ rfl
  clear hG hr hg P0 b3
  go_wp2_with fail
  refine (rstable _ _ s a1 P4.rd).mono ?_
  rintro e w5 (⟨x, _, a2, hG, rfl, ⟨pa, pk, pc, rfl, ho, hol, hok⟩, hr, hg⟩ | ⟨q, hG, rfl, hg⟩)
  rotate_left
  · exact ⟨rfl, P4.below.trans (below_of_by hg (by omega) P4.below.size), .inr ⟨q, nn_St _ _ hG, by rw [HPS.out, G4.out, andG_ok, hG]; rfl, rfl⟩⟩
  have P5 := P4.go hr hg
  have G5 := Lib.hid hG
  have hz4 : w.heap.size + 3 ≤ w4.heap.size := P4.box.lt
  have hz5 : w.heap.size + 3 ≤ w5.heap.size := P5.box.lt
  have HO := Lib.hid (own_base ho hz4)
  have Z5 : Own (w5.alloc (.cells #[.int .u64 0, .int .u32 0, .int .u64 0, .int .u64 0, .int .i64 0, .int .u64 0, .slice none 0 0] 33)) w5.heap.size 33 (encS zeroS none 0 0).toArray := Own.new _ _ _
  have hGr := (Grw.refl w5).alloc (.cells #[.int .u64 0, .int .u32 0, .int .u64 0, .int .u64 0, .int .i64 0, .int .u64 0, .slice none 0 0] 33)
  have P6 := P5.later hGr.below
  have O6 := own_grw HO.out hGr
  have HOL := Lib.hid hol
  have HOK := Lib.hid hok
  clear hG hr hg ho hol hok P4 P5 b4 HO hGr
  go_upto_region 4 with (refine store_stable rfl (.tmp 3) (.tmp 10) rfl w5.heap.size rfl rfl Z5 ?_)
  have R6 := Z5.row (encS x pa pk pc).toArray
  have P7 : PcSt w ((w5.alloc (.cells #[.int .u64 0, .int .u32 0, .int .u64 0, .int .u64 0, .int .i64 0, .int .u64 0, .slice none 0 0] 33)).setRow w5.heap.size (encS x pa pk pc).toArray) s a2 33 #[.int .u64 0, .int .u32 0, .int .u64 0, .int .u64 0, .int .i64 0, .int .u64 0, .slice none 0 0] :=
    ⟨P6.res.row_other _ (by omega), P6.rd.row (by omega) _, P6.box.row_other _ (by omega), belowRow18 P6.below _ (by omega) _⟩
  have O7 := Lib.hid (show ((w5.alloc (.cells #[.int .u64 0, .int .u32 0, .int .u64 0, .int .u64 0, .int .i64 0, .int .u64 0, .slice none 0 0] 33)).setRow w5.heap.size (encS x pa pk pc).toArray).ownsRow (w.heap.size + 3) 28 4 (.slice pa pk pc) pk (flat encV x.r.pend) from by
    refine ⟨O6.1, ?_⟩
    rcases O6.2 with h1 | ⟨g', cap, cur, h1, h2, h3, h4⟩
    · exact .inl h1
    · refine .inr ⟨g', cap, cur, h1, h2, (setRow_other _ _ g' _ ?_).trans h3, h4⟩
      intro e
      subst e
      have := Z5.is.symm.trans h3
      injection this with e1
      injection e1 with _ e2 _
      exact absurd e2 (by decide))
  clear Z5 P6 O6
  generalize (w5.alloc (.cells #[.int .u64 0, .int .u32 0, .int .u64 0, .int .u64 0, .int .i64 0, .int .u64 0, .slice none 0 0] 33)).setRow w5.heap.size (encS x pa pk pc).toArray = w7 at *
  generalize w5.heap.size = G at *
  have b7 : w7.cell? ⟨w.heap.size + 2, 0, none⟩ = some (.pointer (some ⟨w.heap.size + 1, 0, none⟩)) := P7.box.at_ 0 _ rfl
  go_wp2_with fail
  refine (rend _ _ s a2 P7.rd).mono ?_
  rintro e w8 ⟨hg, ⟨hn, rfl⟩ | ⟨hn, rfl⟩⟩
  rotate_left
  · exact ⟨rfl, P7.below.trans (below_of_by hg (by omega) P7.below.size), .inr ⟨4, by decide, by rw [HPS.out, G4.out, andG_ok, G5.out, endG_left _ hn], rfl⟩⟩
  have R8 := R6.grown hg (by intro e; injection e with e; omega)
  have S8 : Own w8 w.heap.size 33 (encS zeroS none 0 0).toArray := P7.res.grown hg (by intro e; injection e with e; omega)
  have B8 := Lib.hid (P7.below.trans (below_of_by hg (by omega) P7.below.size))
  have O8 := Lib.hid (own_by O7.out hg (by omega))
  have HE := Lib.hid (show parseS s.data.toList = .ok x by rw [HPS.out, G4.out, andG_ok, G5.out, endG_nil _ hn])
  clear hg hn P7 R6 O7 b7
  go_wp2_with (first | (refine load_stable rfl (.tmp 3) rfl G rfl R8 ?_) | (refine store_stable rfl (.tmp 1) (.tmp 13) rfl w.heap.size rfl rfl S8 ?_))
  (try simp only [Exit.inBlock, Exit.then])
  refine bodyPost_ret (results_stable rfl _ _ w.heap.size rfl (S8.row _)) rfl ?_
  exact ⟨belowRow18 B8.out _ (Nat.le_refl _) _, .inl ⟨x, _, HE.out, rfl, pa, pk, pc, rfl, own_base (own_setRow O8.out (by omega) _) (by omega), HOL.out, HOK.out⟩⟩
end Go.Proofs.Ytblefbjmjhgkkaa
