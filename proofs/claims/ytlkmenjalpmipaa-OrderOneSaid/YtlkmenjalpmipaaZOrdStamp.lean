/- stamped: messages of honest senders. -/
import Derived.Test.YtlkmenjalpmipaaZOrdHonest
import Derived.Test.YtlkmenjalpmipaaZOrdSent
set_option linter.unusedVariables false
set_option maxRecDepth 100000
set_option linter.unusedSimpArgs false
namespace Go.Proofs.Ytlkmenjalpmipaa
open Go.RowKit Go.Sort Go.Shelf

/-- Four numbers as cells. -/
def cells4 (k : IntKind) (f : Nat → Nat) : List Value := [.int k (f 0 : Int), .int k (f 1 : Int), .int k (f 2 : Int), .int k (f 3 : Int)]
theorem cells4_at (k : IntKind) (f : Nat → Nat) (p : Nat) (hp : p < 4) : (cells4 k f).toArray[p]? = some (.int k (f p : Int)) := by
  match p, hp with
  | 0, _ => rfl
  | 1, _ => rfl
  | 2, _ => rfl
  | 3, _ => rfl
theorem cells4_set (k : IntKind) (f : Nat → Nat) (p n : Nat) (hp : p < 4) : (cells4 k f).toArray.setIfInBounds p (.int k (n : Int)) = (cells4 k (updF f p n)).toArray := by
  match p, hp with
  | 0, _ => rfl
  | 1, _ => rfl
  | 2, _ => rfl
  | 3, _ => rfl
/-- Amid stamped. -/
structure StS (A : List Mg) (clk cnt : Nat → Nat) (n : Nat) : Prop where
  self : ∀ x ∈ A, strip x = x
  frm : ∀ x ∈ A, ∃ p : Nat, p < 4 ∧ x.f = (p : Int)
  num : ∀ p, p < 4 → ∀ (i : Nat) (x : Mg), (sub A p)[i]? = some x → x.q = (i : Int) + 1
  ris : ∀ p, p < 4 → (sub A p).Pairwise fun x y => x.s < y.s
  s0 : ∀ x ∈ A, 0 < x.s
  top : ∀ x ∈ A, x.s ≤ 3 * (n : Int)
  low : ∀ p, p < 4 → ∀ x ∈ sub A p, x.s ≤ (clk p : Int)
  clk : ∀ p, p < 4 → clk p ≤ 3 * n
  cnt : ∀ p, p < 4 → cnt p = (sub A p).length
  len : A.length = n
  dep : ∀ x ∈ A, x.dl = 0 ∧ x.deps = []
theorem StS.start : StS [] (fun _ => 0) (fun _ => 0) 0 :=
  ⟨(fun x h => by cases h), (fun x h => by cases h), (fun p _ i x h => by simp [sub] at h), (fun p _ => by simp [sub]), (fun x h => by cases h), (fun x h => by cases h), (fun p _ x h => by simp [sub] at h), fun p _ => Nat.le_refl _, fun p _ => rfl, rfl, (fun x h => by cases h)⟩
section
variable {A : List Mg} {clk cnt : Nat → Nat} {n : Nat}
theorem StS.hon (h : StS A clk cnt n) (hn : n ≤ 30) : Hon A := ⟨h.self, h.frm, h.num, h.ris, fun x hx => Int.le_of_lt (h.s0 x hx), fun x hx => by have := h.top x hx; omega, by rw [h.len]; omega⟩
theorem StS.clock (h : StS A clk cnt n) (p c : Nat) (h1 : clk p ≤ c) (h2 : c ≤ 3 * n) : StS A (updF clk p c) cnt n :=
  ⟨h.self, h.frm, h.num, h.ris, h.s0, h.top, fun q hq x hx => by
    have := h.low q hq x hx
    by_cases e : q = p
    · subst e; rw [updF_same]; omega
    · rw [updF_other _ _ _ _ e]; exact this, fun q hq => by
    by_cases e : q = p
    · subst e; rw [updF_same]; exact h2
    · rw [updF_other _ _ _ _ e]; exact h.clk q hq, h.cnt, h.len, h.dep⟩
theorem sub_snoc (A : List Mg) (x : Mg) (p q : Nat) (hx : x.f = (p : Int)) : sub (A ++ [x]) q = if q = p then sub A q ++ [x] else sub A q := by
  unfold sub
  rw [List.filter_append]
  by_cases e : q = p
  · subst e; rw [if_pos rfl]; simp [hx]
  · rw [if_neg e]
    have : ¬ x.f = (q : Int) := by omega
    simp [this]
theorem StS.more (h : StS A clk cnt n) (p : Nat) (hp : p < 4) (d : Nat) (hd : d ≤ 2) (v : Int) (text : ByteArray) : StS (A ++ [⟨(p : Int), (cnt p : Int) + 1, (clk p : Int) + 1 + d, v, none, 0, 0, [], text⟩]) (updF clk p (clk p + 1 + d)) (updF cnt p (cnt p + 1)) (n + 1) := by
  have hs := fun q => sub_snoc A ⟨(p : Int), (cnt p : Int) + 1, (clk p : Int) + 1 + d, v, none, 0, 0, [], text⟩ p q rfl
  have hc := h.clk p hp
  have mem2 : ∀ {x : Mg} {P : Mg → Prop}, x ∈ A ++ [⟨(p : Int), (cnt p : Int) + 1, (clk p : Int) + 1 + d, v, none, 0, 0, [], text⟩] → (∀ y ∈ A, P y) → P ⟨(p : Int), (cnt p : Int) + 1, (clk p : Int) + 1 + d, v, none, 0, 0, [], text⟩ → P x := fun {x P} hx h1 h2 => by
    rcases List.mem_append.1 hx with hx | hx
    · exact h1 x hx
    · rw [List.mem_singleton.1 hx]; exact h2
  refine ⟨fun x hx => mem2 (P := fun x => strip x = x) hx h.self rfl, fun x hx => mem2 (P := fun x => ∃ p : Nat, p < 4 ∧ x.f = (p : Int)) hx h.frm ⟨p, hp, rfl⟩, fun q hq i x hx => ?_, fun q hq => ?_, fun x hx => mem2 (P := fun x => 0 < x.s) hx h.s0 (show (0 : Int) < (clk p : Int) + 1 + d by omega), fun x hx => mem2 (P := fun x => x.s ≤ 3 * ((n + 1 : Nat) : Int)) hx (fun y hy => by have := h.top y hy; omega) (show (clk p : Int) + 1 + d ≤ 3 * ((n + 1 : Nat) : Int) by omega), fun q hq x hx => ?_, fun q hq => ?_, fun q hq => ?_, by rw [List.length_append, h.len]; rfl, fun x hx => mem2 (P := fun x => x.dl = 0 ∧ x.deps = []) hx h.dep ⟨rfl, rfl⟩⟩
  · rw [hs] at hx
    by_cases e : q = p
    · rw [if_pos e] at hx
      subst e
      by_cases hi : i < (sub A q).length
      · rw [List.getElem?_append_left hi] at hx; exact h.num q hq i x hx
      · have hi2 := (List.getElem?_eq_some_iff.1 hx).1
        rw [List.length_append, List.length_singleton] at hi2
        have hi3 : i = (sub A q).length := by omega
        subst hi3
        rw [List.getElem?_append_right (Nat.le_refl _), Nat.sub_self] at hx
        have hx' : (⟨(q : Int), (cnt q : Int) + 1, (clk q : Int) + 1 + d, v, none, 0, 0, [], text⟩ : Mg) = x := by simpa using hx
        rw [← hx']
        show (cnt q : Int) + 1 = ((sub A q).length : Int) + 1
        rw [h.cnt q hq]
    · rw [if_neg e] at hx; exact h.num q hq i x hx
  · rw [hs]
    by_cases e : q = p
    · rw [if_pos e]
      subst e
      refine List.pairwise_append.2 ⟨h.ris q hq, List.pairwise_singleton _ _, fun x hx y hy => ?_⟩
      rw [List.mem_singleton.1 hy]
      have := h.low q hq x hx
      show x.s < (clk q : Int) + 1 + d
      omega
    · rw [if_neg e]; exact h.ris q hq
  · rw [hs] at hx
    by_cases e : q = p
    · rw [if_pos e] at hx
      subst e
      rw [updF_same]
      rcases List.mem_append.1 hx with hx | hx
      · have := h.low q hq x hx; omega
      · rw [List.mem_singleton.1 hx]
        show (clk q : Int) + 1 + d ≤ ((clk q + 1 + d : Nat) : Int)
        omega
    · rw [if_neg e] at hx
      rw [updF_other _ _ _ _ e]
      exact h.low q hq x hx
  · by_cases e : q = p
    · subst e; rw [updF_same]; omega
    · rw [updF_other _ _ _ _ e]; have := h.clk q hq; omega
  · rw [hs]
    by_cases e : q = p
    · subst e; rw [updF_same, if_pos rfl, List.length_append, h.cnt q hq]; rfl
    · rw [updF_other _ _ _ _ e, if_neg e]; exact h.cnt q hq
end
/-- What stands amid stamped. -/
structure StW (w wr : World) (v : Value) (n : Nat) (A : List Mg) (cb nb : Nat) (clk cnt : Nat → Nat) : Prop where
  st : StS A clk cnt n
  own : wr.ownsRow w.heap.size 47 6 v n (flat encG A)
  bel : Below w.heap.size w wr
  ocb : Own wr cb 118 (cells4 .u64 clk).toArray
  onb : Own wr nb 74 (cells4 .u32 cnt).toArray
  c0 : w.heap.size ≤ cb
  n0 : w.heap.size ≤ nb
theorem Own.ne_ty {w : World} {g j : Nat} {t u : TypeId} {cs ds : Array Value} (h : Own w g t cs) (k : Own w j u ds) (ht : t ≠ u) : g ≠ j := by
  rintro rfl
  have := h.is.symm.trans k.is
  injection this with e
  injection e with _ e _
  exact ht e
section
variable {w wr w' : World} {v : Value} {n : Nat} {A : List Mg} {cb nb : Nat} {clk cnt : Nat → Nat}
theorem StW.later (h : StW w wr v n A cb nb clk cnt) (hb : Below wr.heap.size wr w') : StW w w' v n A cb nb clk cnt :=
  ⟨h.st, own_later h.own hb, h.bel.trans (hb.mono h.bel.size), h.ocb.below hb h.ocb.lt, h.onb.below hb h.onb.lt, h.c0, h.n0⟩
theorem own_ne {g : Nat} {t : TypeId} {cs : Array Value} {base m : Nat} {xs : List Value} (h : wr.ownsRow base 47 6 v m xs) (k : Own wr g t cs) (ht : t ≠ 47) : some g ≠ v.ownBlock := fun e => by
  obtain ⟨_, cur, hc⟩ := own_typ h g e
  have := k.is.symm.trans hc
  injection this with e
  injection e with _ e _
  exact ht e
theorem StW.clock (h : StW w wr v n A cb nb clk cnt) (p c : Nat) (hp : p < 4) (h1 : clk p ≤ c) (h2 : c ≤ 3 * n) : StW w (wr.setCell ⟨cb, p, none⟩ (.int .u64 (c : Int))) v n A cb nb (updF clk p c) cnt := by
  have hg := grown_set13 wr cb p (.int .u64 (c : Int))
  have ho := h.ocb.set p (.int .u64 (c : Int))
  rw [cells4_set _ _ _ _ hp] at ho
  refine ⟨h.st.clock p c h1 h2, own_kept h.own fun k hk => hg.block k (own_ltD h.own k hk) (fun e => own_ne h.own h.ocb (by decide) (by rw [← e]; exact hk)), h.bel.grown hg h.bel.size (fun k e => by cases e; exact h.c0), ho, ?_, h.c0, h.n0⟩
  exact h.onb.set_other cb p _ (h.onb.ne_ty h.ocb (by decide))
end
/-- The memory alone. -/
structure StV (w wr : World) (v : Value) (n : Nat) (A : List Mg) (cb nb : Nat) (cc nn : Nat → Nat) : Prop where
  own : wr.ownsRow w.heap.size 47 6 v n (flat encG A)
  bel : Below w.heap.size w wr
  ocb : Own wr cb 118 (cells4 .u64 cc).toArray
  onb : Own wr nb 74 (cells4 .u32 nn).toArray
  c0 : w.heap.size ≤ cb
  n0 : w.heap.size ≤ nb
section
variable {w wr w' : World} {v : Value} {n : Nat} {A : List Mg} {cb nb : Nat} {clk cnt : Nat → Nat}
theorem StW.memV (h : StW w wr v n A cb nb clk cnt) : StV w wr v n A cb nb clk cnt := ⟨h.own, h.bel, h.ocb, h.onb, h.c0, h.n0⟩
theorem StV.whole (h : StV w wr v n A cb nb clk cnt) (k : StS A clk cnt n) : StW w wr v n A cb nb clk cnt := ⟨k, h.own, h.bel, h.ocb, h.onb, h.c0, h.n0⟩
theorem StV.later (h : StV w wr v n A cb nb clk cnt) (hb : Below wr.heap.size wr w') : StV w w' v n A cb nb clk cnt :=
  ⟨own_later h.own hb, h.bel.trans (hb.mono h.bel.size), h.ocb.below hb h.ocb.lt, h.onb.below hb h.onb.lt, h.c0, h.n0⟩
theorem StV.clock (h : StV w wr v n A cb nb clk cnt) (p c : Nat) (hp : p < 4) : StV w (wr.setCell ⟨cb, p, none⟩ (.int .u64 (c : Int))) v n A cb nb (updF clk p c) cnt := by
  have hg := grown_set13 wr cb p (.int .u64 (c : Int))
  have ho := h.ocb.set p (.int .u64 (c : Int))
  rw [cells4_set _ _ _ _ hp] at ho
  refine ⟨own_kept h.own fun k hk => hg.block k (own_ltD h.own k hk) (fun e => own_ne h.own h.ocb (by decide) (by rw [← e]; exact hk)), h.bel.grown hg h.bel.size (fun k e => by cases e; exact h.c0), ho, ?_, h.c0, h.n0⟩
  exact h.onb.set_other cb p _ (h.onb.ne_ty h.ocb (by decide))
theorem StV.count (h : StV w wr v n A cb nb clk cnt) (p c : Nat) (hp : p < 4) : StV w (wr.setCell ⟨nb, p, none⟩ (.int .u32 (c : Int))) v n A cb nb clk (updF cnt p c) := by
  have hg := grown_set13 wr nb p (.int .u32 (c : Int))
  have ho := h.onb.set p (.int .u32 (c : Int))
  rw [cells4_set _ _ _ _ hp] at ho
  refine ⟨own_kept h.own fun k hk => hg.block k (own_ltD h.own k hk) (fun e => own_ne h.own h.onb (by decide) (by rw [← e]; exact hk)), h.bel.grown hg h.bel.size (fun k e => by cases e; exact h.n0), ?_, ho, h.c0, h.n0⟩
  exact h.ocb.set_other nb p _ (h.ocb.ne_ty h.onb (by decide))
/-- A message behind the row. -/
theorem StV.app (h : StV w wr v n A cb nb clk cnt) {v' : Value} {m : Nat} {B : List Mg} (ho : w'.ownsRow w.heap.size 47 6 v' m (flat encG B)) (hg : wr.grownBy w' v.ownBlock) : StV w w' v' m B cb nb clk cnt :=
  ⟨ho, h.bel.grown hg h.bel.size (fun k e => own_behind h.own k e), h.ocb.grown hg (own_ne h.own h.ocb (by decide)), h.onb.grown hg (own_ne h.own h.onb (by decide)), h.c0, h.n0⟩
end
theorem wrap_u64 (z : Int) : IntKind.u64.wrap z = z % 18446744073709551616 := by
  simp [IntKind.wrap, IntKind.bits, IntKind.signed]
theorem wrap_i64_small (d : Nat) (h : d < 100) : IntKind.i64.wrap (d : Int) = (d : Int) := by
  simp [IntKind.wrap, IntKind.bits, IntKind.signed]; omega
/-- What is left of an int, as a number without a sign. -/
theorem umod (z k : Int) (hk : 0 < k) (hk2 : k ≤ 100) : ∃ d : Nat, (IntKind.u64.wrap z).tmod k = (d : Int) ∧ (d : Int) < k ∧ wrap64 (d : Int) = (d : Int) := by
  rw [wrap_u64]
  have h0 : 0 ≤ z % 18446744073709551616 := Int.emod_nonneg _ (by decide)
  have h1 := Int.emod_nonneg (z % 18446744073709551616) (show k ≠ 0 by omega)
  have h2 := Int.emod_lt_of_pos (z % 18446744073709551616) hk
  refine ⟨((z % 18446744073709551616) % k).toNat, ?_, by omega, ?_⟩
  · rw [Int.tmod_eq_emod_of_nonneg h0]; omega
  · have h3 : ((((z % 18446744073709551616) % k).toNat : Nat) : Int) < 100 := by omega
    generalize ((z % 18446744073709551616) % k).toNat = d at h3 ⊢
    unfold wrap64
    omega
theorem and1_u8 (a : Nat) (ha : a < 256) : bits .and .u8 (a : Int) 1 = ((a % 2 : Nat) : Int) := by
  have h1 : (BitVec.ofInt 8 (a : Int)).toNat = a := by
    rw [BitVec.ofInt_natCast, BitVec.toNat_ofNat]; exact Nat.mod_eq_of_lt (by omega)
  show IntKind.u8.wrap ((BitVec.ofInt 8 (a : Int) &&& BitVec.ofInt 8 1).toNat : Int) = _
  rw [BitVec.toNat_and, h1, show (BitVec.ofInt 8 1).toNat = 1 by decide, Nat.and_one_is_mod, IntKind.wrap_u8']
  omega
theorem and_bit8 (s k : Nat) (hs : s < 256) : bits .and .u8 ((s : Int) / 2 ^ k) 1 = 0 ∨ bits .and .u8 ((s : Int) / 2 ^ k) 1 = 1 := by
  have e1 : ((s : Int) / 2 ^ k) = ((s / 2 ^ k : Nat) : Int) := by rw [Int.natCast_ediv, Int.natCast_pow]; rfl
  rw [e1, and1_u8 _ (Nat.lt_of_le_of_lt (Nat.div_le_self _ _) hs)]
  omega
/-- What stamped answers. -/
def StampSaid (w : World) (n : Nat) (e : Ending) (w' : World) : Prop := ∃ a c A clk cnt, e = .returned (.slice a n c) ∧ w'.ownsRow w.heap.size 47 6 (.slice a n c) n (flat encG A) ∧ StS A clk cnt n ∧ Below w.heap.size w w'
set_option maxHeartbeats 8000000 in
theorem ostamped (ao : Option Addr) (len cap : Nat) (l : List Sn) (bo : Option Addr) (blen bcap : Nat) (bs : List Nat) (w : World) (hl : Lst encS 4 w ao len l) (hb : InO w bo blen bs) (hlen : len ≤ 30) (hok : ∀ x ∈ l, x.ok) :
    Calls Try.prog 21 #[.slice ao len cap, .slice bo blen bcap] w (StampSaid w len) := by
  have HL := Lib.hid hl
  have HB := Lib.hid hb
  have HOK := Lib.hid hok
  have W0 : Hid (StW w ((w.alloc (.cells #[.int .u64 0, .int .u64 0, .int .u64 0, .int .u64 0] 118)).alloc (.cells #[.int .u32 0, .int .u32 0, .int .u32 0, .int .u32 0] 74)) (.slice none 0 0) 0 [] w.heap.size (w.heap.size + 1) (fun _ => 0) (fun _ => 0)) := Lib.hid (by
    have L := ((Grw.refl w).alloc (.cells #[.int .u64 0, .int .u64 0, .int .u64 0, .int .u64 0] 118))
    have V := Own.new w 118 #[.int .u64 0, .int .u64 0, .int .u64 0, .int .u64 0]
    have U := Own.new (w.alloc (.cells #[.int .u64 0, .int .u64 0, .int .u64 0, .int .u64 0] 118)) 74 #[.int .u32 0, .int .u32 0, .int .u32 0, .int .u32 0]
    rw [show (w.alloc (.cells #[.int .u64 0, .int .u64 0, .int .u64 0, .int .u64 0] 118)).heap.size = w.heap.size + 1 by simp] at U
    exact ⟨StS.start, World.ownsRow_nil _ _ _ _, (L.alloc _).below, V.below ((Grw.refl _).alloc _).below V.lt, U, Nat.le_refl _, Nat.le_succ _⟩)
  clear hl hb hok
  go_enter Try.func21, Try.ntmps21
  go_wp2_with fail
  obtain ⟨cb, hcb⟩ : ∃ cb, cb = w.heap.size := ⟨_, rfl⟩
  obtain ⟨nb, hnb⟩ : ∃ nb, nb = w.heap.size + 1 := ⟨_, rfl⟩
  rw [← hnb, ← hcb] at W0
  try rw [← hnb]
  try rw [← hcb]
  clear hnb hcb
  generalize (w.alloc (.cells #[.int .u64 0, .int .u64 0, .int .u64 0, .int .u64 0] 118)).alloc (.cells #[.int .u32 0, .int .u32 0, .int .u32 0, .int .u32 0] 74) = w1 at *
  go_loopw [5, 8] (fun so si wr => ∃ (i : Nat) (a : Option Addr) (c : Nat) (A : List Mg) (clk cnt : Nat → Nat), i ≤ len ∧ si = .int .i64 i ∧ so = .slice a i c ∧ Hid (StW w wr (.slice a i c) i A cb nb clk cnt)) (fun _ si _ => len - (intOf si).toNat)
  case atStart => exact ⟨0, none, 0, [], _, _, Nat.zero_le _, rfl, rfl, W0⟩
  case round =>
    clear W0
    obtain ⟨i, a, c, A, clk, cnt, hi, rfl, rfl, HS⟩ := hrel
    by_cases hlt : i < len
    · obtain ⟨b, o, hao, hr⟩ := HL.out.src (show 0 < len by omega)
      subst hao
      obtain ⟨x, hx⟩ : ∃ x, l[i]? = some x := ⟨_, List.getElem?_eq_getElem (by rw [HL.out.size]; exact hlt)⟩
      have hxo := HOK.out x (List.mem_of_getElem? hx)
      have hc := hr i x hx
      have c0 := cell_later HS.out.bel (hc 0 _ rfl)
      rw [Nat.add_zero] at c0
      have HC := Lib.hid hc
      obtain ⟨p, hp1, hp2, hp3⟩ := umod x.frm 4 (by decide) (by decide)
      have hp4 : p < 4 := by omega
      have hp' : (p : Int) < 4 := by omega
      clear hc hx hr hp2
      go_wp2_with fail
      go_loopw [10] (fun ki wv => ∃ (k : Nat) (clk' : Nat → Nat), k ≤ i ∧ ki = .int .i64 k ∧ Hid (StW w wv (.slice a i c) i A cb nb clk' cnt)) (fun ki _ => i - (intOf ki).toNat)
      case atStart => exact ⟨0, clk, Nat.zero_le _, rfl, HS⟩
      case round =>
        clear HS
        obtain ⟨k, clk, hk, rfl, HS⟩ := hrel
        by_cases hki : k < i
        · by_cases hib : i < blen
          · obtain ⟨y, hy⟩ : ∃ y, A[k]? = some y := ⟨_, List.getElem?_eq_getElem (by rw [HS.out.st.len]; exact hki)⟩
            obtain ⟨sb, hsb⟩ : ∃ sb, bs[i]? = some sb := ⟨_, List.getElem?_eq_getElem (by rw [HB.out.size]; exact hib)⟩
            obtain ⟨b2, o2, e2, hcb⟩ := HB.out.src i sb hsb
            subst e2
            replace hcb := cell_later HS.out.bel hcb
            obtain ⟨ad, o3, e3, hr3⟩ := (own_lst' encG_length HS.out.st.len HS.out.own).src (show 0 < i by omega)
            subst e3
            have hcy := hr3 k y hy 2 _ rfl
            have hcp := HS.out.ocb.at_ p _ (cells4_at .u64 clk p hp4)
            obtain ⟨d, hm1, hm2⟩ : ∃ d : Nat, (k : Int).tmod 8 = (d : Int) ∧ d < 8 := ⟨k % 8, by rw [Int.tmod_eq_emod_of_nonneg (by omega)]; omega, by omega⟩
            have hm3 : min d 8 = d := by omega
            have hbit := and_bit8 sb d (HB.out.bd sb (List.mem_of_getElem? hsb))
            have ys0 := HS.out.st.s0 y (List.mem_of_getElem? hy)
            have ys1 := HS.out.st.top y (List.mem_of_getElem? hy)
            have HYS := Lib.hid ys0
            have HYT := Lib.hid ys1
            clear hsb hr3 ys0 ys1
            rcases hbit with hbit | hbit
            · go_upto_region 11 with fail
              go_quiet (fail)
              have HX := Lib.hid (HS.out.later ((Grw.refl wr).drewN nq).below)
              clear HS
              go_wp2_with fail
              go_roundw
              case rel => exact ⟨k + 1, clk, by omega, by go_num, HX⟩
              case measure => simp [intOf]; omega
            · obtain ⟨ys, hys⟩ : ∃ ys : Nat, y.s = (ys : Int) := ⟨y.s.toNat, by have := HYS.out; omega⟩
              obtain ⟨yf, yq, ysx, yv, ya, ydl, ydc, ydeps, ytext⟩ := y
              simp only at hys
              subst hys
              replace hcy : wr.cell? ⟨ad, o3 + k * 6 + 2, none⟩ = some (.int .u64 (ys : Int)) := hcy
              by_cases hgt : clk p < ys
              · have hgt2 : (clk p : Int) < (ys : Int) := by omega
                have hd : decide ((clk p : Int) < (ys : Int)) = true := decide_eq_true hgt2
                have hle : ys ≤ 3 * i := by have := HYT.out; simp only at this; omega
                go_upto_region 11 with fail
                go_quiet (fail)
                have HV := HS.out.later ((Grw.refl wr).drewN nq).below
                have e5 : (wr.drewN nq).cell? ⟨ad, o3 + k * 6 + 2, none⟩ = some (.int .u64 (ys : Int)) := hcy
                have e6 : (wr.drewN nq).cell? ⟨cb, p, none⟩ = some (.int .u64 (clk p : Int)) := hcp
                have e7 := HV.ocb.free p
                have HX := Lib.hid (HV.clock p ys hp4 (by omega) hle)
                clear HS HV hcp hcy hcb c0
                generalize wr.drewN nq = w4 at *
                go_wp2_with fail
                go_roundw
                case rel => exact ⟨k + 1, _, by omega, by go_num, HX⟩
                case measure => simp [intOf]; omega
              · have hgt2 : ¬ (clk p : Int) < (ys : Int) := by omega
                have hd : decide ((clk p : Int) < (ys : Int)) = false := decide_eq_false hgt2
                go_upto_region 11 with fail
                go_quiet (fail)
                have HX := Lib.hid (HS.out.later ((Grw.refl wr).drewN nq).below)
                clear HS
                go_wp2_with fail
                go_roundw
                case rel => exact ⟨k + 1, clk, by omega, by go_num, HX⟩
                case measure => simp [intOf]; omega
          · go_wp2_with fail
            obtain ⟨d, hd1, hd2, hd3⟩ := umod x.later 3 (by decide) (by decide)
            obtain ⟨sv, hsv1, hsv2, hsv3⟩ := umod x.svc 3 (by decide) (by decide)
            have hd4 : d ≤ 2 := by omega
            have hck := HS.out.st.clk p hp4
            have hcn : cnt p ≤ i := by
              have h1 := HS.out.st.cnt p hp4
              have h2 := HS.out.st.len
              have h3 : (sub A p).length ≤ A.length := List.length_filter_le _ _
              omega
            have hw1 : IntKind.u64.wrap ((clk p : Int) + 1) = (clk p : Int) + 1 := by rw [wrap_u64]; omega
            have hw2 : IntKind.u64.wrap ((clk p : Int) + 1 + (d : Int)) = ((clk p + 1 + d : Nat) : Int) := by rw [wrap_u64]; omega
            have hw3 : IntKind.u32.wrap ((cnt p : Int) + 1) = ((cnt p + 1 : Nat) : Int) := by rw [IntKind.wrap_u32']; omega
            have HW4 := Lib.hid (wrap_i64_small sv (Int.ofNat_lt.1 (Int.lt_trans hsv2 (by decide))))
            have HST := Lib.hid (HS.out.st.more p hp4 d hd4 (sv : Int) x.pay)
            have HV := Lib.hid (HS.out.memV)
            clear HS hck hcn hd2 hsv2 hd4
            have c1 := cell_later HV.out.bel (HC.out 1 _ rfl)
            have c2 := cell_later HV.out.bel (HC.out 2 _ rfl)
            have c3 := cell_later HV.out.bel (HC.out 3 _ rfl)
            have hcp := HV.out.ocb.at_ p _ (cells4_at .u64 clk p hp4)
            have hfp := HV.out.ocb.free p
            go_upto_region 13 with fail
            go_still_tail 14, (by kernel_rfl)
            change wpList _ _ _ _ _ (wr.drewN 1)
            have hcp : (wr.drewN 1).cell? ⟨cb, p, none⟩ = some (.int .u64 (clk p : Int)) := hcp
            have hfp : (wr.drewN 1).frozen? ⟨cb, p, none⟩ = false := hfp
            have HX0 := ((HV.out.later ((Grw.refl wr).drewN 1).below).clock p (clk p + 1 + d) hp4)
            rw [show ((clk p + 1 + d : Nat) : Int) = (clk p : Int) + 1 + (d : Int) by omega] at HX0
            have HX := Lib.hid HX0
            clear HV HX0 c1 c2 c3
            generalize wr.drewN 1 = w4 at *
            go_upto_region 14 with fail
            obtain ⟨q, hq⟩ : ∃ q, q = clk p + 1 + d := ⟨_, rfl⟩
            rw [← hq] at HST
            have hqi : (clk p : Int) + 1 + (d : Int) = (q : Int) := by omega
            try rw [hqi]
            rw [hqi, ← hq] at HX
            clear hw1 hw2 hcp hfp
            generalize w4.setCell ⟨cb, p, none⟩ (.int .u64 (q : Int)) = w5 at *
            have hcp := HX.out.onb.at_ p _ (cells4_at .u32 cnt p hp4)
            have hfp := HX.out.onb.free p
            have HY0 := HX.out.count p (cnt p + 1) hp4
            rw [show ((cnt p + 1 : Nat) : Int) = (cnt p : Int) + 1 by omega] at HY0
            have HY := Lib.hid HY0
            clear HX HY0
            go_upto_region 15 with fail
            obtain ⟨r, hr⟩ : ∃ r, r = cnt p + 1 := ⟨_, rfl⟩
            have hri : (cnt p : Int) + 1 = (r : Int) := by omega
            rw [hqi, hri, ← hr] at HST
            rw [hri, ← hr] at HY
            try rw [hri]
            clear hcp hfp hqi hw3 hri hr hq
            generalize w5.setCell ⟨nb, p, none⟩ (.int .u32 (r : Int)) = w6 at *
            have S7 := Lib.hid (HY.out.later (Grw.refl w6).drew.below)
            clear HY
            refine wp_region_held_drew (S := fun w' => Below w.heap.size w w' ∧ Own w' cb 118 (cells4 .u64 (updF clk p q)).toArray ∧ Own w' nb 74 (cells4 .u32 (updF cnt p r)).toArray) (by kernel_rfl) ⟨S7.out.bel, S7.out.ocb, S7.out.onb⟩ (fun hHeld => ?_)
            generalize w6.drew = w7 at *
            refine stake (i := 0) (v := (.slice a i c)) 83 rfl (by kernel_rfl) (by kernel_rfl) (by kernel_rfl) (by kernel_rfl) (fun _ _ _ h => h) (.inl ⟨by kernel_rfl, fun w' hS => by (go_simp)⟩) hHeld ?_
            (try simp only [Act.put, List.setIfInBounds_toArray, List.set_cons_zero, List.set_cons_succ])
            refine stake (i := 1) (v := (.int .i64 (p : Int))) 84 rfl (by kernel_rfl) (by kernel_rfl) (by kernel_rfl) (by kernel_rfl) (fun _ _ _ h => h) (.inl ⟨by kernel_rfl, fun w' hS => by (go_simp)⟩) hHeld ?_
            (try simp only [Act.put, List.setIfInBounds_toArray, List.set_cons_zero, List.set_cons_succ])
            refine stake (i := 2) (v := (.int .i64 (p : Int))) 85 rfl (by kernel_rfl) (by kernel_rfl) (by kernel_rfl) (by kernel_rfl) (fun _ _ _ h => h) (.inl ⟨by kernel_rfl, fun w' hS => by (go_simp)⟩) hHeld ?_
            (try simp only [Act.put, List.setIfInBounds_toArray, List.set_cons_zero, List.set_cons_succ])
            refine stake (i := 3) (v := (.pointer (some ⟨nb, p, none⟩))) 86 rfl (by kernel_rfl) (by kernel_rfl) (by kernel_rfl) (by kernel_rfl) (fun _ _ _ h => h) (.inl ⟨by kernel_rfl, fun w' hS => by (go_simp)⟩) hHeld ?_
            (try simp only [Act.put, List.setIfInBounds_toArray, List.set_cons_zero, List.set_cons_succ])
            refine stake (i := 4) (v := (.int .u32 (r : Int))) 87 rfl (by kernel_rfl) (by kernel_rfl) (by kernel_rfl) (by kernel_rfl) (fun _ _ _ h => h) (.inl ⟨by kernel_rfl, fun w' hS => by (have hc := hS.2.2.at_ p _ (cells4_at .u32 _ p hp4); rw [updF_same] at hc; go_simp)⟩) hHeld ?_
            (try simp only [Act.put, List.setIfInBounds_toArray, List.set_cons_zero, List.set_cons_succ])
            refine stake (i := 5) (v := (.int .i64 (p : Int))) 88 rfl (by kernel_rfl) (by kernel_rfl) (by kernel_rfl) (by kernel_rfl) (fun _ _ _ h => h) (.inl ⟨by kernel_rfl, fun w' hS => by (go_simp)⟩) hHeld ?_
            (try simp only [Act.put, List.setIfInBounds_toArray, List.set_cons_zero, List.set_cons_succ])
            refine stake (i := 6) (v := (.pointer (some ⟨cb, p, none⟩))) 89 rfl (by kernel_rfl) (by kernel_rfl) (by kernel_rfl) (by kernel_rfl) (fun _ _ _ h => h) (.inl ⟨by kernel_rfl, fun w' hS => by (go_simp)⟩) hHeld ?_
            (try simp only [Act.put, List.setIfInBounds_toArray, List.set_cons_zero, List.set_cons_succ])
            refine stake (i := 7) (v := (.int .u64 (q : Int))) 90 rfl (by kernel_rfl) (by kernel_rfl) (by kernel_rfl) (by kernel_rfl) (fun _ _ _ h => h) (.inl ⟨by kernel_rfl, fun w' hS => by (have hc := hS.2.1.at_ p _ (cells4_at .u64 _ p hp4); rw [updF_same] at hc; go_simp)⟩) hHeld ?_
            (try simp only [Act.put, List.setIfInBounds_toArray, List.set_cons_zero, List.set_cons_succ])
            refine stake (i := 8) (v := (.slice (some ⟨b, o, none⟩) len cap)) 91 rfl (by kernel_rfl) (by kernel_rfl) (by kernel_rfl) (by kernel_rfl) (fun _ _ _ h => h) (.inl ⟨by kernel_rfl, fun w' hS => by (go_simp)⟩) hHeld ?_
            (try simp only [Act.put, List.setIfInBounds_toArray, List.set_cons_zero, List.set_cons_succ])
            refine stake (i := 9) (v := (.int .i64 (i : Int))) 92 rfl (by kernel_rfl) (by kernel_rfl) (by kernel_rfl) (by kernel_rfl) (fun _ _ _ h => h) (.inl ⟨by kernel_rfl, fun w' hS => by (go_simp)⟩) hHeld ?_
            (try simp only [Act.put, List.setIfInBounds_toArray, List.set_cons_zero, List.set_cons_succ])
            refine stake (i := 10) (v := (.pointer (some ⟨b, o + i * 4, none⟩))) 93 rfl (by kernel_rfl) (by kernel_rfl) (by kernel_rfl) (by kernel_rfl) (fun _ _ _ h => h) (.inl ⟨by kernel_rfl, fun w' hS => by (go_simp)⟩) hHeld ?_
            (try simp only [Act.put, List.setIfInBounds_toArray, List.set_cons_zero, List.set_cons_succ])
            refine stake (i := 11) (v := (.pointer (some ⟨b, o + i * 4 + 2, none⟩))) 94 rfl (by kernel_rfl) (by kernel_rfl) (by kernel_rfl) (by kernel_rfl) (fun _ _ _ h => h) (.inl ⟨by kernel_rfl, fun w' hS => by (go_simp)⟩) hHeld ?_
            (try simp only [Act.put, List.setIfInBounds_toArray, List.set_cons_zero, List.set_cons_succ])
            refine stake (i := 12) (v := (.int .i64 x.svc)) 95 rfl (by kernel_rfl) (by kernel_rfl) (by kernel_rfl) (by kernel_rfl) (fun _ _ _ h => h) (.inl ⟨by kernel_rfl, fun w' hS => by (have hc := cell_later hS.1 (HC.out 2 _ rfl); go_simp)⟩) hHeld ?_
            (try simp only [Act.put, List.setIfInBounds_toArray, List.set_cons_zero, List.set_cons_succ])
            refine stake (i := 13) (v := (.int .u64 (IntKind.u64.wrap x.svc))) 96 rfl (by kernel_rfl) (by kernel_rfl) (by kernel_rfl) (by kernel_rfl) (fun _ _ _ h => h) (.inl ⟨by kernel_rfl, fun w' hS => by (go_simp)⟩) hHeld ?_
            (try simp only [Act.put, List.setIfInBounds_toArray, List.set_cons_zero, List.set_cons_succ])
            refine stake (i := 14) (v := (.int .u64 (sv : Int))) 97 rfl (by kernel_rfl) (by kernel_rfl) (by kernel_rfl) (by kernel_rfl) (fun _ _ _ h => h) (.inl ⟨by kernel_rfl, fun w' hS => by (go_simp)⟩) hHeld ?_
            (try simp only [Act.put, List.setIfInBounds_toArray, List.set_cons_zero, List.set_cons_succ])
            refine stake (i := 15) (v := (.int .i64 (sv : Int))) 98 rfl (by kernel_rfl) (by kernel_rfl) (by kernel_rfl) (by kernel_rfl) (fun _ _ _ h => h) (.inl ⟨by kernel_rfl, fun w' hS => by (go_simp; exact HW4.out)⟩) hHeld ?_
            (try simp only [Act.put, List.setIfInBounds_toArray, List.set_cons_zero, List.set_cons_succ])
            refine stake (i := 16) (v := (.slice (some ⟨b, o, none⟩) len cap)) 99 rfl (by kernel_rfl) (by kernel_rfl) (by kernel_rfl) (by kernel_rfl) (fun _ _ _ h => h) (.inl ⟨by kernel_rfl, fun w' hS => by (go_simp)⟩) hHeld ?_
            (try simp only [Act.put, List.setIfInBounds_toArray, List.set_cons_zero, List.set_cons_succ])
            refine stake (i := 17) (v := (.int .i64 (i : Int))) 100 rfl (by kernel_rfl) (by kernel_rfl) (by kernel_rfl) (by kernel_rfl) (fun _ _ _ h => h) (.inl ⟨by kernel_rfl, fun w' hS => by (go_simp)⟩) hHeld ?_
            (try simp only [Act.put, List.setIfInBounds_toArray, List.set_cons_zero, List.set_cons_succ])
            refine stake (i := 18) (v := (.pointer (some ⟨b, o + i * 4, none⟩))) 101 rfl (by kernel_rfl) (by kernel_rfl) (by kernel_rfl) (by kernel_rfl) (fun _ _ _ h => h) (.inl ⟨by kernel_rfl, fun w' hS => by (go_simp)⟩) hHeld ?_
            (try simp only [Act.put, List.setIfInBounds_toArray, List.set_cons_zero, List.set_cons_succ])
            refine stake (i := 19) (v := (.pointer (some ⟨b, o + i * 4 + 3, none⟩))) 102 rfl (by kernel_rfl) (by kernel_rfl) (by kernel_rfl) (by kernel_rfl) (fun _ _ _ h => h) (.inl ⟨by kernel_rfl, fun w' hS => by (go_simp)⟩) hHeld ?_
            (try simp only [Act.put, List.setIfInBounds_toArray, List.set_cons_zero, List.set_cons_succ])
            refine stake (i := 20) (v := (.string x.pay)) 103 rfl (by kernel_rfl) (by kernel_rfl) (by kernel_rfl) (by kernel_rfl) (fun _ _ _ h => h) (.inl ⟨by kernel_rfl, fun w' hS => by (have hc := cell_later hS.1 (HC.out 3 _ rfl); go_simp)⟩) hHeld ?_
            (try simp only [Act.put, List.setIfInBounds_toArray, List.set_cons_zero, List.set_cons_succ])
            refine stake (i := 21) (v := (.agg #[.int .i64 (p : Int), .int .u32 (r : Int), .int .u64 (q : Int), .int .i64 (sv : Int), .slice none 0 0, .string x.pay])) 104 rfl (by kernel_rfl) (by kernel_rfl) (by kernel_rfl) (by kernel_rfl) (fun _ _ _ h => h) (.inl ⟨by kernel_rfl, fun w' hS => by (go_simp)⟩) hHeld ?_
            (try simp only [Act.put, List.setIfInBounds_toArray, List.set_cons_zero, List.set_cons_succ])
            refine wpAnyH_ready (rs := [22]) (by kernel_rfl) (by simp) (AllReadyH.cons rfl (fun K hK => ?_) AllReadyH.nil)
            clear hHeld
            rw [if_pos (by kernel_rfl)]
            go_simp
            have H4 := Lib.hid (S7.out.later ((Grw.refl w7).alloc (.cells #[.int .i64 (p : Int), .int .u32 (r : Int), .int .u64 (q : Int), .int .i64 (sv : Int), .slice none 0 0, .string x.pay] 47)).below)
            have HX4 := Lib.hid (lst_one (MgB.new w7 ⟨(p : Int), (r : Int), (q : Int), (sv : Int), none, 0, 0, [], x.pay⟩))
            refine hK.out _ _ ⟨H4.out.bel, H4.out.ocb, H4.out.onb⟩ (fun hHeld => ?_)
            clear hK K S7
            (try simp only [Act.put, List.setIfInBounds_toArray, List.set_cons_zero, List.set_cons_succ])
            refine wpAnyH_ready (rs := [23]) (by kernel_rfl) (by simp) (AllReadyH.cons rfl (fun K hK => ?_) AllReadyH.nil)
            clear hHeld
            rw [if_pos (by kernel_rfl)]
            refine wp_append_mg _ (.tmp 83) (.tmp 105) rfl w.heap.size (.slice a i c) i _ rfl H4.out.own (some ⟨w7.heap.size, 0, none⟩) 1 1 [⟨(p : Int), (r : Int), (q : Int), (sv : Int), none, 0, 0, [], x.pay⟩] rfl (fun e => by cases e) HX4.out (by omega) H4.out.bel.size ?_
            intro v8 w8 h1 h2
            rw [← flat_append] at h1
            have HN := Lib.hid ((H4.out.app h1 h2).whole HST.out)
            obtain ⟨a8, c8, rfl⟩ := own_form' h1
            clear h1 h2 H4 HX4 HST
            refine hK.out _ _ ⟨HN.out.bel, HN.out.ocb, HN.out.onb⟩ (fun hHeld => ?_)
            clear hK K
            (try simp only [Act.put, List.setIfInBounds_toArray, List.set_cons_zero, List.set_cons_succ])
            refine stake (i := 24) (v := (.slice a8 (i + 1) c8)) 5 rfl (by kernel_rfl) (by kernel_rfl) (by kernel_rfl) (by kernel_rfl) (fun _ _ _ h => h) (.inl ⟨by kernel_rfl, fun w' hS => by (go_simp)⟩) hHeld ?_
            (try simp only [Act.put, List.setIfInBounds_toArray, List.set_cons_zero, List.set_cons_succ])
            refine wpAnyH_done (by kernel_rfl) ?_ _
            clear hHeld
            go_wp2_with fail
            go_roundw
            case rel => exact ⟨i + 1, a8, c8, _, _, _, by omega, by go_num, rfl, HN⟩
            case measure => simp [intOf]; omega
        · go_wp2_with fail
          obtain ⟨d, hd1, hd2, hd3⟩ := umod x.later 3 (by decide) (by decide)
          obtain ⟨sv, hsv1, hsv2, hsv3⟩ := umod x.svc 3 (by decide) (by decide)
          have hd4 : d ≤ 2 := by omega
          have hck := HS.out.st.clk p hp4
          have hcn : cnt p ≤ i := by
            have h1 := HS.out.st.cnt p hp4
            have h2 := HS.out.st.len
            have h3 : (sub A p).length ≤ A.length := List.length_filter_le _ _
            omega
          have hw1 : IntKind.u64.wrap ((clk p : Int) + 1) = (clk p : Int) + 1 := by rw [wrap_u64]; omega
          have hw2 : IntKind.u64.wrap ((clk p : Int) + 1 + (d : Int)) = ((clk p + 1 + d : Nat) : Int) := by rw [wrap_u64]; omega
          have hw3 : IntKind.u32.wrap ((cnt p : Int) + 1) = ((cnt p + 1 : Nat) : Int) := by rw [IntKind.wrap_u32']; omega
          have HW4 := Lib.hid (wrap_i64_small sv (Int.ofNat_lt.1 (Int.lt_trans hsv2 (by decide))))
          have HST := Lib.hid (HS.out.st.more p hp4 d hd4 (sv : Int) x.pay)
          have HV := Lib.hid (HS.out.memV)
          clear HS hck hcn hd2 hsv2 hd4
          have c1 := cell_later HV.out.bel (HC.out 1 _ rfl)
          have c2 := cell_later HV.out.bel (HC.out 2 _ rfl)
          have c3 := cell_later HV.out.bel (HC.out 3 _ rfl)
          have hcp := HV.out.ocb.at_ p _ (cells4_at .u64 clk p hp4)
          have hfp := HV.out.ocb.free p
          go_upto_region 13 with fail
          go_still_tail 14, (by kernel_rfl)
          change wpList _ _ _ _ _ (wr.drewN 1)
          have hcp : (wr.drewN 1).cell? ⟨cb, p, none⟩ = some (.int .u64 (clk p : Int)) := hcp
          have hfp : (wr.drewN 1).frozen? ⟨cb, p, none⟩ = false := hfp
          have HX0 := ((HV.out.later ((Grw.refl wr).drewN 1).below).clock p (clk p + 1 + d) hp4)
          rw [show ((clk p + 1 + d : Nat) : Int) = (clk p : Int) + 1 + (d : Int) by omega] at HX0
          have HX := Lib.hid HX0
          clear HV HX0 c1 c2 c3
          generalize wr.drewN 1 = w4 at *
          go_upto_region 14 with fail
          obtain ⟨q, hq⟩ : ∃ q, q = clk p + 1 + d := ⟨_, rfl⟩
          rw [← hq] at HST
          have hqi : (clk p : Int) + 1 + (d : Int) = (q : Int) := by omega
          try rw [hqi]
          rw [hqi, ← hq] at HX
          clear hw1 hw2 hcp hfp
          generalize w4.setCell ⟨cb, p, none⟩ (.int .u64 (q : Int)) = w5 at *
          have hcp := HX.out.onb.at_ p _ (cells4_at .u32 cnt p hp4)
          have hfp := HX.out.onb.free p
          have HY0 := HX.out.count p (cnt p + 1) hp4
          rw [show ((cnt p + 1 : Nat) : Int) = (cnt p : Int) + 1 by omega] at HY0
          have HY := Lib.hid HY0
          clear HX HY0
          go_upto_region 15 with fail
          obtain ⟨r, hr⟩ : ∃ r, r = cnt p + 1 := ⟨_, rfl⟩
          have hri : (cnt p : Int) + 1 = (r : Int) := by omega
          rw [hqi, hri, ← hr] at HST
          rw [hri, ← hr] at HY
          try rw [hri]
          clear hcp hfp hqi hw3 hri hr hq
          generalize w5.setCell ⟨nb, p, none⟩ (.int .u32 (r : Int)) = w6 at *
          have S7 := Lib.hid (HY.out.later (Grw.refl w6).drew.below)
          clear HY
          refine wp_region_held_drew (S := fun w' => Below w.heap.size w w' ∧ Own w' cb 118 (cells4 .u64 (updF clk p q)).toArray ∧ Own w' nb 74 (cells4 .u32 (updF cnt p r)).toArray) (by kernel_rfl) ⟨S7.out.bel, S7.out.ocb, S7.out.onb⟩ (fun hHeld => ?_)
          generalize w6.drew = w7 at *
          refine stake (i := 0) (v := (.slice a i c)) 83 rfl (by kernel_rfl) (by kernel_rfl) (by kernel_rfl) (by kernel_rfl) (fun _ _ _ h => h) (.inl ⟨by kernel_rfl, fun w' hS => by (go_simp)⟩) hHeld ?_
          (try simp only [Act.put, List.setIfInBounds_toArray, List.set_cons_zero, List.set_cons_succ])
          refine stake (i := 1) (v := (.int .i64 (p : Int))) 84 rfl (by kernel_rfl) (by kernel_rfl) (by kernel_rfl) (by kernel_rfl) (fun _ _ _ h => h) (.inl ⟨by kernel_rfl, fun w' hS => by (go_simp)⟩) hHeld ?_
          (try simp only [Act.put, List.setIfInBounds_toArray, List.set_cons_zero, List.set_cons_succ])
          refine stake (i := 2) (v := (.int .i64 (p : Int))) 85 rfl (by kernel_rfl) (by kernel_rfl) (by kernel_rfl) (by kernel_rfl) (fun _ _ _ h => h) (.inl ⟨by kernel_rfl, fun w' hS => by (go_simp)⟩) hHeld ?_
          (try simp only [Act.put, List.setIfInBounds_toArray, List.set_cons_zero, List.set_cons_succ])
          refine stake (i := 3) (v := (.pointer (some ⟨nb, p, none⟩))) 86 rfl (by kernel_rfl) (by kernel_rfl) (by kernel_rfl) (by kernel_rfl) (fun _ _ _ h => h) (.inl ⟨by kernel_rfl, fun w' hS => by (go_simp)⟩) hHeld ?_
          (try simp only [Act.put, List.setIfInBounds_toArray, List.set_cons_zero, List.set_cons_succ])
          refine stake (i := 4) (v := (.int .u32 (r : Int))) 87 rfl (by kernel_rfl) (by kernel_rfl) (by kernel_rfl) (by kernel_rfl) (fun _ _ _ h => h) (.inl ⟨by kernel_rfl, fun w' hS => by (have hc := hS.2.2.at_ p _ (cells4_at .u32 _ p hp4); rw [updF_same] at hc; go_simp)⟩) hHeld ?_
          (try simp only [Act.put, List.setIfInBounds_toArray, List.set_cons_zero, List.set_cons_succ])
          refine stake (i := 5) (v := (.int .i64 (p : Int))) 88 rfl (by kernel_rfl) (by kernel_rfl) (by kernel_rfl) (by kernel_rfl) (fun _ _ _ h => h) (.inl ⟨by kernel_rfl, fun w' hS => by (go_simp)⟩) hHeld ?_
          (try simp only [Act.put, List.setIfInBounds_toArray, List.set_cons_zero, List.set_cons_succ])
          refine stake (i := 6) (v := (.pointer (some ⟨cb, p, none⟩))) 89 rfl (by kernel_rfl) (by kernel_rfl) (by kernel_rfl) (by kernel_rfl) (fun _ _ _ h => h) (.inl ⟨by kernel_rfl, fun w' hS => by (go_simp)⟩) hHeld ?_
          (try simp only [Act.put, List.setIfInBounds_toArray, List.set_cons_zero, List.set_cons_succ])
          refine stake (i := 7) (v := (.int .u64 (q : Int))) 90 rfl (by kernel_rfl) (by kernel_rfl) (by kernel_rfl) (by kernel_rfl) (fun _ _ _ h => h) (.inl ⟨by kernel_rfl, fun w' hS => by (have hc := hS.2.1.at_ p _ (cells4_at .u64 _ p hp4); rw [updF_same] at hc; go_simp)⟩) hHeld ?_
          (try simp only [Act.put, List.setIfInBounds_toArray, List.set_cons_zero, List.set_cons_succ])
          refine stake (i := 8) (v := (.slice (some ⟨b, o, none⟩) len cap)) 91 rfl (by kernel_rfl) (by kernel_rfl) (by kernel_rfl) (by kernel_rfl) (fun _ _ _ h => h) (.inl ⟨by kernel_rfl, fun w' hS => by (go_simp)⟩) hHeld ?_
          (try simp only [Act.put, List.setIfInBounds_toArray, List.set_cons_zero, List.set_cons_succ])
          refine stake (i := 9) (v := (.int .i64 (i : Int))) 92 rfl (by kernel_rfl) (by kernel_rfl) (by kernel_rfl) (by kernel_rfl) (fun _ _ _ h => h) (.inl ⟨by kernel_rfl, fun w' hS => by (go_simp)⟩) hHeld ?_
          (try simp only [Act.put, List.setIfInBounds_toArray, List.set_cons_zero, List.set_cons_succ])
          refine stake (i := 10) (v := (.pointer (some ⟨b, o + i * 4, none⟩))) 93 rfl (by kernel_rfl) (by kernel_rfl) (by kernel_rfl) (by kernel_rfl) (fun _ _ _ h => h) (.inl ⟨by kernel_rfl, fun w' hS => by (go_simp)⟩) hHeld ?_
          (try simp only [Act.put, List.setIfInBounds_toArray, List.set_cons_zero, List.set_cons_succ])
          refine stake (i := 11) (v := (.pointer (some ⟨b, o + i * 4 + 2, none⟩))) 94 rfl (by kernel_rfl) (by kernel_rfl) (by kernel_rfl) (by kernel_rfl) (fun _ _ _ h => h) (.inl ⟨by kernel_rfl, fun w' hS => by (go_simp)⟩) hHeld ?_
          (try simp only [Act.put, List.setIfInBounds_toArray, List.set_cons_zero, List.set_cons_succ])
          refine stake (i := 12) (v := (.int .i64 x.svc)) 95 rfl (by kernel_rfl) (by kernel_rfl) (by kernel_rfl) (by kernel_rfl) (fun _ _ _ h => h) (.inl ⟨by kernel_rfl, fun w' hS => by (have hc := cell_later hS.1 (HC.out 2 _ rfl); go_simp)⟩) hHeld ?_
          (try simp only [Act.put, List.setIfInBounds_toArray, List.set_cons_zero, List.set_cons_succ])
          refine stake (i := 13) (v := (.int .u64 (IntKind.u64.wrap x.svc))) 96 rfl (by kernel_rfl) (by kernel_rfl) (by kernel_rfl) (by kernel_rfl) (fun _ _ _ h => h) (.inl ⟨by kernel_rfl, fun w' hS => by (go_simp)⟩) hHeld ?_
          (try simp only [Act.put, List.setIfInBounds_toArray, List.set_cons_zero, List.set_cons_succ])
          refine stake (i := 14) (v := (.int .u64 (sv : Int))) 97 rfl (by kernel_rfl) (by kernel_rfl) (by kernel_rfl) (by kernel_rfl) (fun _ _ _ h => h) (.inl ⟨by kernel_rfl, fun w' hS => by (go_simp)⟩) hHeld ?_
          (try simp only [Act.put, List.setIfInBounds_toArray, List.set_cons_zero, List.set_cons_succ])
          refine stake (i := 15) (v := (.int .i64 (sv : Int))) 98 rfl (by kernel_rfl) (by kernel_rfl) (by kernel_rfl) (by kernel_rfl) (fun _ _ _ h => h) (.inl ⟨by kernel_rfl, fun w' hS => by (go_simp; exact HW4.out)⟩) hHeld ?_
          (try simp only [Act.put, List.setIfInBounds_toArray, List.set_cons_zero, List.set_cons_succ])
          refine stake (i := 16) (v := (.slice (some ⟨b, o, none⟩) len cap)) 99 rfl (by kernel_rfl) (by kernel_rfl) (by kernel_rfl) (by kernel_rfl) (fun _ _ _ h => h) (.inl ⟨by kernel_rfl, fun w' hS => by (go_simp)⟩) hHeld ?_
          (try simp only [Act.put, List.setIfInBounds_toArray, List.set_cons_zero, List.set_cons_succ])
          refine stake (i := 17) (v := (.int .i64 (i : Int))) 100 rfl (by kernel_rfl) (by kernel_rfl) (by kernel_rfl) (by kernel_rfl) (fun _ _ _ h => h) (.inl ⟨by kernel_rfl, fun w' hS => by (go_simp)⟩) hHeld ?_
          (try simp only [Act.put, List.setIfInBounds_toArray, List.set_cons_zero, List.set_cons_succ])
          refine stake (i := 18) (v := (.pointer (some ⟨b, o + i * 4, none⟩))) 101 rfl (by kernel_rfl) (by kernel_rfl) (by kernel_rfl) (by kernel_rfl) (fun _ _ _ h => h) (.inl ⟨by kernel_rfl, fun w' hS => by (go_simp)⟩) hHeld ?_
          (try simp only [Act.put, List.setIfInBounds_toArray, List.set_cons_zero, List.set_cons_succ])
          refine stake (i := 19) (v := (.pointer (some ⟨b, o + i * 4 + 3, none⟩))) 102 rfl (by kernel_rfl) (by kernel_rfl) (by kernel_rfl) (by kernel_rfl) (fun _ _ _ h => h) (.inl ⟨by kernel_rfl, fun w' hS => by (go_simp)⟩) hHeld ?_
          (try simp only [Act.put, List.setIfInBounds_toArray, List.set_cons_zero, List.set_cons_succ])
          refine stake (i := 20) (v := (.string x.pay)) 103 rfl (by kernel_rfl) (by kernel_rfl) (by kernel_rfl) (by kernel_rfl) (fun _ _ _ h => h) (.inl ⟨by kernel_rfl, fun w' hS => by (have hc := cell_later hS.1 (HC.out 3 _ rfl); go_simp)⟩) hHeld ?_
          (try simp only [Act.put, List.setIfInBounds_toArray, List.set_cons_zero, List.set_cons_succ])
          refine stake (i := 21) (v := (.agg #[.int .i64 (p : Int), .int .u32 (r : Int), .int .u64 (q : Int), .int .i64 (sv : Int), .slice none 0 0, .string x.pay])) 104 rfl (by kernel_rfl) (by kernel_rfl) (by kernel_rfl) (by kernel_rfl) (fun _ _ _ h => h) (.inl ⟨by kernel_rfl, fun w' hS => by (go_simp)⟩) hHeld ?_
          (try simp only [Act.put, List.setIfInBounds_toArray, List.set_cons_zero, List.set_cons_succ])
          refine wpAnyH_ready (rs := [22]) (by kernel_rfl) (by simp) (AllReadyH.cons rfl (fun K hK => ?_) AllReadyH.nil)
          clear hHeld
          rw [if_pos (by kernel_rfl)]
          go_simp
          have H4 := Lib.hid (S7.out.later ((Grw.refl w7).alloc (.cells #[.int .i64 (p : Int), .int .u32 (r : Int), .int .u64 (q : Int), .int .i64 (sv : Int), .slice none 0 0, .string x.pay] 47)).below)
          have HX4 := Lib.hid (lst_one (MgB.new w7 ⟨(p : Int), (r : Int), (q : Int), (sv : Int), none, 0, 0, [], x.pay⟩))
          refine hK.out _ _ ⟨H4.out.bel, H4.out.ocb, H4.out.onb⟩ (fun hHeld => ?_)
          clear hK K S7
          (try simp only [Act.put, List.setIfInBounds_toArray, List.set_cons_zero, List.set_cons_succ])
          refine wpAnyH_ready (rs := [23]) (by kernel_rfl) (by simp) (AllReadyH.cons rfl (fun K hK => ?_) AllReadyH.nil)
          clear hHeld
          rw [if_pos (by kernel_rfl)]
          refine wp_append_mg _ (.tmp 83) (.tmp 105) rfl w.heap.size (.slice a i c) i _ rfl H4.out.own (some ⟨w7.heap.size, 0, none⟩) 1 1 [⟨(p : Int), (r : Int), (q : Int), (sv : Int), none, 0, 0, [], x.pay⟩] rfl (fun e => by cases e) HX4.out (by omega) H4.out.bel.size ?_
          intro v8 w8 h1 h2
          rw [← flat_append] at h1
          have HN := Lib.hid ((H4.out.app h1 h2).whole HST.out)
          obtain ⟨a8, c8, rfl⟩ := own_form' h1
          clear h1 h2 H4 HX4 HST
          refine hK.out _ _ ⟨HN.out.bel, HN.out.ocb, HN.out.onb⟩ (fun hHeld => ?_)
          clear hK K
          (try simp only [Act.put, List.setIfInBounds_toArray, List.set_cons_zero, List.set_cons_succ])
          refine stake (i := 24) (v := (.slice a8 (i + 1) c8)) 5 rfl (by kernel_rfl) (by kernel_rfl) (by kernel_rfl) (by kernel_rfl) (fun _ _ _ h => h) (.inl ⟨by kernel_rfl, fun w' hS => by (go_simp)⟩) hHeld ?_
          (try simp only [Act.put, List.setIfInBounds_toArray, List.set_cons_zero, List.set_cons_succ])
          refine wpAnyH_done (by kernel_rfl) ?_ _
          clear hHeld
          go_wp2_with fail
          go_roundw
          case rel => exact ⟨i + 1, a8, c8, _, _, _, by omega, by go_num, rfl, HN⟩
          case measure => simp [intOf]; omega
    · obtain rfl : i = len := by omega
      have HS0 := HS.out
      clear HS
      go_wp2
      go_ret
      exact ⟨a, c, A, clk, cnt, rfl, HS0.own, HS0.st, HS0.bel⟩
end Go.Proofs.Ytlkmenjalpmipaa
