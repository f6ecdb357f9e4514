/- VoteChain: the walk. (Written by wip/gen_vochain.py.) -/
import Derived.Test.YtlaenabckpjikaaVcKit
set_option linter.unusedVariables false
set_option maxRecDepth 100000
set_option linter.unusedSimpArgs false
namespace Go.Proofs.Ytlaenabckpjikaa
open Go.RowKit Go.Sort Go.Maps

def zeroRc : Rc := ⟨⟨zeroV, []⟩, none, 0, 0⟩
def iniR (k : Nat) : Nat → Rc := fun p => if p < k then firstR 5 else zeroRc
theorem iniR_next (k : Nat) : updR (iniR k) k (firstR 5) = iniR (k + 1) := by
  funext q
  unfold updR iniR
  by_cases h : q = k
  · rw [if_pos h, if_pos (by omega)]
  · rw [if_neg h]
    by_cases h2 : q < k
    · rw [if_pos h2, if_pos (by omega)]
    · rw [if_neg h2, if_neg (by omega)]
theorem iniR_in (k p : Nat) (w : World) : RcIn w (iniR k p) ∧ (iniR k p).p.pend.length ≤ 32 ∧ ∀ ad, (iniR k p).a = some ad → ad.block ≠ 0 ∧ False := by
  unfold iniR
  split
  · exact ⟨firstR_in 5 w, Nat.zero_le _, fun ad e => by cases e⟩
  · exact ⟨⟨⟨⟨rfl, fun h => absurd h (Nat.lt_irrefl 0)⟩, fun v hv => by cases hv⟩, zeroV_ok, fun _ => rfl⟩, Nat.zero_le _, fun ad e => by cases e⟩
theorem RsB.zero (w : World) : RsB (w.alloc (.cells #[.int .u64 0, .int .u64 0, .int .i64 0, .int .u64 0, .slice none 0 0, .int .u64 0, .int .u64 0, .int .i64 0, .int .u64 0, .slice none 0 0, .int .u64 0, .int .u64 0, .int .i64 0, .int .u64 0, .slice none 0 0, .int .u64 0, .int .u64 0, .int .i64 0, .int .u64 0, .slice none 0 0, .int .u64 0, .int .u64 0, .int .i64 0, .int .u64 0, .slice none 0 0] 56)) w.heap.size (iniR 0) := Own.new w _ _
/-- The row of formed views. -/
structure FoSt (w wr : World) (sv : Value) (F : List Vw) (R : Nat → Rc) : Prop where
  own : wr.ownsRow w.heap.size 31 4 sv F.length (flat encV F)
  nd : ∀ p, p < 5 → ∀ ad, (R p).a = some ad → some ad.block ≠ sv.ownBlock
  ok : ∀ v ∈ F, v.ok
section
variable {w wr w' : World} {sv : Value} {F : List Vw} {R : Nat → Rc} {g : Nat}
theorem FoSt.later (h : FoSt w wr sv F R) (hb : Below wr.heap.size wr w') : FoSt w w' sv F R := ⟨own_below18 h.own hb, h.nd, h.ok⟩
theorem FoSt.put (h : FoSt w wr sv F R) (hg : RsB wr g R) (p : Nat) (x : Rc) (hx : ∀ ad, x.a = some ad → some ad.block ≠ sv.ownBlock) (o : Nat) (vs : List Value) : FoSt w (wr.setCells g o vs) sv F (updR R p x) :=
  ⟨own_setCells h.own hg (by decide) o vs, fun q hq ad e => by
    by_cases e2 : q = p
    · subst e2; rw [updR_same] at e; exact hx ad e
    · rw [updR_other R p x e2] at e; exact h.nd q hq ad e, h.ok⟩
/-- Two rows of unlike types lie apart. -/
theorem own_apart {base base' n n' k k' : Nat} {t t' : TypeId} {v v' : Value} {xs xs' : List Value} (h : wr.ownsRow base t k v n xs) (h' : wr.ownsRow base' t' k' v' n' xs') (ht : t ≠ t') : ∀ j, v.ownBlock = some j → v'.ownBlock ≠ some j := by
  intro j hj hj'
  obtain ⟨_, c1, h1⟩ := own_typ18 h j hj
  obtain ⟨_, c2, h2⟩ := own_typ18 h' j hj'
  rw [h1] at h2
  injection h2 with e
  injection e with _ e2 _
  exact ht e2
end
theorem has_bit (a p : Nat) (w : World) (ha : a < 18446744073709551616) (hp : p < 5) :
    Calls Try.prog 26 #[.int .u64 (a : Int), .int .i64 (p : Int)] w fun e w' => e = .returned (.bool (a.testBit p)) ∧ w = w' := by
  rw [← mem_nat a p (by omega)]
  exact has_any a p w ha (by omega) (by omega)
/-- 'append' of a record that says where. -/
theorem append_rc_at (w : World) {ops : Array Oper} {rest : List Oper} {o : Oper} {a : Act} {Q : Exit → Act → World → Prop} (hgd : o.guard = none) (s x : Operand)
    (ho : o.op = .call { callee := .builtin .append, args := #[s, x], argTypes := #[22, 22] })
    (base : Nat) (v : Value) (n : Nat) (xs : List Value) (hs : a.eval s = v) (hown : w.ownsRow base 34 5 v n xs)
    (g : Nat) (u : Rc) (hx : a.eval x = .slice (some ⟨g, 0, none⟩) 1 1) (hg : RcB w g u) (hn : n + 1 ≤ 200000) (hbase : base ≤ w.heap.size)
    (h : ∀ v' w', w'.ownsRow base 34 5 v' (n + 1) (xs ++ flat encRc [u]) → w.grownBy w' v.ownBlock → (v'.ownBlock = v.ownBlock ∨ v'.ownBlock = some w.heap.size) → wpList Try.prog ops Q rest (a.put o.dst v') w') : wpList Try.prog ops Q (o :: rest) a w := by
  obtain ⟨i0, hi, hz0, hz1, hz2⟩ := info_parts infoRc
  refine wpList_append_own_at w hgd s x 22 ho base 34 i0 zeroRcV 5 56 Try.underlying22 hi hz0 hz1 hz2 rfl (by decide) v n xs hs hown ⟨g, 0, none⟩ 1 1 (flat encRc [u]) hx (by rw [flat_length encRc 5 encRc_length]; rfl) (fun j u' hu => ?_) (flatE_one encRc_one) (by unfold maxLen; omega) (by omega) hbase (fun v' w' h1 h2 _ h4 => h v' w' h1 h2 h4)
  obtain ⟨b', o', e', R⟩ := (rc_lst hg).src (by omega)
  cases e'
  rw [add_lit18]
  exact R.flat encRc_length j u' hu
theorem store_rcA {ops : Array Oper} {rest : List Oper} {o : Oper} {A : Act} {w : World} {Q : Exit → Act → World → Prop} (hgd : o.guard = none) (x y : Operand) (ho : o.op = .store 34 x y)
    (g p : Nat) (hp : p < 5) (v : Rc) (hx : A.eval x = .pointer (some ⟨g, p * 5, none⟩)) (hy : A.eval y = .agg #[.int .u64 (v.p.last.n : Int), .int .u64 (v.p.last.e : Int), .int .i64 v.p.last.r, .int .u64 (v.p.last.m : Int), .slice v.a v.k v.c]) {R : Nat → Rc} (hg : RsB w g R)
    (h : wpList Try.prog ops Q rest (A.put o.dst undef) (w.setCells g (p * 5) (encRc v))) : wpList Try.prog ops Q (o :: rest) A w :=
  wpList_store_mid hgd 34 x y ho g (p * 5) #[.int .u64 (v.p.last.n : Int), .int .u64 (v.p.last.e : Int), .int .i64 v.p.last.r, .int .u64 (v.p.last.m : Int), .slice v.a v.k v.c] hx hy (hg.there _ 5 (by omega)) rc_size (by simp [Value.oneCell']) h
/-- What the session's first loop did. -/
def AddRel (R R' : Nat → Rc) (v : Vw) (m wr p : Nat) : Prop := ∀ q, q < 5 → (R' q).p = if q < p ∧ m.testBit q = true ∧ wr.testBit q = true then addR (R q).p v else (R q).p
def AllRel (R : Nat → Rc) (m wr p : Nat) (b : Bool) : Prop := b = true ↔ ∀ q, q < p → m.testBit q = true → wr.testBit q = true ∧ (R q).p.pend.length < 32
def FormRel (R' R'' : Nat → Rc) (v : Vw) (m f : Nat) (all : Bool) (p : Nat) : Prop := ∀ q, q < 5 → (R'' q).p = if q < p ∧ all = true ∧ m.testBit q = true ∧ f.testBit q = true then formR (R' q).p v else (R' q).p
def AnyRel (m f : Nat) (all : Bool) (p : Nat) (b : Bool) : Prop := b = true → all = true
def NoneRel (m f : Nat) (all : Bool) (p : Nat) (b : Bool) : Prop := b = false → ∀ q, q < p → ¬(all = true ∧ m.testBit q = true ∧ f.testBit q = true)
theorem wp_store_rcA {o : Oper} {a : Act} {w : World} {K : Act → World → Prop} {Q : Exit → Act → World → Prop} (x y : Operand) (ho : o.op = .store 34 x y)
    (g p : Nat) (hp : p < 5) (v : Rc) (hx : a.eval x = .pointer (some ⟨g, p * 5, none⟩)) (hy : a.eval y = .agg #[.int .u64 (v.p.last.n : Int), .int .u64 (v.p.last.e : Int), .int .i64 v.p.last.r, .int .u64 (v.p.last.m : Int), .slice v.a v.k v.c]) {R : Nat → Rc} (hg : RsB w g R) (hd : o.dst = none)
    (h : K (a.put none undef) (w.setCells g (p * 5) (encRc v))) : o.wp Try.prog a w K Q := by
  rw [← hd] at h
  exact wp_store_mid 34 x y ho g (p * 5) #[.int .u64 (v.p.last.n : Int), .int .u64 (v.p.last.e : Int), .int .i64 v.p.last.r, .int .u64 (v.p.last.m : Int), .slice v.a v.k v.c] hx hy (hg.there _ 5 (by omega)) rc_size (by simp [Value.oneCell']) h
theorem AddRel.zero (R : Nat → Rc) (v : Vw) (m x : Nat) : AddRel R R v m x 0 := fun q _ => by rw [if_neg (fun h => absurd h.1 (Nat.not_lt_zero _))]
theorem AllRel.zero (R : Nat → Rc) (m x : Nat) : AllRel R m x 0 true := ⟨fun _ q hq => absurd hq (Nat.not_lt_zero _), fun _ => rfl⟩
theorem AddRel.skip {R R' : Nat → Rc} {v : Vw} {m x p : Nat} (h : AddRel R R' v m x p) (hb : m.testBit p = false ∨ x.testBit p = false) : AddRel R R' v m x (p + 1) := fun q hq => by
  rw [h q hq]
  by_cases e : q = p
  · subst e
    rw [if_neg (fun h => absurd h.1 (Nat.lt_irrefl _)), if_neg (fun h => by rcases hb with hb | hb <;> simp_all)]
  · have : (q < p ∧ m.testBit q = true ∧ x.testBit q = true) ↔ (q < p + 1 ∧ m.testBit q = true ∧ x.testBit q = true) := ⟨fun h => ⟨by omega, h.2⟩, fun h => ⟨by omega, h.2⟩⟩
    simp only [this]
theorem AllRel.skip {R : Nat → Rc} {m x p : Nat} {b : Bool} (h : AllRel R m x p b) (hb : m.testBit p = false) : AllRel R m x (p + 1) b := by
  unfold AllRel at h ⊢
  rw [h]
  constructor
  · intro g q hq hm
    rcases Nat.lt_or_ge q p with h1 | h1
    · exact g q h1 hm
    · obtain rfl : q = p := by omega
      rw [hb] at hm; cases hm
  · intro g q hq hm
    exact g q (by omega) hm
theorem AllRel.no {R : Nat → Rc} {m x p : Nat} (hm : m.testBit p = true) (hx : x.testBit p = false) : AllRel R m x (p + 1) false :=
  ⟨fun h => (by cases h), fun h => by have := (h p (by omega) hm).1; rw [hx] at this; cases this⟩
theorem AddRel.at_ {R R' : Nat → Rc} {v : Vw} {m x p : Nat} (h : AddRel R R' v m x p) (hp : p < 5) : (R' p).p = (R p).p := by rw [h p hp, if_neg (fun h => absurd h.1 (Nat.lt_irrefl _))]
theorem AddRel.add {R R' : Nat → Rc} {v : Vw} {m x p : Nat} (h : AddRel R R' v m x p) (hp : p < 5) (hm : m.testBit p = true) (hx : x.testBit p = true) (y : Rc) (hy : y.p = addR (R' p).p v) : AddRel R (updR R' p y) v m x (p + 1) := fun q hq => by
  by_cases e : q = p
  · subst e
    rw [updR_same, hy, h.at_ hp, if_pos ⟨by omega, hm, hx⟩]
  · rw [updR_other R' p y e, h q hq]
    have : (q < p ∧ m.testBit q = true ∧ x.testBit q = true) ↔ (q < p + 1 ∧ m.testBit q = true ∧ x.testBit q = true) := ⟨fun h => ⟨by omega, h.2⟩, fun h => ⟨by omega, h.2⟩⟩
    simp only [this]
theorem AllRel.add {R : Nat → Rc} {m x p k : Nat} {b : Bool} (h : AllRel R m x p b) (hm : m.testBit p = true) (hx : x.testBit p = true) (hk : (R p).p.pend.length = k) : AllRel R m x (p + 1) (b && decide (k < 32)) := by
  unfold AllRel at h ⊢
  rw [Bool.and_eq_true, h, decide_eq_true_iff]
  constructor
  · rintro ⟨g, gk⟩ q hq hmq
    rcases Nat.lt_or_ge q p with h1 | h1
    · exact g q h1 hmq
    · obtain rfl : q = p := by omega
      exact ⟨hx, by omega⟩
  · intro g
    exact ⟨fun q hq hmq => g q (by omega) hmq, by have := (g p (by omega) hm).2; omega⟩
theorem FormRel.zero (R : Nat → Rc) (v : Vw) (m f : Nat) (al : Bool) : FormRel R R v m f al 0 := fun q _ => by rw [if_neg (fun h => absurd h.1 (Nat.not_lt_zero _))]
theorem FormRel.skip {R R' : Nat → Rc} {v : Vw} {m f p : Nat} {al : Bool} (h : FormRel R R' v m f al p) (hb : ¬(al = true ∧ m.testBit p = true ∧ f.testBit p = true)) : FormRel R R' v m f al (p + 1) := fun q hq => by
  rw [h q hq]
  by_cases e : q = p
  · subst e
    rw [if_neg (fun h => absurd h.1 (Nat.lt_irrefl _)), if_neg (fun h => hb h.2)]
  · have : (q < p ∧ al = true ∧ m.testBit q = true ∧ f.testBit q = true) ↔ (q < p + 1 ∧ al = true ∧ m.testBit q = true ∧ f.testBit q = true) := ⟨fun h => ⟨by omega, h.2⟩, fun h => ⟨by omega, h.2⟩⟩
    simp only [this]
theorem FormRel.at_ {R R' : Nat → Rc} {v : Vw} {m f p : Nat} {al : Bool} (h : FormRel R R' v m f al p) (hp : p < 5) : (R' p).p = (R p).p := by rw [h p hp, if_neg (fun h => absurd h.1 (Nat.lt_irrefl _))]
theorem FormRel.add {R R' : Nat → Rc} {v : Vw} {m f p : Nat} {al : Bool} (h : FormRel R R' v m f al p) (hp : p < 5) (hb : al = true ∧ m.testBit p = true ∧ f.testBit p = true) (y : Rc) (hy : y.p = formR (R' p).p v) : FormRel R (updR R' p y) v m f al (p + 1) := fun q hq => by
  by_cases e : q = p
  · subst e
    rw [updR_same, hy, h.at_ hp, if_pos ⟨by omega, hb⟩]
  · rw [updR_other R' p y e, h q hq]
    have : (q < p ∧ al = true ∧ m.testBit q = true ∧ f.testBit q = true) ↔ (q < p + 1 ∧ al = true ∧ m.testBit q = true ∧ f.testBit q = true) := ⟨fun h => ⟨by omega, h.2⟩, fun h => ⟨by omega, h.2⟩⟩
    simp only [this]
theorem NoneRel.skip {m f p : Nat} {al b : Bool} (h : NoneRel m f al p b) (hb : ¬(al = true ∧ m.testBit p = true ∧ f.testBit p = true)) : NoneRel m f al (p + 1) b := fun hf q hq => by
  rcases Nat.lt_or_ge q p with h1 | h1
  · exact h hf q h1
  · obtain rfl : q = p := by omega
    exact hb
/-- The session is over and none formed it. -/
theorem chain_wrote {R R' R'' : Nat → Rc} {F : List Vw} {v : Vw} {m x f i : Nat} {al : Bool} (h : Chn (fun p => (R p).p) F i) (hv : v.n ≤ i + 1) (h1 : AddRel R R' v m x 5) (h2 : FormRel R' R'' v m f al 5) (h3 : NoneRel m f al 5 false) : Chn (fun p => (R'' p).p) F (i + 1) :=
  h.wrote v hv fun p hp => by
    show (R'' p).p = (R p).p ∨ (R'' p).p = ⟨(R p).p.last, (R p).p.pend ++ [v]⟩
    rw [h2 p hp, if_neg (fun g => h3 rfl p hp g.2), h1 p hp]
    split
    · unfold addR
      split
      · exact .inl rfl
      · exact .inr rfl
    · exact .inl rfl
/-- Some formed it. -/
theorem chain_formed {R R' R'' : Nat → Rc} {F : List Vw} {v y : Vw} {m x f i : Nat} (h : Chn (fun p => (R p).p) F i) (hy : F[F.length - 1]? = some y) (hv : v.n ≤ i + 1) (hn : y.n < v.n) (hm : most v.m y.m = true) (hvm : v.m = m) (h5 : ∀ p, m.testBit p = true → p < 5)
    (h1 : AddRel R R' v m x 5) (ha : AllRel R m x 5 true) (h2 : FormRel R' R'' v m f true 5) : Chn (fun p => (R'' p).p) (F ++ [v]) (i + 1) := by
  subst hvm
  refine h.formed v y hy hv hn hm h5 (fun p hp hb => ?_) (fun p hp hb => ?_)
  · show (R'' p).p = (R p).p
    rw [h2 p hp, if_neg (fun g => by rw [hb] at g; cases g.2.2.1), h1 p hp, if_neg (fun g => by rw [hb] at g; cases g.2.1)]
  · obtain ⟨hx, hl⟩ := ha.1 rfl p hp hb
    have e1 : (R' p).p = ⟨(R p).p.last, (R p).p.pend ++ [v]⟩ := by
      rw [h1 p hp, if_pos ⟨hp, hb, hx⟩]
      unfold addR
      rw [if_neg (by omega)]
    show (R'' p).p = ⟨(R p).p.last, (R p).p.pend ++ [v]⟩ ∨ (R'' p).p = formR ⟨(R p).p.last, (R p).p.pend ++ [v]⟩ v
    rw [h2 p hp, ← e1]
    split
    · exact .inr rfl
    · exact .inl rfl
theorem vw_narr {w : World} {g k : Nat} {R : Nat → Rc} {v : Vw} (h : RsB w g R) (hv : VwB w k v) : k ≠ g := by
  intro e
  subst e
  have := (Own.is h).symm.trans (Own.is hv)
  injection this with e1
  injection e1 with _ e2 _
  exact absurd e2 (by decide)
theorem rc_narr {w : World} {g k : Nat} {R : Nat → Rc} {x : Rc} (h : RsB w g R) (hv : RcB w k x) : k ≠ g := by
  intro e
  subst e
  have := (Own.is h).symm.trans (Own.is hv)
  injection this with e1
  injection e1 with _ e2 _
  exact absurd e2 (by decide)
theorem rangeC {w : World} {g o : Nat} {x : Rc} (h : w.rangeAt g o (encRc x)) : w.cell? ⟨g, o, none⟩ = some (.int .u64 (x.p.last.n : Int)) ∧ w.cell? ⟨g, o + 1, none⟩ = some (.int .u64 (x.p.last.e : Int)) ∧ w.cell? ⟨g, o + 2, none⟩ = some (.int .i64 x.p.last.r) ∧ w.cell? ⟨g, o + 3, none⟩ = some (.int .u64 (x.p.last.m : Int)) ∧ w.cell? ⟨g, o + 4, none⟩ = some (.slice x.a x.k x.c) := ⟨h 0 _ rfl, h 1 _ rfl, h 2 _ rfl, h 3 _ rfl, h 4 _ rfl⟩
set_option maxHeartbeats 16000000 in
theorem walk_VoteChain {w : World} (ao : Option Addr) (n c : Nat) (l : List Rn) (h : Lst encRn 3 w ao n l ∧ (∀ x ∈ l, x.ok)) :
    Calls Try.prog 6 #[.slice ao n c] w fun e w' => e = .returned (.bool true) ∧ Below w.heap.size w w' := by
  have HL := Lib.hid h.1
  have HLEN := Lib.hid h.1.size
  have HK := Lib.hid h.2
  clear h
  have PA := awake18 w
  go_enter Try.func6, Try.ntmps6
  go_wp2_with fail
  refine PA.mono ?_
  rintro e w1 ⟨rfl, B1⟩
  have HB1 := Lib.hid B1
  clear PA B1
  by_cases hn : 60 < n
  · have hni : (60 : Int) < (n : Int) := by omega
    go_wp2
    go_ret
    exact ⟨rfl, HB1.out⟩
  have hni : ¬(60 : Int) < (n : Int) := by omega
  have L2 := ((Grw.refl w1).alloc (.cells #[.int .u64 0, .int .u64 0, .int .i64 0, .int .u64 0, .slice none 0 0, .int .u64 0, .int .u64 0, .int .i64 0, .int .u64 0, .slice none 0 0, .int .u64 0, .int .u64 0, .int .i64 0, .int .u64 0, .slice none 0 0, .int .u64 0, .int .u64 0, .int .i64 0, .int .u64 0, .slice none 0 0, .int .u64 0, .int .u64 0, .int .i64 0, .int .u64 0, .slice none 0 0] 56)).below
  have C2 := Lib.hid (show ChS w (w1.alloc (.cells #[.int .u64 0, .int .u64 0, .int .i64 0, .int .u64 0, .slice none 0 0, .int .u64 0, .int .u64 0, .int .i64 0, .int .u64 0, .slice none 0 0, .int .u64 0, .int .u64 0, .int .i64 0, .int .u64 0, .slice none 0 0, .int .u64 0, .int .u64 0, .int .i64 0, .int .u64 0, .slice none 0 0, .int .u64 0, .int .u64 0, .int .i64 0, .int .u64 0, .slice none 0 0] 56)) w1.heap.size (iniR 0) from ⟨RsB.zero w1, fun p hp => ⟨(iniR_in 0 p _).1, (iniR_in 0 p w).2.1, fun ad e => absurd ((iniR_in 0 p w).2.2 ad e).2 id⟩, HB1.out.size, HB1.out.trans (L2.mono HB1.out.size)⟩)
  clear L2 HB1
  go_upto_region 7 with fail
  generalize w1.alloc (.cells #[.int .u64 0, .int .u64 0, .int .i64 0, .int .u64 0, .slice none 0 0, .int .u64 0, .int .u64 0, .int .i64 0, .int .u64 0, .slice none 0 0, .int .u64 0, .int .u64 0, .int .i64 0, .int .u64 0, .slice none 0 0, .int .u64 0, .int .u64 0, .int .i64 0, .int .u64 0, .slice none 0 0, .int .u64 0, .int .u64 0, .int .i64 0, .int .u64 0, .slice none 0 0] 56) = w2 at *
  generalize w1.heap.size = rb at *
  go_loopw [4] (fun si wr => ∃ k : Nat, k ≤ 5 ∧ si = .int .i64 k ∧ Aside (ChS w wr rb (iniR k))) (fun si _ => 5 - (intOf si).toNat)
  case atStart => exact ⟨0, Nat.zero_le _, rfl, C2.out⟩
  case round =>
    obtain ⟨k, hk, rfl, HC⟩ := hrel
    clear C2
    by_cases hlt : k < 5
    · obtain ⟨X, hX⟩ : ∃ X, X = firstR 5 := ⟨_, rfl⟩
      have P3 : Calls Try.prog 10 #[.int .i64 5] wr fun e w' => e = .returned (.agg #[.int .u64 (X.p.last.n : Int), .int .u64 (X.p.last.e : Int), .int .i64 X.p.last.r, .int .u64 (X.p.last.m : Int), .slice X.a X.k X.c]) ∧ Below wr.heap.size wr w' := by rw [hX]; exact vfirst 5 wr (by decide) (by decide)
      have HXI := Lib.hid (show ∀ w, RcIn w X from fun w => hX ▸ firstR_in 5 w)
      have HXL := Lib.hid (show X.p.pend.length ≤ 32 from hX ▸ Nat.zero_le _)
      have HXA := Lib.hid (show X.a = none from hX ▸ rfl)
      have HUP := Lib.hid (show updR (iniR k) k X = iniR (k + 1) from hX ▸ iniR_next k)
      clear hX
      go_wp2_with fail
      refine P3.mono ?_
      rintro e w3 ⟨rfl, B3⟩
      have C3 := HC.out.later B3
      have C4 := C3.put k hlt X (HXI.out w3) HXL.out (fun ad e => by rw [HXA.out] at e; cases e)
      rw [HUP.out] at C4
      have HC3 := Lib.hid C3
      have HC4 := Lib.hid C4
      clear P3 B3 C3 C4 HC
      go_upto_region 8 with (first | (refine store_rcA rfl (.tmp 30) (.tmp 29) rfl rb k hlt X rfl rfl HC3.out.recs ?_) | fail)
      generalize w3.setCells rb (k * 5) (encRc X) = w4 at *
      go_wp2
      go_roundw
      case rel => exact ⟨k + 1, by omega, by go_num, HC4.out⟩
      case measure => simp [intOf]; omega
    · obtain rfl : k = 5 := by omega
      rw [show ((5 : Nat) : Int) = 5 from rfl]
      have HC5 := Lib.hid HC.out
      have CH0 := Lib.hid (show Chn (fun p => (iniR 5 p).p) (first5 :: []) 0 from by
        refine Chn.start _ fun p hp => ?_
        unfold iniR
        rw [if_pos hp]
        rfl)
      have FO0 := Lib.hid (show FoSt w wr (.slice none 0 0) [] (iniR 5) from ⟨World.ownsRow_nil _ _ _ _, fun p hp ad e => absurd ((iniR_in 5 p w).2.2 ad e).2 id, fun v hv => by cases hv⟩)
      clear HC
      go_upto_region 12 with fail
      go_loopw [5, 6] (fun sf si wr => ∃ (i : Nat) (R : Nat → Rc) (F : List Vw), i ≤ n ∧ si = .int .i64 i ∧ F.length ≤ i ∧ Aside (ChS w wr rb R) ∧ Aside (FoSt w wr sf F R) ∧ Aside (Chn (fun p => (R p).p) (first5 :: F) i)) (fun _ si _ => n - (intOf si).toNat)
      case atStart => exact ⟨0, iniR 5, [], Nat.zero_le _, rfl, Nat.le_refl _, HC5.out, FO0.out, CH0.out⟩
      case round =>
        obtain ⟨i, R, F, hi, rfl, hF, HC, HFo, HCh⟩ := hrel
        clear HC5 FO0 CH0
        by_cases hil : i < n
        · obtain ⟨b, o, hae, hr⟩ := HL.out.src (by omega)
          subst hae
          have hlt' : i < l.length := by rw [HLEN.out]; exact hil
          obtain ⟨x, hx⟩ : ∃ x, l[i]? = some x := ⟨_, List.getElem?_eq_getElem hlt'⟩
          have HXO := Lib.hid (HK.out x (List.mem_of_getElem? hx))
          have HXR := Lib.hid (show w.rangeAt b (o + i * 3) (encRn x) from fun j u hj => hr i x hx j u hj)
          obtain ⟨xm, xw, xf⟩ := x
          clear hr hx hlt'
          obtain ⟨b5, hb5⟩ : ∃ b5, b5 = below 5 := ⟨_, rfl⟩
          obtain ⟨m, hm⟩ : ∃ m, m = both xm b5 := ⟨_, rfl⟩
          have hm64 : m < 18446744073709551616 := by rw [hm]; exact both_lt _ _
          have HM5 := Lib.hid (show ∀ p, m.testBit p = true → p < 5 from fun p hp => by
            rw [hm, hb5] at hp
            unfold both below at hp
            rw [num_bit, num_bit] at hp
            simp at hp
            omega)
          have PAL : Hid (∀ w, Calls Try.prog 20 #[.int .i64 5] w fun e w' => e = .returned (.int .u64 (b5 : Nat)) ∧ w = w') := Lib.hid fun w => by rw [hb5]; exact all_any 5 w (by decide) (by decide)
          have PBO : Hid (∀ w, Calls Try.prog 22 #[.int .u64 (xm : Int), .int .u64 (b5 : Int)] w fun e w' => e = .returned (.int .u64 (m : Nat)) ∧ w = w') := Lib.hid fun w => by rw [hm]; exact both_any xm b5 w HXO.out.m (by rw [hb5]; exact below_lt _)
          clear hm hb5
          go_upto_region 14 with fail
          have HC3 := Lib.hid (HC.out.later (Grw.refl wr).drew.below)
          have HF3 := Lib.hid (HFo.out.later (Grw.refl wr).drew.below)
          have k0 : wr.drew.cell? ⟨b, o + i * 3, none⟩ = some (.int .u64 (xm : Int)) := cell_later HC3.out.bel (HXR.out 0 _ rfl)
          refine wp_region_held_drew (S := fun w' => w'.cell? ⟨b, o + i * 3, none⟩ = some (.int .u64 (xm : Int))) (by kernel_rfl) k0 (fun hHeld => ?_)
          clear k0 HC HFo
          generalize wr.drew = w3 at *
          refine vtake (i := 0) (v := (.slice (some ⟨b, o, none⟩) n c)) 37 rfl (by kernel_rfl) (by kernel_rfl) (by kernel_rfl) (by kernel_rfl) (fun _ _ _ h => h) (.inl ⟨by kernel_rfl, fun w' hS => by (go_simp)⟩) hHeld ?_
          (try simp only [Act.put, List.setIfInBounds_toArray, List.set_cons_zero, List.set_cons_succ])
          refine vtake (i := 1) (v := (.int .i64 (i : Int))) 38 rfl (by kernel_rfl) (by kernel_rfl) (by kernel_rfl) (by kernel_rfl) (fun _ _ _ h => h) (.inl ⟨by kernel_rfl, fun w' hS => by (go_simp)⟩) hHeld ?_
          (try simp only [Act.put, List.setIfInBounds_toArray, List.set_cons_zero, List.set_cons_succ])
          refine vtake (i := 2) (v := (.pointer (some ⟨b, o + i * 3, none⟩))) 39 rfl (by kernel_rfl) (by kernel_rfl) (by kernel_rfl) (by kernel_rfl) (fun _ _ _ h => h) (.inl ⟨by kernel_rfl, fun w' hS => by (go_simp)⟩) hHeld ?_
          (try simp only [Act.put, List.setIfInBounds_toArray, List.set_cons_zero, List.set_cons_succ])
          refine vtake (i := 3) (v := (.pointer (some ⟨b, o + i * 3, none⟩))) 40 rfl (by kernel_rfl) (by kernel_rfl) (by kernel_rfl) (by kernel_rfl) (fun _ _ _ h => h) (.inl ⟨by kernel_rfl, fun w' hS => by (go_simp)⟩) hHeld ?_
          (try simp only [Act.put, List.setIfInBounds_toArray, List.set_cons_zero, List.set_cons_succ])
          refine vtake (i := 4) (v := (.int .u64 (xm : Int))) 41 rfl (by kernel_rfl) (by kernel_rfl) (by kernel_rfl) (by kernel_rfl) (fun _ _ _ h => h) (.inl ⟨by kernel_rfl, fun w' hS => by (have hc := hS; go_simp)⟩) hHeld ?_
          (try simp only [Act.put, List.setIfInBounds_toArray, List.set_cons_zero, List.set_cons_succ])
          refine wpAnyH_ready (rs := [5]) (by kernel_rfl) (by simp) (AllReadyH.cons rfl (fun K hK => ?_) AllReadyH.nil)
          rw [if_pos (by kernel_rfl)]
          have P := PAL.out w3
          go_simp
          refine P.mono ?_
          rintro e w4 ⟨rfl, hsame⟩
          subst hsame
          refine hK.out _ _ hHeld (fun hHeld => ?_)
          clear hK K P
          (try simp only [Act.put, List.setIfInBounds_toArray, List.set_cons_zero, List.set_cons_succ])
          refine wpAnyH_ready (rs := [6]) (by kernel_rfl) (by simp) (AllReadyH.cons rfl (fun K hK => ?_) AllReadyH.nil)
          rw [if_pos (by kernel_rfl)]
          have P := PBO.out w3
          go_simp
          refine P.mono ?_
          rintro e w4 ⟨rfl, hsame⟩
          subst hsame
          refine hK.out _ _ hHeld (fun hHeld => ?_)
          clear hK K P
          (try simp only [Act.put, List.setIfInBounds_toArray, List.set_cons_zero, List.set_cons_succ])
          refine vtake (i := 7) (v := (.int .u64 (m : Int))) 7 rfl (by kernel_rfl) (by kernel_rfl) (by kernel_rfl) (by kernel_rfl) (fun _ _ _ h => h) (.inl ⟨by kernel_rfl, fun w' hS => by (go_simp)⟩) hHeld ?_
          (try simp only [Act.put, List.setIfInBounds_toArray, List.set_cons_zero, List.set_cons_succ])
          refine wpAnyH_done (by kernel_rfl) ?_ _
          clear hHeld PAL PBO
          have HT0 := Lib.hid (show w3.ownsRow w.heap.size 34 5 (.slice none 0 0) (toldR m R 0).length (flat encRc (toldR m R 0)) from World.ownsRow_nil _ _ _ _)
          go_upto_region 17 with fail
          go_loopw [8, 9] (fun st sp wr => ∃ p : Nat, p ≤ 5 ∧ sp = .int .i64 p ∧ Aside (ChS w wr rb R) ∧ Aside (FoSt w wr u5 F R) ∧ Aside (wr.ownsRow w.heap.size 34 5 st (toldR m R p).length (flat encRc (toldR m R p))) ∧ Aside (∀ q, q < 5 → ∀ ad, (R q).a = some ad → some ad.block ≠ st.ownBlock)) (fun _ sp _ => 5 - (intOf sp).toNat)
          case atStart => exact ⟨0, Nat.zero_le _, rfl, HC3.out, HF3.out, HT0.out, fun q hq ad e h => by cases h⟩
          case round =>
            obtain ⟨p, hp, rfl, HC, HFo, HT, HD⟩ := hrel
            clear HC3 HF3 HT0
            by_cases hp5 : p < 5
            · have PH := has_bit m p wr hm64 hp5
              cases hbit : m.testBit p with
              | false =>
                rw [hbit] at PH
                have HTN := Lib.hid (show toldR m R (p + 1) = toldR m R p by rw [toldR_next, hbit]; rfl)
                have HT2 := Lib.hid (own_eq (n' := (toldR m R (p + 1)).length) (xs' := flat encRc (toldR m R (p + 1))) HT.out (by rw [HTN.out]) (by rw [HTN.out]))
                clear HT hbit
                go_wp2_with fail
                refine PH.mono ?_
                rintro e w4 ⟨rfl, rfl⟩
                clear PH
                go_wp2
                go_roundw
                case rel => exact ⟨p + 1, by omega, by go_num, HC.out, HFo.out, HT2.out, HD.out⟩
                case measure => simp [intOf]; omega
              | true =>
                rw [hbit] at PH
                have HTN := Lib.hid (show toldR m R (p + 1) = toldR m R p ++ [R p] by rw [toldR_next, hbit]; rfl)
                have htl := toldR_length m R p
                clear hbit
                go_wp2_with fail
                refine PH.mono ?_
                rintro e w4 ⟨rfl, rfl⟩
                clear PH
                have L5 := recW_below wr (R p)
                have HC5 := Lib.hid (HC.out.later L5)
                have HF5 := Lib.hid (HFo.out.later L5)
                have HT5 := Lib.hid (own_below18 HT.out L5)
                have N5 := Lib.hid (show RcB (recW wr (R p)) wr.heap.size (R p) from RcB.new wr (R p))
                have HRP := Lib.hid (HC.out.recs.range p hp5)
                have hbz := HC5.out.bel.size
                unfold recW at HC5 HF5 HT5 N5 hbz
                clear L5
                go_wp2_with (first | (refine load_rcm rfl (.tmp 53) rfl rb (p * 5) (R p) rfl HRP.out ?_) | (at_builtin; refine append_rc_at _ rfl (.tmp 51) (.tmp 55) rfl w.heap.size _ _ _ rfl HT5.out wr.heap.size (R p) rfl N5.out (by omega) hbz ?_; intro v6 w6 h1 h2 h3))
                rw [← flat_append] at h1
                have HC6 := Lib.hid (HC5.out.grown HT5.out (by decide) h2 HD.out)
                have HF6 := Lib.hid (show FoSt w w6 u5 F R from ⟨own_keep18 HF5.out.own (fun j hj => h2.block j (own_at18 HF5.out.own j hj).2 (fun e => own_apart HF5.out.own HT5.out (by decide) j hj e.symm)), HF5.out.nd, HF5.out.ok⟩)
                have HT6 := Lib.hid (own_eq h1 (show (toldR m R p).length + 1 = (toldR m R (p + 1)).length by rw [HTN.out]; simp) (congrArg (flat encRc) HTN.out.symm))
                have HD6 := Lib.hid (show ∀ q, q < 5 → ∀ ad, (R q).a = some ad → some ad.block ≠ v6.ownBlock from fun q hq ad e => by
                  rcases h3 with e3 | e3
                  · rw [e3]; exact HD.out q hq ad e
                  · rw [e3]
                    intro e4
                    injection e4 with e4
                    have := ((HC.out.ins q hq).2.2 ad e).2
                    have e5 : (wr.alloc (.cells #[.int .u64 ((R p).p.last.n : Int), .int .u64 ((R p).p.last.e : Int), .int .i64 (R p).p.last.r, .int .u64 ((R p).p.last.m : Int), .slice (R p).a (R p).k (R p).c] 34)).heap.size = wr.heap.size + 1 := by simp
                    omega)
                clear h1 h2 h3 HC5 HF5 HT5 N5 HC HFo HT HD HRP hbz
                go_wp2
                go_roundw
                case rel => exact ⟨p + 1, by omega, by go_num, HC6.out, HF6.out, HT6.out, HD6.out⟩
                case measure => simp [intOf]; omega
            · obtain rfl : p = 5 := by omega
              rw [show ((5 : Nat) : Int) = 5 from rfl]
              obtain ⟨T, hT⟩ : ∃ T, T = toldR m R 5 := ⟨_, rfl⟩
              have htl : T.length ≤ 5 := by rw [hT]; exact toldR_length m R 5
              have hTin : ∀ y ∈ T, RcIn wr y ∧ y.p.pend.length ≤ 32 := fun y hy => by
                rw [hT] at hy
                obtain ⟨q, hq, rfl⟩ := toldR_mem _ _ _ _ hy
                exact ⟨(HC.out.ins q hq).1, (HC.out.ins q hq).2.1⟩
              have hsum := told_sum T 5 htl (fun y hy => (hTin y hy).2)
              have HPS := Lib.hid (show psL T = toldV m (fun p => (R p).p) 5 by rw [hT]; exact toldR_ps m R 5)
              have hkT : ∀ y ∈ T, y.k ≤ 100000 := fun y hy => by have := (hTin y hy).1.len; have := (hTin y hy).2; omega
              have HKT := Lib.hid hkT
              rw [← hT] at HT
              obtain ⟨a8, c8, hu8⟩ := own_form' HT.out
              subst hu8
              have HTL := Lib.hid (show RcL wr a8 T.length T from ⟨own_lst' encRc_length rfl HT.out, fun y hy => (hTin y hy).1⟩)
              have PM := vmay HTL.out c8 (by omega) (by omega) m hm64
              clear hT hTin hkT HT HD
              cases hmay : mayV m (psL T) with
              | false =>
                rw [hmay] at PM
                have HCU := Lib.hid (HCh.out.up (Nat.le_succ i))
                clear hmay HCh
                go_wp2_with fail
                refine PM.mono ?_
                rintro e w7 ⟨rfl, B7⟩
                have HC7 := Lib.hid (HC.out.later B7)
                have HF7 := Lib.hid (HFo.out.later B7)
                clear PM B7
                go_wp2
                go_roundw
                case rel => exact ⟨i + 1, R, F, by omega, by go_num, by omega, HC7.out, HF7.out, HCU.out⟩
                case measure => simp [intOf]; omega
              | true =>
                rw [hmay] at PM
                have hmay' : mayV m (toldV m (fun p => (R p).p) 5) = true := by rw [← HPS.out]; exact hmay
                obtain ⟨y, hy⟩ : ∃ y, (first5 :: F)[(first5 :: F).length - 1]? = some y := ⟨_, List.getElem?_eq_getElem (by simp)⟩
                have hnw := HCh.out.newest (by omega) m hmay' y hy
                rw [← HPS.out] at hnw
                obtain ⟨nx, hnx⟩ : ∃ nx, nx = nextV (psL T) := ⟨_, rfl⟩
                rw [← hnx] at hnw
                have HNW := Lib.hid hnw
                have HYL := Lib.hid hy
                have hnxs : nx ≤ 1000 := by have := hnw.2.2; omega
                go_wp2_with fail
                refine PM.mono ?_
                rintro e w7 ⟨rfl, B7⟩
                have HC7 := HC.out.later B7
                have HF7 := HFo.out.later B7
                have PN := vnext (HTL.out.below B7) c8 (by omega) HKT.out
                rw [← hnx] at PN
                clear PM B7 HC HFo hmay hmay' hnx hnw hy HTL HKT
                go_wp2_with fail
                refine PN.mono ?_
                rintro e w8 ⟨rfl, B8⟩
                have HC8 := Lib.hid (HC7.later B8)
                have HF8 := Lib.hid (HF7.later B8)
                clear PN B8 HC7 HF7
                have hwr : IntKind.u64.wrap ((i : Int) + 1) = ((i + 1 : Nat) : Int) := by rw [IntKind.wrap_u64]; omega
                have hw64 : IntKind.i64.wrap ((i : Int) + 1) = ((i + 1 : Nat) : Int) := by rw [IntKind.wrap_i64]; omega
                go_upto_region 23 with fail
                obtain ⟨ep, hep⟩ : ∃ ep : Nat, ep = i + 1 := ⟨_, rfl⟩
                have hepi : (i : Int) + 1 = (ep : Int) := by omega
                have hepb : ep ≤ 1000 := by omega
                try rw [hepi]
                clear hwr hw64 hepi hep
                have L9 := ((Grw.refl w8).alloc (.cells #[.int .u64 (nx : Int), .int .u64 (ep : Int), .int .i64 0, .int .u64 (m : Int)] 31)).below
                have HC9 := Lib.hid (HC8.out.later L9)
                have HF9 := Lib.hid (HF8.out.later L9)
                obtain ⟨V, hV⟩ : ∃ V : Vw, V = ⟨nx, ep, 0, m⟩ := ⟨_, rfl⟩
                have HV9 := Lib.hid (show VwB (w8.alloc (.cells #[.int .u64 (nx : Int), .int .u64 (ep : Int), .int .i64 0, .int .u64 (m : Int)] 31)) w8.heap.size V from by rw [hV]; exact VwB.new w8 ⟨nx, ep, 0, m⟩)
                have HVO := Lib.hid (show V.ok from by rw [hV]; exact ⟨by show nx < _; omega, by show ep < _; omega, by show _ ≤ (0 : Int); decide, by show (0 : Int) ≤ _; decide, hm64⟩)
                have HVM := Lib.hid (show V.m = m from by rw [hV])
                have HVN := Lib.hid (show V.n = nx from by rw [hV])
                clear L9 HC8 HF8 hV
                generalize w8.alloc (.cells #[.int .u64 (nx : Int), .int .u64 (ep : Int), .int .i64 0, .int .u64 (m : Int)] 31) = w9 at *
                generalize w8.heap.size = vb at *
                have hxw := HXO.out.w
                have hxf := HXO.out.f
                simp only at hxw hxf
                have HA0 := Lib.hid (AddRel.zero R V m xw)
                have HAA0 := Lib.hid (AllRel.zero R m xw)
                go_upto_region 25 with fail
                go_loopw [11, 12] (fun sa sp wr => ∃ (p : Nat) (R' : Nat → Rc) (al : Bool), p ≤ 5 ∧ sa = .bool al ∧ sp = .int .i64 p ∧ Aside (ChS w wr rb R') ∧ Aside (FoSt w wr u5 F R') ∧ Aside (VwB wr vb V) ∧ Aside (AddRel R R' V m xw p) ∧ Aside (AllRel R m xw p al)) (fun _ sp _ => 5 - (intOf sp).toNat)
                case atStart => exact ⟨0, R, true, Nat.zero_le _, rfl, rfl, HC9.out, HF9.out, HV9.out, HA0.out, HAA0.out⟩
                case round =>
                  obtain ⟨p, R', al, hp, rfl, rfl, HC, HFo, HVB, HAR, HAL⟩ := hrel
                  clear HC9 HF9 HV9 HA0 HAA0
                  by_cases hp5 : p < 5
                  · have PH := has_bit m p wr hm64 hp5
                    cases hbit : m.testBit p with
                    | false =>
                      rw [hbit] at PH
                      have HAR2 := Lib.hid (HAR.out.skip (.inl hbit))
                      have HAL2 := Lib.hid (HAL.out.skip hbit)
                      clear hbit HAR HAL
                      go_wp2_with fail
                      refine PH.mono ?_
                      rintro e w10 ⟨rfl, rfl⟩
                      clear PH
                      go_wp2
                      go_roundw
                      case rel => exact ⟨p + 1, R', al, by omega, rfl, by go_num, HC.out, HFo.out, HVB.out, HAR2.out, HAL2.out⟩
                      case measure => simp [intOf]; omega
                    | true =>
                      rw [hbit] at PH
                      have HMB := Lib.hid hbit
                      have hbits := and_bit64 xw p hxw
                      have k1 : wr.cell? ⟨b, o + i * 3 + 1, none⟩ = some (.int .u64 (xw : Int)) := cell_later HC.out.bel (HXR.out 1 _ rfl)
                      clear hbit
                      cases hxb : xw.testBit p with
                      | false =>
                        rw [hxb] at hbits
                        simp only [Bool.false_eq_true, if_false] at hbits
                        have HAR2 := Lib.hid (HAR.out.skip (.inr hxb))
                        have HAL2 := Lib.hid (show AllRel R m xw (p + 1) false from AllRel.no HMB.out hxb)
                        clear HAR HAL hxb
                        go_wp2_with fail
                        refine PH.mono ?_
                        rintro e w10 ⟨rfl, rfl⟩
                        clear PH
                        go_wp2
                        go_roundw
                        case rel => exact ⟨p + 1, R', false, by omega, rfl, by go_num, HC.out, HFo.out, HVB.out, HAR2.out, HAL2.out⟩
                        case measure => simp [intOf]; omega
                      | true =>
                        rw [hxb] at hbits
                        simp only [if_true] at hbits
                        have HXB := Lib.hid hxb
                        clear hxb
                        go_wp2_with fail
                        refine PH.mono ?_
                        rintro e w10 ⟨rfl, rfl⟩
                        clear PH
                        go_upto_region 30 with fail
                        clear k1 hbits
                        go_cut [13, 14] from 86 to 93 (fun s13 s14 wx => ∃ (cb : Nat) (y : Rc), s13 = .pointer (some ⟨cb, 0, none⟩) ∧ s14 = .bool (decide ((R' p).k < 32)) ∧ RcB wx cb y ∧ y.p = addR (R' p).p V ∧ RcIn wx y ∧ (∀ ad, y.a = some ad → ad.block ≠ rb ∧ ad.block < wx.heap.size ∧ some ad.block ≠ u5.ownBlock) ∧ ChS w wx rb R' ∧ FoSt w wx u5 F R' ∧ VwB wx vb V)
                        case first =>
                          have HC11 := HC.out.later (Grw.refl wr).drew.below
                          have HF11 := HFo.out.later (Grw.refl wr).drew.below
                          have HV11 := HVB.out.later (Grw.refl wr).drew.below
                          have S11 := HC11.recs.range p hp5
                          refine wp_region_held_drew (S := fun w' => w'.rangeAt rb (p * 5) (encRc (R' p)) ∧ VwB w' vb V) (by kernel_rfl) ⟨S11, HV11⟩ (fun hHeld => ?_)
                          clear HC HFo HVB
                          generalize wr.drew = w11 at *
                          obtain ⟨X, hX⟩ : ∃ X, X = R' p := ⟨_, rfl⟩
                          rw [← hX] at hHeld S11
                          try rw [← hX]
                          have hXk := HC11.k p hp5
                          have hXin := (HC11.ins p hp5).1
                          rw [← hX] at hXk hXin
                          have hrbs := HC11.recs.lt
                          have hfos := own_at18 HF11.own
                          have HXE := Lib.hid hX
                          clear hX
                          refine vtake (i := 0) (v := (.int .i64 (p : Int))) 87 rfl (by kernel_rfl) (by kernel_rfl) (by kernel_rfl) (by kernel_rfl) (fun _ _ _ h => h) (.inl ⟨by kernel_rfl, fun w' hS => by (go_simp)⟩) hHeld ?_
                          (try simp only [Act.put, List.setIfInBounds_toArray, List.set_cons_zero, List.set_cons_succ])
                          refine vtake (i := 1) (v := (.pointer (some ⟨rb, p * 5, none⟩))) 88 rfl (by kernel_rfl) (by kernel_rfl) (by kernel_rfl) (by kernel_rfl) (fun _ _ _ h => h) (.inl ⟨by kernel_rfl, fun w' hS => by (go_simp)⟩) hHeld ?_
                          (try simp only [Act.put, List.setIfInBounds_toArray, List.set_cons_zero, List.set_cons_succ])
                          refine vtake (i := 2) (v := (.agg #[.int .u64 (X.p.last.n : Int), .int .u64 (X.p.last.e : Int), .int .i64 X.p.last.r, .int .u64 (X.p.last.m : Int), .slice X.a X.k X.c])) 89 rfl (by kernel_rfl) (by kernel_rfl) (by kernel_rfl) (by kernel_rfl) (fun _ _ _ h => h) (.inl ⟨by kernel_rfl, fun w' hS => by (have q := rangeC hS.1; obtain ⟨d0, d1, d2, d3, d4⟩ := q; go_simp)⟩) hHeld ?_
                          (try simp only [Act.put, List.setIfInBounds_toArray, List.set_cons_zero, List.set_cons_succ])
                          refine vtake (i := 3) (v := (.agg #[.int .u64 (V.n : Int), .int .u64 (V.e : Int), .int .i64 V.r, .int .u64 (V.m : Int)])) 90 rfl (by kernel_rfl) (by kernel_rfl) (by kernel_rfl) (by kernel_rfl) (fun _ _ _ h => h) (.inl ⟨by kernel_rfl, fun w' hS => by (have q := VwB.own hS.2; have d0 := q.at_ 0 _ rfl; have d1 := q.at_ 1 _ rfl; have d2 := q.at_ 2 _ rfl; have d3 := q.at_ 3 _ rfl; go_simp)⟩) hHeld ?_
                          (try simp only [Act.put, List.setIfInBounds_toArray, List.set_cons_zero, List.set_cons_succ])
                          refine wpAnyH_ready (rs := [4, 8]) (by kernel_rfl) (by simp) (AllReadyH.cons rfl (fun K hK => ?_) (AllReadyH.cons rfl (fun K hK => ?_) AllReadyH.nil))
                          · clear hHeld
                            have P := vaddN X V (hXin) HVO.out (by omega)
                            unfold valRc valV encRc encV at P
                            rw [if_pos (by kernel_rfl)]
                            go_simp
                            refine P.mono ?_
                            rintro e w12 ⟨y, rfl, hyp, hyin, hyk, BB, hya⟩
                            have HYP := Lib.hid hyp
                            clear P hyp
                            refine hK.out _ _ ⟨fun j u hj => cell_later BB (S11 j u hj), HV11.later BB⟩ (fun hHeld => ?_)
                            clear hK K
                            (try simp only [Act.put, List.setIfInBounds_toArray, List.set_cons_zero, List.set_cons_succ])
                            refine vtake (i := 5) (v := (.tuple #[(.agg #[.int .u64 (y.p.last.n : Int), .int .u64 (y.p.last.e : Int), .int .i64 y.p.last.r, .int .u64 (y.p.last.m : Int), .slice y.a y.k y.c]), .bool (decide (X.k < 32))])) 86 rfl (by kernel_rfl) (by kernel_rfl) (by kernel_rfl) (by kernel_rfl) (fun _ _ _ h => h) (.inl ⟨by kernel_rfl, fun w' hS => by (go_simp)⟩) hHeld ?_
                            (try simp only [Act.put, List.setIfInBounds_toArray, List.set_cons_zero, List.set_cons_succ])
                            refine vtake (i := 6) (v := (.agg #[.int .u64 (y.p.last.n : Int), .int .u64 (y.p.last.e : Int), .int .i64 y.p.last.r, .int .u64 (y.p.last.m : Int), .slice y.a y.k y.c])) 92 rfl (by kernel_rfl) (by kernel_rfl) (by kernel_rfl) (by kernel_rfl) (fun _ _ _ h => h) (.inl ⟨by kernel_rfl, fun w' hS => by (go_simp)⟩) hHeld ?_
                            (try simp only [Act.put, List.setIfInBounds_toArray, List.set_cons_zero, List.set_cons_succ])
                            refine vtake (i := 7) (v := (.bool (decide (X.k < 32)))) 93 rfl (by kernel_rfl) (by kernel_rfl) (by kernel_rfl) (by kernel_rfl) (fun _ _ _ h => h) (.inl ⟨by kernel_rfl, fun w' hS => by (go_simp)⟩) hHeld ?_
                            (try simp only [Act.put, List.setIfInBounds_toArray, List.set_cons_zero, List.set_cons_succ])
                            clear hHeld
                            refine wpAnyH_ready (rs := [8]) (by kernel_rfl) (by simp) (AllReadyH.cons rfl (fun K hK => ?_) AllReadyH.nil)
                            rw [if_pos (by kernel_rfl)]
                            go_simp
                            have L13 := ((Grw.refl w12).alloc (.cells #[.int .u64 0, .int .u64 0, .int .i64 0, .int .u64 0, .slice none 0 0] 34)).below
                            have NZ := RcB.zero w12
                            have hs13 : (w12.alloc (.cells #[.int .u64 0, .int .u64 0, .int .i64 0, .int .u64 0, .slice none 0 0] 34)).heap.size = w12.heap.size + 1 := by simp
                            have LB := BB.trans (L13.mono BB.size)
                            have hcb := BB.size
                            have hyc : ∀ ad, y.a = some ad → ad.block ≠ w12.heap.size ∧ ad.block < w12.heap.size + 1 := fun ad e => ⟨by have := (hya ad e).2; omega, by have := (hya ad e).2; omega⟩
                            have hyin := hyin.below L13
                            have hyc : ∀ ad, y.a = some ad → ad.block ≠ w12.heap.size ∧ ad.block < (w12.alloc (.cells #[.int .u64 0, .int .u64 0, .int .i64 0, .int .u64 0, .slice none 0 0] 34)).heap.size := fun ad e => by rw [hs13]; exact hyc ad e
                            clear L13 BB hs13
                            generalize w12.alloc (.cells #[.int .u64 0, .int .u64 0, .int .i64 0, .int .u64 0, .slice none 0 0] 34) = w13 at *
                            generalize w12.heap.size = cb at *
                            refine hK.out _ _ ⟨fun j u hj => cell_later LB (S11 j u hj), HV11.later LB⟩ (fun hHeld => ?_)
                            clear hK K hHeld
                            (try simp only [Act.put, List.setIfInBounds_toArray, List.set_cons_zero, List.set_cons_succ])
                            refine wpAnyH_ready (rs := [9]) (by kernel_rfl) (by simp) (AllReadyH.cons rfl (fun K hK => ?_) AllReadyH.nil)
                            rw [if_pos (by kernel_rfl)]
                            have LS : Below w11.heap.size w11 (w13.setRow cb (encRc y).toArray) := belowRow18 LB cb hcb _
                            refine wp_store_rc18 (.tmp 13) (.tmp 92) rfl cb y rfl rfl NZ rfl ?_
                            have hS9 : (w13.setRow cb (encRc y).toArray).rangeAt rb (p * 5) (encRc X) ∧ VwB (w13.setRow cb (encRc y).toArray) vb V := ⟨fun j u hj => cell_later LS (S11 j u hj), HV11.later LS⟩
                            refine hK.out _ _ hS9 (fun hHeld => ?_)
                            clear hK K hS9
                            (try simp only [Act.put, List.setIfInBounds_toArray, List.set_cons_zero, List.set_cons_succ])
                            refine vtake (i := 10) (v := (.bool (decide (X.k < 32)))) 14 rfl (by kernel_rfl) (by kernel_rfl) (by kernel_rfl) (by kernel_rfl) (fun _ _ _ h => h) (.inl ⟨by kernel_rfl, fun w' hS => by (go_simp)⟩) hHeld ?_
                            (try simp only [Act.put, List.setIfInBounds_toArray, List.set_cons_zero, List.set_cons_succ])
                            refine wpAnyH_done (by kernel_rfl) ?_ _
                            clear hHeld
                            have FIN := Lib.hid (show RcB (w13.setRow cb (encRc y).toArray) cb y ∧ y.p = addR X.p V ∧ RcIn (w13.setRow cb (encRc y).toArray) y ∧ (∀ ad, y.a = some ad → ad.block ≠ rb ∧ ad.block < (w13.setRow cb (encRc y).toArray).heap.size ∧ some ad.block ≠ u5.ownBlock) ∧ ChS w (w13.setRow cb (encRc y).toArray) rb R' ∧ FoSt w (w13.setRow cb (encRc y).toArray) u5 F R' ∧ VwB (w13.setRow cb (encRc y).toArray) vb V from
                              ⟨NZ.row y, HYP.out, hyin.kept (fun ad e => setRow_other _ _ _ _ (hyc ad e).1), fun ad e => ⟨by have := hya ad e; omega, by rw [size_setRow]; exact (hyc ad e).2, fun e2 => by have h1 := hfos ad.block e2.symm; have h2 := hya ad e; omega⟩, HC11.later LS, HF11.later LS, HV11.later LS⟩)
                            generalize w13.setRow cb (encRc y).toArray = wz at *
                            go_wp2_with fail
                            go_meet
                            rw [← HXE.out]
                            exact ⟨cb, y, rfl, rfl, FIN.out.1, FIN.out.2.1, FIN.out.2.2.1, FIN.out.2.2.2.1, FIN.out.2.2.2.2.1, FIN.out.2.2.2.2.2.1, FIN.out.2.2.2.2.2.2⟩
                          · clear hHeld
                            rw [if_pos (by kernel_rfl)]
                            go_simp
                            have L12 := ((Grw.refl w11).alloc (.cells #[.int .u64 0, .int .u64 0, .int .i64 0, .int .u64 0, .slice none 0 0] 34)).below
                            have NZ := RcB.zero w11
                            have hs12 : (w11.alloc (.cells #[.int .u64 0, .int .u64 0, .int .i64 0, .int .u64 0, .slice none 0 0] 34)).heap.size = w11.heap.size + 1 := by simp
                            have hcb := Nat.le_refl w11.heap.size
                            generalize w11.alloc (.cells #[.int .u64 0, .int .u64 0, .int .i64 0, .int .u64 0, .slice none 0 0] 34) = w12 at *
                            refine hK.out _ _ ⟨fun j u hj => cell_later L12 (S11 j u hj), HV11.later L12⟩ (fun hHeld => ?_)
                            clear hK K hHeld
                            (try simp only [Act.put, List.setIfInBounds_toArray, List.set_cons_zero, List.set_cons_succ])
                            refine wpAnyH_ready (rs := [4]) (by kernel_rfl) (by simp) (AllReadyH.cons rfl (fun K hK => ?_) AllReadyH.nil)
                            have P := vaddN X V (hXin.below L12) HVO.out (by omega)
                            unfold valRc valV encRc encV at P
                            rw [if_pos (by kernel_rfl)]
                            go_simp
                            refine P.mono ?_
                            rintro e w13 ⟨y, rfl, hyp, hyin, hyk, BB, hya⟩
                            have HYP := Lib.hid hyp
                            clear P hyp
                            have LB := L12.trans (BB.mono L12.size)
                            have NZ := NZ.later BB
                            have hyc : ∀ ad, y.a = some ad → ad.block ≠ w11.heap.size ∧ ad.block < w13.heap.size := fun ad e => ⟨by have := (hya ad e).1; omega, (hya ad e).2⟩
                            have hya : ∀ ad, y.a = some ad → w11.heap.size ≤ ad.block := fun ad e => by have := (hya ad e).1; omega
                            refine hK.out _ _ ⟨fun j u hj => cell_later LB (S11 j u hj), HV11.later LB⟩ (fun hHeld => ?_)
                            clear hK K
                            (try simp only [Act.put, List.setIfInBounds_toArray, List.set_cons_zero, List.set_cons_succ])
                            refine vtake (i := 5) (v := (.tuple #[(.agg #[.int .u64 (y.p.last.n : Int), .int .u64 (y.p.last.e : Int), .int .i64 y.p.last.r, .int .u64 (y.p.last.m : Int), .slice y.a y.k y.c]), .bool (decide (X.k < 32))])) 86 rfl (by kernel_rfl) (by kernel_rfl) (by kernel_rfl) (by kernel_rfl) (fun _ _ _ h => h) (.inl ⟨by kernel_rfl, fun w' hS => by (go_simp)⟩) hHeld ?_
                            (try simp only [Act.put, List.setIfInBounds_toArray, List.set_cons_zero, List.set_cons_succ])
                            refine vtake (i := 6) (v := (.agg #[.int .u64 (y.p.last.n : Int), .int .u64 (y.p.last.e : Int), .int .i64 y.p.last.r, .int .u64 (y.p.last.m : Int), .slice y.a y.k y.c])) 92 rfl (by kernel_rfl) (by kernel_rfl) (by kernel_rfl) (by kernel_rfl) (fun _ _ _ h => h) (.inl ⟨by kernel_rfl, fun w' hS => by (go_simp)⟩) hHeld ?_
                            (try simp only [Act.put, List.setIfInBounds_toArray, List.set_cons_zero, List.set_cons_succ])
                            refine vtake (i := 7) (v := (.bool (decide (X.k < 32)))) 93 rfl (by kernel_rfl) (by kernel_rfl) (by kernel_rfl) (by kernel_rfl) (fun _ _ _ h => h) (.inl ⟨by kernel_rfl, fun w' hS => by (go_simp)⟩) hHeld ?_
                            (try simp only [Act.put, List.setIfInBounds_toArray, List.set_cons_zero, List.set_cons_succ])
                            clear hHeld BB
                            refine wpAnyH_ready (rs := [9]) (by kernel_rfl) (by simp) (AllReadyH.cons rfl (fun K hK => ?_) AllReadyH.nil)
                            rw [if_pos (by kernel_rfl)]
                            have LS : Below w11.heap.size w11 (w13.setRow w11.heap.size (encRc y).toArray) := belowRow18 LB w11.heap.size hcb _
                            refine wp_store_rc18 (.tmp 13) (.tmp 92) rfl w11.heap.size y rfl rfl NZ rfl ?_
                            have hS9 : (w13.setRow w11.heap.size (encRc y).toArray).rangeAt rb (p * 5) (encRc X) ∧ VwB (w13.setRow w11.heap.size (encRc y).toArray) vb V := ⟨fun j u hj => cell_later LS (S11 j u hj), HV11.later LS⟩
                            refine hK.out _ _ hS9 (fun hHeld => ?_)
                            clear hK K hS9
                            (try simp only [Act.put, List.setIfInBounds_toArray, List.set_cons_zero, List.set_cons_succ])
                            refine vtake (i := 10) (v := (.bool (decide (X.k < 32)))) 14 rfl (by kernel_rfl) (by kernel_rfl) (by kernel_rfl) (by kernel_rfl) (fun _ _ _ h => h) (.inl ⟨by kernel_rfl, fun w' hS => by (go_simp)⟩) hHeld ?_
                            (try simp only [Act.put, List.setIfInBounds_toArray, List.set_cons_zero, List.set_cons_succ])
                            refine wpAnyH_done (by kernel_rfl) ?_ _
                            clear hHeld
                            have FIN := Lib.hid (show RcB (w13.setRow w11.heap.size (encRc y).toArray) w11.heap.size y ∧ y.p = addR X.p V ∧ RcIn (w13.setRow w11.heap.size (encRc y).toArray) y ∧ (∀ ad, y.a = some ad → ad.block ≠ rb ∧ ad.block < (w13.setRow w11.heap.size (encRc y).toArray).heap.size ∧ some ad.block ≠ u5.ownBlock) ∧ ChS w (w13.setRow w11.heap.size (encRc y).toArray) rb R' ∧ FoSt w (w13.setRow w11.heap.size (encRc y).toArray) u5 F R' ∧ VwB (w13.setRow w11.heap.size (encRc y).toArray) vb V from
                              ⟨NZ.row y, HYP.out, hyin.kept (fun ad e => setRow_other _ _ _ _ (hyc ad e).1), fun ad e => ⟨by have := hya ad e; omega, by rw [size_setRow]; exact (hyc ad e).2, fun e2 => by have h1 := hfos ad.block e2.symm; have h2 := hya ad e; omega⟩, HC11.later LS, HF11.later LS, HV11.later LS⟩)
                            generalize w13.setRow w11.heap.size (encRc y).toArray = wz at *
                            go_wp2_with fail
                            go_meet
                            rw [← HXE.out]
                            exact ⟨w11.heap.size, y, rfl, rfl, FIN.out.1, FIN.out.2.1, FIN.out.2.2.1, FIN.out.2.2.2.1, FIN.out.2.2.2.2.1, FIN.out.2.2.2.2.2.1, FIN.out.2.2.2.2.2.2⟩
                        case rest =>
                          obtain ⟨cb, y, rfl, rfl, hyb, hyp, hyin, hya, hc1, hf1, hv1⟩ := hcut
                          have HYB := Lib.hid hyb
                          have HC12 := Lib.hid hc1
                          have HYL := hc1
                          have hyl : y.p.pend.length ≤ 32 := by rw [hyp]; exact addR_len _ _ (hc1.ins p hp5).2.1
                          have HC13 := Lib.hid (hc1.put p hp5 y hyin hyl (fun ad e => ⟨(hya ad e).1, (hya ad e).2.1⟩))
                          have HF13 := Lib.hid (hf1.put hc1.recs p y (fun ad e => (hya ad e).2.2) (p * 5) (encRc y))
                          have HV13 := Lib.hid (show VwB (wc.setCells rb (p * 5) (encRc y)) vb V from (setCells_other _ _ _ _ (vw_narr hc1.recs hv1)).trans hv1)
                          have hlenp := (hc1.ins p hp5).1.len
                          have HRP := Lib.hid (HAR.out.at_ hp5)
                          have HAR2 := Lib.hid (HAR.out.add hp5 HMB.out HXB.out y hyp)
                          have HAL2 := Lib.hid (HAL.out.add (k := (R' p).k) HMB.out HXB.out (by rw [← HRP.out]; exact hlenp))
                          obtain ⟨kb, hkb⟩ : ∃ kb, kb = decide ((R' p).k < 32) := ⟨_, rfl⟩
                          rw [← hkb] at HAL2
                          try rw [← hkb]
                          clear hyb hyp hyin hya hc1 hf1 hv1 HC HFo HVB HAR HAL HYL hyl hlenp HRP hkb
                          go_upto_region 32 with (first | (refine load_rc rfl (.tmp 13) rfl cb rfl HYB.out ?_) | (refine store_rcA rfl (.tmp 96) (.tmp 95) rfl rb p hp5 y rfl rfl HC12.out.recs ?_))
                          generalize wc.setCells rb (p * 5) (encRc y) = w14 at *
                          cases al with
                          | false =>
                            go_wp2
                            go_roundw
                            case rel => exact ⟨p + 1, updR R' p y, false, by omega, rfl, by go_num, HC13.out, HF13.out, HV13.out, HAR2.out, HAL2.out⟩
                            case measure => simp [intOf]; omega
                          | true =>
                            go_wp2
                            go_roundw
                            case rel => exact ⟨p + 1, updR R' p y, kb, by omega, rfl, by go_num, HC13.out, HF13.out, HV13.out, HAR2.out, HAL2.out⟩
                            case measure => simp [intOf]; omega
                  · obtain rfl : p = 5 := by omega
                    rw [show ((5 : Nat) : Int) = 5 from rfl]
                    have HC10 := Lib.hid HC.out
                    have HF10 := Lib.hid HFo.out
                    have HV10 := Lib.hid HVB.out
                    have HAR5 := Lib.hid HAR.out
                    have HAL5 := Lib.hid HAL.out
                    have HFR0 := Lib.hid (FormRel.zero R' V m xf al)
                    clear HC HFo HVB HAR HAL
                    go_upto_region 35 with fail
                    go_loopw [15, 16] (fun sn sp wr => ∃ (p : Nat) (R2 : Nat → Rc) (an : Bool), p ≤ 5 ∧ sn = .bool an ∧ sp = .int .i64 p ∧ Aside (ChS w wr rb R2) ∧ Aside (FoSt w wr u5 F R2) ∧ Aside (VwB wr vb V) ∧ Aside (FormRel R' R2 V m xf al p) ∧ Aside (AnyRel m xf al p an) ∧ Aside (NoneRel m xf al p an)) (fun _ sp _ => 5 - (intOf sp).toNat)
                    case atStart => exact ⟨0, R', false, Nat.zero_le _, rfl, rfl, HC10.out, HF10.out, HV10.out, HFR0.out, fun h => (by cases h), fun _ q hq => absurd hq (Nat.not_lt_zero _)⟩
                    case round =>
                      obtain ⟨p, R2, an, hp, rfl, rfl, HC, HFo, HVB, HFR, HAN, HNO⟩ := hrel
                      clear HC10 HF10 HV10 HFR0
                      by_cases hp5 : p < 5
                      · by_cases hall : al = true ∧ m.testBit p = true ∧ xf.testBit p = true
                        · obtain ⟨hal, hmb, hfb⟩ := hall
                          have HFALL := Lib.hid (And.intro hal (And.intro hmb hfb))
                          subst hal
                          have PH := has_bit m p wr hm64 hp5
                          rw [hmb] at PH
                          have hbits := and_bit64 xf p hxf
                          rw [hfb] at hbits
                          simp only [if_true] at hbits
                          have k2 : wr.cell? ⟨b, o + i * 3 + 2, none⟩ = some (.int .u64 (xf : Int)) := cell_later HC.out.bel (HXR.out 2 _ rfl)
                          clear hmb hfb
                          go_wp2_with fail
                          refine PH.mono ?_
                          rintro e w11 ⟨rfl, rfl⟩
                          clear PH
                          go_upto_region 38 with fail
                          clear hbits k2
                          have HC11 := HC.out.later (Grw.refl wr).drew.below
                          have HF11 := HFo.out.later (Grw.refl wr).drew.below
                          have HV11 := HVB.out.later (Grw.refl wr).drew.below
                          refine wp_region_held_drew (S := fun w' => VwB w' vb V) (by kernel_rfl) HV11 (fun hHeld => ?_)
                          clear HC HFo HVB
                          generalize wr.drew = w12 at *
                          obtain ⟨X, hX⟩ : ∃ X, X = R2 p := ⟨_, rfl⟩
                          have S12 := HC11.recs.range p hp5
                          rw [← hX] at S12
                          try rw [← hX]
                          have hXk := HC11.k p hp5
                          have hXin := (HC11.ins p hp5).1
                          have hXl := (HC11.ins p hp5).2.1
                          rw [← hX] at hXk hXin hXl
                          have hfos := own_at18 HF11.own
                          have hrbs := HC11.recs.lt
                          have HXE := Lib.hid hX
                          clear hX
                          refine vtake (i := 0) (v := (.int .i64 (p : Int))) 122 rfl (by kernel_rfl) (by kernel_rfl) (by kernel_rfl) (by kernel_rfl) (fun _ _ _ h => h) (.inl ⟨by kernel_rfl, fun w' hS => by (go_simp)⟩) hHeld ?_
                          (try simp only [Act.put, List.setIfInBounds_toArray, List.set_cons_zero, List.set_cons_succ])
                          refine vtake (i := 1) (v := (.int .i64 (p : Int))) 123 rfl (by kernel_rfl) (by kernel_rfl) (by kernel_rfl) (by kernel_rfl) (fun _ _ _ h => h) (.inl ⟨by kernel_rfl, fun w' hS => by (go_simp)⟩) hHeld ?_
                          (try simp only [Act.put, List.setIfInBounds_toArray, List.set_cons_zero, List.set_cons_succ])
                          refine vtake (i := 2) (v := (.pointer (some ⟨rb, p * 5, none⟩))) 124 rfl (by kernel_rfl) (by kernel_rfl) (by kernel_rfl) (by kernel_rfl) (fun _ _ _ h => h) (.inl ⟨by kernel_rfl, fun w' hS => by (go_simp)⟩) hHeld ?_
                          (try simp only [Act.put, List.setIfInBounds_toArray, List.set_cons_zero, List.set_cons_succ])
                          refine vtake (i := 4) (v := (.agg #[.int .u64 (V.n : Int), .int .u64 (V.e : Int), .int .i64 V.r, .int .u64 (V.m : Int)])) 126 rfl (by kernel_rfl) (by kernel_rfl) (by kernel_rfl) (by kernel_rfl) (fun _ _ _ h => h) (.inl ⟨by kernel_rfl, fun w' hS => by (have q := VwB.own hS; have d0 := q.at_ 0 _ rfl; have d1 := q.at_ 1 _ rfl; have d2 := q.at_ 2 _ rfl; have d3 := q.at_ 3 _ rfl; go_simp)⟩) hHeld ?_
                          (try simp only [Act.put, List.setIfInBounds_toArray, List.set_cons_zero, List.set_cons_succ])
                          refine wpAnyH_ready (rs := [3]) (by kernel_rfl) (by simp) (AllReadyH.cons rfl (fun K hK => ?_) AllReadyH.nil)
                          obtain ⟨d0, d1, d2, d3, d4⟩ := rangeC S12
                          rw [if_pos (by kernel_rfl)]
                          go_simp
                          clear d0 d1 d2 d3 d4
                          refine hK.out _ _ hHeld (fun hHeld => ?_)
                          clear hK K
                          (try simp only [Act.put, List.setIfInBounds_toArray, List.set_cons_zero, List.set_cons_succ])
                          have P := vformN X V hXin HVO.out (by omega)
                          unfold valRc valV encRc encV at P
                          clear hHeld
                          refine wpAnyH_ready (rs := [5]) (by kernel_rfl) (by simp) (AllReadyH.cons rfl (fun K hK => ?_) AllReadyH.nil)
                          rw [if_pos (by kernel_rfl)]
                          go_simp
                          refine P.mono ?_
                          rintro e w13 ⟨y, rfl, hyp, hyin, hyk, BB, hya⟩
                          have HYP := Lib.hid hyp
                          clear P hyp
                          have HC13 := HC11.later BB
                          have HF13 := HF11.later BB
                          have HV13 := HV11.later BB
                          have hay : ∀ ad, y.a = some ad → ad.block ≠ rb ∧ ad.block < w13.heap.size := fun ad e => ⟨by have := (hya ad e).1; omega, (hya ad e).2⟩
                          have hyl : y.p.pend.length ≤ 32 := by rw [HYP.out]; exact formR_len _ _ hXl
                          have HC14 := Lib.hid (HC13.put p hp5 y hyin hyl hay)
                          have HF14 := Lib.hid (HF13.put HC13.recs p y (fun ad e e2 => by have h1 := hfos ad.block e2.symm; have h2 := (hya ad e).1; omega) (p * 5) (encRc y))
                          have HV14 := Lib.hid (show VwB (w13.setCells rb (p * 5) (encRc y)) vb V from (setCells_other _ _ _ _ (vw_narr HC13.recs HV13)).trans HV13)
                          have HFR2 := Lib.hid (HFR.out.add hp5 ⟨rfl, HFALL.out.2.1, HFALL.out.2.2⟩ y (by rw [← HXE.out]; exact HYP.out))
                          refine hK.out _ _ HV13 (fun hHeld => ?_)
                          clear hK K
                          (try simp only [Act.put, List.setIfInBounds_toArray, List.set_cons_zero, List.set_cons_succ])
                          refine vtake (i := 6) (v := (.pointer (some ⟨rb, p * 5, none⟩))) 128 rfl (by kernel_rfl) (by kernel_rfl) (by kernel_rfl) (by kernel_rfl) (fun _ _ _ h => h) (.inl ⟨by kernel_rfl, fun w' hS => by (go_simp)⟩) hHeld ?_
                          (try simp only [Act.put, List.setIfInBounds_toArray, List.set_cons_zero, List.set_cons_succ])
                          clear hHeld
                          refine wpAnyH_ready (rs := [7]) (by kernel_rfl) (by simp) (AllReadyH.cons rfl (fun K hK => ?_) AllReadyH.nil)
                          rw [if_pos (by kernel_rfl)]
                          refine wp_store_rcA (.tmp 128) (.tmp 127) rfl rb p hp5 y rfl rfl HC13.recs rfl ?_
                          generalize w13.setCells rb (p * 5) (encRc y) = w14 at *
                          refine hK.out _ _ HV14.out (fun hHeld => ?_)
                          clear hK K HC13 HF13 HV13 hay hyl hyin hya HC11 HF11 HV11 HFR HAN HNO
                          (try simp only [Act.put, List.setIfInBounds_toArray, List.set_cons_zero, List.set_cons_succ])
                          refine wpAnyH_done (by kernel_rfl) ?_ _
                          clear hHeld
                          go_wp2
                          go_roundw
                          case rel => exact ⟨p + 1, updR R2 p y, true, by omega, rfl, by go_num, HC14.out, HF14.out, HV14.out, HFR2.out, fun _ => rfl, fun h => (by cases h)⟩
                          case measure => simp [intOf]; omega
                        · have HFR2 := Lib.hid (HFR.out.skip hall)
                          have HNO2 := Lib.hid (NoneRel.skip HNO.out hall)
                          have HHALL := Lib.hid hall
                          have k2 : wr.cell? ⟨b, o + i * 3 + 2, none⟩ = some (.int .u64 (xf : Int)) := cell_later HC.out.bel (HXR.out 2 _ rfl)
                          clear hall HFR HNO
                          cases al with
                          | false =>
                            go_wp2
                            go_roundw
                            case rel => exact ⟨p + 1, R2, an, by omega, rfl, by go_num, HC.out, HFo.out, HVB.out, HFR2.out, HAN.out, HNO2.out⟩
                            case measure => simp [intOf]; omega
                          | true =>
                            have PH := has_bit m p wr hm64 hp5
                            cases hmb : m.testBit p with
                            | false =>
                              rw [hmb] at PH
                              clear hmb HHALL
                              go_wp2_with fail
                              refine PH.mono ?_
                              rintro e w11 ⟨rfl, rfl⟩
                              clear PH
                              go_wp2
                              go_roundw
                              case rel => exact ⟨p + 1, R2, an, by omega, rfl, by go_num, HC.out, HFo.out, HVB.out, HFR2.out, HAN.out, HNO2.out⟩
                              case measure => simp [intOf]; omega
                            | true =>
                              rw [hmb] at PH
                              have hfb : xf.testBit p = false := by
                                cases h : xf.testBit p with
                                | false => rfl
                                | true => exact absurd ⟨rfl, hmb, h⟩ HHALL.out
                              have hbits := and_bit64 xf p hxf
                              rw [hfb] at hbits
                              simp only [Bool.false_eq_true, if_false] at hbits
                              clear hmb hfb HHALL
                              go_wp2_with fail
                              refine PH.mono ?_
                              rintro e w11 ⟨rfl, rfl⟩
                              clear PH
                              go_wp2
                              go_roundw
                              case rel => exact ⟨p + 1, R2, an, by omega, rfl, by go_num, HC.out, HFo.out, HVB.out, HFR2.out, HAN.out, HNO2.out⟩
                              case measure => simp [intOf]; omega
                      · obtain rfl : p = 5 := by omega
                        rw [show ((5 : Nat) : Int) = 5 from rfl]
                        have HCD := Lib.hid HC.out
                        have HFD := Lib.hid HFo.out
                        have HVD := Lib.hid HVB.out
                        have hnv : V.n ≤ i + 1 := by rw [HVN.out]; exact HNW.out.2.2
                        cases an with
                        | false =>
                          have HCH2 := Lib.hid (show Chn (fun p => (R2 p).p) (first5 :: F) (i + 1) from chain_wrote HCh.out hnv HAR5.out HFR.out HNO.out)
                          clear HC HFo HVB HFR HAN HNO HVD HAR5 HAL5 HCh
                          go_wp2
                          go_roundw
                          case rel => exact ⟨i + 1, R2, F, by omega, by go_num, by omega, HCD.out, HFD.out, HCH2.out⟩
                          case measure => simp [intOf]; omega
                        | true =>
                          have hal : al = true := HAN.out rfl
                          subst hal
                          have HCH2 := Lib.hid (show Chn (fun p => (R2 p).p) (first5 :: (F ++ [V])) (i + 1) from
                            chain_formed HCh.out HYL.out hnv (by rw [HVN.out]; exact HNW.out.2.1) (by rw [HVM.out]; exact HNW.out.1) HVM.out HM5.out HAR5.out HAL5.out HFR.out)
                          clear HC HFo HVB HFR HAN HNO HAR5 HAL5 HCh
                          have L13 := ((Grw.refl wr).alloc (.cells #[.int .u64 (V.n : Int), .int .u64 (V.e : Int), .int .i64 V.r, .int .u64 (V.m : Int)] 31)).below
                          have HC13 := Lib.hid (HCD.out.later L13)
                          have HF13 := Lib.hid (HFD.out.later L13)
                          have N13 := Lib.hid (VwB.new wr V)
                          have hbz := HC13.out.bel.size
                          have hsz : (wr.alloc (.cells #[.int .u64 (V.n : Int), .int .u64 (V.e : Int), .int .i64 V.r, .int .u64 (V.m : Int)] 31)).heap.size = wr.heap.size + 1 := by simp
                          have HSZ := Lib.hid hsz
                          clear L13 hsz
                          go_wp2_with (first | (refine load_vw rfl (.tmp 10) rfl vb rfl HVD.out ?_) | (at_builtin; refine append_vw_at _ rfl (.tmp 130) (.tmp 132) rfl w.heap.size _ _ _ rfl HF13.out.own wr.heap.size V rfl N13.out (by omega) hbz ?_; intro v14 w14 h1 h2 h3))
                          rw [← flat_append] at h1
                          have HC14 := Lib.hid (HC13.out.grown HF13.out.own (by decide) h2 HF13.out.nd)
                          have HF14 := Lib.hid (show FoSt w w14 v14 (F ++ [V]) R2 from ⟨own_eq h1 (by simp) rfl, fun q hq ad e => by
                            rcases h3 with e3 | e3
                            · rw [e3]; exact HF13.out.nd q hq ad e
                            · rw [e3]
                              intro e4
                              injection e4 with e4
                              have h5 := ((HCD.out.ins q hq).2.2 ad e).2
                              have h6 := HSZ.out
                              omega, fun u hu => by
                            rcases List.mem_append.1 hu with hu | hu
                            · exact HF13.out.ok u hu
                            · rw [List.mem_singleton.1 hu]; exact HVO.out⟩)
                          clear h1 h2 h3 HC13 HF13 N13 hbz HCD HFD HVD
                          go_wp2
                          go_roundw
                          case rel => exact ⟨i + 1, R2, F ++ [V], by omega, by go_num, by rw [List.length_append]; simp; omega, HC14.out, HF14.out, HCH2.out⟩
                          case measure => simp [intOf]; omega
        · obtain rfl : n = i := by omega
          have HCE := Lib.hid HC.out
          have HFE := Lib.hid (own_form' HFo.out.own)
          obtain ⟨a9, c9, hu9⟩ := HFE.out
          subst hu9
          have HFV := Lib.hid (own_vws HFo.out.own rfl HFo.out.ok)
          have HCHE := Lib.hid HCh.out
          clear HFE HC HFo HCh
          obtain ⟨b5, hb5⟩ : ∃ b5, b5 = below 5 := ⟨_, rfl⟩
          have PAL := all_any 5 wr (by decide) (by decide)
          rw [← hb5] at PAL
          have hb64 : b5 < 18446744073709551616 := by rw [hb5]; exact below_lt _
          have HF5 := Lib.hid (show first5.m = b5 from hb5.symm)
          clear hb5
          go_wp2_with fail
          refine PAL.mono ?_
          rintro e w20 ⟨rfl, rfl⟩
          clear PAL
          have W20 := Lib.hid (Below.refl wr.heap.size wr)
          go_upto_region 44 with fail
          go_loopw [17, 18] (fun sa si wz => ∃ (k : Nat) (z : Vw), k ≤ F.length ∧ sa = .int .u64 (z.m : Int) ∧ si = .int .i64 k ∧ Aside (Below wr.heap.size wr wz) ∧ Aside ((first5 :: F)[k]? = some z) ∧ Aside (z.m < 18446744073709551616)) (fun _ si _ => F.length - (intOf si).toNat)
          case atStart => exact ⟨0, first5, Nat.zero_le _, by rw [HF5.out], rfl, W20.out, rfl, by rw [HF5.out]; exact hb64⟩
          case round =>
            obtain ⟨k, z, hk, rfl, rfl, HB, HZ, HZM⟩ := hrel
            clear W20
            by_cases hkl : k < F.length
            · obtain ⟨b1, o1, x, rfl, hx, hr, hxo⟩ := (HFV.out.below HB.out).row hkl
              have hrise := HCHE.out.rise k z x HZ.out (by rw [List.getElem?_cons_succ]; exact hx)
              have HX1 := Lib.hid (show (first5 :: F)[k + 1]? = some x by rw [List.getElem?_cons_succ]; exact hx)
              have hxm := hxo.m
              have HPR := Lib.hid (show 0 < k → F[k - 1]? = some z from fun h0 => by
                have := HZ.out
                obtain ⟨j, rfl⟩ : ∃ j, k = j + 1 := ⟨k - 1, by omega⟩
                rw [List.getElem?_cons_succ] at this
                exact this)
              have hzr : 0 < k → wr.rangeAt b1 (o1 + (k - 1) * 4) (encV z) := fun h0 => by
                obtain ⟨b2, o2, y, e2, hy, hry, _⟩ := (HFV.out.below HB.out).row (k := k - 1) (by omega)
                injection e2 with e2
                injection e2 with e3 e4 _
                subst e3 e4
                rw [HPR.out h0] at hy
                rw [Option.some.inj hy]
                exact hry
              have HBN := Lib.hid (HB.out.trans ((Grw.refl wr).drew.below.mono HB.out.size))
              have SX : wr.drew.rangeAt b1 (o1 + k * 4) (encV x) ∧ (0 < k → wr.drew.rangeAt b1 (o1 + (k - 1) * 4) (encV z)) := ⟨hr, hzr⟩
              obtain ⟨xn, xe, xr, xm⟩ := x
              obtain ⟨zn, ze, zr, zm⟩ := z
              simp only at hrise hxm
              have hzm : zm < 18446744073709551616 := HZM.out
              clear hx hr hxo hzr HPR HZ HZM HB
              go_upto_region 46 with fail
              refine wp_region_held_drew (S := fun w' => w'.rangeAt b1 (o1 + k * 4) (encV ⟨xn, xe, xr, xm⟩) ∧ (0 < k → w'.rangeAt b1 (o1 + (k - 1) * 4) (encV ⟨zn, ze, zr, zm⟩))) (by kernel_rfl) SX (fun hHeld => ?_)
              clear SX
              generalize wr.drew = w21 at *
              refine vtake (i := 0) (v := (.slice (some ⟨b1, o1, none⟩) F.length c9)) 141 rfl (by kernel_rfl) (by kernel_rfl) (by kernel_rfl) (by kernel_rfl) (fun _ _ _ h => h) (.inl ⟨by kernel_rfl, fun w' hS => by (go_simp)⟩) hHeld ?_
              (try simp only [Act.put, List.setIfInBounds_toArray, List.set_cons_zero, List.set_cons_succ])
              refine vtake (i := 1) (v := (.int .i64 (k : Int))) 142 rfl (by kernel_rfl) (by kernel_rfl) (by kernel_rfl) (by kernel_rfl) (fun _ _ _ h => h) (.inl ⟨by kernel_rfl, fun w' hS => by (go_simp)⟩) hHeld ?_
              (try simp only [Act.put, List.setIfInBounds_toArray, List.set_cons_zero, List.set_cons_succ])
              refine vtake (i := 2) (v := (.pointer (some ⟨b1, o1 + k * 4, none⟩))) 143 rfl (by kernel_rfl) (by kernel_rfl) (by kernel_rfl) (by kernel_rfl) (fun _ _ _ h => h) (.inl ⟨by kernel_rfl, fun w' hS => by (go_simp)⟩) hHeld ?_
              (try simp only [Act.put, List.setIfInBounds_toArray, List.set_cons_zero, List.set_cons_succ])
              refine vtake (i := 3) (v := (.pointer (some ⟨b1, o1 + k * 4 + 3, none⟩))) 144 rfl (by kernel_rfl) (by kernel_rfl) (by kernel_rfl) (by kernel_rfl) (fun _ _ _ h => h) (.inl ⟨by kernel_rfl, fun w' hS => by (go_simp)⟩) hHeld ?_
              (try simp only [Act.put, List.setIfInBounds_toArray, List.set_cons_zero, List.set_cons_succ])
              refine vtake (i := 4) (v := (.int .u64 (xm : Int))) 145 rfl (by kernel_rfl) (by kernel_rfl) (by kernel_rfl) (by kernel_rfl) (fun _ _ _ h => h) (.inl ⟨by kernel_rfl, fun w' hS => by (have hc : w'.cell? ⟨b1, o1 + k * 4 + 3, none⟩ = some (.int .u64 (xm : Int)) := hS.1 3 _ rfl; go_simp)⟩) hHeld ?_
              (try simp only [Act.put, List.setIfInBounds_toArray, List.set_cons_zero, List.set_cons_succ])
              refine vtake (i := 5) (v := (.int .u64 (zm : Int))) 146 rfl (by kernel_rfl) (by kernel_rfl) (by kernel_rfl) (by kernel_rfl) (fun _ _ _ h => h) (.inl ⟨by kernel_rfl, fun w' hS => by (go_simp)⟩) hHeld ?_
              (try simp only [Act.put, List.setIfInBounds_toArray, List.set_cons_zero, List.set_cons_succ])
              refine wpAnyH_ready (rs := [6]) (by kernel_rfl) (by simp) (AllReadyH.cons rfl (fun K hK => ?_) AllReadyH.nil)
              rw [if_pos (by kernel_rfl)]
              have PQ := most_any xm zm w21 hxm hzm
              rw [hrise.2] at PQ
              go_simp
              refine PQ.mono ?_
              rintro e wq ⟨rfl, hsame⟩
              subst hsame
              refine hK.out _ _ hHeld (fun hHeld => ?_)
              clear hK K PQ
              (try simp only [Act.put, List.setIfInBounds_toArray, List.set_cons_zero, List.set_cons_succ])
              refine vtake (i := 7) (v := (.bool false)) 148 rfl (by kernel_rfl) (by kernel_rfl) (by kernel_rfl) (by kernel_rfl) (fun _ _ _ h => h) (.inl ⟨by kernel_rfl, fun w' hS => by (go_simp)⟩) hHeld ?_
              (try simp only [Act.put, List.setIfInBounds_toArray, List.set_cons_zero, List.set_cons_succ])
              refine vtake (i := 8) (v := (.bool false)) 149 rfl (by kernel_rfl) (by kernel_rfl) (by kernel_rfl) (by kernel_rfl) (fun _ _ _ h => h) (.inl ⟨by kernel_rfl, fun w' hS => by (go_simp)⟩) hHeld ?_
              (try simp only [Act.put, List.setIfInBounds_toArray, List.set_cons_zero, List.set_cons_succ])
              refine vtake (i := 9) (v := (.int .i64 (k : Int))) 150 rfl (by kernel_rfl) (by kernel_rfl) (by kernel_rfl) (by kernel_rfl) (fun _ _ _ h => h) (.inl ⟨by kernel_rfl, fun w' hS => by (go_simp)⟩) hHeld ?_
              (try simp only [Act.put, List.setIfInBounds_toArray, List.set_cons_zero, List.set_cons_succ])
              by_cases h0 : 0 < k
              · obtain ⟨j, hj⟩ : ∃ j, j = k - 1 := ⟨_, rfl⟩
                have hsub : IntKind.i64.wrap ((k : Int) - 1) = (j : Int) := by rw [IntKind.wrap_i64]; omega
                have hsub2 : wrap64 ((k : Int) - 1) = (j : Int) := by unfold wrap64; omega
                have hjl : j < F.length := by omega
                have hle : ¬(xn : Int) ≤ (zn : Int) := by omega
                have HJ := Lib.hid hj
                clear hj
                refine vtake (i := 10) (v := (.bool true)) 151 rfl (by kernel_rfl) (by kernel_rfl) (by kernel_rfl) (by kernel_rfl) (fun _ _ _ h => h) (.inl ⟨by kernel_rfl, fun w' hS => by (go_simp)⟩) hHeld ?_
                (try simp only [Act.put, List.setIfInBounds_toArray, List.set_cons_zero, List.set_cons_succ])
                refine vtake (i := 11) (v := (.bool true)) 152 rfl (by kernel_rfl) (by kernel_rfl) (by kernel_rfl) (by kernel_rfl) (fun _ _ _ h => h) (.inl ⟨by kernel_rfl, fun w' hS => by (go_simp)⟩) hHeld ?_
                (try simp only [Act.put, List.setIfInBounds_toArray, List.set_cons_zero, List.set_cons_succ])
                refine vtake (i := 12) (v := (.slice (some ⟨b1, o1, none⟩) F.length c9)) 153 rfl (by kernel_rfl) (by kernel_rfl) (by kernel_rfl) (by kernel_rfl) (fun _ _ _ h => h) (.inl ⟨by kernel_rfl, fun w' hS => by (go_simp)⟩) hHeld ?_
                (try simp only [Act.put, List.setIfInBounds_toArray, List.set_cons_zero, List.set_cons_succ])
                refine vtake (i := 13) (v := (.int .i64 (k : Int))) 154 rfl (by kernel_rfl) (by kernel_rfl) (by kernel_rfl) (by kernel_rfl) (fun _ _ _ h => h) (.inl ⟨by kernel_rfl, fun w' hS => by (go_simp)⟩) hHeld ?_
                (try simp only [Act.put, List.setIfInBounds_toArray, List.set_cons_zero, List.set_cons_succ])
                refine vtake (i := 14) (v := (.pointer (some ⟨b1, o1 + k * 4, none⟩))) 155 rfl (by kernel_rfl) (by kernel_rfl) (by kernel_rfl) (by kernel_rfl) (fun _ _ _ h => h) (.inl ⟨by kernel_rfl, fun w' hS => by (go_simp)⟩) hHeld ?_
                (try simp only [Act.put, List.setIfInBounds_toArray, List.set_cons_zero, List.set_cons_succ])
                refine vtake (i := 15) (v := (.pointer (some ⟨b1, o1 + k * 4, none⟩))) 156 rfl (by kernel_rfl) (by kernel_rfl) (by kernel_rfl) (by kernel_rfl) (fun _ _ _ h => h) (.inl ⟨by kernel_rfl, fun w' hS => by (go_simp)⟩) hHeld ?_
                (try simp only [Act.put, List.setIfInBounds_toArray, List.set_cons_zero, List.set_cons_succ])
                refine vtake (i := 16) (v := (.int .u64 (xn : Int))) 157 rfl (by kernel_rfl) (by kernel_rfl) (by kernel_rfl) (by kernel_rfl) (fun _ _ _ h => h) (.inl ⟨by kernel_rfl, fun w' hS => by (have hc : w'.cell? ⟨b1, o1 + k * 4, none⟩ = some (.int .u64 (xn : Int)) := hS.1 0 _ rfl; go_simp)⟩) hHeld ?_
                (try simp only [Act.put, List.setIfInBounds_toArray, List.set_cons_zero, List.set_cons_succ])
                refine vtake (i := 17) (v := (.slice (some ⟨b1, o1, none⟩) F.length c9)) 158 rfl (by kernel_rfl) (by kernel_rfl) (by kernel_rfl) (by kernel_rfl) (fun _ _ _ h => h) (.inl ⟨by kernel_rfl, fun w' hS => by (go_simp)⟩) hHeld ?_
                (try simp only [Act.put, List.setIfInBounds_toArray, List.set_cons_zero, List.set_cons_succ])
                refine vtake (i := 18) (v := (.int .i64 (k : Int))) 159 rfl (by kernel_rfl) (by kernel_rfl) (by kernel_rfl) (by kernel_rfl) (fun _ _ _ h => h) (.inl ⟨by kernel_rfl, fun w' hS => by (go_simp)⟩) hHeld ?_
                (try simp only [Act.put, List.setIfInBounds_toArray, List.set_cons_zero, List.set_cons_succ])
                refine vtake (i := 19) (v := (.int .i64 (j : Int))) 160 rfl (by kernel_rfl) (by kernel_rfl) (by kernel_rfl) (by kernel_rfl) (fun _ _ _ h => h) (.inl ⟨by kernel_rfl, fun w' hS => by (go_simp)⟩) hHeld ?_
                (try simp only [Act.put, List.setIfInBounds_toArray, List.set_cons_zero, List.set_cons_succ])
                refine vtake (i := 20) (v := (.pointer (some ⟨b1, o1 + j * 4, none⟩))) 161 rfl (by kernel_rfl) (by kernel_rfl) (by kernel_rfl) (by kernel_rfl) (fun _ _ _ h => h) (.inl ⟨by kernel_rfl, fun w' hS => by (go_simp)⟩) hHeld ?_
                (try simp only [Act.put, List.setIfInBounds_toArray, List.set_cons_zero, List.set_cons_succ])
                refine vtake (i := 21) (v := (.pointer (some ⟨b1, o1 + j * 4, none⟩))) 162 rfl (by kernel_rfl) (by kernel_rfl) (by kernel_rfl) (by kernel_rfl) (fun _ _ _ h => h) (.inl ⟨by kernel_rfl, fun w' hS => by (go_simp)⟩) hHeld ?_
                (try simp only [Act.put, List.setIfInBounds_toArray, List.set_cons_zero, List.set_cons_succ])
                refine vtake (i := 22) (v := (.int .u64 (zn : Int))) 163 rfl (by kernel_rfl) (by kernel_rfl) (by kernel_rfl) (by kernel_rfl) (fun _ _ _ h => h) (.inl ⟨by kernel_rfl, fun w' hS => by (have hq := hS.2 h0; rw [← HJ.out] at hq; have hc : w'.cell? ⟨b1, o1 + j * 4, none⟩ = some (.int .u64 (zn : Int)) := hq 0 _ rfl; go_simp)⟩) hHeld ?_
                (try simp only [Act.put, List.setIfInBounds_toArray, List.set_cons_zero, List.set_cons_succ])
                refine vtake (i := 23) (v := (.bool false)) 164 rfl (by kernel_rfl) (by kernel_rfl) (by kernel_rfl) (by kernel_rfl) (fun _ _ _ h => h) (.inl ⟨by kernel_rfl, fun w' hS => by (go_simp)⟩) hHeld ?_
                (try simp only [Act.put, List.setIfInBounds_toArray, List.set_cons_zero, List.set_cons_succ])
                refine vtake (i := 24) (v := (.bool false)) 165 rfl (by kernel_rfl) (by kernel_rfl) (by kernel_rfl) (by kernel_rfl) (fun _ _ _ h => h) (.inl ⟨by kernel_rfl, fun w' hS => by (go_simp)⟩) hHeld ?_
                (try simp only [Act.put, List.setIfInBounds_toArray, List.set_cons_zero, List.set_cons_succ])
                refine vtake (i := 25) (v := (.bool false)) 166 rfl (by kernel_rfl) (by kernel_rfl) (by kernel_rfl) (by kernel_rfl) (fun _ _ _ h => h) (.inl ⟨by kernel_rfl, fun w' hS => by (go_simp)⟩) hHeld ?_
                (try simp only [Act.put, List.setIfInBounds_toArray, List.set_cons_zero, List.set_cons_succ])
                refine wpAnyH_done (by kernel_rfl) ?_ _
                have c3 : w21.cell? ⟨b1, o1 + k * 4 + 3, none⟩ = some (.int .u64 (xm : Int)) := hHeld.1 3 _ rfl
                clear hHeld
                (try clear hk0)
                clear h0
                go_wp2
                go_roundw
                case rel => exact ⟨k + 1, ⟨xn, xe, xr, xm⟩, by omega, rfl, by go_num, HBN.out, HX1.out, hxm⟩
                case measure => simp [intOf]; omega
              · have hk0 : k = 0 := by omega
                refine vtake (i := 10) (v := (.bool false)) 151 rfl (by kernel_rfl) (by kernel_rfl) (by kernel_rfl) (by kernel_rfl) (fun _ _ _ h => h) (.inl ⟨by kernel_rfl, fun w' hS => by (go_simp)⟩) hHeld ?_
                (try simp only [Act.put, List.setIfInBounds_toArray, List.set_cons_zero, List.set_cons_succ])
                refine vtake (i := 11) (v := (.bool false)) 152 rfl (by kernel_rfl) (by kernel_rfl) (by kernel_rfl) (by kernel_rfl) (fun _ _ _ h => h) (.inl ⟨by kernel_rfl, fun w' hS => by (go_simp)⟩) hHeld ?_
                (try simp only [Act.put, List.setIfInBounds_toArray, List.set_cons_zero, List.set_cons_succ])
                refine vtake (i := 12) (v := undef) 153 rfl (by kernel_rfl) (by kernel_rfl) (by kernel_rfl) (by kernel_rfl) (fun _ _ _ h => h) (.inr ⟨by kernel_rfl, rfl⟩) hHeld ?_
                (try simp only [Act.put, List.setIfInBounds_toArray, List.set_cons_zero, List.set_cons_succ])
                refine vtake (i := 13) (v := undef) 154 rfl (by kernel_rfl) (by kernel_rfl) (by kernel_rfl) (by kernel_rfl) (fun _ _ _ h => h) (.inr ⟨by kernel_rfl, rfl⟩) hHeld ?_
                (try simp only [Act.put, List.setIfInBounds_toArray, List.set_cons_zero, List.set_cons_succ])
                refine vtake (i := 14) (v := undef) 155 rfl (by kernel_rfl) (by kernel_rfl) (by kernel_rfl) (by kernel_rfl) (fun _ _ _ h => h) (.inr ⟨by kernel_rfl, rfl⟩) hHeld ?_
                (try simp only [Act.put, List.setIfInBounds_toArray, List.set_cons_zero, List.set_cons_succ])
                refine vtake (i := 15) (v := undef) 156 rfl (by kernel_rfl) (by kernel_rfl) (by kernel_rfl) (by kernel_rfl) (fun _ _ _ h => h) (.inr ⟨by kernel_rfl, rfl⟩) hHeld ?_
                (try simp only [Act.put, List.setIfInBounds_toArray, List.set_cons_zero, List.set_cons_succ])
                refine vtake (i := 16) (v := undef) 157 rfl (by kernel_rfl) (by kernel_rfl) (by kernel_rfl) (by kernel_rfl) (fun _ _ _ h => h) (.inr ⟨by kernel_rfl, rfl⟩) hHeld ?_
                (try simp only [Act.put, List.setIfInBounds_toArray, List.set_cons_zero, List.set_cons_succ])
                refine vtake (i := 17) (v := undef) 158 rfl (by kernel_rfl) (by kernel_rfl) (by kernel_rfl) (by kernel_rfl) (fun _ _ _ h => h) (.inr ⟨by kernel_rfl, rfl⟩) hHeld ?_
                (try simp only [Act.put, List.setIfInBounds_toArray, List.set_cons_zero, List.set_cons_succ])
                refine vtake (i := 18) (v := undef) 159 rfl (by kernel_rfl) (by kernel_rfl) (by kernel_rfl) (by kernel_rfl) (fun _ _ _ h => h) (.inr ⟨by kernel_rfl, rfl⟩) hHeld ?_
                (try simp only [Act.put, List.setIfInBounds_toArray, List.set_cons_zero, List.set_cons_succ])
                refine vtake (i := 19) (v := undef) 160 rfl (by kernel_rfl) (by kernel_rfl) (by kernel_rfl) (by kernel_rfl) (fun _ _ _ h => h) (.inr ⟨by kernel_rfl, rfl⟩) hHeld ?_
                (try simp only [Act.put, List.setIfInBounds_toArray, List.set_cons_zero, List.set_cons_succ])
                refine vtake (i := 20) (v := undef) 161 rfl (by kernel_rfl) (by kernel_rfl) (by kernel_rfl) (by kernel_rfl) (fun _ _ _ h => h) (.inr ⟨by kernel_rfl, rfl⟩) hHeld ?_
                (try simp only [Act.put, List.setIfInBounds_toArray, List.set_cons_zero, List.set_cons_succ])
                refine vtake (i := 21) (v := undef) 162 rfl (by kernel_rfl) (by kernel_rfl) (by kernel_rfl) (by kernel_rfl) (fun _ _ _ h => h) (.inr ⟨by kernel_rfl, rfl⟩) hHeld ?_
                (try simp only [Act.put, List.setIfInBounds_toArray, List.set_cons_zero, List.set_cons_succ])
                refine vtake (i := 22) (v := undef) 163 rfl (by kernel_rfl) (by kernel_rfl) (by kernel_rfl) (by kernel_rfl) (fun _ _ _ h => h) (.inr ⟨by kernel_rfl, rfl⟩) hHeld ?_
                (try simp only [Act.put, List.setIfInBounds_toArray, List.set_cons_zero, List.set_cons_succ])
                refine vtake (i := 23) (v := undef) 164 rfl (by kernel_rfl) (by kernel_rfl) (by kernel_rfl) (by kernel_rfl) (fun _ _ _ h => h) (.inr ⟨by kernel_rfl, rfl⟩) hHeld ?_
                (try simp only [Act.put, List.setIfInBounds_toArray, List.set_cons_zero, List.set_cons_succ])
                refine vtake (i := 24) (v := (.bool false)) 165 rfl (by kernel_rfl) (by kernel_rfl) (by kernel_rfl) (by kernel_rfl) (fun _ _ _ h => h) (.inl ⟨by kernel_rfl, fun w' hS => by (go_simp)⟩) hHeld ?_
                (try simp only [Act.put, List.setIfInBounds_toArray, List.set_cons_zero, List.set_cons_succ])
                refine vtake (i := 25) (v := (.bool false)) 166 rfl (by kernel_rfl) (by kernel_rfl) (by kernel_rfl) (by kernel_rfl) (fun _ _ _ h => h) (.inl ⟨by kernel_rfl, fun w' hS => by (go_simp)⟩) hHeld ?_
                (try simp only [Act.put, List.setIfInBounds_toArray, List.set_cons_zero, List.set_cons_succ])
                refine wpAnyH_done (by kernel_rfl) ?_ _
                have c3 : w21.cell? ⟨b1, o1 + k * 4 + 3, none⟩ = some (.int .u64 (xm : Int)) := hHeld.1 3 _ rfl
                clear hHeld
                (try clear hk0)
                clear h0
                go_wp2
                go_roundw
                case rel => exact ⟨k + 1, ⟨xn, xe, xr, xm⟩, by omega, rfl, by go_num, HBN.out, HX1.out, hxm⟩
                case measure => simp [intOf]; omega
            · obtain rfl : k = F.length := by omega
              have HBE := Lib.hid (HCE.out.bel.trans (HB.out.mono HCE.out.bel.size))
              clear HB HZ HZM
              go_wp2
              go_ret
              exact ⟨rfl, HBE.out⟩
end Go.Proofs.Ytlaenabckpjikaa
