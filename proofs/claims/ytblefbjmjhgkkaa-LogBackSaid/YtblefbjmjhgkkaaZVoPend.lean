/- Layer 18: Pending. -/
import Derived.Test.YtblefbjmjhgkkaaZVoFns
import Derived.Test.YtblefbjmjhgkkaaZVoMap
set_option linter.unusedVariables false
set_option maxRecDepth 100000
set_option linter.unusedSimpArgs false
namespace Go.Proofs.Ytblefbjmjhgkkaa
open Go.RowKit Go.Sort Go.Maps

/-- Take an operation first; its slot by its number. -/
theorem vtake {P : Program} {md : Region.Mode} {ops : Array Oper} {Q : Exit → Act → World → Prop} {S : World → Prop} {i : Nat} {oi : Oper} {v : Value} {fuel : Nat} {listed : Array Bool} {a : Act} {w : World} (d : Nat) (hi : ops[i]? = some oi) (hd : oi.dst = some d)
    (hs : Region.noSelect ops = true) (hf : Region.free md ops listed i = true) (hr : (Region.ready md ops listed).contains i = true)
    (hQ : ∀ c a w, Q (.panic c) (a.put oi.dst v) w → Q (.panic c) a w) (hy : YieldsIf P ops S oi v a) (hS : S w)
    (h : wpAnyH P md ops Q S fuel (listed.setIfInBounds i true) (a.put (some d) v) w) : wpAnyH P md ops Q S (fuel + 1) listed a w :=
  wpAnyH_take hi hs hf hr hQ hy hS (by rw [hd]; exact h)
/-- 'append' that says where. -/
theorem append_vw_at (w : World) {ops : Array Oper} {rest : List Oper} {o : Oper} {a : Act} {Q : Exit → Act → World → Prop} (hgd : o.guard = none) (s x : Operand)
    (ho : o.op = .call { callee := .builtin .append, args := #[s, x], argTypes := #[29, 29] })
    (base : Nat) (v : Value) (n : Nat) (xs : List Value) (hs : a.eval s = v) (hown : w.ownsRow base 28 4 v n xs)
    (g : Nat) (u : Vw) (hx : a.eval x = .slice (some ⟨g, 0, none⟩) 1 1) (hg : VwB w g u) (hn : n + 1 ≤ 200000) (hbase : base ≤ w.heap.size)
    (h : ∀ v' w', w'.ownsRow base 28 4 v' (n + 1) (xs ++ flat encV [u]) → w.grownBy w' v.ownBlock → (v'.ownBlock = v.ownBlock ∨ v'.ownBlock = some w.heap.size) → wpList Try.prog ops Q rest (a.put o.dst v') w') : wpList Try.prog ops Q (o :: rest) a w := by
  obtain ⟨i0, hi, hz0, hz1, hz2⟩ := info_parts infoVw
  refine wpList_append_own_at w hgd s x 29 ho base 28 i0 zeroVw 4 32 Try.underlying29 hi hz0 hz1 hz2 rfl (by decide) v n xs hs hown ⟨g, 0, none⟩ 1 1 (flat encV [u]) hx (by rw [flat_length encV 4 encV_length]; rfl) (fun j u' hu => ?_) (flatE_one encV_one) (by unfold maxLen; omega) (by omega) hbase (fun v' w' h1 h2 _ h4 => h v' w' h1 h2 h4)
  obtain ⟨b', o', e', R⟩ := (vw_lst hg).src (by omega)
  cases e'
  rw [add_lit18]
  exact R.flat encV_length j u' hu
theorem VwL.grown {w w' : World} {a : Option Addr} {n : Nat} {L : List Vw} {o : Option Nat} (h : VwL w a n L) (hg : w.grownBy w' o) (hn : ∀ ad, a = some ad → some ad.block ≠ o) : VwL w' a n L :=
  ⟨⟨h.at_.size, fun h0 => by
    obtain ⟨b, o', e, hr⟩ := h.at_.src h0
    refine ⟨b, o', e, fun i x hx c v hv => ?_⟩
    have hc := hr i x hx c v hv
    have hlt := World.block_lt_of_cell? _ _ hc
    rw [World.cell?_of_block (w := w) (hg.block b hlt (hn _ e))]
    exact hc⟩, h.ok⟩
/-- Amid Pending. -/
structure PdSt (w wr : World) (tb : Nat) (a5 : Option Addr) (n5 : Nat) (B Y : List Vw) (sv : Value) : Prop where
  map : MapV wr tb (fun u => Y.count u) Y.length
  base : w.heap.size ≤ tb
  own : wr.ownsRow w.heap.size 28 4 sv (onceV Y).length (flat encV (onceV Y))
  bel : Below w.heap.size w wr
  read : VwL wr a5 n5 B
  nb : ∀ ad, a5 = some ad → some ad.block ≠ sv.ownBlock ∧ ad.block ≠ tb ∧ ad.block < wr.heap.size
theorem own_nmap {w : World} {base n k tb m : Nat} {t : TypeId} {v : Value} {xs : List Value} {F : Vw → Nat} (h : w.ownsRow base t k v n xs) (hm : MapV w tb F m) : some tb ≠ v.ownBlock := by
  intro e
  obtain ⟨D, ⟨es, clock, h1, _⟩, _⟩ := hm
  rcases h.2 with ⟨rfl, _⟩ | ⟨g, c, cur, rfl, _, h3, _⟩
  · simp [Value.ownBlock] at e
  · simp [Value.ownBlock] at e
    subst e
    rw [h3] at h1
    cases h1
theorem grown_tr18 {w w' w'' : World} {o : Option Nat} (h : w.grownBy w' o) (k : w'.grownBy w'' o) : w.grownBy w'' o :=
  ⟨k.os.trans h.os, k.tape.trans h.tape, k.output.trans h.output, Nat.le_trans h.size k.size, fun i hi hn => (k.block i (Nat.lt_of_lt_of_le hi h.size) hn).trans (h.block i hi hn)⟩
section
variable {w wr w' : World} {tb n5 : Nat} {a5 : Option Addr} {B Y : List Vw} {sv : Value}
theorem PdSt.later (h : PdSt w wr tb a5 n5 B Y sv) (hb : Below wr.heap.size wr w') : PdSt w w' tb a5 n5 B Y sv :=
  ⟨h.map.below hb, h.base, own_below18 h.own hb, h.bel.trans (hb.mono h.bel.size), h.read.below hb, fun ad e => ⟨(h.nb ad e).1, (h.nb ad e).2.1, Nat.lt_of_lt_of_le (h.nb ad e).2.2 hb.size⟩⟩
/-- The map alone turned. -/
theorem PdSt.turned (h : PdSt w wr tb a5 n5 B Y sv) (hg : wr.grownBy w' (some tb)) :
    w'.ownsRow w.heap.size 28 4 sv (onceV Y).length (flat encV (onceV Y)) ∧ Below w.heap.size w w' ∧ VwL w' a5 n5 B ∧ ∀ ad, a5 = some ad → some ad.block ≠ sv.ownBlock ∧ ad.block ≠ tb ∧ ad.block < w'.heap.size := by
  refine ⟨?_, h.bel.grown hg h.bel.size (fun k hk => by cases hk; exact h.base), h.read.grown hg fun ad e e2 => (h.nb ad e).2.1 (by injection e2), fun ad e => ⟨(h.nb ad e).1, (h.nb ad e).2.1, Nat.lt_of_lt_of_le (h.nb ad e).2.2 hg.size⟩⟩
  have hne := own_nmap h.own h.map
  refine ⟨h.own.1, ?_⟩
  rcases h.own.2 with h1 | ⟨g, c, cur, h1, h2, h3, h4⟩
  · exact .inl h1
  · refine .inr ⟨g, c, cur, h1, h2, (hg.block g (Array.getElem?_eq_some_iff.1 h3).1 fun e => hne ?_).trans h3, h4⟩
    rw [h1]
    injection e with e
    rw [e]
    rfl
theorem count_next (Y : List Vw) (v : Vw) : (fun u => (Y ++ [v]).count u) = setV (fun u => Y.count u) v (Y.count v + 1) := by
  funext u
  unfold setV
  rw [List.count_append, List.count_singleton]
  by_cases e : u = v
  · subst e; simp
  · rw [if_neg e]
    have : (v == u) = false := by simpa using fun e2 => e e2.symm
    rw [this]
    rfl
/-- Behind the count. -/
structure PdMid (w wr : World) (tb : Nat) (a5 : Option Addr) (n5 : Nat) (B Y : List Vw) (v : Vw) (sv : Value) : Prop where
  map : MapV wr tb (fun u => (Y ++ [v]).count u) (Y ++ [v]).length
  base : w.heap.size ≤ tb
  own : wr.ownsRow w.heap.size 28 4 sv (onceV Y).length (flat encV (onceV Y))
  bel : Below w.heap.size w wr
  read : VwL wr a5 n5 B
  nb : ∀ ad, a5 = some ad → some ad.block ≠ sv.ownBlock ∧ ad.block ≠ tb ∧ ad.block < wr.heap.size
theorem PdMid.later {v : Vw} (h : PdMid w wr tb a5 n5 B Y v sv) (hb : Below wr.heap.size wr w') : PdMid w w' tb a5 n5 B Y v sv :=
  ⟨h.map.below hb, h.base, own_below18 h.own hb, h.bel.trans (hb.mono h.bel.size), h.read.below hb, fun ad e => ⟨(h.nb ad e).1, (h.nb ad e).2.1, Nat.lt_of_lt_of_le (h.nb ad e).2.2 hb.size⟩⟩
theorem once_yes {v : Vw} (h : v ∈ Y) : onceV (Y ++ [v]) = onceV Y := by rw [onceV_snoc]; unfold onceStep; rw [if_pos ((onceV_mem _ _).2 h)]
theorem once_no {v : Vw} (h : v ∉ Y) : onceV (Y ++ [v]) = onceV Y ++ [v] := by rw [onceV_snoc]; unfold onceStep; rw [if_neg (fun e => h ((onceV_mem _ _).1 e))]
theorem PdMid.skip {v : Vw} (h : PdMid w wr tb a5 n5 B Y v sv) (hv : v ∈ Y) : PdSt w wr tb a5 n5 B (Y ++ [v]) sv :=
  ⟨h.map, h.base, by rw [once_yes hv]; exact h.own, h.bel, h.read, h.nb⟩
theorem PdMid.add {v : Vw} {v9 : Value} (h : PdMid w wr tb a5 n5 B Y v sv) (hv : v ∉ Y) (h1 : w'.ownsRow w.heap.size 28 4 v9 ((onceV Y).length + 1) (flat encV (onceV Y) ++ flat encV [v])) (h2 : wr.grownBy w' sv.ownBlock) (h3 : v9.ownBlock = sv.ownBlock ∨ v9.ownBlock = some wr.heap.size) :
    PdSt w w' tb a5 n5 B (Y ++ [v]) v9 := by
  refine ⟨h.map.grown h2 (own_nmap h.own h.map), h.base, ?_, grown_belowV h.bel (Nat.le_refl _) h.own h2, h.read.grown h2 fun ad e => (h.nb ad e).1, fun ad e => ⟨?_, (h.nb ad e).2.1, Nat.lt_of_lt_of_le (h.nb ad e).2.2 h2.size⟩⟩
  · rw [once_no hv, flat_append]
    exact own_eq h1 (by simp) rfl
  · rcases h3 with e3 | e3
    · rw [e3]; exact (h.nb ad e).1
    · rw [e3]
      intro e4
      injection e4 with e4
      have := (h.nb ad e).2.2
      omega
end
theorem field_n (n e r m : Int) (w : World) : (Instr.field 28 (.agg #[.int .u64 n, .int .u64 e, .int .i64 r, .int .u64 m]) 0).run Try.prog w = .ok (.int .u64 n) w := by kernel_rfl
theorem field_m (n e r m : Int) (w : World) : (Instr.field 28 (.agg #[.int .u64 n, .int .u64 e, .int .i64 r, .int .u64 m]) 2).run Try.prog w = .ok (.int .u64 m) w := by kernel_rfl
end Go.Proofs.Ytblefbjmjhgkkaa
