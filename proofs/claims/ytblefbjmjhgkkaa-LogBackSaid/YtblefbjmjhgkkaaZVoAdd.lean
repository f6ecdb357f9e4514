/- Layer 18: Clone, Add, Form. (Written by wip/gen_voadd.py.) -/
import Derived.Test.YtblefbjmjhgkkaaZVoPend
import Derived.Test.YtblefbjmjhgkkaaZVoChain
import Derived.Laws.Tables
import Derived.Lib.SliceRun
set_option linter.unusedVariables false
set_option maxRecDepth 100000
set_option linter.unusedSimpArgs false
namespace Go.Proofs.Ytblefbjmjhgkkaa
open Go.RowKit Go.Sort Go.Maps

theorem wp_store_rc18 {o : Oper} {a : Act} {w : World} {K : Act → World → Prop} {Q : Exit → Act → World → Prop} (x y : Operand) (ho : o.op = .store 31 x y)
    (g : Nat) (v : Rcv) (hx : a.eval x = .pointer (some ⟨g, 0, none⟩)) (hy : a.eval y = .agg #[.int .u64 (v.p.last.n : Int), .int .u64 (v.p.last.e : Int), .int .i64 v.p.last.r, .int .u64 (v.p.last.m : Int), .slice v.a v.k v.c]) {v0 : Rcv} (hg : RcvB w g v0) (hd : o.dst = none)
    (h : K (a.put none undef) (w.setRow g (encRc v).toArray)) : o.wp Try.prog a w K Q := by
  rw [← hd] at h
  exact wp_store_row 31 x y ho g _ hx hy 31 _ hg rc_size rfl (by simp [Value.oneCell']) h
/-- Amid Add, behind the copy. -/
structure AdSt (w wx : World) (rb vb zb ob : Nat) (x : Rcv) (v : Vw) (a' : Option Addr) (c' : Nat) : Prop where
  box : RcvB wx rb x
  vw : VwB wx vb v
  res : RcvB wx zb ⟨⟨zeroV, []⟩, none, 0, 0⟩
  out : RcvB wx ob ⟨x.p, a', x.k, c'⟩
  own : wx.ownsRow w.heap.size 28 4 (.slice a' x.k c') x.k (flat encV x.p.pend)
  bel : Below w.heap.size w wx
theorem own_nrec {w : World} {base n k g : Nat} {v : Value} {xs : List Value} {x : Rcv} (h : w.ownsRow base 28 k v n xs) (hg : RcvB w g x) : some g ≠ v.ownBlock := by
  intro e
  rcases h.2 with ⟨rfl, _⟩ | ⟨g', c, cur, rfl, _, h3, _⟩
  · simp [Value.ownBlock] at e
  · simp [Value.ownBlock] at e
    subst e
    have := (Own.is hg).symm.trans h3
    injection this with e1
    injection e1 with _ e2 _
    exact absurd e2 (by decide)
theorem own_keep18 {w w' : World} {base n k : Nat} {t : TypeId} {v : Value} {xs : List Value} (h : w.ownsRow base t k v n xs) (hb : ∀ g, v.ownBlock = some g → w'.heap[g]? = w.heap[g]?) : w'.ownsRow base t k v n xs := by
  refine ⟨h.1, ?_⟩
  rcases h.2 with h1 | ⟨g, cap, cur, h1, h2, h3, h4⟩
  · exact .inl h1
  · exact .inr ⟨g, cap, cur, h1, h2, (hb g (by rw [h1]; rfl)).trans h3, h4⟩
theorem AdSt.later {w wx w' : World} {rb vb zb ob : Nat} {x : Rcv} {v : Vw} {a' : Option Addr} {c' : Nat} (h : AdSt w wx rb vb zb ob x v a' c') (hb : Below wx.heap.size wx w') : AdSt w w' rb vb zb ob x v a' c' :=
  ⟨h.box.later hb, h.vw.later hb, h.res.later hb, h.out.later hb, own_below18 h.own hb, h.bel.trans (hb.mono h.bel.size)⟩
theorem setRow_own {w : World} {g b : Nat} {t : TypeId} {cs : Array Value} (h : Own w g t cs) (rs : Array Value) (hne : g ≠ b) : Own (w.setRow b rs) g t cs := (setRow_other _ _ _ _ hne).trans h
theorem own_typ18 {w : World} {base n k : Nat} {t : TypeId} {v : Value} {xs : List Value} (h : w.ownsRow base t k v n xs) (j : Nat) (hj : v.ownBlock = some j) : base ≤ j ∧ ∃ cur, w.heap[j]? = some (.cells cur t (0, 0)) := by
  rcases h.2 with ⟨rfl, _⟩ | ⟨g, c, cur, rfl, h1, h3, _⟩
  · simp [Value.ownBlock] at hj
  · simp [Value.ownBlock] at hj
    subst hj
    exact ⟨h1, cur, h3⟩
end Go.Proofs.Ytblefbjmjhgkkaa
