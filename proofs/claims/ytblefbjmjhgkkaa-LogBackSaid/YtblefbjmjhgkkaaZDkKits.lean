/- Layer 19: the document's reader: what it holds; errors, numbers. -/
import Derived.Test.YtblefbjmjhgkkaaZLgKits
import Derived.Test.YtblefbjmjhgkkaaZRefGet
import Derived.Deep.QuietTactic
import Derived.BigQuiet
import Derived.Laws.ResultCell
import Derived.Deep.DeepCutAuto
import Derived.Test.YtblefbjmjhgkkaaZTil
import Derived.Deep.LoopGhost
import Derived.Test.YtblefbjmjhgkkaaZLgCatchs
set_option linter.unusedVariables false
set_option maxRecDepth 100000
set_option linter.unusedSimpArgs false
namespace Go.Proofs.Ytblefbjmjhgkkaa
open Go.RowKit Go.Sort

/-- The reader's block: the text, the place, the first error. -/
def Tk (w : World) (b : Nat) (s : ByteArray) (a c : Nat) : Prop := Own w b 72 #[.string s, .int .i64 (a : Int), .int .i64 (c : Int)]
theorem Tk.own {w : World} {b : Nat} {s : ByteArray} {a c : Nat} (h : Tk w b s a c) : Own w b 72 #[.string s, .int .i64 (a : Int), .int .i64 (c : Int)] := h
theorem Tk.lt {w : World} {b : Nat} {s : ByteArray} {a c : Nat} (h : Tk w b s a c) : b < w.heap.size := h.own.lt
theorem Tk.c0 {w : World} {b : Nat} {s : ByteArray} {a c : Nat} (h : Tk w b s a c) : w.cell? ⟨b, 0, none⟩ = some (.string s) := h.own.at_ 0 _ rfl
theorem Tk.c1 {w : World} {b : Nat} {s : ByteArray} {a c : Nat} (h : Tk w b s a c) : w.cell? ⟨b, 1, none⟩ = some (.int .i64 (a : Int)) := h.own.at_ 1 _ rfl
theorem Tk.c2 {w : World} {b : Nat} {s : ByteArray} {a c : Nat} (h : Tk w b s a c) : w.cell? ⟨b, 2, none⟩ = some (.int .i64 (c : Int)) := h.own.at_ 2 _ rfl
theorem Tk.free {w : World} {b : Nat} {s : ByteArray} {a c : Nat} (h : Tk w b s a c) (j : Nat) : w.frozen? ⟨b, j, none⟩ = false := h.own.free j
theorem Tk.set1 {w : World} {b : Nat} {s : ByteArray} {a c : Nat} (h : Tk w b s a c) (a' : Nat) : Tk (w.setCell ⟨b, 1, none⟩ (.int .i64 (a' : Int))) b s a' c := h.own.set 1 (.int .i64 (a' : Int))
theorem Tk.set2 {w : World} {b : Nat} {s : ByteArray} {a c : Nat} (h : Tk w b s a c) (c' : Nat) : Tk (w.setCell ⟨b, 2, none⟩ (.int .i64 (c' : Int))) b s a c' := h.own.set 2 (.int .i64 (c' : Int))
theorem Tk.later {w w' : World} {b : Nat} {s : ByteArray} {a c : Nat} (h : Tk w b s a c) (hb : Below w.heap.size w w') : Tk w' b s a c := h.own.below hb h.lt
theorem Tk.drewN {w : World} {b : Nat} {s : ByteArray} {a c : Nat} (h : Tk w b s a c) (n : Nat) : Tk (w.drewN n) b s a c := h
theorem Tk.grown {w w' : World} {b g : Nat} {s : ByteArray} {a c : Nat} (h : Tk w b s a c) (hg : w.grownBy w' (some g)) (hb : b ≠ g) : Tk w' b s a c := h.own.grown hg (by intro e; cases e; exact hb rfl)
theorem tgrown_set (w : World) (g j : Nat) (v : Value) : w.grownBy (w.setCell ⟨g, j, none⟩ v) (some g) :=
  ⟨rfl, rfl, rfl, by simp, fun k hk ho => heap_setCell_other w ⟨g, j, none⟩ k v (by intro e; apply ho; rw [e])⟩

/-- The error behind 'bad'. -/
def badC (c e : Nat) (is : Bool) : Nat := if is = true then (if c = 0 then e else c) else c
/-- What a method does of the place and the error, and which value it takes. -/
def TR {α : Type} (G : List UInt8 → Got α) (s : ByteArray) (a c a' c' : Nat) (v : α) : Prop :=
  (c ≠ 0 ∧ c' = c) ∨ (c = 0 ∧ c' = 0 ∧ G (restB s a) = .ok (v, restB s a') ∧ a' ≤ s.size) ∨ (c = 0 ∧ c' ≠ 0 ∧ G (restB s a) = .error c')
theorem TR.and {α β : Type} {G : List UInt8 → Got α} {H : α → List UInt8 → Got β} {s : ByteArray} {a c a1 c1 a' c' : Nat} {v : α} {v' : β} (h1 : TR G s a c a1 c1 v) (h2 : TR (H v) s a1 c1 a' c' v') : TR (fun l => andG (G l) H) s a c a' c' v' := by
  rcases h1 with ⟨h, rfl⟩ | ⟨h, rfl, hG, _⟩ | ⟨h, hn, hG⟩
  · rcases h2 with ⟨h', e⟩ | ⟨h', _⟩ | ⟨h', _⟩
    · exact .inl ⟨h, e⟩
    · exact absurd h' h
    · exact absurd h' h
  · rcases h2 with ⟨h', _⟩ | ⟨_, e, hH, hs⟩ | ⟨_, e, hH⟩
    · exact absurd rfl h'
    · exact .inr (.inl ⟨h, e, by simp only [hG, andG_ok]; exact hH, hs⟩)
    · exact .inr (.inr ⟨h, e, by simp only [hG, andG_ok]; exact hH⟩)
  · rcases h2 with ⟨_, e⟩ | ⟨h', _⟩ | ⟨h', _⟩
    · subst e
      exact .inr (.inr ⟨h, hn, by simp only [hG, andG_err]⟩)
    · exact absurd h' hn
    · exact absurd h' hn
theorem TR.bad {β : Type} {H : List UInt8 → Got β} {s : ByteArray} {a c e a' c' : Nat} {v : β} {P : Prop} [Decidable P] (he : e ≠ 0) (h : TR H s a (badC c e (decide P)) a' c' v) : TR (fun l => badG e P (H l)) s a c a' c' v := by
  unfold badC at h
  by_cases hP : P
  · rw [decide_eq_true hP, if_pos rfl] at h
    by_cases hc : c = 0
    · rw [if_pos hc] at h
      rcases h with ⟨_, rfl⟩ | ⟨h', _⟩ | ⟨h', _⟩
      · exact .inr (.inr ⟨hc, he, by simp only [badG, if_pos hP]⟩)
      · exact absurd h' he
      · exact absurd h' he
    · rw [if_neg hc] at h
      rcases h with ⟨_, rfl⟩ | ⟨h', _⟩ | ⟨h', _⟩
      · exact .inl ⟨hc, rfl⟩
      · exact absurd h' hc
      · exact absurd h' hc
  · rw [decide_eq_false hP, if_neg (by decide)] at h
    rcases h with ⟨h', e⟩ | ⟨h', e, hH, hs⟩ | ⟨h', e, hH⟩
    · exact .inl ⟨h', e⟩
    · exact .inr (.inl ⟨h', e, by simp only [badG, if_neg hP]; exact hH, hs⟩)
    · exact .inr (.inr ⟨h', e, by simp only [badG, if_neg hP]; exact hH⟩)
theorem TR.pure {β : Type} (v : β) {s : ByteArray} {a c : Nat} (h : c = 0 → a ≤ s.size) : TR (fun l => .ok (v, l)) s a c a c v := by
  by_cases hc : c = 0
  · exact .inr (.inl ⟨hc, hc, rfl, h hc⟩)
  · exact .inl ⟨hc, rfl⟩
/-- Where no error came, the place is within. -/
theorem TR.in_ {α : Type} {G : List UInt8 → Got α} {s : ByteArray} {a c a' c' : Nat} {v : α} (h : TR G s a c a' c' v) (h0 : c' = 0) : a' ≤ s.size := by
  rcases h with ⟨h, rfl⟩ | ⟨_, _, _, hs⟩ | ⟨_, h, _⟩
  · exact absurd h0 h
  · exact hs
  · exact absurd h0 h
theorem TR.in_bad {α : Type} {G : List UInt8 → Got α} {s : ByteArray} {a c a' c' e : Nat} {v : α} {is : Bool} (h : TR G s a c a' c' v) (he : e ≠ 0) (h0 : badC c' e is = 0) : a' ≤ s.size := by
  refine h.in_ ?_
  unfold badC at h0
  split at h0
  · split at h0
    · exact absurd h0 he
    · exact h0
  · exact h0

set_option maxHeartbeats 1000000 in
theorem tbad {w : World} {b : Nat} {s : ByteArray} {a c : Nat} (h : Tk w b s a c) (e : Nat) (is : Bool) (he : e < 1000) :
    Calls Try.prog 27 #[.pointer (some ⟨b, 0, none⟩), .int .i64 (e : Int), .bool is] w fun e' w' => e' = .returned (.tuple #[]) ∧ Tk w' b s a (badC c e is) ∧ w.grownBy w' (some b) := by
  have c2 := h.c2
  have f2 := h.free 2
  cases is
  · have hb : badC c e false = c := rfl
    rw [hb]
    have HH := Lib.hid h
    clear h hb
    go_enter Try.func27, Try.ntmps27
    go_wp2
    go_end0
    exact ⟨rfl, HH.out, World.grownBy.refl _ _⟩
  · by_cases hc : c = 0
    · subst hc
      have hb : badC 0 e true = e := rfl
      rw [hb]
      have H2 := Lib.hid (h.set2 e)
      have HG := Lib.hid (tgrown_set w b 2 (.int .i64 (e : Int)))
      clear h hb
      go_enter Try.func27, Try.ntmps27
      go_wp2
      go_end0
      exact ⟨rfl, H2.out, HG.out⟩
    · have hb : badC c e true = c := by unfold badC; rw [if_pos rfl, if_neg hc]
      rw [hb]
      have hne : ((c : Int) == 0) = false := by rw [beq_eq_false_iff_ne]; omega
      have HH := Lib.hid h
      clear h hb
      go_enter Try.func27, Try.ntmps27
      go_wp2
      go_end0
      exact ⟨rfl, HH.out, World.grownBy.refl _ _⟩
/-- What a number's method answers. -/
def NumPost (k : Nat) (w : World) (b : Nat) (s : ByteArray) (a c : Nat) (e : Ending) (w' : World) : Prop :=
  ∃ v c' : Nat, e = .returned (.int .u64 (v : Int)) ∧ v < 256 ^ k ∧ Tk w' b s (a + k) c' ∧ w.grownBy w' (some b) ∧ TR (getN k) s a c (a + k) c' v
theorem tget_yes (w : World) (s : ByteArray) (a k : Nat) (hs : s.size ≤ 1099511627776) (h1 : 1 ≤ k) (h8 : k ≤ 8) (hm : a + k ≤ s.size) (n : Nat) :
    Calls Try.prog 49 #[.string s, .int .i64 (a : Int), .int .i64 (k : Int)] (w.drewN n) fun e w'' => e = .returned (.tuple #[.int .u64 (be ((s.data.toList.drop a).take k) : Nat), .bool true]) ∧ ∃ m, w'' = w.drewN m :=
  (refGet_yes s a k _ (by unfold maxLen; omega) h1 h8 hm).mono fun _ _ ⟨h, e⟩ => ⟨h, n, e.symm⟩
theorem tget_no (w : World) (s : ByteArray) (a k : Nat) (hs : s.size ≤ 1099511627776) (ha : a ≤ 4503599627370496) (h1 : 1 ≤ k) (h8 : k ≤ 8) (hm : ¬ a + k ≤ s.size) (n : Nat) :
    Calls Try.prog 49 #[.string s, .int .i64 (a : Int), .int .i64 (k : Int)] (w.drewN n) fun e w'' => e = .returned (.tuple #[.int .u64 0, .bool false]) ∧ ∃ m, w'' = w.drewN m :=
  (refGet_no s (a : Int) (k : Int) _ (by unfold maxLen; omega) (by omega) (by omega) (by omega) (by omega) (by omega)).mono fun _ _ ⟨h, e⟩ => ⟨h, n, e.symm⟩
theorem tr_short {s : ByteArray} {a k : Nat} (h1 : 1 ≤ k) (hm : ¬ a + k ≤ s.size) : getN k (restB s a) = .error 2 := by
  unfold getN restB
  rw [if_pos (by rw [List.length_drop, Array.length_toList]; show s.size - a < k; omega)]
set_option maxHeartbeats 2000000 in
theorem tnum {w : World} {b : Nat} {s : ByteArray} {a c : Nat} (h : Tk w b s a c) (k : Nat) (h1 : 1 ≤ k) (h8 : k ≤ 8) (ha : a ≤ 4503599627370496) (hs : s.size ≤ 1099511627776) :
    Calls Try.prog 26 #[.pointer (some ⟨b, 0, none⟩), .int .i64 (k : Int)] w (NumPost k w b s a c) := by
  have hp : 0 < 256 ^ k := Nat.pow_pos (by decide)
  have hw : IntKind.i64.wrap ((a : Int) + (k : Int)) = ((a + k : Nat) : Int) := by rw [IntKind.wrap_i64]; omega
  have c0 := h.c0
  have c1 := h.c1
  have hD : ∀ n, w.grownBy (w.drewN n) (some b) := fun n => grown_drewN _ _ _
  by_cases hm : a + k ≤ s.size
  · have hg := tget_yes w s a k hs h1 h8 hm
    have hG := getN_at (s := s) hm
    have hv : be ((s.data.toList.drop a).take k) < 256 ^ k := getN_lt hG
    have HG := Lib.hid hG
    generalize be ((s.data.toList.drop a).take k) = v at *
    have hb : ∀ n, Calls Try.prog 27 #[.pointer (some ⟨b, 0, none⟩), .int .i64 2, .bool false] (w.drewN n) fun e' w' => e' = .returned (.tuple #[]) ∧ Tk w' b s a c ∧ (w.drewN n).grownBy w' (some b) := fun n => tbad (h.drewN n) 2 false (by decide)
    have HM := Lib.hid hm
    clear hG h hm
    go_enter Try.func26, Try.ntmps26
    go_upto_region 1 with fail
    go_quiet ((go_at_call 49; exact hg _))
    clear hg c0 c1
    go_wp2_with fail
    refine (hb _).mono ?_
    rintro e w1 ⟨rfl, T1, G1⟩
    have G1 := grown_tr (hD _) G1
    clear hb
    have c1 := T1.c1
    have f1 := T1.free 1
    have c2 := T1.c2
    have T2 := Lib.hid (T1.set1 (a + k))
    have G2 := Lib.hid (grown_tr G1 (tgrown_set w1 b 1 (.int .i64 ((a + k : Nat) : Int))))
    clear T1 G1
    by_cases hc : c = 0
    · subst hc
      go_wp2
      go_ret
      exact ⟨v, 0, rfl, hv, T2.out, G2.out, .inr (.inl ⟨rfl, rfl, HG.out, HM.out⟩)⟩
    · have hne : ¬ (c : Int) = 0 := by omega
      go_wp2
      go_ret
      exact ⟨v, c, rfl, hv, T2.out, G2.out, .inl ⟨hc, rfl⟩⟩
  · have hg := tget_no w s a k hs ha h1 h8 hm
    have HG := Lib.hid (tr_short h1 hm)
    have hcc : badC c 2 true ≠ 0 := by unfold badC; rw [if_pos rfl]; split <;> omega
    have HC : Hid (c ≠ 0 → badC c 2 true = c) := Lib.hid (fun h => by unfold badC; rw [if_pos rfl, if_neg h])
    have HZ : Hid (c = 0 → badC c 2 true = 2) := Lib.hid (fun h => by unfold badC; rw [if_pos rfl, if_pos h])
    have hb : ∀ n, Calls Try.prog 27 #[.pointer (some ⟨b, 0, none⟩), .int .i64 2, .bool true] (w.drewN n) fun e' w' => e' = .returned (.tuple #[]) ∧ Tk w' b s a (badC c 2 true) ∧ (w.drewN n).grownBy w' (some b) := fun n => tbad (h.drewN n) 2 true (by decide)
    generalize badC c 2 true = d at *
    clear h hm
    go_enter Try.func26, Try.ntmps26
    go_upto_region 1 with fail
    go_quiet ((go_at_call 49; exact hg _))
    clear hg c0 c1
    go_wp2_with fail
    refine (hb _).mono ?_
    rintro e w1 ⟨rfl, T1, G1⟩
    have G1 := grown_tr (hD _) G1
    clear hb
    have c1 := T1.c1
    have f1 := T1.free 1
    have c2 := T1.c2
    have T2 := Lib.hid (T1.set1 (a + k))
    have G2 := Lib.hid (grown_tr G1 (tgrown_set w1 b 1 (.int .i64 ((a + k : Nat) : Int))))
    clear T1 G1
    have hne : ¬ (d : Int) = 0 := by omega
    go_wp2
    go_ret
    refine ⟨0, d, rfl, hp, T2.out, G2.out, ?_⟩
    by_cases hc : c = 0
    · exact .inr (.inr ⟨hc, hcc, by rw [HZ.out hc]; exact HG.out⟩)
    · exact .inl ⟨hc, HC.out hc⟩

end Go.Proofs.Ytblefbjmjhgkkaa

/- Layer 19: the document's reader: a view. -/
set_option linter.unusedVariables false
set_option maxRecDepth 100000
set_option linter.unusedSimpArgs false
namespace Go.Proofs.Ytblefbjmjhgkkaa
open Go.RowKit Go.Sort

/-- What a view's method answers. -/
def ViewPost (w : World) (b : Nat) (s : ByteArray) (a c : Nat) (e : Ending) (w' : World) : Prop :=
  ∃ (v : Vw) (c' : Nat), e = .returned (.agg #[.int .u64 (v.n : Int), .int .u64 (v.e : Int), .int .i64 v.r, .int .u64 (v.m : Int)]) ∧ v.ok ∧ Tk w' b s (a + 25) c' ∧ w.grownBy w' (some b) ∧ TR getVw s a c (a + 25) c' v
/-- Amid it: the reader, the result's block, the view that is being made. -/
structure DvSt (w W : World) (b : Nat) (s : ByteArray) (a c g : Nat) (cs : Array Value) : Prop where
  tk : Tk W b s a c
  res : Own W w.heap.size 28 #[.int .u64 0, .int .u64 0, .int .i64 0, .int .u64 0]
  vw : Own W g 28 cs
  gr : w.grownBy W (some b)
  lt : b < w.heap.size
  ge : w.heap.size < g
theorem DvSt.go {w W W' : World} {b : Nat} {s : ByteArray} {a c a' c' g : Nat} {cs : Array Value} (h : DvSt w W b s a c g cs) (ht : Tk W' b s a' c') (hg : W.grownBy W' (some b)) : DvSt w W' b s a' c' g cs :=
  have hl := h.lt
  have hg' := h.ge
  ⟨ht, h.res.grown hg (by intro e; cases e; omega), h.vw.grown hg (by intro e; cases e; omega), grown_tr h.gr hg, h.lt, h.ge⟩
theorem DvSt.set {w W : World} {b : Nat} {s : ByteArray} {a c g : Nat} {cs : Array Value} (h : DvSt w W b s a c g cs) (j : Nat) (v : Value) : DvSt w (W.setCell ⟨g, j, none⟩ v) b s a c g (cs.setIfInBounds j v) :=
  have hl := h.lt
  have hg' := h.ge
  ⟨h.tk.own.set_other _ _ _ (by omega), h.res.set_other _ _ _ (by omega), h.vw.set j v, grown_set h.gr (by omega) _ _, h.lt, h.ge⟩
set_option maxHeartbeats 4000000 in
theorem tview {w : World} {b : Nat} {s : ByteArray} {a c : Nat} (h : Tk w b s a c) (ha : a ≤ 2251799813685248) (hs : s.size ≤ 1099511627776) :
    Calls Try.prog 33 #[.pointer (some ⟨b, 0, none⟩)] w (ViewPost w b s a c) := by
  have T0 := h.later ((Grw.refl w).alloc (.cells #[.int .u64 0, .int .u64 0, .int .i64 0, .int .u64 0] 28)).below
  have G0 := grown_alloc w (.cells #[.int .u64 0, .int .u64 0, .int .i64 0, .int .u64 0] 28) (some b)
  have O0 := Own.new w 28 #[.int .u64 0, .int .u64 0, .int .i64 0, .int .u64 0]
  have z0 : (w.alloc (.cells #[.int .u64 0, .int .u64 0, .int .i64 0, .int .u64 0] 28)).heap.size = w.heap.size + 1 := by simp
  have hlt := h.lt
  have hn : Calls Try.prog 26 #[.pointer (some ⟨b, 0, none⟩), .int .i64 8] (w.alloc (.cells #[.int .u64 0, .int .u64 0, .int .i64 0, .int .u64 0] 28)) (NumPost 8 (w.alloc (.cells #[.int .u64 0, .int .u64 0, .int .i64 0, .int .u64 0] 28)) b s a c) := tnum T0 8 (by decide) (by decide) (by omega) hs
  clear h
  go_enter Try.func33, Try.ntmps33
  go_wp2_with fail
  refine hn.mono ?_
  rintro e w1 ⟨v, c1, rfl, hv, T1, G1, R1⟩
  have z1 := G1.size
  rw [z0] at z1
  have S2 : DvSt w (w1.alloc (.cells #[.int .u64 (v : Int), .int .u64 0, .int .i64 0, .int .u64 0] 28)) b s (a + 8) c1 w1.heap.size #[.int .u64 (v : Int), .int .u64 0, .int .i64 0, .int .u64 0] :=
    ⟨T1.later ((Grw.refl w1).alloc _).below, (O0.grown G1 (by intro e; cases e; omega)).below ((Grw.refl w1).alloc _).below (by omega), Own.new _ _ _, grown_tr (grown_tr G0 G1) (grown_alloc _ _ _), hlt, by omega⟩
  clear hn T0 G0 O0 z0 T1 G1
  go_upto_region 2 with fail
  generalize w1.alloc (.cells #[.int .u64 (v : Int), .int .u64 0, .int .i64 0, .int .u64 0] 28) = w2 at *
  generalize w1.heap.size = g at *
  have hn := tnum S2.tk 8 (by decide) (by decide) (by omega) hs
  have hn : Calls Try.prog 26 #[.pointer (some ⟨b, 0, none⟩), .int .i64 8] w2 (NumPost 8 w2 b s (a + 8) c1) := hn
  go_wp2_with fail
  refine hn.mono ?_
  rintro e w3 ⟨v3, c3, rfl, hv3, T3, G3, R3⟩
  have S3 := S2.go T3 G3
  have k1 : w3.cell? ⟨g, 1, none⟩ = some (.int .u64 0) := S3.vw.at_ 1 _ rfl
  have f1 := S3.vw.free 1
  have S4 := S3.set 1 (.int .u64 (v3 : Int))
  clear hn T3 G3 S2 S3
  go_upto_region 3 with fail
  clear k1 f1
  generalize w3.setCell ⟨g, 1, none⟩ (.int .u64 (v3 : Int)) = w4 at *
  have hn : Calls Try.prog 26 #[.pointer (some ⟨b, 0, none⟩), .int .i64 1] w4 (NumPost 1 w4 b s (a + 8 + 8) c3) := tnum S4.tk 1 (by decide) (by decide) (by omega) hs
  go_wp2_with fail
  refine hn.mono ?_
  rintro e w5 ⟨r, c5, rfl, hr, T5, G5, R5⟩
  have hr : r < 256 := hr
  have hwr : IntKind.i64.wrap (r : Int) = (r : Int) := by rw [IntKind.wrap_i64]; omega
  have S5 := S4.go T5 G5
  have k2 : w5.cell? ⟨g, 2, none⟩ = some (.int .i64 0) := S5.vw.at_ 2 _ rfl
  have f2 := S5.vw.free 2
  have S6 := S5.set 2 (.int .i64 (r : Int))
  clear hn T5 G5 S4 S5
  go_upto_region 4 with fail
  clear k2 f2
  generalize w5.setCell ⟨g, 2, none⟩ (.int .i64 (r : Int)) = w6 at *
  have k2 : w6.cell? ⟨g, 2, none⟩ = some (.int .i64 (r : Int)) := S6.vw.at_ 2 _ rfl
  have hd : decide ((63 : Int) < (r : Int)) = decide (63 < r) := by apply decide_eq_decide.2; omega
  have hb : Calls Try.prog 27 #[.pointer (some ⟨b, 0, none⟩), .int .i64 1, .bool (decide (63 < r))] w6 fun e' w' => e' = .returned (.tuple #[]) ∧ Tk w' b s (a + 8 + 8 + 1) (badC c5 1 (decide (63 < r))) ∧ w6.grownBy w' (some b) := tbad S6.tk 1 (decide (63 < r)) (by decide)
  have HP : Hid (TR getP s (a + 8 + 8) c3 (a + 8 + 8 + 1) (badC c5 1 (decide (63 < r))) (r : Int)) := Lib.hid (R5.and (TR.bad (by decide) (TR.pure _ (fun h => R5.in_bad (by decide) h))))
  clear R5
  generalize badC c5 1 (decide (63 < r)) = c7 at *
  generalize decide (63 < r) = q at *
  go_wp2_with fail
  refine hb.mono ?_
  rintro e w7 ⟨rfl, T7, G7⟩
  have S7 := S6.go T7 G7
  have hn : Calls Try.prog 26 #[.pointer (some ⟨b, 0, none⟩), .int .i64 8] w7 (NumPost 8 w7 b s (a + 8 + 8 + 1) c7) := tnum S7.tk 8 (by decide) (by decide) (by omega) hs
  clear hb hd T7 G7 S6 k2
  go_wp2_with fail
  refine hn.mono ?_
  rintro e w8 ⟨m, c8, rfl, hm, T8, G8, R8⟩
  have S8 := S7.go T8 G8
  have k3 : w8.cell? ⟨g, 3, none⟩ = some (.int .u64 0) := S8.vw.at_ 3 _ rfl
  have f3 := S8.vw.free 3
  have S9 := S8.set 3 (.int .u64 (m : Int))
  have HR : Hid (TR getVw s a c (a + 25) c8 ⟨v, v3, (r : Int), m⟩) := Lib.hid (R1.and (R3.and (HP.out.and (R8.and (TR.pure _ (fun h => R8.in_ h))))))
  clear hn T8 G8 S7 S8 R1 R3 R8 HP
  go_upto_region 6 with fail
  clear k3 f3
  generalize w8.setCell ⟨g, 3, none⟩ (.int .u64 (m : Int)) = w9 at *
  have V9 : VwB w9 g ⟨v, v3, (r : Int), m⟩ := S9.vw
  have Z9 : VwB w9 w.heap.size zeroV := S9.res
  have hge := S9.ge
  have HT := Lib.hid (show Tk (w9.setRow w.heap.size (encV ⟨v, v3, (r : Int), m⟩).toArray) b s (a + 25) c8 from (setRow_other _ _ _ _ (by omega)).trans S9.tk.own)
  have HG := Lib.hid (grown_row S9.gr (Nat.le_refl _) (encV ⟨v, v3, (r : Int), m⟩).toArray)
  have hok : (⟨v, v3, (r : Int), m⟩ : Vw).ok := ⟨hv, hv3, by show (-9223372036854775808 : Int) ≤ (r : Int); omega, by show (r : Int) ≤ 9223372036854775807; omega, hm⟩
  have HOK := Lib.hid hok
  have R9 := Lib.hid (Z9.row ⟨v, v3, (r : Int), m⟩)
  clear S9 hok hv hv3 hm hr hwr
  go_wp2_with (first | (refine load_vw rfl (.tmp 3) rfl g rfl V9 ?_) | (refine store_vw rfl (.tmp 2) (.tmp 25) rfl w.heap.size ⟨v, v3, (r : Int), m⟩ rfl rfl Z9 ?_))
  (try simp only [Exit.inBlock, Exit.then])
  exact bodyPost_ret (results_vw rfl _ _ w.heap.size rfl R9.out) rfl ⟨⟨v, v3, (r : Int), m⟩, c8, rfl, HOK.out, HT.out, HG.out, HR.out⟩
end Go.Proofs.Ytblefbjmjhgkkaa

/- Layer 19: the document's reader: a record. -/
set_option linter.unusedVariables false
set_option maxRecDepth 100000
set_option linter.unusedSimpArgs false
namespace Go.Proofs.Ytblefbjmjhgkkaa
open Go.RowKit Go.Sort

/-- How far the pending ones were taken: an error was there; or so many are taken; or the next one is wrong. -/
def DrAt (n k : Nat) (L : List Vw) (s : ByteArray) (a0 c0 ak ck : Nat) : Prop :=
  (c0 ≠ 0 ∧ ck = c0) ∨ (c0 = 0 ∧ ck = 0 ∧ PdAt (restB s a0) n k L (restB s ak) ∧ ak ≤ s.size) ∨ (c0 = 0 ∧ ck ≠ 0 ∧ getVws n (restB s a0) = .error ck)
theorem DrAt.start {n : Nat} {s : ByteArray} {a c : Nat} (h : c = 0 → a ≤ s.size) : DrAt n 0 [] s a c a c := by
  by_cases hc : c = 0
  · exact .inr (.inl ⟨hc, hc, PdAt.begin _ _, h hc⟩)
  · exact .inl ⟨hc, rfl⟩
theorem DrAt.step {n k : Nat} {L : List Vw} {s : ByteArray} {a0 c0 ak a' c' : Nat} {v : Vw} (h : DrAt n k L s a0 c0 ak 0) (hk : k < n) (hR : TR getVw s ak 0 a' c' v) : DrAt n (k + 1) (L ++ [v]) s a0 c0 a' c' := by
  rcases h with ⟨h1, h2⟩ | ⟨h1, _, h3, h4⟩ | ⟨_, h2, _⟩
  · exact absurd h2.symm h1
  · rcases hR with ⟨g, _⟩ | ⟨_, g, hG, hs⟩ | ⟨_, g, hG⟩
    · exact absurd rfl g
    · exact .inr (.inl ⟨h1, g, h3.step hk hG, hs⟩)
    · exact .inr (.inr ⟨h1, g, h3.error hk hG⟩)
  · exact absurd rfl h2
theorem DrAt.done {n k : Nat} {L : List Vw} {s : ByteArray} {a0 c0 ak ck : Nat} (h : DrAt n k L s a0 c0 ak ck) (hk : k = n ∨ ck ≠ 0) : TR (getVws n) s a0 c0 ak ck L := by
  rcases h with ⟨h1, h2⟩ | ⟨h1, h2, h3, h4⟩ | ⟨h1, h2, h3⟩
  · exact .inl ⟨h1, h2⟩
  · rcases hk with rfl | hk
    · exact .inr (.inl ⟨h1, h2, h3.done, h4⟩)
    · exact absurd h2 hk
  · exact .inr (.inr ⟨h1, h2, h3⟩)
theorem rdw_size : (Try.prog.info? 37).map (·.size) = some 5 := by kernel_rfl
section
variable {ops : Array Oper} {rest : List Oper} {o : Oper} {A : Act} {w : World} {Q : Exit → Act → World → Prop}
theorem store_rd (hgd : o.guard = none) (x y : Operand) (ho : o.op = .store 37 x y)
    (g : Nat) (v : Rcv) (hx : A.eval x = .pointer (some ⟨g, 0, none⟩)) (hy : A.eval y = .agg #[.int .u64 (v.p.last.n : Int), .int .u64 (v.p.last.e : Int), .int .i64 v.p.last.r, .int .u64 (v.p.last.m : Int), .slice v.a v.k v.c]) {v0 : Rcv} (hg : Own w g 37 (encRc v0).toArray)
    (h : wpList Try.prog ops Q rest (A.put o.dst undef) (w.setRow g (encRc v).toArray)) : wpList Try.prog ops Q (o :: rest) A w :=
  wpList_store_row hgd 37 x y ho g _ hx hy 37 _ hg rdw_size rfl (by simp [Value.oneCell']) h
theorem load_rd (hgd : o.guard = none) (x : Operand) (ho : o.op = .load 37 x)
    (g : Nat) (hx : A.eval x = .pointer (some ⟨g, 0, none⟩)) {v : Rcv} (hg : Own w g 37 (encRc v).toArray)
    (h : wpList Try.prog ops Q rest (A.put o.dst (.agg #[.int .u64 (v.p.last.n : Int), .int .u64 (v.p.last.e : Int), .int .i64 v.p.last.r, .int .u64 (v.p.last.m : Int), .slice v.a v.k v.c])) w) : wpList Try.prog ops Q (o :: rest) A w :=
  wpList_load_row hgd 37 x ho g hx 37 _ _ _ hg Try.underlying37 rfl rdw_size h
end
theorem results_rd {fn : Func} {p : Tmp} (h : fn.results = #[.cell p 37]) (tmps : Array Value) (w : World) (g : Nat) {v : Rcv} (hp : tmps.getD p undef = .pointer (some ⟨g, 0, none⟩)) (hg : Own w g 37 (encRc v).toArray) :
    (results fn tmps).run Try.prog w = .ok (valRc v) w :=
  results_cell_row h tmps w g 37 _ (0, 0) _ hp hg Try.underlying37 rfl rdw_size
/-- What a record's method answers. -/
def RecPost (w : World) (b : Nat) (s : ByteArray) (a c : Nat) (e : Ending) (w' : World) : Prop :=
  ∃ (x : Rp) (a' c' : Nat) (pa : Option Addr) (pk pc : Nat), e = .returned (.agg #[.int .u64 (x.last.n : Int), .int .u64 (x.last.e : Int), .int .i64 x.last.r, .int .u64 (x.last.m : Int), .slice pa pk pc]) ∧ x.ok ∧
    w'.ownsRow w.heap.size 28 4 (.slice pa pk pc) pk (flat encV x.pend) ∧ x.pend.length = pk ∧ pk ≤ 255 ∧ a' ≤ a + 6401 ∧ Tk w' b s a' c' ∧ w.grownBy w' (some b) ∧ TR getRec s a c a' c' x
/-- Amid it: the reader, the result's block, the record that is being made, its row. -/
structure DrSt (w W : World) (b : Nat) (s : ByteArray) (a c g : Nat) (x : Rcv) : Prop where
  tk : Tk W b s a c
  res : Own W w.heap.size 37 (encRc ⟨⟨zeroV, []⟩, none, 0, 0⟩).toArray
  rc : Own W g 37 (encRc x).toArray
  row : W.ownsRow (g + 1) 28 4 (.slice x.a x.k x.c) x.k (flat encV x.p.pend)
  gr : w.grownBy W (some b)
  lt : b < w.heap.size
  ge : w.heap.size < g
  z : g + 1 ≤ W.heap.size
theorem DrSt.go {w W W' : World} {b : Nat} {s : ByteArray} {a c a' c' g : Nat} {x : Rcv} (h : DrSt w W b s a c g x) (ht : Tk W' b s a' c') (hg : W.grownBy W' (some b)) : DrSt w W' b s a' c' g x :=
  have hl := h.lt
  have hg' := h.ge
  ⟨ht, h.res.grown hg (by intro e; cases e; omega), h.rc.grown hg (by intro e; cases e; omega), own_by h.row hg (by omega), grown_tr h.gr hg, h.lt, h.ge, Nat.le_trans h.z hg.size⟩
set_option maxHeartbeats 8000000 in
theorem trecord {w : World} {b : Nat} {s : ByteArray} {a c : Nat} (h : Tk w b s a c) (ha : a ≤ 1125899906842624) (hs : s.size ≤ 1099511627776) :
    Calls Try.prog 28 #[.pointer (some ⟨b, 0, none⟩)] w (RecPost w b s a c) := by
  have T0 := h.later ((Grw.refl w).alloc (.cells #[.int .u64 0, .int .u64 0, .int .i64 0, .int .u64 0, .slice none 0 0] 37)).below
  have G0 := grown_alloc w (.cells #[.int .u64 0, .int .u64 0, .int .i64 0, .int .u64 0, .slice none 0 0] 37) (some b)
  have O0 := Own.new w 37 #[.int .u64 0, .int .u64 0, .int .i64 0, .int .u64 0, .slice none 0 0]
  have z0 : (w.alloc (.cells #[.int .u64 0, .int .u64 0, .int .i64 0, .int .u64 0, .slice none 0 0] 37)).heap.size = w.heap.size + 1 := by simp
  have hlt := h.lt
  have hv := tview T0 (by omega) hs
  clear h
  go_enter Try.func28, Try.ntmps28
  go_wp2_with fail
  refine hv.mono ?_
  rintro e w1 ⟨v, c1, rfl, hok, T1, G1, R1⟩
  have z1 := G1.size
  rw [z0] at z1
  obtain ⟨vn, ve, vr, vm⟩ := v
  have S2 : DrSt w (w1.alloc (.cells #[.int .u64 (vn : Int), .int .u64 (ve : Int), .int .i64 vr, .int .u64 (vm : Int), .slice none 0 0] 37)) b s (a + 25) c1 w1.heap.size ⟨⟨⟨vn, ve, vr, vm⟩, []⟩, none, 0, 0⟩ :=
    ⟨T1.later ((Grw.refl w1).alloc _).below, (O0.grown G1 (by intro e; cases e; omega)).below ((Grw.refl w1).alloc _).below (by omega), Own.new _ _ _, World.ownsRow_nil _ _ _ _, grown_tr (grown_tr G0 G1) (grown_alloc _ _ _), hlt, by omega, by simp⟩
  have HOK := Lib.hid hok
  have HR1 := Lib.hid R1
  clear hv T0 G0 O0 z0 T1 G1 hok R1
  go_upto_region 2 with fail
  generalize w1.alloc (.cells #[.int .u64 (vn : Int), .int .u64 (ve : Int), .int .i64 vr, .int .u64 (vm : Int), .slice none 0 0] 37) = w2 at *
  generalize w1.heap.size = g at *
  have hn : Calls Try.prog 26 #[.pointer (some ⟨b, 0, none⟩), .int .i64 1] w2 (NumPost 1 w2 b s (a + 25) c1) := tnum S2.tk 1 (by decide) (by decide) (by omega) hs
  go_wp2_with fail
  refine hn.mono ?_
  rintro e w3 ⟨n, c3, rfl, hn8, T3, G3, R3⟩
  have hn8 : n < 256 := hn8
  have hwn : IntKind.i64.wrap (n : Int) = (n : Int) := by rw [IntKind.wrap_i64]; omega
  have S3 := S2.go T3 G3
  have hd : decide ((32 : Int) < (n : Int)) = decide (32 < n) := by apply decide_eq_decide.2; omega
  have hb : Calls Try.prog 27 #[.pointer (some ⟨b, 0, none⟩), .int .i64 3, .bool (decide (32 < n))] w3 fun e' w' => e' = .returned (.tuple #[]) ∧ Tk w' b s (a + 25 + 1) (badC c3 3 (decide (32 < n))) ∧ w3.grownBy w' (some b) := tbad S3.tk 3 (decide (32 < n)) (by decide)
  have HK : Hid (∀ (ak ck : Nat) (L : List Vw), TR (getVws n) s (a + 25 + 1) (badC c3 3 (decide (32 < n))) ak ck L → TR getRec s a c ak ck ⟨⟨vn, ve, vr, vm⟩, L⟩) := Lib.hid fun ak ck L hL => HR1.out.and (R3.and (TR.bad (by decide) (hL.and (TR.pure _ (fun h => hL.in_ h)))))
  have HIN : Hid (badC c3 3 (decide (32 < n)) = 0 → a + 25 + 1 ≤ s.size) := Lib.hid fun h => R3.in_bad (by decide) h
  clear hn T3 G3 R3 S2 HR1
  generalize badC c3 3 (decide (32 < n)) = c4 at *
  generalize decide (32 < n) = q at *
  go_wp2_with fail
  refine hb.mono ?_
  rintro e w4 ⟨rfl, T4, G4⟩
  have S4 := S3.go T4 G4
  clear hb hd T4 G4 S3
  go_wp2_with fail
  go_loopw [5] (fun si wr => ∃ (k ak ck : Nat) (L : List Vw) (pa : Option Addr) (pc : Nat), k ≤ n ∧ si = .int .i64 (k : Int) ∧ DrSt w wr b s ak ck g ⟨⟨⟨vn, ve, vr, vm⟩, L⟩, pa, k, pc⟩ ∧ Aside (DrAt n k L s (a + 25 + 1) c4 ak ck) ∧ ak ≤ a + 26 + 25 * k ∧ Aside ((∀ v ∈ L, v.ok) ∧ L.length = k)) (fun si _ => n - (intOf si).toNat)
  case atStart => exact ⟨0, a + 25 + 1, c4, [], none, 0, Nat.zero_le _, rfl, S4, DrAt.start HIN.out, by omega, ⟨fun v hv => (by cases hv), rfl⟩⟩
  case round =>
    clear S4
    obtain ⟨k, ak, ck, L, pa, pc, hk, rfl, S, HD, hak, HL⟩ := hrel
    have k2 := S.tk.c2
    by_cases hlt2 : k < n ∧ ck = 0
    · obtain ⟨hkn, rfl⟩ := hlt2
      have hki : (k : Int) < (n : Int) := by omega
      go_upto_region 7 with fail
      clear k2
      have c4' : wr.drew.cell? ⟨g, 4, none⟩ = some (.slice pa k pc) := S.rc.at_ 4 _ rfl
      have S5 : DrSt w wr.drew b s ak 0 g ⟨⟨⟨vn, ve, vr, vm⟩, L⟩, pa, k, pc⟩ := S.go (S.tk.drewN 1) (grown_drewN wr 1 _)
      clear S
      refine region_til [5] (fun w' => w'.cell? ⟨g, 4, none⟩ = some (.slice pa k pc)) (by kernel_rfl) ?_
      generalize wr.drew = wd at *
      have hTil : ∀ l, tilD [5] (fun w' => w'.cell? ⟨g, 4, none⟩ = some (.slice pa k pc)) l wd := fun _ => .inr c4'
      refine til_pure (i := 0) (v := .pointer (some ⟨g, 4, none⟩)) 28 rfl rfl (by kernel_rfl) (by kernel_rfl) (by kernel_rfl) (by kernel_rfl) (fun _ _ _ h => h) (.inl ⟨by kernel_rfl, fun w' _ => by (go_simp)⟩) (hTil _) ?_
      (try simp only [Act.put, List.setIfInBounds_toArray, List.set_cons_zero, List.set_cons_succ])
      refine til_load (i := 1) (c := 5) (v := .slice pa k pc) 29 rfl rfl (by kernel_rfl) (by kernel_rfl) (by kernel_rfl) (by kernel_rfl) rfl (by kernel_rfl) (by decide) (by kernel_rfl) (fun _ _ _ h => h) (.inl ⟨by kernel_rfl, fun w' hS => by (have hc0 := hS; go_simp)⟩) (hTil _) ?_
      (try simp only [Act.put, List.setIfInBounds_toArray, List.set_cons_zero, List.set_cons_succ])
      refine til_pure (i := 2) (v := .pointer (some ⟨b, 0, none⟩)) 30 rfl rfl (by kernel_rfl) (by kernel_rfl) (by kernel_rfl) (by kernel_rfl) (fun _ _ _ h => h) (.inl ⟨by kernel_rfl, fun w' _ => by (go_simp)⟩) (hTil _) ?_
      (try simp only [Act.put, List.setIfInBounds_toArray, List.set_cons_zero, List.set_cons_succ])
      clear hTil c4'
      have hv := tview S5.tk (by omega) hs
      refine til_next (i := 3) (by kernel_rfl) rfl (by kernel_rfl) (fun K hK => ?_)
      go_simp
      refine hv.mono ?_
      rintro e w6 ⟨u, c6, rfl, hok, T6, G6, R6⟩
      have S6 := S5.go T6 G6
      have HS := Lib.hid (DrAt.step HD hkn R6)
      clear hv S5 T6 G6 R6
      refine hK.out _ _ (.inr (S6.rc.at_ 4 _ rfl)) ?_
      clear hK K
      obtain ⟨un, ue, ur, um⟩ := u
      have HL2 := Lib.hid (show (∀ v ∈ L ++ [⟨un, ue, ur, um⟩], v.ok) ∧ (L ++ [(⟨un, ue, ur, um⟩ : Vw)]).length = k + 1 from ⟨fun v hv => by
        rcases List.mem_append.1 hv with hv | hv
        · exact HL.1 v hv
        · rw [List.mem_singleton.1 hv]; exact hok, by rw [List.length_append, HL.2]; rfl⟩)
      (try simp only [Act.put, List.setIfInBounds_toArray, List.set_cons_zero, List.set_cons_succ])
      refine til_next (i := 4) (by kernel_rfl) rfl (by kernel_rfl) (fun K hK => ?_)
      go_simp
      have L7 := (Grw.refl w6).alloc (.cells #[.int .u64 (un : Int), .int .u64 (ue : Int), .int .i64 ur, .int .u64 (um : Int)] 28)
      have N7 := Lib.hid (vw_lst (VwB.new w6 ⟨un, ue, ur, um⟩))
      have S7 : DrSt w (w6.alloc (.cells #[.int .u64 (un : Int), .int .u64 (ue : Int), .int .i64 ur, .int .u64 (um : Int)] 28)) b s (ak + 25) c6 g ⟨⟨⟨vn, ve, vr, vm⟩, L⟩, pa, k, pc⟩ := S6.go (S6.tk.later L7.below) (grown_alloc _ _ _)
      refine hK.out _ _ (.inr (S7.rc.at_ 4 _ rfl)) ?_
      clear hK K S6 L7 hok HL
      (try simp only [Act.put, List.setIfInBounds_toArray, List.set_cons_zero, List.set_cons_succ])
      refine til_next (i := 5) (by kernel_rfl) rfl (by kernel_rfl) (fun K hK => ?_)
      refine wp_append18 29 28 Try.underlying29 infoVw rfl (by decide) (by decide) encV_length encV_one _ (.tmp 29) (.tmp 32) rfl (g + 1) (.slice pa k pc) k (flat encV L) rfl S7.row (some ⟨w6.heap.size, 0, none⟩) 1 1 [⟨un, ue, ur, um⟩] rfl (fun h => by cases h) N7.out (by omega) S7.z ?_
      intro v9 w9 h1 h2
      obtain ⟨a9, c9, rfl⟩ := own_form' h1
      rw [← flat_append] at h1
      have hge := S7.ge
      have hbl := S7.lt
      have e9 : ∀ j, j < g + 1 → w9.heap[j]? = (w6.alloc (.cells #[.int .u64 (un : Int), .int .u64 (ue : Int), .int .i64 ur, .int .u64 (um : Int)] 28)).heap[j]? := fun j hj => h2.block j (by have := S7.z; omega) (by intro e; have := (own_at18 S7.row j e.symm).1; omega)
      have T9 : Tk w9 b s (ak + 25) c6 := (e9 b (by omega)).trans S7.tk.own
      have X9 : Own w9 w.heap.size 37 (encRc ⟨⟨zeroV, []⟩, none, 0, 0⟩).toArray := (e9 _ (by omega)).trans S7.res
      have Y9 : Own w9 g 37 (encRc ⟨⟨⟨vn, ve, vr, vm⟩, L⟩, pa, k, pc⟩).toArray := (e9 _ (by omega)).trans S7.rc
      have G9 := grown_over S7.gr S7.row (by omega) h2
      have z9 := Nat.le_trans S7.z h2.size
      have d4 : w9.cell? ⟨g, 4, none⟩ = some (.slice pa k pc) := Y9.at_ 4 _ rfl
      have x4 : w9.frozen? ⟨g, 4, none⟩ = false := Y9.free 4
      have Y10 : Own (w9.setCell ⟨g, 4, none⟩ (.slice a9 (k + 1) c9)) g 37 (encRc ⟨⟨⟨vn, ve, vr, vm⟩, L ++ [⟨un, ue, ur, um⟩]⟩, a9, k + 1, c9⟩).toArray := Y9.set 4 (.slice a9 (k + 1) c9)
      have S10 : DrSt w (w9.setCell ⟨g, 4, none⟩ (.slice a9 (k + 1) c9)) b s (ak + 25) c6 g ⟨⟨⟨vn, ve, vr, vm⟩, L ++ [⟨un, ue, ur, um⟩]⟩, a9, k + 1, c9⟩ :=
        ⟨T9.own.set_other _ _ _ (by omega), X9.set_other _ _ _ (by omega), Y10, own_set h1 (by omega) _ _, grown_set G9 (by omega) _ _, hbl, hge, by simpa using z9⟩
      have HS10 := Lib.hid S10
      refine hK.out _ _ (.inl (by kernel_rfl)) ?_
      clear hK K S7 N7 h1 h2 e9 T9 X9 Y9 Y10 G9 z9 S10
      (try simp only [Act.put, List.setIfInBounds_toArray, List.set_cons_zero, List.set_cons_succ])
      refine til_next (i := 6) (by kernel_rfl) rfl (by kernel_rfl) (fun K hK => ?_)
      go_simp
      refine hK.out _ _ (.inl (by kernel_rfl)) ?_
      clear hK K
      (try simp only [Act.put, List.setIfInBounds_toArray, List.set_cons_zero, List.set_cons_succ])
      refine til_next (i := 7) (by kernel_rfl) rfl (by kernel_rfl) (fun K hK => ?_)
      go_simp
      refine hK.out _ _ (.inl (by kernel_rfl)) ?_
      clear hK K d4 x4
      refine til_done (by kernel_rfl) ?_ _
      generalize w9.setCell ⟨g, 4, none⟩ (.slice a9 (k + 1) c9) = w10 at *
      go_wp2_with fail
      go_roundw
      case rel => exact ⟨k + 1, ak + 25, c6, _, a9, c9, by omega, by go_num, HS10.out, HS.out, by omega, HL2.out⟩
      case measure => simp [intOf]; omega
    · have HT := Lib.hid (HK.out ak ck L (DrAt.done HD (by omega)))
      have HX := Lib.hid (show (⟨⟨vn, ve, vr, vm⟩, L⟩ : Rp).ok from ⟨HOK.out, HL.1⟩)
      have HLL := Lib.hid HL.2
      have Z0 := S.res
      have Y0 := S.rc
      have hge := S.ge
      have HTk := Lib.hid (show Tk (wr.setRow w.heap.size (encRc ⟨⟨⟨vn, ve, vr, vm⟩, L⟩, pa, k, pc⟩).toArray) b s ak ck from (setRow_other _ _ _ _ (by omega)).trans S.tk.own)
      have HG := Lib.hid (grown_row S.gr (Nat.le_refl _) (encRc ⟨⟨⟨vn, ve, vr, vm⟩, L⟩, pa, k, pc⟩).toArray)
      have HO := Lib.hid (own_base (own_setRow S.row (show w.heap.size < g + 1 by omega) (encRc ⟨⟨⟨vn, ve, vr, vm⟩, L⟩, pa, k, pc⟩).toArray) (show w.heap.size ≤ g + 1 by omega))
      have HZ := Lib.hid (show Own (wr.setRow w.heap.size (encRc ⟨⟨⟨vn, ve, vr, vm⟩, L⟩, pa, k, pc⟩).toArray) w.heap.size 37 (encRc ⟨⟨⟨vn, ve, vr, vm⟩, L⟩, pa, k, pc⟩).toArray from Z0.row _)
      have HQ : Hid (RecPost w b s a c (.returned (valRc ⟨⟨⟨vn, ve, vr, vm⟩, L⟩, pa, k, pc⟩)) (wr.setRow w.heap.size (encRc ⟨⟨⟨vn, ve, vr, vm⟩, L⟩, pa, k, pc⟩).toArray)) := Lib.hid ⟨⟨⟨vn, ve, vr, vm⟩, L⟩, ak, ck, pa, k, pc, rfl, HX.out, HO.out, HLL.out, by omega, by omega, HTk.out, HG.out, HT.out⟩
      clear HD HL S
      by_cases hkn : k < n
      · have hki : (k : Int) < (n : Int) := by omega
        have hce : ((ck : Int) == 0) = false := by rw [beq_eq_false_iff_ne]; omega
        go_wp2_with (first | (refine load_rd rfl (.tmp 3) rfl g rfl Y0 ?_) | (refine store_rd rfl (.tmp 2) (.tmp 35) rfl w.heap.size ⟨⟨⟨vn, ve, vr, vm⟩, L⟩, pa, k, pc⟩ rfl rfl Z0 ?_))
        (try simp only [Exit.inBlock, Exit.then])
        exact bodyPost_ret (results_rd rfl _ _ w.heap.size rfl HZ.out) rfl HQ.out
      · have hki : ¬ (k : Int) < (n : Int) := by omega
        go_wp2_with (first | (refine load_rd rfl (.tmp 3) rfl g rfl Y0 ?_) | (refine store_rd rfl (.tmp 2) (.tmp 35) rfl w.heap.size ⟨⟨⟨vn, ve, vr, vm⟩, L⟩, pa, k, pc⟩ rfl rfl Z0 ?_))
        (try simp only [Exit.inBlock, Exit.then])
        exact bodyPost_ret (results_rd rfl _ _ w.heap.size rfl HZ.out) rfl HQ.out
end Go.Proofs.Ytblefbjmjhgkkaa

/- Layer 19: the document's Parse. -/
set_option linter.unusedVariables false
set_option maxRecDepth 100000
set_option linter.unusedSimpArgs false
namespace Go.Proofs.Ytblefbjmjhgkkaa
open Go.RowKit Go.Sort

/-- What the end says: nothing may be left. -/
theorem tr_end {α : Type} {G : List UInt8 → Got α} {s : ByteArray} {a' c' : Nat} {v : α} (h : TR G s 0 0 a' c' v) :
    (badC c' 4 (decide (a' < s.size)) = 0 → endG (G (restB s 0)) = .ok v) ∧ (badC c' 4 (decide (a' < s.size)) ≠ 0 → endG (G (restB s 0)) = .error (badC c' 4 (decide (a' < s.size)))) := by
  unfold badC
  rcases h with ⟨h, _⟩ | ⟨_, rfl, hG, hs⟩ | ⟨_, hn, hG⟩
  · exact absurd rfl h
  · have hl := restB_length s a'
    by_cases ha : a' < s.size
    · rw [decide_eq_true ha, if_pos rfl, if_pos rfl]
      refine ⟨fun h => (by cases h), fun _ => ?_⟩
      rw [hG, endG_left]
      intro e
      rw [e] at hl
      simp at hl
      omega
    · rw [decide_eq_false ha, if_neg (by decide)]
      refine ⟨fun _ => ?_, fun h => absurd rfl h⟩
      rw [hG, endG_nil]
      exact List.eq_nil_of_length_eq_zero (by rw [hl]; omega)
  · have e : (if decide (a' < s.size) = true then (if c' = 0 then 4 else c') else c') = c' := by
      rw [if_neg hn]
      split <;> rfl
    rw [e]
    exact ⟨fun h => absurd h hn, fun _ => by rw [hG]; rfl⟩
theorem encSd_one (x : Stb) (a : Option Addr) (k c : Nat) : (encS x a k c).toArray.all (·.oneCell') = true := encS_one x a k c
theorem dstable_size : (Try.prog.info? 39).map (·.size) = some 7 := by kernel_rfl
section
variable {ops : Array Oper} {rest : List Oper} {o : Oper} {A : Act} {w : World} {Q : Exit → Act → World → Prop}
theorem store_dstable (hgd : o.guard = none) (x y : Operand) (ho : o.op = .store 39 x y)
    (g : Nat) {p : Stb} {a : Option Addr} {k c : Nat} (hx : A.eval x = .pointer (some ⟨g, 0, none⟩)) (hy : A.eval y = .agg (encS p a k c).toArray)
    {p0 : Stb} {a0 : Option Addr} {k0 c0 : Nat} (hg : Own w g 39 (encS p0 a0 k0 c0).toArray)
    (h : wpList Try.prog ops Q rest (A.put o.dst undef) (w.setRow g (encS p a k c).toArray)) : wpList Try.prog ops Q (o :: rest) A w :=
  wpList_store_row hgd 39 x y ho g _ hx hy 39 _ hg dstable_size rfl (encS_one _ _ _ _) h
theorem load_dstable (hgd : o.guard = none) (x : Operand) (ho : o.op = .load 39 x)
    (g : Nat) (hx : A.eval x = .pointer (some ⟨g, 0, none⟩)) {p : Stb} {a : Option Addr} {k c : Nat} (hg : Own w g 39 (encS p a k c).toArray)
    (h : wpList Try.prog ops Q rest (A.put o.dst (.agg (encS p a k c).toArray)) w) : wpList Try.prog ops Q (o :: rest) A w :=
  wpList_load_row hgd 39 x ho g hx 39 _ _ _ hg Try.underlying39 rfl dstable_size h
end
theorem results_ctdS {fn : Func} {p u : Tmp} (h : fn.results = #[.cell p 39, .tmp u]) (tmps : Array Value) (w : World) (g : Nat) {x : Stb} {a : Option Addr} {k c : Nat}
    (hp : tmps.getD p undef = .pointer (some ⟨g, 0, none⟩)) (hg : Own w g 39 (encS x a k c).toArray) :
    (results fn tmps).run Try.prog w = .ok (.tuple #[.agg (encS x a k c).toArray, tmps.getD u undef]) w := by
  rw [results_cell_tmp h, hp]
  have hl := run_loadVar_row (P := Try.prog) w g 39 39 (encS x a k c).toArray (0, 0) _ hg Try.underlying39 rfl dstable_size
  simp [asAddr, hl, Result.andThen]
/-- Amid the document's parsing: the result's block, the reader, what is being made, its row. -/
structure DpSt (w W : World) (s : ByteArray) (a c g : Nat) (zt : TypeId) (z cs : Array Value) : Prop where
  res : Own W w.heap.size zt z
  tk : Tk W (w.heap.size + 1) s a c
  made : Own W g zt cs
  below : Below w.heap.size w W
  ge : w.heap.size + 1 < g
theorem DpSt.go {w W W' : World} {s : ByteArray} {a c a' c' g : Nat} {zt : TypeId} {z cs : Array Value} (h : DpSt w W s a c g zt z cs) (ht : Tk W' (w.heap.size + 1) s a' c') (hg : W.grownBy W' (some (w.heap.size + 1))) : DpSt w W' s a' c' g zt z cs :=
  have hge := h.ge
  ⟨h.res.grown hg (by intro e; injection e with e; omega), ht, h.made.grown hg (by intro e; injection e with e; omega), h.below.trans (below_of_by hg (by omega) h.below.size), h.ge⟩
theorem DpSt.set {w W : World} {s : ByteArray} {a c g : Nat} {zt : TypeId} {z cs : Array Value} (h : DpSt w W s a c g zt z cs) (j : Nat) (v : Value) : DpSt w (W.setCell ⟨g, j, none⟩ v) s a c g zt z (cs.setIfInBounds j v) :=
  have hge := h.ge
  ⟨h.res.set_other _ _ _ (by omega), h.tk.own.set_other _ _ _ (by omega), h.made.set j v, h.below.setCell (by show w.heap.size ≤ g; omega) _, h.ge⟩
/-- What the document's Parse answers. -/
def DParse (s : ByteArray) (w : World) (e : Ending) (w' : World) : Prop :=
  Below w.heap.size w w' ∧ ((∃ x a k c, parseS s.data.toList = .ok x ∧ e = .returned (.tuple #[.agg (encS x a k c).toArray, .int .i64 0]) ∧ x.r.ok ∧ w'.ownsRow w.heap.size 28 4 (.slice a k c) k (flat encV x.r.pend) ∧ x.r.pend.length = k ∧ k ≤ 255) ∨
    (∃ c, c ≠ 0 ∧ parseS s.data.toList = .error c ∧ e = .returned (.tuple #[.agg (encS zeroS none 0 0).toArray, .int .i64 (c : Int)])))
set_option maxHeartbeats 8000000 in
theorem dparseS (s : ByteArray) (hs : s.size ≤ 1099511627776) (w : World) : Calls Try.prog 8 #[.string s] w (DParse s w) := by
  have O0 := Own.new w 39 #[.int .u64 0, .int .u32 0, .int .u64 0, .int .u64 0, .int .i64 0, .int .u64 0, .slice none 0 0]
  have L0 := (Grw.refl w).alloc (.cells #[.int .u64 0, .int .u32 0, .int .u64 0, .int .u64 0, .int .i64 0, .int .u64 0, .slice none 0 0] 39)
  have z0 : (w.alloc (.cells #[.int .u64 0, .int .u32 0, .int .u64 0, .int .u64 0, .int .i64 0, .int .u64 0, .slice none 0 0] 39)).heap.size = w.heap.size + 1 := by simp
  have T1 : Tk ((w.alloc (.cells #[.int .u64 0, .int .u32 0, .int .u64 0, .int .u64 0, .int .i64 0, .int .u64 0, .slice none 0 0] 39)).alloc (.cells #[.string s, .int .i64 0, .int .i64 0] 72)) (w.alloc (.cells #[.int .u64 0, .int .u32 0, .int .u64 0, .int .u64 0, .int .i64 0, .int .u64 0, .slice none 0 0] 39)).heap.size s 0 0 := Own.new _ _ _
  rw [z0] at T1
  have L1 := (Grw.refl (w.alloc (.cells #[.int .u64 0, .int .u32 0, .int .u64 0, .int .u64 0, .int .i64 0, .int .u64 0, .slice none 0 0] 39))).alloc (.cells #[.string s, .int .i64 0, .int .i64 0] 72)
  have O1 := O0.below L1.below O0.lt
  have B1 := (L0.trans L1).below
  have HPS : Hid (parseS s.data.toList = endG (getS (restB s 0))) := Lib.hid (by unfold parseS; rw [restB_zero])
  clear O0 L0 L1 z0
  go_enter Try.func8, Try.ntmps8
  go_upto_region 2 with fail
  generalize (w.alloc (.cells #[.int .u64 0, .int .u32 0, .int .u64 0, .int .u64 0, .int .i64 0, .int .u64 0, .slice none 0 0] 39)).alloc (.cells #[.string s, .int .i64 0, .int .i64 0] 72) = w1 at *
  have hn : Calls Try.prog 26 #[.pointer (some ⟨w.heap.size + 1, 0, none⟩), .int .i64 1] w1 (NumPost 1 w1 (w.heap.size + 1) s 0 0) := tnum T1 1 (by decide) (by decide) (by omega) hs
  go_wp2_with fail
  refine hn.mono ?_
  rintro e w2 ⟨n, c2, rfl, hn8, T2, G2, R2⟩
  have O2 := O1.grown G2 (by intro e; injection e with e; omega)
  have B2 := B1.trans (below_of_by G2 (by omega) B1.size)
  have hd : ((n : Int) != 1) = decide (n ≠ 1) := by
    by_cases h : n = 1
    · subst h; rfl
    · rw [decide_eq_true h]; simp; omega
  have hb : Calls Try.prog 27 #[.pointer (some ⟨w.heap.size + 1, 0, none⟩), .int .i64 10, .bool (decide (n ≠ 1))] w2 fun e' w' => e' = .returned (.tuple #[]) ∧ Tk w' (w.heap.size + 1) s (0 + 1) (badC c2 10 (decide (n ≠ 1))) ∧ w2.grownBy w' (some (w.heap.size + 1)) := tbad T2 10 (decide (n ≠ 1)) (by decide)
  have HK : Hid (∀ (a' c' : Nat) (x : Stb), TR getSt s (0 + 1) (badC c2 10 (decide (n ≠ 1))) a' c' x → TR getS s 0 0 a' c' x) := Lib.hid fun a' c' x h => R2.and (TR.bad (by decide) h)
  clear hn T1 O1 B1 T2 G2 R2
  generalize badC c2 10 (decide (n ≠ 1)) = c3 at *
  generalize decide (n ≠ 1) = q at *
  go_wp2_with fail
  refine hb.mono ?_
  rintro e w3 ⟨rfl, T3, G3⟩
  have O3 := O2.grown G3 (by intro e; injection e with e; omega)
  have B3 := B2.trans (below_of_by G3 (by omega) B2.size)
  have hn : Calls Try.prog 26 #[.pointer (some ⟨w.heap.size + 1, 0, none⟩), .int .i64 8] w3 (NumPost 8 w3 (w.heap.size + 1) s (0 + 1) c3) := tnum T3 8 (by decide) (by decide) (by omega) hs
  clear hb hd O2 B2 G3
  go_wp2_with fail
  refine hn.mono ?_
  rintro e w4 ⟨ep, c4, rfl, hep, T4, G4, R4⟩
  have O4 := O3.grown G4 (by intro e; injection e with e; omega)
  have B4 := B3.trans (below_of_by G4 (by omega) B3.size)
  have hz4 : w.heap.size + 1 < w4.heap.size := T4.lt
  have L5 := (Grw.refl w4).alloc (.cells #[.int .u64 (ep : Int), .int .u32 0, .int .u64 0, .int .u64 0, .int .i64 0, .int .u64 0, .slice none 0 0] 39)
  have S5 : DpSt w (w4.alloc (.cells #[.int .u64 (ep : Int), .int .u32 0, .int .u64 0, .int .u64 0, .int .i64 0, .int .u64 0, .slice none 0 0] 39)) s (0 + 1 + 8) c4 w4.heap.size 39 #[.int .u64 0, .int .u32 0, .int .u64 0, .int .u64 0, .int .i64 0, .int .u64 0, .slice none 0 0] #[.int .u64 (ep : Int), .int .u32 0, .int .u64 0, .int .u64 0, .int .i64 0, .int .u64 0, .slice none 0 0] :=
    ⟨O4.below L5.below O4.lt, T4.later L5.below, Own.new _ _ _, B4.trans (L5.below.mono B4.size), hz4⟩
  have HR4 := Lib.hid R4
  clear hn T3 O3 B3 T4 G4 O4 B4 L5 R4 hz4
  go_upto_region 5 with fail
  generalize w4.alloc (.cells #[.int .u64 (ep : Int), .int .u32 0, .int .u64 0, .int .u64 0, .int .i64 0, .int .u64 0, .slice none 0 0] 39) = w5 at *
  generalize w4.heap.size = g at *
  have hn : Calls Try.prog 26 #[.pointer (some ⟨w.heap.size + 1, 0, none⟩), .int .i64 4] w5 (NumPost 4 w5 (w.heap.size + 1) s (0 + 1 + 8) c4) := tnum S5.tk 4 (by decide) (by decide) (by omega) hs
  go_wp2_with fail
  refine hn.mono ?_
  rintro e w6 ⟨ic, c6, rfl, hic, T6, G6, R6⟩
  have hic : ic < 4294967296 := hic
  have S6 := S5.go T6 G6
  have hwi : IntKind.u32.wrap (ic : Int) = (ic : Int) := by rw [IntKind.wrap_u32]; omega
  have k1 : w6.cell? ⟨g, 1, none⟩ = some (.int .u32 0) := S6.made.at_ 1 _ rfl
  have f1 := S6.made.free 1
  have S7 := S6.set 1 (.int .u32 (ic : Int))
  have HR6 := Lib.hid R6
  clear hn T6 G6 R6 S5 S6
  go_upto_region 6 with fail
  clear k1 f1
  generalize w6.setCell ⟨g, 1, none⟩ (.int .u32 (ic : Int)) = w7 at *
  have hr := trecord S7.tk (by omega) hs
  go_wp2_with fail
  refine hr.mono ?_
  rintro e w8 ⟨⟨⟨rn, re, rr, rm⟩, L⟩, a8, c8, pa, pk, pc, rfl, hxok, ho, hol, hok, ha8, T8, G8, R8⟩
  have S8 := S7.go T8 G8
  have hz7 : g + 1 ≤ w7.heap.size := S7.made.lt
  have HO8 := Lib.hid (own_base ho hz7)
  have HOL := Lib.hid hol
  have HXO := Lib.hid hxok
  have k2 : w8.cell? ⟨g, 2, none⟩ = some (.int .u64 0) := S8.made.at_ 2 _ rfl
  have k3 : w8.cell? ⟨g, 3, none⟩ = some (.int .u64 0) := S8.made.at_ 3 _ rfl
  have k4 : w8.cell? ⟨g, 4, none⟩ = some (.int .i64 0) := S8.made.at_ 4 _ rfl
  have k5 : w8.cell? ⟨g, 5, none⟩ = some (.int .u64 0) := S8.made.at_ 5 _ rfl
  have k6 : w8.cell? ⟨g, 6, none⟩ = some (.slice none 0 0) := S8.made.at_ 6 _ rfl
  have f2 := S8.made.free 2
  have f3 := S8.made.free 3
  have f4 := S8.made.free 4
  have f5 := S8.made.free 5
  have f6 := S8.made.free 6
  obtain ⟨w9, hw9⟩ : ∃ w9, w9 = ((((w8.setCell ⟨g, 2, none⟩ (.int .u64 (rn : Int))).setCell ⟨g, 3, none⟩ (.int .u64 (re : Int))).setCell ⟨g, 4, none⟩ (.int .i64 rr)).setCell ⟨g, 5, none⟩ (.int .u64 (rm : Int))).setCell ⟨g, 6, none⟩ (.slice pa pk pc) := ⟨_, rfl⟩
  have S9 : DpSt w w9 s a8 c8 g 39 #[.int .u64 0, .int .u32 0, .int .u64 0, .int .u64 0, .int .i64 0, .int .u64 0, .slice none 0 0] (encS ⟨ep, ic, ⟨⟨rn, re, rr, rm⟩, L⟩⟩ pa pk pc).toArray := by
    rw [hw9]; exact ((((S8.set 2 (.int .u64 (rn : Int))).set 3 (.int .u64 (re : Int))).set 4 (.int .i64 rr)).set 5 (.int .u64 (rm : Int))).set 6 (.slice pa pk pc)
  have HO9 := Lib.hid (show w9.ownsRow (g + 1) 28 4 (.slice pa pk pc) pk (flat encV L) from by
    rw [hw9]; exact own_set (own_set (own_set (own_set (own_set HO8.out (by omega) _ _) (by omega) _ _) (by omega) _ _) (by omega) _ _) (by omega) _ _)
  have HTR : Hid (TR getS s 0 0 a8 c8 ⟨ep, ic, ⟨⟨rn, re, rr, rm⟩, L⟩⟩) := Lib.hid (HK.out _ _ _ (HR4.out.and (HR6.out.and (R8.and (TR.pure _ (fun h => R8.in_ h))))))
  clear hr ho hol hxok T8 G8 R8 S7 S8 HO8 HK HR4 HR6 hz7 hwi
  go_upto_region 7 with fail
  rw [← hw9]
  clear hw9 k2 k3 k4 k5 k6 f2 f3 f4 f5 f6
  have t1 := S9.tk.c1
  have hd : decide ((a8 : Int) < (s.size : Int)) = decide (a8 < s.size) := by apply decide_eq_decide.2; omega
  have hb : Calls Try.prog 27 #[.pointer (some ⟨w.heap.size + 1, 0, none⟩), .int .i64 4, .bool (decide (a8 < s.size))] w9 fun e' w' => e' = .returned (.tuple #[]) ∧ Tk w' (w.heap.size + 1) s a8 (badC c8 4 (decide (a8 < s.size))) ∧ w9.grownBy w' (some (w.heap.size + 1)) := tbad S9.tk 4 (decide (a8 < s.size)) (by decide)
  have HE := Lib.hid (tr_end HTR.out)
  clear HTR
  generalize badC c8 4 (decide (a8 < s.size)) = c10 at *
  generalize hq2 : decide (a8 < s.size) = q2 at *
  go_wp2_with fail
  refine hb.mono ?_
  rintro e w10 ⟨rfl, T10, G10⟩
  have S10 := S9.go T10 G10
  have hge := S9.ge
  have HO10 := Lib.hid (own_by HO9.out G10 (by omega))
  have t2 := S10.tk.c2
  clear hb hd hq2 T10 G10 S9 HO9 t1
  by_cases h0 : c10 = 0
  · subst h0
    have HG := Lib.hid (show parseS s.data.toList = .ok ⟨ep, ic, ⟨⟨rn, re, rr, rm⟩, L⟩⟩ by rw [HPS.out]; exact HE.out.1 rfl)
    have Y10 := S10.made
    have Z10 : Own w10 w.heap.size 39 (encS zeroS none 0 0).toArray := S10.res
    have HB := Lib.hid (belowRow18 S10.below w.heap.size (Nat.le_refl _) (encS ⟨ep, ic, ⟨⟨rn, re, rr, rm⟩, L⟩⟩ pa pk pc).toArray)
    have HO := Lib.hid (own_base (own_setRow HO10.out (show w.heap.size < g + 1 by omega) (encS ⟨ep, ic, ⟨⟨rn, re, rr, rm⟩, L⟩⟩ pa pk pc).toArray) (show w.heap.size ≤ g + 1 by omega))
    clear S10 HO10 HE
    go_wp2_with (first | (refine load_dstable rfl (.tmp 6) rfl g rfl Y10 ?_) | (refine store_dstable rfl (.tmp 2) (.tmp 45) rfl w.heap.size rfl rfl Z10 ?_))
    (try simp only [Exit.inBlock, Exit.then])
    refine bodyPost_ret (results_ctdS rfl _ _ w.heap.size rfl (Z10.row _)) rfl ?_
    exact ⟨HB.out, .inl ⟨_, _, _, _, HG.out, rfl, HXO.out, HO.out, HOL.out, hok⟩⟩
  · have HG := Lib.hid (show parseS s.data.toList = .error c10 by rw [HPS.out]; exact HE.out.2 h0)
    have hne : ((c10 : Int) != 0) = true := by simpa using h0
    have H0 := Lib.hid h0
    go_upto_region 9 with fail
    have Z10 : Own w10.drew w.heap.size 39 (encS zeroS none 0 0).toArray := S10.res
    have t3 : w10.drew.cell? ⟨w.heap.size + 1, 2, none⟩ = some (.int .i64 (c10 : Int)) := t2
    have B11 : Below w.heap.size w w10.drew := S10.below.trans ((Grw.refl w10).drew.below.mono S10.below.size)
    have HB := Lib.hid (belowRow18 B11 w.heap.size (Nat.le_refl _) (encS zeroS none 0 0).toArray)
    clear S10 HO10 HE h0 t2 hne B11
    refine region_til [6] (fun w' => w'.cell? ⟨w.heap.size + 1, 2, none⟩ = some (.int .i64 (c10 : Int))) (by kernel_rfl) ?_
    generalize w10.drew = wd at *
    have hTil : ∀ l, tilD [6] (fun w' => w'.cell? ⟨w.heap.size + 1, 2, none⟩ = some (.int .i64 (c10 : Int))) l wd := fun _ => .inr t3
    refine til_pure (i := 0) (v := .agg #[.int .u64 0, .int .u32 0, .int .u64 0, .int .u64 0, .int .i64 0, .int .u64 0, .slice none 0 0]) 40 rfl rfl (by kernel_rfl) (by kernel_rfl) (by kernel_rfl) (by kernel_rfl) (fun _ _ _ h => h) (.inl ⟨by kernel_rfl, fun w' _ => by (go_simp; try rfl)⟩) (hTil _) ?_
    (try simp only [Act.put, List.setIfInBounds_toArray, List.set_cons_zero, List.set_cons_succ])
    refine til_pure (i := 1) (v := .pointer (some ⟨w.heap.size + 1, 0, none⟩)) 41 rfl rfl (by kernel_rfl) (by kernel_rfl) (by kernel_rfl) (by kernel_rfl) (fun _ _ _ h => h) (.inl ⟨by kernel_rfl, fun w' _ => by (go_simp)⟩) (hTil _) ?_
    (try simp only [Act.put, List.setIfInBounds_toArray, List.set_cons_zero, List.set_cons_succ])
    refine til_pure (i := 2) (v := .pointer (some ⟨w.heap.size + 1, 0, none⟩)) 42 rfl rfl (by kernel_rfl) (by kernel_rfl) (by kernel_rfl) (by kernel_rfl) (fun _ _ _ h => h) (.inl ⟨by kernel_rfl, fun w' _ => by (go_simp)⟩) (hTil _) ?_
    (try simp only [Act.put, List.setIfInBounds_toArray, List.set_cons_zero, List.set_cons_succ])
    refine til_pure (i := 3) (v := .pointer (some ⟨w.heap.size + 1, 2, none⟩)) 43 rfl rfl (by kernel_rfl) (by kernel_rfl) (by kernel_rfl) (by kernel_rfl) (fun _ _ _ h => h) (.inl ⟨by kernel_rfl, fun w' _ => by (go_simp)⟩) (hTil _) ?_
    (try simp only [Act.put, List.setIfInBounds_toArray, List.set_cons_zero, List.set_cons_succ])
    refine til_load (i := 4) (c := 6) (v := .int .i64 (c10 : Int)) 44 rfl rfl (by kernel_rfl) (by kernel_rfl) (by kernel_rfl) (by kernel_rfl) rfl (by kernel_rfl) (by decide) (by kernel_rfl) (fun _ _ _ h => h) (.inl ⟨by kernel_rfl, fun w' hS => by (have hc0 := hS; go_simp)⟩) (hTil _) ?_
    (try simp only [Act.put, List.setIfInBounds_toArray, List.set_cons_zero, List.set_cons_succ])
    clear hTil
    refine til_next (i := 5) (by kernel_rfl) rfl (by kernel_rfl) (fun K hK => ?_)
    refine wp_store_row 39 (.tmp 2) (.tmp 40) rfl w.heap.size _ rfl rfl 39 _ Z10 dstable_size rfl (encS_one zeroS none 0 0) ?_
    refine hK.out _ _ (.inr ?_) ?_
    · exact (World.cell?_of_block (a := ⟨w.heap.size + 1, 2, none⟩) (setRow_other wd w.heap.size (w.heap.size + 1) _ (by omega))).trans t3
    clear hK K t3
    (try simp only [Act.put, List.setIfInBounds_toArray, List.set_cons_zero, List.set_cons_succ])
    refine til_next (i := 6) (by kernel_rfl) rfl (by kernel_rfl) (fun K hK => ?_)
    go_simp
    refine hK.out _ _ (.inl (by kernel_rfl)) ?_
    clear hK K
    refine til_done (by kernel_rfl) ?_ _
    go_wp2
    (try simp only [Exit.inBlock, Exit.then])
    refine bodyPost_ret (results_ctdS (x := zeroS) (a := none) (k := 0) (c := 0) rfl _ _ w.heap.size rfl (Z10.row _)) rfl ?_
    exact ⟨HB.out, .inr ⟨c10, H0.out, HG.out, rfl⟩⟩
end Go.Proofs.Ytblefbjmjhgkkaa

/- Layer 19: the document's ParseItem. (Written by wip/gen_dkitem.py.) -/
set_option linter.unusedVariables false
set_option maxRecDepth 100000
set_option linter.unusedSimpArgs false
namespace Go.Proofs.Ytblefbjmjhgkkaa
open Go.RowKit Go.Sort

theorem ditem_size : (Try.prog.info? 47).map (·.size) = some 18 := by kernel_rfl
section
variable {ops : Array Oper} {rest : List Oper} {o : Oper} {A : Act} {w : World} {Q : Exit → Act → World → Prop}
theorem store_ditem (hgd : o.guard = none) (x y : Operand) (ho : o.op = .store 47 x y)
    (g : Nat) {p : Itm} {T : ByteArray} {a : Option Addr} {k c : Nat} (hx : A.eval x = .pointer (some ⟨g, 0, none⟩)) (hy : A.eval y = .agg (encI p T a k c).toArray)
    {p0 : Itm} {T0 : ByteArray} {a0 : Option Addr} {k0 c0 : Nat} (hg : Own w g 47 (encI p0 T0 a0 k0 c0).toArray)
    (h : wpList Try.prog ops Q rest (A.put o.dst undef) (w.setRow g (encI p T a k c).toArray)) : wpList Try.prog ops Q (o :: rest) A w :=
  wpList_store_row hgd 47 x y ho g _ hx hy 47 _ hg ditem_size rfl (encI_one _ _ _ _ _) h
theorem load_ditem (hgd : o.guard = none) (x : Operand) (ho : o.op = .load 47 x)
    (g : Nat) (hx : A.eval x = .pointer (some ⟨g, 0, none⟩)) {p : Itm} {T : ByteArray} {a : Option Addr} {k c : Nat} (hg : Own w g 47 (encI p T a k c).toArray)
    (h : wpList Try.prog ops Q rest (A.put o.dst (.agg (encI p T a k c).toArray)) w) : wpList Try.prog ops Q (o :: rest) A w :=
  wpList_load_row hgd 47 x ho g hx 47 _ _ _ hg Try.underlying47 rfl ditem_size h
end
theorem results_ctdI {fn : Func} {p u : Tmp} (h : fn.results = #[.cell p 47, .tmp u]) (tmps : Array Value) (w : World) (g : Nat) {x : Itm} {T : ByteArray} {a : Option Addr} {k c : Nat}
    (hp : tmps.getD p undef = .pointer (some ⟨g, 0, none⟩)) (hg : Own w g 47 (encI x T a k c).toArray) :
    (results fn tmps).run Try.prog w = .ok (.tuple #[.agg (encI x T a k c).toArray, tmps.getD u undef]) w := by
  rw [results_cell_tmp h, hp]
  have hl := run_loadVar_row (P := Try.prog) w g 47 47 (encI x T a k c).toArray (0, 0) _ hg Try.underlying47 rfl ditem_size
  simp [asAddr, hl, Result.andThen]
/-- What is parsed of an item's bytes, ahead of the end. -/
def getG (n : Nat) (l : List UInt8) : Got Itm := andG (getN 1 l) fun k r => badG 10 (k < 1 ∨ 4 < k) (badG 3 (1024 < n) (getIt k r))
theorem parseI_g (s : ByteArray) : parseI s.data.toList = endG (getG s.size (restB s 0)) := by
  rw [parseI_k, restB_zero]
  unfold getG getK
  have hl : s.data.toList.length = s.size := by rw [Array.length_toList]; rfl
  cases getN 1 s.data.toList with
  | error e => simp only [andG_err]; rfl
  | ok x =>
    obtain ⟨k, r⟩ := x
    simp only [andG_ok, badG, hl]
    by_cases h : k < 1 ∨ 4 < k
    · rw [if_pos h, if_pos h]; rfl
    · rw [if_neg h, if_neg h]
      simp only
      by_cases h2 : 1024 < s.size
      · rw [if_pos h2, if_pos h2]; rfl
      · rw [if_neg h2, if_neg h2]
/-- All that is left was taken. -/
theorem tr_all {s : ByteArray} {a c : Nat} (f : List UInt8 → Itm) (h0 : c = 0) : TR (fun l => .ok (f l, [])) s a c s.size 0 (f (restB s a)) := by
  refine .inr (.inl ⟨h0, rfl, ?_, Nat.le_refl _⟩)
  have : restB s s.size = [] := List.eq_nil_of_length_eq_zero (by rw [restB_length]; omega)
  rw [this]
theorem tr_bad {α : Type} {G : List UInt8 → Got α} {s : ByteArray} {a c a' : Nat} {v : α} (h0 : c ≠ 0) : TR G s a c a' c v := .inl ⟨h0, rfl⟩
theorem DpSt.as {w W : World} {s : ByteArray} {a c g : Nat} {zt : TypeId} {z cs : Array Value} (h : DpSt w W s a c g zt z cs) {cs' : Array Value} (he : cs = cs') : DpSt w W s a c g zt z cs' := he ▸ h
theorem badC_ne {c e : Nat} {is : Bool} (h : c ≠ 0) : badC c e is ≠ 0 := by
  unfold badC
  rw [if_neg h]
  split <;> exact h
def it1 (l : List UInt8) : Itm := ⟨1, l, 0, 0, false, false, ⟨⟨0, 0, 0, 0⟩, []⟩, ⟨0, 0, 0, 0⟩, 0, 0, 0⟩
def it2 (i h : Nat) (p q : Bool) (x : Rp) : Itm := ⟨2, [], i, h, p, q, x, ⟨0, 0, 0, 0⟩, 0, 0, 0⟩
def it3 (v : Vw) : Itm := ⟨3, [], 0, 0, false, false, ⟨⟨0, 0, 0, 0⟩, []⟩, v, 0, 0, 0⟩
def it4 (n i t : Nat) (l : List UInt8) : Itm := ⟨4, l, 0, 0, false, false, ⟨⟨0, 0, 0, 0⟩, []⟩, ⟨0, 0, 0, 0⟩, n, (i : Int), (t : Int)⟩
theorem getIt_1 : getIt 1 = fun l => .ok (it1 l, []) := rfl
theorem getIt_2 : getIt 2 = fun l => andG (getN 4 l) fun i r => andG (getN 8 r) fun h r => andG (getN 1 r) fun f r => badG 1 (3 < f) (andG (getRec r) fun x r => .ok (it2 i h (decide (f % 2 = 1)) (decide (f / 2 = 1)) x, r)) := rfl
theorem getIt_3 : getIt 3 = fun l => andG (getVw l) fun v r => .ok (it3 v, r) := rfl
theorem getIt_4 : getIt 4 = fun l => andG (getN 8 l) fun n r => andG (getN 2 r) fun i r => andG (getN 2 r) fun t r => .ok (it4 n i t r, []) := rfl
theorem tail_text {s : ByteArray} {a : Nat} : (s.extract a s.size).data.toList = restB s a := by
  unfold restB
  rw [ByteArray.data_extract, Array.toList_extract]
  show ((s.data.toList.drop a).take (s.size - a)) = _
  exact List.take_of_length_le (by rw [List.length_drop, Array.length_toList]; exact Nat.le_refl _)
/-- What the document's ParseItem answers. -/
def DParseI (s : ByteArray) (w : World) (e : Ending) (w' : World) : Prop :=
  Below w.heap.size w w' ∧ ((∃ x T a k c, parseI s.data.toList = .ok x ∧ e = .returned (.tuple #[.agg (encI x T a k c).toArray, .int .i64 0]) ∧ T.data.toList = x.data ∧ x.r.ok ∧ w'.ownsRow w.heap.size 28 4 (.slice a k c) k (flat encV x.r.pend) ∧ x.r.pend.length = k ∧ k ≤ 255) ∨
    (∃ c, c ≠ 0 ∧ parseI s.data.toList = .error c ∧ e = .returned (.tuple #[.agg (encI zeroI { data := #[] } none 0 0).toArray, .int .i64 (c : Int)])))
theorem zRp_ok : (⟨⟨0, 0, 0, 0⟩, []⟩ : Rp).ok := ⟨⟨by decide, by decide, by decide, by decide, by decide⟩, fun x hx => by cases hx⟩
set_option maxHeartbeats 32000000 in
theorem dparseI (s : ByteArray) (hs : s.size ≤ 1099511627776) (w : World) : Calls Try.prog 10 #[.string s] w (DParseI s w) := by
  have O0 := Own.new w 47 #[.int .i64 0, .string { data := #[] }, .int .u32 0, .int .u64 0, .bool false, .bool false, .int .u64 0, .int .u64 0, .int .i64 0, .int .u64 0, .slice none 0 0, .int .u64 0, .int .u64 0, .int .i64 0, .int .u64 0, .int .u64 0, .int .i64 0, .int .i64 0]
  have L0 := (Grw.refl w).alloc (.cells #[.int .i64 0, .string { data := #[] }, .int .u32 0, .int .u64 0, .bool false, .bool false, .int .u64 0, .int .u64 0, .int .i64 0, .int .u64 0, .slice none 0 0, .int .u64 0, .int .u64 0, .int .i64 0, .int .u64 0, .int .u64 0, .int .i64 0, .int .i64 0] 47)
  have z0 : (w.alloc (.cells #[.int .i64 0, .string { data := #[] }, .int .u32 0, .int .u64 0, .bool false, .bool false, .int .u64 0, .int .u64 0, .int .i64 0, .int .u64 0, .slice none 0 0, .int .u64 0, .int .u64 0, .int .i64 0, .int .u64 0, .int .u64 0, .int .i64 0, .int .i64 0] 47)).heap.size = w.heap.size + 1 := by simp
  have T1 : Tk ((w.alloc (.cells #[.int .i64 0, .string { data := #[] }, .int .u32 0, .int .u64 0, .bool false, .bool false, .int .u64 0, .int .u64 0, .int .i64 0, .int .u64 0, .slice none 0 0, .int .u64 0, .int .u64 0, .int .i64 0, .int .u64 0, .int .u64 0, .int .i64 0, .int .i64 0] 47)).alloc (.cells #[.string s, .int .i64 0, .int .i64 0] 72)) (w.alloc (.cells #[.int .i64 0, .string { data := #[] }, .int .u32 0, .int .u64 0, .bool false, .bool false, .int .u64 0, .int .u64 0, .int .i64 0, .int .u64 0, .slice none 0 0, .int .u64 0, .int .u64 0, .int .i64 0, .int .u64 0, .int .u64 0, .int .i64 0, .int .i64 0] 47)).heap.size s 0 0 := Own.new _ _ _
  rw [z0] at T1
  have L1 := (Grw.refl (w.alloc (.cells #[.int .i64 0, .string { data := #[] }, .int .u32 0, .int .u64 0, .bool false, .bool false, .int .u64 0, .int .u64 0, .int .i64 0, .int .u64 0, .slice none 0 0, .int .u64 0, .int .u64 0, .int .i64 0, .int .u64 0, .int .u64 0, .int .i64 0, .int .i64 0] 47))).alloc (.cells #[.string s, .int .i64 0, .int .i64 0] 72)
  have O1 := O0.below L1.below O0.lt
  have B1 := (L0.trans L1).below
  have HPS := Lib.hid (parseI_g s)
  clear O0 L0 L1 z0
  go_enter Try.func10, Try.ntmps10
  go_upto_region 2 with fail
  generalize (w.alloc (.cells #[.int .i64 0, .string { data := #[] }, .int .u32 0, .int .u64 0, .bool false, .bool false, .int .u64 0, .int .u64 0, .int .i64 0, .int .u64 0, .slice none 0 0, .int .u64 0, .int .u64 0, .int .i64 0, .int .u64 0, .int .u64 0, .int .i64 0, .int .i64 0] 47)).alloc (.cells #[.string s, .int .i64 0, .int .i64 0] 72) = w1 at *
  have hn : Calls Try.prog 26 #[.pointer (some ⟨w.heap.size + 1, 0, none⟩), .int .i64 1] w1 (NumPost 1 w1 (w.heap.size + 1) s 0 0) := tnum T1 1 (by decide) (by decide) (by omega) hs
  go_wp2_with fail
  refine hn.mono ?_
  rintro e w2 ⟨k, c1, rfl, hk8, T2, G2, R2⟩
  have hk8 : k < 256 := hk8
  have hwk : IntKind.i64.wrap (k : Int) = (k : Int) := by rw [IntKind.wrap_i64]; omega
  have O2 := O1.grown G2 (by intro e; injection e with e; omega)
  have B2 := B1.trans (below_of_by G2 (by omega) B1.size)
  have hz2 : w.heap.size + 1 < w2.heap.size := T2.lt
  have L3 := (Grw.refl w2).alloc (.cells #[.int .i64 0, .string { data := #[] }, .int .u32 0, .int .u64 0, .bool false, .bool false, .int .u64 0, .int .u64 0, .int .i64 0, .int .u64 0, .slice none 0 0, .int .u64 0, .int .u64 0, .int .i64 0, .int .u64 0, .int .u64 0, .int .i64 0, .int .i64 0] 47)
  have Z3 : Own (w2.alloc (.cells #[.int .i64 0, .string { data := #[] }, .int .u32 0, .int .u64 0, .bool false, .bool false, .int .u64 0, .int .u64 0, .int .i64 0, .int .u64 0, .slice none 0 0, .int .u64 0, .int .u64 0, .int .i64 0, .int .u64 0, .int .u64 0, .int .i64 0, .int .i64 0] 47)) w2.heap.size 47 (encI zeroI { data := #[] } none 0 0).toArray := Own.new _ _ _
  have O3 := O2.below L3.below O2.lt
  have T3 := T2.later L3.below
  have B3 := B2.trans (L3.below.mono B2.size)
  have S4 : DpSt w ((w2.alloc (.cells #[.int .i64 0, .string { data := #[] }, .int .u32 0, .int .u64 0, .bool false, .bool false, .int .u64 0, .int .u64 0, .int .i64 0, .int .u64 0, .slice none 0 0, .int .u64 0, .int .u64 0, .int .i64 0, .int .u64 0, .int .u64 0, .int .i64 0, .int .i64 0] 47)).setRow w2.heap.size (encI (itK k) { data := #[] } none 0 0).toArray) s (0 + 1) c1 w2.heap.size 47 #[.int .i64 0, .string { data := #[] }, .int .u32 0, .int .u64 0, .bool false, .bool false, .int .u64 0, .int .u64 0, .int .i64 0, .int .u64 0, .slice none 0 0, .int .u64 0, .int .u64 0, .int .i64 0, .int .u64 0, .int .u64 0, .int .i64 0, .int .i64 0] (encI (itK k) { data := #[] } none 0 0).toArray :=
    ⟨O3.row_other _ (by omega), (setRow_other _ _ _ _ (by omega)).trans T3.own, Z3.row _, belowRow18 B3 _ (by omega) _, hz2⟩
  have HK : Hid (∀ (a' c' : Nat) (x : Itm), TR (getIt k) s (0 + 1) (badC (badC c1 10 (decide (k < 1 ∨ 4 < k))) 3 (decide (1024 < s.size))) a' c' x → TR (getG s.size) s 0 0 a' c' x) := Lib.hid fun a' c' x h => R2.and (TR.bad (by decide) (TR.bad (by decide) h))
  have HIN : Hid (c1 = 0 → 0 + 1 ≤ s.size) := Lib.hid fun h => R2.in_ h
  clear hn T1 O1 B1 T2 G2 O2 B2 L3 O3 T3 B3 R2
  go_upto_region 3 with (refine store_ditem (p := itK k) (T := { data := #[] }) (a := none) (k := 0) (c := 0) rfl (.tmp 5) (.tmp 13) rfl w2.heap.size rfl rfl Z3 ?_)
  clear Z3 hz2
  generalize (w2.alloc (.cells #[.int .i64 0, .string { data := #[] }, .int .u32 0, .int .u64 0, .bool false, .bool false, .int .u64 0, .int .u64 0, .int .i64 0, .int .u64 0, .slice none 0 0, .int .u64 0, .int .u64 0, .int .i64 0, .int .u64 0, .int .u64 0, .int .i64 0, .int .i64 0] 47)).setRow w2.heap.size (encI (itK k) { data := #[] } none 0 0).toArray = w4 at *
  generalize w2.heap.size = g at *
  obtain ⟨a1, ha1⟩ : ∃ a1, a1 = 0 + 1 := ⟨_, rfl⟩
  rw [← ha1] at S4 HK HIN
  replace ha1 : a1 ≤ 1 := by omega
  have hcase : k = 1 ∨ k = 2 ∨ k = 3 ∨ k = 4 ∨ k = 0 ∨ 4 < k := by omega
  rcases hcase with rfl | rfl | rfl | rfl | rfl | hk4
  · have k0 : w4.cell? ⟨g, 0, none⟩ = some (.int .i64 1) := S4.made.at_ 0 _ rfl
    have hb : Calls Try.prog 27 #[.pointer (some ⟨w.heap.size + 1, 0, none⟩), .int .i64 10, .bool false] w4 fun e' w' => e' = .returned (.tuple #[]) ∧ Tk w' (w.heap.size + 1) s (a1) (badC c1 10 false) ∧ w4.grownBy w' (some (w.heap.size + 1)) := tbad S4.tk 10 false (by decide)
    replace HK : Hid (∀ (a' c' : Nat) (x : Itm), TR (getIt 1) s (a1) (badC c1 3 (decide (1024 < s.size))) a' c' x → TR (getG s.size) s 0 0 a' c' x) := Lib.hid fun a' c' x h => HK.out a' c' x h
    have eb : badC c1 10 false = c1 := rfl
    rw [eb] at hb
    clear eb
    go_wp2_with fail
    refine hb.mono ?_
    rintro e w5 ⟨rfl, T5, G5⟩
    have S5 := S4.go T5 G5
    clear hb k0 T5 G5 S4
    have hd : decide ((1024 : Int) < (s.size : Int)) = decide (1024 < s.size) := by apply decide_eq_decide.2; omega
    have hb : Calls Try.prog 27 #[.pointer (some ⟨w.heap.size + 1, 0, none⟩), .int .i64 3, .bool (decide (1024 < s.size))] w5 fun e' w' => e' = .returned (.tuple #[]) ∧ Tk w' (w.heap.size + 1) s (a1) (badC c1 3 (decide (1024 < s.size))) ∧ w5.grownBy w' (some (w.heap.size + 1)) := tbad S5.tk 3 (decide (1024 < s.size)) (by decide)
    have HIN6 : Hid (badC c1 3 (decide (1024 < s.size)) = 0 → a1 ≤ s.size) := Lib.hid fun h => HIN.out (by
      unfold badC at h
      split at h
      · split at h
        · cases h
        · assumption
      · exact h)
    generalize badC c1 3 (decide (1024 < s.size)) = c6 at *
    generalize hq : decide (1024 < s.size) = q at *
    go_wp2_with fail
    refine hb.mono ?_
    rintro e w6 ⟨rfl, T6, G6⟩
    have S6 := S5.go T6 G6
    have k0 : w6.cell? ⟨g, 0, none⟩ = some (.int .i64 1) := S6.made.at_ 0 _ rfl
    clear hb hd hq T6 G6 S5
    by_cases h6 : c6 = 0
    · subst h6
      have hin := HIN6.out rfl
      have hin2 : (a1 : Int) ≤ (s.size : Int) := by omega
      have HTR : Hid (TR (getG s.size) s 0 0 s.size 0 (it1 (restB s (a1)))) := Lib.hid (HK.out _ _ _ (by rw [getIt_1]; exact tr_all it1 rfl))
      clear HK HIN HIN6
      have k0 : w6.cell? ⟨g, 0, none⟩ = some (.int .i64 1) := S6.made.at_ 0 _ rfl
      have k1 : w6.cell? ⟨g, 1, none⟩ = some (.string { data := #[] }) := S6.made.at_ 1 _ rfl
      have f1 := S6.made.free 1
      have t1 := S6.tk.c1
      have t2 : w6.cell? ⟨w.heap.size + 1, 2, none⟩ = some (.int .i64 0) := S6.tk.c2
      have hge11 := S6.ge
      have S11 := S6.set 1 (.string (s.extract (a1) s.size))
      have t1' : (w6.setCell ⟨g, 1, none⟩ (.string (s.extract (a1) s.size))).cell? ⟨w.heap.size + 1, 1, none⟩ = some (.int .i64 ((a1 : Nat) : Int)) := S11.tk.c1
      have x1' : (w6.setCell ⟨g, 1, none⟩ (.string (s.extract (a1) s.size))).frozen? ⟨w.heap.size + 1, 1, none⟩ = false := S11.tk.free 1
      have S12 : DpSt w ((w6.setCell ⟨g, 1, none⟩ (.string (s.extract (a1) s.size))).setCell ⟨w.heap.size + 1, 1, none⟩ (.int .i64 (s.size : Int))) s s.size 0 g 47 #[.int .i64 0, .string { data := #[] }, .int .u32 0, .int .u64 0, .bool false, .bool false, .int .u64 0, .int .u64 0, .int .i64 0, .int .u64 0, .slice none 0 0, .int .u64 0, .int .u64 0, .int .i64 0, .int .u64 0, .int .u64 0, .int .i64 0, .int .i64 0] (encI (it1 (restB s (a1))) (s.extract (a1) s.size) none 0 0).toArray :=
        ⟨S11.res.set_other _ _ _ (by omega), S11.tk.set1 s.size, S11.made.set_other _ _ _ (by omega), S11.below.setCell (Nat.le_succ _) _, S11.ge⟩
      clear S11
      go_upto_region 23 with fail
      clear k0 k1 f1 t1 t2 t1' x1'
      generalize (w6.setCell ⟨g, 1, none⟩ (.string (s.extract (a1) s.size))).setCell ⟨w.heap.size + 1, 1, none⟩ (.int .i64 (s.size : Int)) = w12 at *
      have t1 : w12.cell? ⟨w.heap.size + 1, 1, none⟩ = some (.int .i64 (s.size : Int)) := S12.tk.c1
      have hb : Calls Try.prog 27 #[.pointer (some ⟨w.heap.size + 1, 0, none⟩), .int .i64 4, .bool false] w12 fun e' w' => e' = .returned (.tuple #[]) ∧ Tk w' (w.heap.size + 1) s s.size (badC 0 4 false) ∧ w12.grownBy w' (some (w.heap.size + 1)) := tbad S12.tk 4 false (by decide)
      go_wp2_with fail
      refine hb.mono ?_
      rintro e w13 ⟨rfl, T13, G13⟩
      have S13 := S12.go T13 G13
      have t2 : w13.cell? ⟨w.heap.size + 1, 2, none⟩ = some (.int .i64 0) := S13.tk.c2
      have HG := Lib.hid (show parseI s.data.toList = .ok (it1 (restB s (a1))) by rw [HPS.out]; exact (tr_end HTR.out).1 (by rw [decide_eq_false (Nat.lt_irrefl _)]; rfl))
      clear hb T13 G13 S12 t1 HTR
      have Y10 : Own w13 g 47 (encI (it1 (restB s (a1))) (s.extract (a1) s.size) none 0 0).toArray := S13.made
      have Z10 : Own w13 w.heap.size 47 (encI zeroI { data := #[] } none 0 0).toArray := S13.res
      have hge10 := S13.ge
      have HB := Lib.hid (belowRow18 S13.below w.heap.size (Nat.le_refl _) (encI (it1 (restB s (a1))) (s.extract (a1) s.size) none 0 0).toArray)
      have HO := Lib.hid (show (w13.setRow w.heap.size (encI (it1 (restB s (a1))) (s.extract (a1) s.size) none 0 0).toArray).ownsRow w.heap.size 28 4 (.slice none 0 0) 0 (flat encV ((it1 (restB s (a1)))).r.pend) from World.ownsRow_nil _ _ _ _)
      clear S13
      go_upto_region 26 with fail
      go_wp2_with (first | (refine load_ditem rfl (.tmp 5) rfl g rfl Y10 ?_) | (refine store_ditem rfl (.tmp 2) (.tmp 121) rfl w.heap.size rfl rfl Z10 ?_))
      (try simp only [Exit.inBlock, Exit.then])
      refine bodyPost_ret (results_ctdI rfl _ _ w.heap.size rfl (Z10.row _)) rfl ?_
      exact ⟨HB.out, .inl ⟨_, _, _, _, _, HG.out, rfl, tail_text, zRp_ok, HO.out, rfl, Nat.zero_le _⟩⟩
    · have hne6 := h6
      have HTR : Hid (TR (getG s.size) s 0 0 (a1) c6 zeroI) := Lib.hid (HK.out _ _ _ (tr_bad hne6))
      have e6 : ((c6 : Int) == 0) = false := by rw [beq_eq_false_iff_ne]; omega
      have t2 := S6.tk.c2
      clear HK HIN HIN6
      have t1 := S6.tk.c1
      have hd : decide ((a1 : Int) < (s.size : Int)) = decide (a1 < s.size) := by apply decide_eq_decide.2; omega
      have hb : Calls Try.prog 27 #[.pointer (some ⟨w.heap.size + 1, 0, none⟩), .int .i64 4, .bool (decide (a1 < s.size))] w6 fun e' w' => e' = .returned (.tuple #[]) ∧ Tk w' (w.heap.size + 1) s (a1) (badC c6 4 (decide (a1 < s.size))) ∧ w6.grownBy w' (some (w.heap.size + 1)) := tbad S6.tk 4 (decide (a1 < s.size)) (by decide)
      have hne10 : badC c6 4 (decide (a1 < s.size)) ≠ 0 := badC_ne hne6
      have HE := Lib.hid (tr_end HTR.out)
      clear HTR
      generalize badC c6 4 (decide (a1 < s.size)) = c10 at *
      generalize hq2 : decide (a1 < s.size) = q2 at *
      go_upto_region 23 with fail
      go_wp2_with fail
      refine hb.mono ?_
      rintro e w10 ⟨rfl, T10, G10⟩
      have S10 := S6.go T10 G10
      have t2 := S10.tk.c2
      clear hb hd hq2 T10 G10 t1
      have HG := Lib.hid (show parseI s.data.toList = .error c10 by rw [HPS.out]; exact HE.out.2 hne10)
      have hne : ((c10 : Int) != 0) = true := by simpa using hne10
      have H0 := Lib.hid hne10
      go_upto_region 25 with fail
      have Z10 : Own w10.drew w.heap.size 47 (encI zeroI { data := #[] } none 0 0).toArray := S10.res
      have t3 : w10.drew.cell? ⟨w.heap.size + 1, 2, none⟩ = some (.int .i64 (c10 : Int)) := t2
      have B11 : Below w.heap.size w w10.drew := S10.below.trans ((Grw.refl w10).drew.below.mono S10.below.size)
      have HB := Lib.hid (belowRow18 B11 w.heap.size (Nat.le_refl _) (encI zeroI { data := #[] } none 0 0).toArray)
      clear S10 HE hne10 t2 hne B11
      refine region_til [6] (fun w' => w'.cell? ⟨w.heap.size + 1, 2, none⟩ = some (.int .i64 (c10 : Int))) (by kernel_rfl) ?_
      generalize w10.drew = wd at *
      have hTil : ∀ l, tilD [6] (fun w' => w'.cell? ⟨w.heap.size + 1, 2, none⟩ = some (.int .i64 (c10 : Int))) l wd := fun _ => .inr t3
      refine til_pure (i := 0) (v := .agg #[.int .i64 0, .string { data := #[] }, .int .u32 0, .int .u64 0, .bool false, .bool false, .int .u64 0, .int .u64 0, .int .i64 0, .int .u64 0, .slice none 0 0, .int .u64 0, .int .u64 0, .int .i64 0, .int .u64 0, .int .u64 0, .int .i64 0, .int .i64 0]) 116 rfl rfl (by kernel_rfl) (by kernel_rfl) (by kernel_rfl) (by kernel_rfl) (fun _ _ _ h => h) (.inl ⟨by kernel_rfl, fun w' _ => by (go_simp; try rfl)⟩) (hTil _) ?_
      (try simp only [Act.put, List.setIfInBounds_toArray, List.set_cons_zero, List.set_cons_succ])
      refine til_pure (i := 1) (v := .pointer (some ⟨w.heap.size + 1, 0, none⟩)) 117 rfl rfl (by kernel_rfl) (by kernel_rfl) (by kernel_rfl) (by kernel_rfl) (fun _ _ _ h => h) (.inl ⟨by kernel_rfl, fun w' _ => by (go_simp)⟩) (hTil _) ?_
      (try simp only [Act.put, List.setIfInBounds_toArray, List.set_cons_zero, List.set_cons_succ])
      refine til_pure (i := 2) (v := .pointer (some ⟨w.heap.size + 1, 0, none⟩)) 118 rfl rfl (by kernel_rfl) (by kernel_rfl) (by kernel_rfl) (by kernel_rfl) (fun _ _ _ h => h) (.inl ⟨by kernel_rfl, fun w' _ => by (go_simp)⟩) (hTil _) ?_
      (try simp only [Act.put, List.setIfInBounds_toArray, List.set_cons_zero, List.set_cons_succ])
      refine til_pure (i := 3) (v := .pointer (some ⟨w.heap.size + 1, 2, none⟩)) 119 rfl rfl (by kernel_rfl) (by kernel_rfl) (by kernel_rfl) (by kernel_rfl) (fun _ _ _ h => h) (.inl ⟨by kernel_rfl, fun w' _ => by (go_simp)⟩) (hTil _) ?_
      (try simp only [Act.put, List.setIfInBounds_toArray, List.set_cons_zero, List.set_cons_succ])
      refine til_load (i := 4) (c := 6) (v := .int .i64 (c10 : Int)) 120 rfl rfl (by kernel_rfl) (by kernel_rfl) (by kernel_rfl) (by kernel_rfl) rfl (by kernel_rfl) (by decide) (by kernel_rfl) (fun _ _ _ h => h) (.inl ⟨by kernel_rfl, fun w' hS => by (have hc0 := hS; go_simp)⟩) (hTil _) ?_
      (try simp only [Act.put, List.setIfInBounds_toArray, List.set_cons_zero, List.set_cons_succ])
      clear hTil
      refine til_next (i := 5) (by kernel_rfl) rfl (by kernel_rfl) (fun K hK => ?_)
      refine wp_store_row 47 (.tmp 2) (.tmp 116) rfl w.heap.size _ rfl rfl 47 _ Z10 ditem_size rfl (encI_one zeroI { data := #[] } none 0 0) ?_
      refine hK.out _ _ (.inr ?_) ?_
      · exact (World.cell?_of_block (a := ⟨w.heap.size + 1, 2, none⟩) (setRow_other wd w.heap.size (w.heap.size + 1) _ (by omega))).trans t3
      clear hK K t3
      (try simp only [Act.put, List.setIfInBounds_toArray, List.set_cons_zero, List.set_cons_succ])
      refine til_next (i := 6) (by kernel_rfl) rfl (by kernel_rfl) (fun K hK => ?_)
      go_simp
      refine hK.out _ _ (.inl (by kernel_rfl)) ?_
      clear hK K
      refine til_done (by kernel_rfl) ?_ _
      go_wp2
      (try simp only [Exit.inBlock, Exit.then])
      refine bodyPost_ret (results_ctdI (x := zeroI) (T := { data := #[] }) (a := none) (k := 0) (c := 0) rfl _ _ w.heap.size rfl (Z10.row _)) rfl ?_
      exact ⟨HB.out, .inr ⟨c10, H0.out, HG.out, rfl⟩⟩
  · have k0 : w4.cell? ⟨g, 0, none⟩ = some (.int .i64 2) := S4.made.at_ 0 _ rfl
    have hb : Calls Try.prog 27 #[.pointer (some ⟨w.heap.size + 1, 0, none⟩), .int .i64 10, .bool false] w4 fun e' w' => e' = .returned (.tuple #[]) ∧ Tk w' (w.heap.size + 1) s (a1) (badC c1 10 false) ∧ w4.grownBy w' (some (w.heap.size + 1)) := tbad S4.tk 10 false (by decide)
    replace HK : Hid (∀ (a' c' : Nat) (x : Itm), TR (getIt 2) s (a1) (badC c1 3 (decide (1024 < s.size))) a' c' x → TR (getG s.size) s 0 0 a' c' x) := Lib.hid fun a' c' x h => HK.out a' c' x h
    have eb : badC c1 10 false = c1 := rfl
    rw [eb] at hb
    clear eb
    go_wp2_with fail
    refine hb.mono ?_
    rintro e w5 ⟨rfl, T5, G5⟩
    have S5 := S4.go T5 G5
    clear hb k0 T5 G5 S4
    have hd : decide ((1024 : Int) < (s.size : Int)) = decide (1024 < s.size) := by apply decide_eq_decide.2; omega
    have hb : Calls Try.prog 27 #[.pointer (some ⟨w.heap.size + 1, 0, none⟩), .int .i64 3, .bool (decide (1024 < s.size))] w5 fun e' w' => e' = .returned (.tuple #[]) ∧ Tk w' (w.heap.size + 1) s (a1) (badC c1 3 (decide (1024 < s.size))) ∧ w5.grownBy w' (some (w.heap.size + 1)) := tbad S5.tk 3 (decide (1024 < s.size)) (by decide)
    have HIN6 : Hid (badC c1 3 (decide (1024 < s.size)) = 0 → a1 ≤ s.size) := Lib.hid fun h => HIN.out (by
      unfold badC at h
      split at h
      · split at h
        · cases h
        · assumption
      · exact h)
    generalize badC c1 3 (decide (1024 < s.size)) = c6 at *
    generalize hq : decide (1024 < s.size) = q at *
    go_wp2_with fail
    refine hb.mono ?_
    rintro e w6 ⟨rfl, T6, G6⟩
    have S6 := S5.go T6 G6
    have k0 : w6.cell? ⟨g, 0, none⟩ = some (.int .i64 2) := S6.made.at_ 0 _ rfl
    clear hb hd hq T6 G6 S5
    have hn : Calls Try.prog 26 #[.pointer (some ⟨w.heap.size + 1, 0, none⟩), .int .i64 4] w6 (NumPost 4 w6 (w.heap.size + 1) s (a1) c6) := tnum S6.tk 4 (by decide) (by decide) (by omega) hs
    go_wp2_with fail
    refine hn.mono ?_
    rintro e w7 ⟨v7, c7, rfl, hv7, T7, G7, R7⟩
    have S7 := S6.go T7 G7
    have hv7' : v7 < 4294967296 := hv7
    have hw7 : IntKind.u32.wrap (v7 : Int) = (v7 : Int) := by rw [IntKind.wrap_u32]; omega
    have kk : w7.cell? ⟨g, 2, none⟩ = some (.int .u32 0) := S7.made.at_ 2 _ rfl
    have ff := S7.made.free 2
    have S7b := (S7.set 2 (.int .u32 (v7 : Int))).as (show _ = (encI (it2 v7 0 false false ⟨⟨0, 0, 0, 0⟩, []⟩) { data := #[] } none 0 0).toArray from rfl)
    have HR7 := Lib.hid R7
    clear hn T7 G7 S6 S7 R7
    go_upto_region 8 with fail
    clear kk ff
    generalize w7.setCell ⟨g, 2, none⟩ (.int .u32 (v7 : Int)) = w7b at *
    have hn : Calls Try.prog 26 #[.pointer (some ⟨w.heap.size + 1, 0, none⟩), .int .i64 8] w7b (NumPost 8 w7b (w.heap.size + 1) s (a1 + 4) c7) := tnum S7b.tk 8 (by decide) (by decide) (by omega) hs
    go_wp2_with fail
    refine hn.mono ?_
    rintro e w8 ⟨v8, c8, rfl, hv8, T8, G8, R8⟩
    have S8 := S7b.go T8 G8
    have kk : w8.cell? ⟨g, 3, none⟩ = some (.int .u64 0) := S8.made.at_ 3 _ rfl
    have ff := S8.made.free 3
    have S8b := (S8.set 3 (.int .u64 (v8 : Int))).as (show _ = (encI (it2 v7 v8 false false ⟨⟨0, 0, 0, 0⟩, []⟩) { data := #[] } none 0 0).toArray from rfl)
    have HR8 := Lib.hid R8
    clear hn T8 G8 S7b S8 R8
    go_upto_region 9 with fail
    clear kk ff
    generalize w8.setCell ⟨g, 3, none⟩ (.int .u64 (v8 : Int)) = w8b at *
    have hn : Calls Try.prog 26 #[.pointer (some ⟨w.heap.size + 1, 0, none⟩), .int .i64 1] w8b (NumPost 1 w8b (w.heap.size + 1) s (a1 + 4 + 8) c8) := tnum S8b.tk 1 (by decide) (by decide) (by omega) hs
    go_wp2_with fail
    refine hn.mono ?_
    rintro e w9 ⟨f, c9, rfl, hf, T9, G9, R9⟩
    have hf : f < 256 := hf
    have S9 := S8b.go T9 G9
    have hd : decide ((3 : Int) < (f : Int)) = decide (3 < f) := by apply decide_eq_decide.2; omega
    have hb : Calls Try.prog 27 #[.pointer (some ⟨w.heap.size + 1, 0, none⟩), .int .i64 1, .bool (decide (3 < f))] w9 fun e' w' => e' = .returned (.tuple #[]) ∧ Tk w' (w.heap.size + 1) s (a1 + 4 + 8 + 1) (badC c9 1 (decide (3 < f))) ∧ w9.grownBy w' (some (w.heap.size + 1)) := tbad S9.tk 1 (decide (3 < f)) (by decide)
    have HK2 : Hid (∀ (a' c' : Nat) (x : Rp), TR getRec s (a1 + 4 + 8 + 1) (badC c9 1 (decide (3 < f))) a' c' x → TR (getG s.size) s 0 0 a' c' (it2 v7 v8 (decide (f % 2 = 1)) (decide (f / 2 = 1)) x)) := Lib.hid fun a' c' x h => HK.out _ _ _ (by rw [getIt_2]; exact HR7.out.and (HR8.out.and (R9.and (TR.bad (by decide) (h.and (TR.pure _ (fun h' => h.in_ h')))))))
    have hm2 : ((f : Int) % 2 == 1) = decide (f % 2 = 1) := by
      by_cases h : f % 2 = 1
      · rw [decide_eq_true h]; simp; omega
      · rw [decide_eq_false h]; simp; omega
    have hq2 : ((f : Int) / 2 == 1) = decide (f / 2 = 1) := by
      by_cases h : f / 2 = 1
      · rw [decide_eq_true h]; simp; omega
      · rw [decide_eq_false h]; simp; omega
    clear hn T9 G9 R9 S8b HK HR7 HR8 HIN HIN6
    generalize badC c9 1 (decide (3 < f)) = c9b at *
    generalize decide (3 < f) = qf at *
    obtain ⟨b0, hb0⟩ : ∃ b0, b0 = decide (f % 2 = 1) := ⟨_, rfl⟩
    obtain ⟨b1, hb1⟩ : ∃ b1, b1 = decide (f / 2 = 1) := ⟨_, rfl⟩
    rw [← hb0, ← hb1] at HK2
    rw [← hb0] at hm2
    rw [← hb1] at hq2
    clear hb0 hb1
    go_wp2_with fail
    refine hb.mono ?_
    rintro e w10 ⟨rfl, T10, G10⟩
    have S10 := S9.go T10 G10
    have k4 : w10.cell? ⟨g, 4, none⟩ = some (.bool false) := S10.made.at_ 4 _ rfl
    have k5 : w10.cell? ⟨g, 5, none⟩ = some (.bool false) := S10.made.at_ 5 _ rfl
    have f4 := S10.made.free 4
    have f5 := S10.made.free 5
    have S11 := (((S10.set 4 (.bool b0)).as (show _ = (encI (it2 v7 v8 b0 false ⟨⟨0, 0, 0, 0⟩, []⟩) { data := #[] } none 0 0).toArray from rfl)).set 5 (.bool b1)).as (show _ = (encI (it2 v7 v8 b0 b1 ⟨⟨0, 0, 0, 0⟩, []⟩) { data := #[] } none 0 0).toArray from rfl)
    clear hb hd T10 G10 S9 S10
    go_upto_region 13 with fail
    clear k4 k5 f4 f5 hm2 hq2
    generalize (w10.setCell ⟨g, 4, none⟩ (.bool b0)).setCell ⟨g, 5, none⟩ (.bool b1) = w11 at *
    have hr := trecord S11.tk (by omega) hs
    go_wp2_with fail
    refine hr.mono ?_
    rintro e w12 ⟨⟨⟨rn, re, rr, rm⟩, L⟩, a12, c12, pa, pk, pc, rfl, hxok, ho, hol, hok, ha12, T12, G12, R12⟩
    have S12 := S11.go T12 G12
    have hz11 : g + 1 ≤ w11.heap.size := S11.made.lt
    have HO12 := Lib.hid (own_base ho hz11)
    have HOL := Lib.hid hol
    have HXO := Lib.hid hxok
    have HTR := Lib.hid (HK2.out _ _ _ R12)
    have k6 : w12.cell? ⟨g, 6, none⟩ = some (.int .u64 0) := S12.made.at_ 6 _ rfl
    have f6 := S12.made.free 6
    have k7 : w12.cell? ⟨g, 7, none⟩ = some (.int .u64 0) := S12.made.at_ 7 _ rfl
    have f7 := S12.made.free 7
    have k8 : w12.cell? ⟨g, 8, none⟩ = some (.int .i64 0) := S12.made.at_ 8 _ rfl
    have f8 := S12.made.free 8
    have k9 : w12.cell? ⟨g, 9, none⟩ = some (.int .u64 0) := S12.made.at_ 9 _ rfl
    have f9 := S12.made.free 9
    have k10 : w12.cell? ⟨g, 10, none⟩ = some (.slice none 0 0) := S12.made.at_ 10 _ rfl
    have f10 := S12.made.free 10
    obtain ⟨w13, hw13⟩ : ∃ w13, w13 = (((((w12.setCell ⟨g, 6, none⟩ (.int .u64 (rn : Int))).setCell ⟨g, 7, none⟩ (.int .u64 (re : Int))).setCell ⟨g, 8, none⟩ (.int .i64 rr)).setCell ⟨g, 9, none⟩ (.int .u64 (rm : Int))).setCell ⟨g, 10, none⟩ (.slice pa pk pc)) := ⟨_, rfl⟩
    have S13 : DpSt w w13 s a12 c12 g 47 #[.int .i64 0, .string { data := #[] }, .int .u32 0, .int .u64 0, .bool false, .bool false, .int .u64 0, .int .u64 0, .int .i64 0, .int .u64 0, .slice none 0 0, .int .u64 0, .int .u64 0, .int .i64 0, .int .u64 0, .int .u64 0, .int .i64 0, .int .i64 0] (encI (it2 v7 v8 b0 b1 ⟨⟨rn, re, rr, rm⟩, L⟩) { data := #[] } pa pk pc).toArray := by rw [hw13]; exact ((((((((((S12.set 6 (.int .u64 (rn : Int))).as (show _ = (encI (it2 v7 v8 b0 b1 ⟨⟨rn, 0, 0, 0⟩, []⟩) { data := #[] } none 0 0).toArray from rfl)).set 7 (.int .u64 (re : Int))).as (show _ = (encI (it2 v7 v8 b0 b1 ⟨⟨rn, re, 0, 0⟩, []⟩) { data := #[] } none 0 0).toArray from rfl)).set 8 (.int .i64 rr)).as (show _ = (encI (it2 v7 v8 b0 b1 ⟨⟨rn, re, rr, 0⟩, []⟩) { data := #[] } none 0 0).toArray from rfl)).set 9 (.int .u64 (rm : Int))).as (show _ = (encI (it2 v7 v8 b0 b1 ⟨⟨rn, re, rr, rm⟩, []⟩) { data := #[] } none 0 0).toArray from rfl)).set 10 (.slice pa pk pc)).as (show _ = (encI (it2 v7 v8 b0 b1 ⟨⟨rn, re, rr, rm⟩, L⟩) { data := #[] } pa pk pc).toArray from rfl))
    have HO13 := Lib.hid (show w13.ownsRow (g + 1) 28 4 (.slice pa pk pc) pk (flat encV L) from by rw [hw13]; exact (own_set (own_set (own_set (own_set (own_set HO12.out (by omega) _ _) (by omega) _ _) (by omega) _ _) (by omega) _ _) (by omega) _ _))
    clear hr ho hol hxok T12 G12 R12 S11 S12 HO12 HK2 hz11
    go_upto_region 20 with fail
    rw [← hw13]
    clear hw13 k6 f6 k7 f7 k8 f8 k9 f9 k10 f10
    have k0 : w13.cell? ⟨g, 0, none⟩ = some (.int .i64 2) := S13.made.at_ 0 _ rfl
    by_cases h13 : c12 = 0
    · have t2 : w13.cell? ⟨w.heap.size + 1, 2, none⟩ = some (.int .i64 0) := by have := S13.tk.c2; rw [h13] at this; exact this
      have t1 := S13.tk.c1
      rw [h13] at HTR
      have hd : decide ((a12 : Int) < (s.size : Int)) = decide (a12 < s.size) := by apply decide_eq_decide.2; omega
      have hb : Calls Try.prog 27 #[.pointer (some ⟨w.heap.size + 1, 0, none⟩), .int .i64 4, .bool (decide (a12 < s.size))] w13 fun e' w' => e' = .returned (.tuple #[]) ∧ Tk w' (w.heap.size + 1) s a12 (badC 0 4 (decide (a12 < s.size))) ∧ w13.grownBy w' (some (w.heap.size + 1)) := by have hq := tbad S13.tk 4 (decide (a12 < s.size)) (by decide); rw [h13] at hq; exact hq
      have HE := Lib.hid (tr_end HTR.out)
      clear HTR
      generalize badC 0 4 (decide (a12 < s.size)) = c10 at *
      generalize hq2 : decide (a12 < s.size) = q2 at *
      go_upto_region 23 with fail
      go_wp2_with fail
      refine hb.mono ?_
      rintro e w10 ⟨rfl, T10, G10⟩
      have S10 := S13.go T10 G10
      have hgx := S13.ge
      have HO10 := Lib.hid (own_by HO13.out G10 (by omega))
      clear hb hd hq2 T10 G10 t1 t2 k0
      by_cases h0 : c10 = 0
      · have t2 : w10.cell? ⟨w.heap.size + 1, 2, none⟩ = some (.int .i64 0) := by have := S10.tk.c2; rw [h0] at this; exact this
        have HG := Lib.hid (show parseI s.data.toList = .ok (it2 v7 v8 b0 b1 ⟨⟨rn, re, rr, rm⟩, L⟩) by rw [HPS.out]; exact HE.out.1 h0)
        clear h0 HE h13
        have Y10 : Own w10 g 47 (encI (it2 v7 v8 b0 b1 ⟨⟨rn, re, rr, rm⟩, L⟩) { data := #[] } pa pk pc).toArray := S10.made
        have Z10 : Own w10 w.heap.size 47 (encI zeroI { data := #[] } none 0 0).toArray := S10.res
        have hge10 := S10.ge
        have HB := Lib.hid (belowRow18 S10.below w.heap.size (Nat.le_refl _) (encI (it2 v7 v8 b0 b1 ⟨⟨rn, re, rr, rm⟩, L⟩) { data := #[] } pa pk pc).toArray)
        have HO := Lib.hid (show (w10.setRow w.heap.size (encI (it2 v7 v8 b0 b1 ⟨⟨rn, re, rr, rm⟩, L⟩) { data := #[] } pa pk pc).toArray).ownsRow w.heap.size 28 4 (.slice pa pk pc) pk (flat encV ((it2 v7 v8 b0 b1 ⟨⟨rn, re, rr, rm⟩, L⟩)).r.pend) from own_base (own_setRow (HO10.out) (show w.heap.size < g + 1 by omega) _) (show w.heap.size ≤ g + 1 by omega))
        clear S10
        go_upto_region 26 with fail
        go_wp2_with (first | (refine load_ditem rfl (.tmp 5) rfl g rfl Y10 ?_) | (refine store_ditem rfl (.tmp 2) (.tmp 121) rfl w.heap.size rfl rfl Z10 ?_))
        (try simp only [Exit.inBlock, Exit.then])
        refine bodyPost_ret (results_ctdI rfl _ _ w.heap.size rfl (Z10.row _)) rfl ?_
        exact ⟨HB.out, .inl ⟨_, _, _, _, _, HG.out, rfl, rfl, HXO.out, HO.out, HOL.out, hok⟩⟩
      · have hne10 := h0
        have t2 := S10.tk.c2
        clear h13
        have HG := Lib.hid (show parseI s.data.toList = .error c10 by rw [HPS.out]; exact HE.out.2 hne10)
        have hne : ((c10 : Int) != 0) = true := by simpa using hne10
        have H0 := Lib.hid hne10
        go_upto_region 25 with fail
        have Z10 : Own w10.drew w.heap.size 47 (encI zeroI { data := #[] } none 0 0).toArray := S10.res
        have t3 : w10.drew.cell? ⟨w.heap.size + 1, 2, none⟩ = some (.int .i64 (c10 : Int)) := t2
        have B11 : Below w.heap.size w w10.drew := S10.below.trans ((Grw.refl w10).drew.below.mono S10.below.size)
        have HB := Lib.hid (belowRow18 B11 w.heap.size (Nat.le_refl _) (encI zeroI { data := #[] } none 0 0).toArray)
        clear S10 HE hne10 t2 hne B11
        refine region_til [6] (fun w' => w'.cell? ⟨w.heap.size + 1, 2, none⟩ = some (.int .i64 (c10 : Int))) (by kernel_rfl) ?_
        generalize w10.drew = wd at *
        have hTil : ∀ l, tilD [6] (fun w' => w'.cell? ⟨w.heap.size + 1, 2, none⟩ = some (.int .i64 (c10 : Int))) l wd := fun _ => .inr t3
        refine til_pure (i := 0) (v := .agg #[.int .i64 0, .string { data := #[] }, .int .u32 0, .int .u64 0, .bool false, .bool false, .int .u64 0, .int .u64 0, .int .i64 0, .int .u64 0, .slice none 0 0, .int .u64 0, .int .u64 0, .int .i64 0, .int .u64 0, .int .u64 0, .int .i64 0, .int .i64 0]) 116 rfl rfl (by kernel_rfl) (by kernel_rfl) (by kernel_rfl) (by kernel_rfl) (fun _ _ _ h => h) (.inl ⟨by kernel_rfl, fun w' _ => by (go_simp; try rfl)⟩) (hTil _) ?_
        (try simp only [Act.put, List.setIfInBounds_toArray, List.set_cons_zero, List.set_cons_succ])
        refine til_pure (i := 1) (v := .pointer (some ⟨w.heap.size + 1, 0, none⟩)) 117 rfl rfl (by kernel_rfl) (by kernel_rfl) (by kernel_rfl) (by kernel_rfl) (fun _ _ _ h => h) (.inl ⟨by kernel_rfl, fun w' _ => by (go_simp)⟩) (hTil _) ?_
        (try simp only [Act.put, List.setIfInBounds_toArray, List.set_cons_zero, List.set_cons_succ])
        refine til_pure (i := 2) (v := .pointer (some ⟨w.heap.size + 1, 0, none⟩)) 118 rfl rfl (by kernel_rfl) (by kernel_rfl) (by kernel_rfl) (by kernel_rfl) (fun _ _ _ h => h) (.inl ⟨by kernel_rfl, fun w' _ => by (go_simp)⟩) (hTil _) ?_
        (try simp only [Act.put, List.setIfInBounds_toArray, List.set_cons_zero, List.set_cons_succ])
        refine til_pure (i := 3) (v := .pointer (some ⟨w.heap.size + 1, 2, none⟩)) 119 rfl rfl (by kernel_rfl) (by kernel_rfl) (by kernel_rfl) (by kernel_rfl) (fun _ _ _ h => h) (.inl ⟨by kernel_rfl, fun w' _ => by (go_simp)⟩) (hTil _) ?_
        (try simp only [Act.put, List.setIfInBounds_toArray, List.set_cons_zero, List.set_cons_succ])
        refine til_load (i := 4) (c := 6) (v := .int .i64 (c10 : Int)) 120 rfl rfl (by kernel_rfl) (by kernel_rfl) (by kernel_rfl) (by kernel_rfl) rfl (by kernel_rfl) (by decide) (by kernel_rfl) (fun _ _ _ h => h) (.inl ⟨by kernel_rfl, fun w' hS => by (have hc0 := hS; go_simp)⟩) (hTil _) ?_
        (try simp only [Act.put, List.setIfInBounds_toArray, List.set_cons_zero, List.set_cons_succ])
        clear hTil
        refine til_next (i := 5) (by kernel_rfl) rfl (by kernel_rfl) (fun K hK => ?_)
        refine wp_store_row 47 (.tmp 2) (.tmp 116) rfl w.heap.size _ rfl rfl 47 _ Z10 ditem_size rfl (encI_one zeroI { data := #[] } none 0 0) ?_
        refine hK.out _ _ (.inr ?_) ?_
        · exact (World.cell?_of_block (a := ⟨w.heap.size + 1, 2, none⟩) (setRow_other wd w.heap.size (w.heap.size + 1) _ (by omega))).trans t3
        clear hK K t3
        (try simp only [Act.put, List.setIfInBounds_toArray, List.set_cons_zero, List.set_cons_succ])
        refine til_next (i := 6) (by kernel_rfl) rfl (by kernel_rfl) (fun K hK => ?_)
        go_simp
        refine hK.out _ _ (.inl (by kernel_rfl)) ?_
        clear hK K
        refine til_done (by kernel_rfl) ?_ _
        go_wp2
        (try simp only [Exit.inBlock, Exit.then])
        refine bodyPost_ret (results_ctdI (x := zeroI) (T := { data := #[] }) (a := none) (k := 0) (c := 0) rfl _ _ w.heap.size rfl (Z10.row _)) rfl ?_
        exact ⟨HB.out, .inr ⟨c10, H0.out, HG.out, rfl⟩⟩
    · have hne13 := h13
      have e13 : ((c12 : Int) == 0) = false := by rw [beq_eq_false_iff_ne]; omega
      have t2 := S13.tk.c2
      have t1 := S13.tk.c1
      have hd : decide ((a12 : Int) < (s.size : Int)) = decide (a12 < s.size) := by apply decide_eq_decide.2; omega
      have hb : Calls Try.prog 27 #[.pointer (some ⟨w.heap.size + 1, 0, none⟩), .int .i64 4, .bool (decide (a12 < s.size))] w13 fun e' w' => e' = .returned (.tuple #[]) ∧ Tk w' (w.heap.size + 1) s (a12) (badC c12 4 (decide (a12 < s.size))) ∧ w13.grownBy w' (some (w.heap.size + 1)) := tbad S13.tk 4 (decide (a12 < s.size)) (by decide)
      have hne10 : badC c12 4 (decide (a12 < s.size)) ≠ 0 := badC_ne hne13
      have HE := Lib.hid (tr_end HTR.out)
      clear HTR
      generalize badC c12 4 (decide (a12 < s.size)) = c10 at *
      generalize hq2 : decide (a12 < s.size) = q2 at *
      go_upto_region 23 with fail
      go_wp2_with fail
      refine hb.mono ?_
      rintro e w10 ⟨rfl, T10, G10⟩
      have S10 := S13.go T10 G10
      have t2 := S10.tk.c2
      clear hb hd hq2 T10 G10 t1
      have HG := Lib.hid (show parseI s.data.toList = .error c10 by rw [HPS.out]; exact HE.out.2 hne10)
      have hne : ((c10 : Int) != 0) = true := by simpa using hne10
      have H0 := Lib.hid hne10
      go_upto_region 25 with fail
      have Z10 : Own w10.drew w.heap.size 47 (encI zeroI { data := #[] } none 0 0).toArray := S10.res
      have t3 : w10.drew.cell? ⟨w.heap.size + 1, 2, none⟩ = some (.int .i64 (c10 : Int)) := t2
      have B11 : Below w.heap.size w w10.drew := S10.below.trans ((Grw.refl w10).drew.below.mono S10.below.size)
      have HB := Lib.hid (belowRow18 B11 w.heap.size (Nat.le_refl _) (encI zeroI { data := #[] } none 0 0).toArray)
      clear S10 HE hne10 t2 hne B11
      refine region_til [6] (fun w' => w'.cell? ⟨w.heap.size + 1, 2, none⟩ = some (.int .i64 (c10 : Int))) (by kernel_rfl) ?_
      generalize w10.drew = wd at *
      have hTil : ∀ l, tilD [6] (fun w' => w'.cell? ⟨w.heap.size + 1, 2, none⟩ = some (.int .i64 (c10 : Int))) l wd := fun _ => .inr t3
      refine til_pure (i := 0) (v := .agg #[.int .i64 0, .string { data := #[] }, .int .u32 0, .int .u64 0, .bool false, .bool false, .int .u64 0, .int .u64 0, .int .i64 0, .int .u64 0, .slice none 0 0, .int .u64 0, .int .u64 0, .int .i64 0, .int .u64 0, .int .u64 0, .int .i64 0, .int .i64 0]) 116 rfl rfl (by kernel_rfl) (by kernel_rfl) (by kernel_rfl) (by kernel_rfl) (fun _ _ _ h => h) (.inl ⟨by kernel_rfl, fun w' _ => by (go_simp; try rfl)⟩) (hTil _) ?_
      (try simp only [Act.put, List.setIfInBounds_toArray, List.set_cons_zero, List.set_cons_succ])
      refine til_pure (i := 1) (v := .pointer (some ⟨w.heap.size + 1, 0, none⟩)) 117 rfl rfl (by kernel_rfl) (by kernel_rfl) (by kernel_rfl) (by kernel_rfl) (fun _ _ _ h => h) (.inl ⟨by kernel_rfl, fun w' _ => by (go_simp)⟩) (hTil _) ?_
      (try simp only [Act.put, List.setIfInBounds_toArray, List.set_cons_zero, List.set_cons_succ])
      refine til_pure (i := 2) (v := .pointer (some ⟨w.heap.size + 1, 0, none⟩)) 118 rfl rfl (by kernel_rfl) (by kernel_rfl) (by kernel_rfl) (by kernel_rfl) (fun _ _ _ h => h) (.inl ⟨by kernel_rfl, fun w' _ => by (go_simp)⟩) (hTil _) ?_
      (try simp only [Act.put, List.setIfInBounds_toArray, List.set_cons_zero, List.set_cons_succ])
      refine til_pure (i := 3) (v := .pointer (some ⟨w.heap.size + 1, 2, none⟩)) 119 rfl rfl (by kernel_rfl) (by kernel_rfl) (by kernel_rfl) (by kernel_rfl) (fun _ _ _ h => h) (.inl ⟨by kernel_rfl, fun w' _ => by (go_simp)⟩) (hTil _) ?_
      (try simp only [Act.put, List.setIfInBounds_toArray, List.set_cons_zero, List.set_cons_succ])
      refine til_load (i := 4) (c := 6) (v := .int .i64 (c10 : Int)) 120 rfl rfl (by kernel_rfl) (by kernel_rfl) (by kernel_rfl) (by kernel_rfl) rfl (by kernel_rfl) (by decide) (by kernel_rfl) (fun _ _ _ h => h) (.inl ⟨by kernel_rfl, fun w' hS => by (have hc0 := hS; go_simp)⟩) (hTil _) ?_
      (try simp only [Act.put, List.setIfInBounds_toArray, List.set_cons_zero, List.set_cons_succ])
      clear hTil
      refine til_next (i := 5) (by kernel_rfl) rfl (by kernel_rfl) (fun K hK => ?_)
      refine wp_store_row 47 (.tmp 2) (.tmp 116) rfl w.heap.size _ rfl rfl 47 _ Z10 ditem_size rfl (encI_one zeroI { data := #[] } none 0 0) ?_
      refine hK.out _ _ (.inr ?_) ?_
      · exact (World.cell?_of_block (a := ⟨w.heap.size + 1, 2, none⟩) (setRow_other wd w.heap.size (w.heap.size + 1) _ (by omega))).trans t3
      clear hK K t3
      (try simp only [Act.put, List.setIfInBounds_toArray, List.set_cons_zero, List.set_cons_succ])
      refine til_next (i := 6) (by kernel_rfl) rfl (by kernel_rfl) (fun K hK => ?_)
      go_simp
      refine hK.out _ _ (.inl (by kernel_rfl)) ?_
      clear hK K
      refine til_done (by kernel_rfl) ?_ _
      go_wp2
      (try simp only [Exit.inBlock, Exit.then])
      refine bodyPost_ret (results_ctdI (x := zeroI) (T := { data := #[] }) (a := none) (k := 0) (c := 0) rfl _ _ w.heap.size rfl (Z10.row _)) rfl ?_
      exact ⟨HB.out, .inr ⟨c10, H0.out, HG.out, rfl⟩⟩
  · have k0 : w4.cell? ⟨g, 0, none⟩ = some (.int .i64 3) := S4.made.at_ 0 _ rfl
    have hb : Calls Try.prog 27 #[.pointer (some ⟨w.heap.size + 1, 0, none⟩), .int .i64 10, .bool false] w4 fun e' w' => e' = .returned (.tuple #[]) ∧ Tk w' (w.heap.size + 1) s (a1) (badC c1 10 false) ∧ w4.grownBy w' (some (w.heap.size + 1)) := tbad S4.tk 10 false (by decide)
    replace HK : Hid (∀ (a' c' : Nat) (x : Itm), TR (getIt 3) s (a1) (badC c1 3 (decide (1024 < s.size))) a' c' x → TR (getG s.size) s 0 0 a' c' x) := Lib.hid fun a' c' x h => HK.out a' c' x h
    have eb : badC c1 10 false = c1 := rfl
    rw [eb] at hb
    clear eb
    go_wp2_with fail
    refine hb.mono ?_
    rintro e w5 ⟨rfl, T5, G5⟩
    have S5 := S4.go T5 G5
    clear hb k0 T5 G5 S4
    have hd : decide ((1024 : Int) < (s.size : Int)) = decide (1024 < s.size) := by apply decide_eq_decide.2; omega
    have hb : Calls Try.prog 27 #[.pointer (some ⟨w.heap.size + 1, 0, none⟩), .int .i64 3, .bool (decide (1024 < s.size))] w5 fun e' w' => e' = .returned (.tuple #[]) ∧ Tk w' (w.heap.size + 1) s (a1) (badC c1 3 (decide (1024 < s.size))) ∧ w5.grownBy w' (some (w.heap.size + 1)) := tbad S5.tk 3 (decide (1024 < s.size)) (by decide)
    have HIN6 : Hid (badC c1 3 (decide (1024 < s.size)) = 0 → a1 ≤ s.size) := Lib.hid fun h => HIN.out (by
      unfold badC at h
      split at h
      · split at h
        · cases h
        · assumption
      · exact h)
    generalize badC c1 3 (decide (1024 < s.size)) = c6 at *
    generalize hq : decide (1024 < s.size) = q at *
    go_wp2_with fail
    refine hb.mono ?_
    rintro e w6 ⟨rfl, T6, G6⟩
    have S6 := S5.go T6 G6
    have k0 : w6.cell? ⟨g, 0, none⟩ = some (.int .i64 3) := S6.made.at_ 0 _ rfl
    clear hb hd hq T6 G6 S5
    have hv := tview S6.tk (by omega) hs
    go_wp2_with fail
    refine hv.mono ?_
    rintro e w12 ⟨⟨vn, ve, vr, vm⟩, c12, rfl, hok, T12, G12, R12⟩
    have S12 := S6.go T12 G12
    have HTR : Hid (TR (getG s.size) s 0 0 (a1 + 25) c12 (it3 ⟨vn, ve, vr, vm⟩)) := Lib.hid (HK.out _ _ _ (by rw [getIt_3]; exact R12.and (TR.pure _ (fun h => R12.in_ h))))
    have k11 : w12.cell? ⟨g, 11, none⟩ = some (.int .u64 0) := S12.made.at_ 11 _ rfl
    have f11 := S12.made.free 11
    have k12 : w12.cell? ⟨g, 12, none⟩ = some (.int .u64 0) := S12.made.at_ 12 _ rfl
    have f12 := S12.made.free 12
    have k13 : w12.cell? ⟨g, 13, none⟩ = some (.int .i64 0) := S12.made.at_ 13 _ rfl
    have f13 := S12.made.free 13
    have k14 : w12.cell? ⟨g, 14, none⟩ = some (.int .u64 0) := S12.made.at_ 14 _ rfl
    have f14 := S12.made.free 14
    obtain ⟨w13, hw13⟩ : ∃ w13, w13 = ((((w12.setCell ⟨g, 11, none⟩ (.int .u64 (vn : Int))).setCell ⟨g, 12, none⟩ (.int .u64 (ve : Int))).setCell ⟨g, 13, none⟩ (.int .i64 vr)).setCell ⟨g, 14, none⟩ (.int .u64 (vm : Int))) := ⟨_, rfl⟩
    have S13 : DpSt w w13 s (a1 + 25) c12 g 47 #[.int .i64 0, .string { data := #[] }, .int .u32 0, .int .u64 0, .bool false, .bool false, .int .u64 0, .int .u64 0, .int .i64 0, .int .u64 0, .slice none 0 0, .int .u64 0, .int .u64 0, .int .i64 0, .int .u64 0, .int .u64 0, .int .i64 0, .int .i64 0] (encI (it3 ⟨vn, ve, vr, vm⟩) { data := #[] } none 0 0).toArray := by rw [hw13]; exact ((((S12.set 11 (.int .u64 (vn : Int))).set 12 (.int .u64 (ve : Int))).set 13 (.int .i64 vr)).set 14 (.int .u64 (vm : Int)))
    obtain ⟨a12, ha12⟩ : ∃ a12, a12 = a1 + 25 := ⟨_, rfl⟩
    rw [← ha12] at S13 HTR
    clear hv T12 G12 R12 S6 S12 HK HIN HIN6 k0 hok ha12
    go_upto_region 20 with fail
    rw [← hw13]
    clear hw13 k11 f11 k12 f12 k13 f13 k14 f14
    have k0 : w13.cell? ⟨g, 0, none⟩ = some (.int .i64 3) := S13.made.at_ 0 _ rfl
    by_cases h13 : c12 = 0
    · have t2 : w13.cell? ⟨w.heap.size + 1, 2, none⟩ = some (.int .i64 0) := by have := S13.tk.c2; rw [h13] at this; exact this
      have t1 := S13.tk.c1
      rw [h13] at HTR
      have hd : decide ((a12 : Int) < (s.size : Int)) = decide (a12 < s.size) := by apply decide_eq_decide.2; omega
      have hb : Calls Try.prog 27 #[.pointer (some ⟨w.heap.size + 1, 0, none⟩), .int .i64 4, .bool (decide (a12 < s.size))] w13 fun e' w' => e' = .returned (.tuple #[]) ∧ Tk w' (w.heap.size + 1) s a12 (badC 0 4 (decide (a12 < s.size))) ∧ w13.grownBy w' (some (w.heap.size + 1)) := by have hq := tbad S13.tk 4 (decide (a12 < s.size)) (by decide); rw [h13] at hq; exact hq
      have HE := Lib.hid (tr_end HTR.out)
      clear HTR
      generalize badC 0 4 (decide (a12 < s.size)) = c10 at *
      generalize hq2 : decide (a12 < s.size) = q2 at *
      go_upto_region 23 with fail
      go_wp2_with fail
      refine hb.mono ?_
      rintro e w10 ⟨rfl, T10, G10⟩
      have S10 := S13.go T10 G10
      have hgx := S13.ge
      clear hb hd hq2 T10 G10 t1 t2 k0
      by_cases h0 : c10 = 0
      · have t2 : w10.cell? ⟨w.heap.size + 1, 2, none⟩ = some (.int .i64 0) := by have := S10.tk.c2; rw [h0] at this; exact this
        have HG := Lib.hid (show parseI s.data.toList = .ok (it3 ⟨vn, ve, vr, vm⟩) by rw [HPS.out]; exact HE.out.1 h0)
        clear h0 HE h13
        have Y10 : Own w10 g 47 (encI (it3 ⟨vn, ve, vr, vm⟩) { data := #[] } none 0 0).toArray := S10.made
        have Z10 : Own w10 w.heap.size 47 (encI zeroI { data := #[] } none 0 0).toArray := S10.res
        have hge10 := S10.ge
        have HB := Lib.hid (belowRow18 S10.below w.heap.size (Nat.le_refl _) (encI (it3 ⟨vn, ve, vr, vm⟩) { data := #[] } none 0 0).toArray)
        have HO := Lib.hid (show (w10.setRow w.heap.size (encI (it3 ⟨vn, ve, vr, vm⟩) { data := #[] } none 0 0).toArray).ownsRow w.heap.size 28 4 (.slice none 0 0) 0 (flat encV ((it3 ⟨vn, ve, vr, vm⟩)).r.pend) from World.ownsRow_nil _ _ _ _)
        clear S10
        go_upto_region 26 with fail
        go_wp2_with (first | (refine load_ditem rfl (.tmp 5) rfl g rfl Y10 ?_) | (refine store_ditem rfl (.tmp 2) (.tmp 121) rfl w.heap.size rfl rfl Z10 ?_))
        (try simp only [Exit.inBlock, Exit.then])
        refine bodyPost_ret (results_ctdI rfl _ _ w.heap.size rfl (Z10.row _)) rfl ?_
        exact ⟨HB.out, .inl ⟨_, _, _, _, _, HG.out, rfl, rfl, zRp_ok, HO.out, rfl, Nat.zero_le _⟩⟩
      · have hne10 := h0
        have t2 := S10.tk.c2
        clear h13
        have HG := Lib.hid (show parseI s.data.toList = .error c10 by rw [HPS.out]; exact HE.out.2 hne10)
        have hne : ((c10 : Int) != 0) = true := by simpa using hne10
        have H0 := Lib.hid hne10
        go_upto_region 25 with fail
        have Z10 : Own w10.drew w.heap.size 47 (encI zeroI { data := #[] } none 0 0).toArray := S10.res
        have t3 : w10.drew.cell? ⟨w.heap.size + 1, 2, none⟩ = some (.int .i64 (c10 : Int)) := t2
        have B11 : Below w.heap.size w w10.drew := S10.below.trans ((Grw.refl w10).drew.below.mono S10.below.size)
        have HB := Lib.hid (belowRow18 B11 w.heap.size (Nat.le_refl _) (encI zeroI { data := #[] } none 0 0).toArray)
        clear S10 HE hne10 t2 hne B11
        refine region_til [6] (fun w' => w'.cell? ⟨w.heap.size + 1, 2, none⟩ = some (.int .i64 (c10 : Int))) (by kernel_rfl) ?_
        generalize w10.drew = wd at *
        have hTil : ∀ l, tilD [6] (fun w' => w'.cell? ⟨w.heap.size + 1, 2, none⟩ = some (.int .i64 (c10 : Int))) l wd := fun _ => .inr t3
        refine til_pure (i := 0) (v := .agg #[.int .i64 0, .string { data := #[] }, .int .u32 0, .int .u64 0, .bool false, .bool false, .int .u64 0, .int .u64 0, .int .i64 0, .int .u64 0, .slice none 0 0, .int .u64 0, .int .u64 0, .int .i64 0, .int .u64 0, .int .u64 0, .int .i64 0, .int .i64 0]) 116 rfl rfl (by kernel_rfl) (by kernel_rfl) (by kernel_rfl) (by kernel_rfl) (fun _ _ _ h => h) (.inl ⟨by kernel_rfl, fun w' _ => by (go_simp; try rfl)⟩) (hTil _) ?_
        (try simp only [Act.put, List.setIfInBounds_toArray, List.set_cons_zero, List.set_cons_succ])
        refine til_pure (i := 1) (v := .pointer (some ⟨w.heap.size + 1, 0, none⟩)) 117 rfl rfl (by kernel_rfl) (by kernel_rfl) (by kernel_rfl) (by kernel_rfl) (fun _ _ _ h => h) (.inl ⟨by kernel_rfl, fun w' _ => by (go_simp)⟩) (hTil _) ?_
        (try simp only [Act.put, List.setIfInBounds_toArray, List.set_cons_zero, List.set_cons_succ])
        refine til_pure (i := 2) (v := .pointer (some ⟨w.heap.size + 1, 0, none⟩)) 118 rfl rfl (by kernel_rfl) (by kernel_rfl) (by kernel_rfl) (by kernel_rfl) (fun _ _ _ h => h) (.inl ⟨by kernel_rfl, fun w' _ => by (go_simp)⟩) (hTil _) ?_
        (try simp only [Act.put, List.setIfInBounds_toArray, List.set_cons_zero, List.set_cons_succ])
        refine til_pure (i := 3) (v := .pointer (some ⟨w.heap.size + 1, 2, none⟩)) 119 rfl rfl (by kernel_rfl) (by kernel_rfl) (by kernel_rfl) (by kernel_rfl) (fun _ _ _ h => h) (.inl ⟨by kernel_rfl, fun w' _ => by (go_simp)⟩) (hTil _) ?_
        (try simp only [Act.put, List.setIfInBounds_toArray, List.set_cons_zero, List.set_cons_succ])
        refine til_load (i := 4) (c := 6) (v := .int .i64 (c10 : Int)) 120 rfl rfl (by kernel_rfl) (by kernel_rfl) (by kernel_rfl) (by kernel_rfl) rfl (by kernel_rfl) (by decide) (by kernel_rfl) (fun _ _ _ h => h) (.inl ⟨by kernel_rfl, fun w' hS => by (have hc0 := hS; go_simp)⟩) (hTil _) ?_
        (try simp only [Act.put, List.setIfInBounds_toArray, List.set_cons_zero, List.set_cons_succ])
        clear hTil
        refine til_next (i := 5) (by kernel_rfl) rfl (by kernel_rfl) (fun K hK => ?_)
        refine wp_store_row 47 (.tmp 2) (.tmp 116) rfl w.heap.size _ rfl rfl 47 _ Z10 ditem_size rfl (encI_one zeroI { data := #[] } none 0 0) ?_
        refine hK.out _ _ (.inr ?_) ?_
        · exact (World.cell?_of_block (a := ⟨w.heap.size + 1, 2, none⟩) (setRow_other wd w.heap.size (w.heap.size + 1) _ (by omega))).trans t3
        clear hK K t3
        (try simp only [Act.put, List.setIfInBounds_toArray, List.set_cons_zero, List.set_cons_succ])
        refine til_next (i := 6) (by kernel_rfl) rfl (by kernel_rfl) (fun K hK => ?_)
        go_simp
        refine hK.out _ _ (.inl (by kernel_rfl)) ?_
        clear hK K
        refine til_done (by kernel_rfl) ?_ _
        go_wp2
        (try simp only [Exit.inBlock, Exit.then])
        refine bodyPost_ret (results_ctdI (x := zeroI) (T := { data := #[] }) (a := none) (k := 0) (c := 0) rfl _ _ w.heap.size rfl (Z10.row _)) rfl ?_
        exact ⟨HB.out, .inr ⟨c10, H0.out, HG.out, rfl⟩⟩
    · have hne13 := h13
      have e13 : ((c12 : Int) == 0) = false := by rw [beq_eq_false_iff_ne]; omega
      have t2 := S13.tk.c2
      have t1 := S13.tk.c1
      have hd : decide ((a12 : Int) < (s.size : Int)) = decide (a12 < s.size) := by apply decide_eq_decide.2; omega
      have hb : Calls Try.prog 27 #[.pointer (some ⟨w.heap.size + 1, 0, none⟩), .int .i64 4, .bool (decide (a12 < s.size))] w13 fun e' w' => e' = .returned (.tuple #[]) ∧ Tk w' (w.heap.size + 1) s (a12) (badC c12 4 (decide (a12 < s.size))) ∧ w13.grownBy w' (some (w.heap.size + 1)) := tbad S13.tk 4 (decide (a12 < s.size)) (by decide)
      have hne10 : badC c12 4 (decide (a12 < s.size)) ≠ 0 := badC_ne hne13
      have HE := Lib.hid (tr_end HTR.out)
      clear HTR
      generalize badC c12 4 (decide (a12 < s.size)) = c10 at *
      generalize hq2 : decide (a12 < s.size) = q2 at *
      go_upto_region 23 with fail
      go_wp2_with fail
      refine hb.mono ?_
      rintro e w10 ⟨rfl, T10, G10⟩
      have S10 := S13.go T10 G10
      have t2 := S10.tk.c2
      clear hb hd hq2 T10 G10 t1
      have HG := Lib.hid (show parseI s.data.toList = .error c10 by rw [HPS.out]; exact HE.out.2 hne10)
      have hne : ((c10 : Int) != 0) = true := by simpa using hne10
      have H0 := Lib.hid hne10
      go_upto_region 25 with fail
      have Z10 : Own w10.drew w.heap.size 47 (encI zeroI { data := #[] } none 0 0).toArray := S10.res
      have t3 : w10.drew.cell? ⟨w.heap.size + 1, 2, none⟩ = some (.int .i64 (c10 : Int)) := t2
      have B11 : Below w.heap.size w w10.drew := S10.below.trans ((Grw.refl w10).drew.below.mono S10.below.size)
      have HB := Lib.hid (belowRow18 B11 w.heap.size (Nat.le_refl _) (encI zeroI { data := #[] } none 0 0).toArray)
      clear S10 HE hne10 t2 hne B11
      refine region_til [6] (fun w' => w'.cell? ⟨w.heap.size + 1, 2, none⟩ = some (.int .i64 (c10 : Int))) (by kernel_rfl) ?_
      generalize w10.drew = wd at *
      have hTil : ∀ l, tilD [6] (fun w' => w'.cell? ⟨w.heap.size + 1, 2, none⟩ = some (.int .i64 (c10 : Int))) l wd := fun _ => .inr t3
      refine til_pure (i := 0) (v := .agg #[.int .i64 0, .string { data := #[] }, .int .u32 0, .int .u64 0, .bool false, .bool false, .int .u64 0, .int .u64 0, .int .i64 0, .int .u64 0, .slice none 0 0, .int .u64 0, .int .u64 0, .int .i64 0, .int .u64 0, .int .u64 0, .int .i64 0, .int .i64 0]) 116 rfl rfl (by kernel_rfl) (by kernel_rfl) (by kernel_rfl) (by kernel_rfl) (fun _ _ _ h => h) (.inl ⟨by kernel_rfl, fun w' _ => by (go_simp; try rfl)⟩) (hTil _) ?_
      (try simp only [Act.put, List.setIfInBounds_toArray, List.set_cons_zero, List.set_cons_succ])
      refine til_pure (i := 1) (v := .pointer (some ⟨w.heap.size + 1, 0, none⟩)) 117 rfl rfl (by kernel_rfl) (by kernel_rfl) (by kernel_rfl) (by kernel_rfl) (fun _ _ _ h => h) (.inl ⟨by kernel_rfl, fun w' _ => by (go_simp)⟩) (hTil _) ?_
      (try simp only [Act.put, List.setIfInBounds_toArray, List.set_cons_zero, List.set_cons_succ])
      refine til_pure (i := 2) (v := .pointer (some ⟨w.heap.size + 1, 0, none⟩)) 118 rfl rfl (by kernel_rfl) (by kernel_rfl) (by kernel_rfl) (by kernel_rfl) (fun _ _ _ h => h) (.inl ⟨by kernel_rfl, fun w' _ => by (go_simp)⟩) (hTil _) ?_
      (try simp only [Act.put, List.setIfInBounds_toArray, List.set_cons_zero, List.set_cons_succ])
      refine til_pure (i := 3) (v := .pointer (some ⟨w.heap.size + 1, 2, none⟩)) 119 rfl rfl (by kernel_rfl) (by kernel_rfl) (by kernel_rfl) (by kernel_rfl) (fun _ _ _ h => h) (.inl ⟨by kernel_rfl, fun w' _ => by (go_simp)⟩) (hTil _) ?_
      (try simp only [Act.put, List.setIfInBounds_toArray, List.set_cons_zero, List.set_cons_succ])
      refine til_load (i := 4) (c := 6) (v := .int .i64 (c10 : Int)) 120 rfl rfl (by kernel_rfl) (by kernel_rfl) (by kernel_rfl) (by kernel_rfl) rfl (by kernel_rfl) (by decide) (by kernel_rfl) (fun _ _ _ h => h) (.inl ⟨by kernel_rfl, fun w' hS => by (have hc0 := hS; go_simp)⟩) (hTil _) ?_
      (try simp only [Act.put, List.setIfInBounds_toArray, List.set_cons_zero, List.set_cons_succ])
      clear hTil
      refine til_next (i := 5) (by kernel_rfl) rfl (by kernel_rfl) (fun K hK => ?_)
      refine wp_store_row 47 (.tmp 2) (.tmp 116) rfl w.heap.size _ rfl rfl 47 _ Z10 ditem_size rfl (encI_one zeroI { data := #[] } none 0 0) ?_
      refine hK.out _ _ (.inr ?_) ?_
      · exact (World.cell?_of_block (a := ⟨w.heap.size + 1, 2, none⟩) (setRow_other wd w.heap.size (w.heap.size + 1) _ (by omega))).trans t3
      clear hK K t3
      (try simp only [Act.put, List.setIfInBounds_toArray, List.set_cons_zero, List.set_cons_succ])
      refine til_next (i := 6) (by kernel_rfl) rfl (by kernel_rfl) (fun K hK => ?_)
      go_simp
      refine hK.out _ _ (.inl (by kernel_rfl)) ?_
      clear hK K
      refine til_done (by kernel_rfl) ?_ _
      go_wp2
      (try simp only [Exit.inBlock, Exit.then])
      refine bodyPost_ret (results_ctdI (x := zeroI) (T := { data := #[] }) (a := none) (k := 0) (c := 0) rfl _ _ w.heap.size rfl (Z10.row _)) rfl ?_
      exact ⟨HB.out, .inr ⟨c10, H0.out, HG.out, rfl⟩⟩
  · have k0 : w4.cell? ⟨g, 0, none⟩ = some (.int .i64 4) := S4.made.at_ 0 _ rfl
    have hb : Calls Try.prog 27 #[.pointer (some ⟨w.heap.size + 1, 0, none⟩), .int .i64 10, .bool false] w4 fun e' w' => e' = .returned (.tuple #[]) ∧ Tk w' (w.heap.size + 1) s (a1) (badC c1 10 false) ∧ w4.grownBy w' (some (w.heap.size + 1)) := tbad S4.tk 10 false (by decide)
    replace HK : Hid (∀ (a' c' : Nat) (x : Itm), TR (getIt 4) s (a1) (badC c1 3 (decide (1024 < s.size))) a' c' x → TR (getG s.size) s 0 0 a' c' x) := Lib.hid fun a' c' x h => HK.out a' c' x h
    have eb : badC c1 10 false = c1 := rfl
    rw [eb] at hb
    clear eb
    go_wp2_with fail
    refine hb.mono ?_
    rintro e w5 ⟨rfl, T5, G5⟩
    have S5 := S4.go T5 G5
    clear hb k0 T5 G5 S4
    have hd : decide ((1024 : Int) < (s.size : Int)) = decide (1024 < s.size) := by apply decide_eq_decide.2; omega
    have hb : Calls Try.prog 27 #[.pointer (some ⟨w.heap.size + 1, 0, none⟩), .int .i64 3, .bool (decide (1024 < s.size))] w5 fun e' w' => e' = .returned (.tuple #[]) ∧ Tk w' (w.heap.size + 1) s (a1) (badC c1 3 (decide (1024 < s.size))) ∧ w5.grownBy w' (some (w.heap.size + 1)) := tbad S5.tk 3 (decide (1024 < s.size)) (by decide)
    have HIN6 : Hid (badC c1 3 (decide (1024 < s.size)) = 0 → a1 ≤ s.size) := Lib.hid fun h => HIN.out (by
      unfold badC at h
      split at h
      · split at h
        · cases h
        · assumption
      · exact h)
    generalize badC c1 3 (decide (1024 < s.size)) = c6 at *
    generalize hq : decide (1024 < s.size) = q at *
    go_wp2_with fail
    refine hb.mono ?_
    rintro e w6 ⟨rfl, T6, G6⟩
    have S6 := S5.go T6 G6
    have k0 : w6.cell? ⟨g, 0, none⟩ = some (.int .i64 4) := S6.made.at_ 0 _ rfl
    clear hb hd hq T6 G6 S5
    have hn : Calls Try.prog 26 #[.pointer (some ⟨w.heap.size + 1, 0, none⟩), .int .i64 8] w6 (NumPost 8 w6 (w.heap.size + 1) s (a1) c6) := tnum S6.tk 8 (by decide) (by decide) (by omega) hs
    go_wp2_with fail
    refine hn.mono ?_
    rintro e w7 ⟨v7, c7, rfl, hv7, T7, G7, R7⟩
    have S7 := S6.go T7 G7
    have kk : w7.cell? ⟨g, 15, none⟩ = some (.int .u64 0) := S7.made.at_ 15 _ rfl
    have ff := S7.made.free 15
    have S7b := (S7.set 15 (.int .u64 (v7 : Int)))
    have HR7 := Lib.hid R7
    clear hn T7 G7 S6 S7 R7
    go_upto_region 18 with fail
    clear kk ff
    generalize w7.setCell ⟨g, 15, none⟩ (.int .u64 (v7 : Int)) = w7b at *
    have hn : Calls Try.prog 26 #[.pointer (some ⟨w.heap.size + 1, 0, none⟩), .int .i64 2] w7b (NumPost 2 w7b (w.heap.size + 1) s (a1 + 8) c7) := tnum S7b.tk 2 (by decide) (by decide) (by omega) hs
    go_wp2_with fail
    refine hn.mono ?_
    rintro e w8 ⟨v8, c8, rfl, hv8, T8, G8, R8⟩
    have S8 := S7b.go T8 G8
    have hv8' : v8 < 65536 := hv8
    have hw8 : IntKind.i64.wrap (v8 : Int) = (v8 : Int) := by rw [IntKind.wrap_i64]; omega
    have kk : w8.cell? ⟨g, 16, none⟩ = some (.int .i64 0) := S8.made.at_ 16 _ rfl
    have ff := S8.made.free 16
    have S8b := (S8.set 16 (.int .i64 (v8 : Int)))
    have HR8 := Lib.hid R8
    clear hn T8 G8 S7b S8 R8
    go_upto_region 19 with fail
    clear kk ff
    generalize w8.setCell ⟨g, 16, none⟩ (.int .i64 (v8 : Int)) = w8b at *
    have hn : Calls Try.prog 26 #[.pointer (some ⟨w.heap.size + 1, 0, none⟩), .int .i64 2] w8b (NumPost 2 w8b (w.heap.size + 1) s (a1 + 8 + 2) c8) := tnum S8b.tk 2 (by decide) (by decide) (by omega) hs
    go_wp2_with fail
    refine hn.mono ?_
    rintro e w9 ⟨v9, c9, rfl, hv9, T9, G9, R9⟩
    have S9 := S8b.go T9 G9
    have hv9' : v9 < 65536 := hv9
    have hw9 : IntKind.i64.wrap (v9 : Int) = (v9 : Int) := by rw [IntKind.wrap_i64]; omega
    have kk : w9.cell? ⟨g, 17, none⟩ = some (.int .i64 0) := S9.made.at_ 17 _ rfl
    have ff := S9.made.free 17
    have S9b := (S9.set 17 (.int .i64 (v9 : Int)))
    have HR9 := Lib.hid R9
    clear hn T9 G9 S8b S9 R9
    go_upto_region 20 with fail
    clear kk ff
    generalize w9.setCell ⟨g, 17, none⟩ (.int .i64 (v9 : Int)) = w9b at *
    have HK4 : Hid (∀ (a' c' : Nat) (x : Itm), TR (fun r => .ok (it4 v7 v8 v9 r, [])) s (a1 + 8 + 2 + 2) c9 a' c' x → TR (getG s.size) s 0 0 a' c' x) := Lib.hid fun a' c' x h => HK.out _ _ _ (by rw [getIt_4]; exact HR7.out.and (HR8.out.and (HR9.out.and h)))
    have HIN9 : Hid (c9 = 0 → a1 + 8 + 2 + 2 ≤ s.size) := Lib.hid fun h => HR9.out.in_ h
    obtain ⟨a9, ha9⟩ : ∃ a9, a9 = a1 + 8 + 2 + 2 := ⟨_, rfl⟩
    rw [← ha9] at S9b HK4 HIN9
    clear HK HR7 HR8 HR9 HIN HIN6 ha9 k0
    by_cases h9 : c9 = 0
    · subst h9
      have hin := HIN9.out rfl
      have hin2 : (a9 : Int) ≤ (s.size : Int) := by omega
      have HTR : Hid (TR (getG s.size) s 0 0 s.size 0 (it4 v7 v8 v9 (restB s a9))) := Lib.hid (HK4.out _ _ _ (tr_all (it4 v7 v8 v9) rfl))
      clear HK4 HIN9
      have k0 : w9b.cell? ⟨g, 0, none⟩ = some (.int .i64 4) := S9b.made.at_ 0 _ rfl
      have k1 : w9b.cell? ⟨g, 1, none⟩ = some (.string { data := #[] }) := S9b.made.at_ 1 _ rfl
      have f1 := S9b.made.free 1
      have t1 := S9b.tk.c1
      have t2 : w9b.cell? ⟨w.heap.size + 1, 2, none⟩ = some (.int .i64 0) := S9b.tk.c2
      have hge11 := S9b.ge
      have S11 := S9b.set 1 (.string (s.extract (a9) s.size))
      have t1' : (w9b.setCell ⟨g, 1, none⟩ (.string (s.extract (a9) s.size))).cell? ⟨w.heap.size + 1, 1, none⟩ = some (.int .i64 ((a9 : Nat) : Int)) := S11.tk.c1
      have x1' : (w9b.setCell ⟨g, 1, none⟩ (.string (s.extract (a9) s.size))).frozen? ⟨w.heap.size + 1, 1, none⟩ = false := S11.tk.free 1
      have S12 : DpSt w ((w9b.setCell ⟨g, 1, none⟩ (.string (s.extract (a9) s.size))).setCell ⟨w.heap.size + 1, 1, none⟩ (.int .i64 (s.size : Int))) s s.size 0 g 47 #[.int .i64 0, .string { data := #[] }, .int .u32 0, .int .u64 0, .bool false, .bool false, .int .u64 0, .int .u64 0, .int .i64 0, .int .u64 0, .slice none 0 0, .int .u64 0, .int .u64 0, .int .i64 0, .int .u64 0, .int .u64 0, .int .i64 0, .int .i64 0] (encI (it4 v7 v8 v9 (restB s a9)) (s.extract (a9) s.size) none 0 0).toArray :=
        ⟨S11.res.set_other _ _ _ (by omega), S11.tk.set1 s.size, S11.made.set_other _ _ _ (by omega), S11.below.setCell (Nat.le_succ _) _, S11.ge⟩
      clear S11
      go_upto_region 23 with fail
      clear k0 k1 f1 t1 t2 t1' x1'
      generalize (w9b.setCell ⟨g, 1, none⟩ (.string (s.extract (a9) s.size))).setCell ⟨w.heap.size + 1, 1, none⟩ (.int .i64 (s.size : Int)) = w12 at *
      have t1 : w12.cell? ⟨w.heap.size + 1, 1, none⟩ = some (.int .i64 (s.size : Int)) := S12.tk.c1
      have hb : Calls Try.prog 27 #[.pointer (some ⟨w.heap.size + 1, 0, none⟩), .int .i64 4, .bool false] w12 fun e' w' => e' = .returned (.tuple #[]) ∧ Tk w' (w.heap.size + 1) s s.size (badC 0 4 false) ∧ w12.grownBy w' (some (w.heap.size + 1)) := tbad S12.tk 4 false (by decide)
      go_wp2_with fail
      refine hb.mono ?_
      rintro e w13 ⟨rfl, T13, G13⟩
      have S13 := S12.go T13 G13
      have t2 : w13.cell? ⟨w.heap.size + 1, 2, none⟩ = some (.int .i64 0) := S13.tk.c2
      have HG := Lib.hid (show parseI s.data.toList = .ok (it4 v7 v8 v9 (restB s a9)) by rw [HPS.out]; exact (tr_end HTR.out).1 (by rw [decide_eq_false (Nat.lt_irrefl _)]; rfl))
      clear hb T13 G13 S12 t1 HTR
      have Y10 : Own w13 g 47 (encI (it4 v7 v8 v9 (restB s a9)) (s.extract a9 s.size) none 0 0).toArray := S13.made
      have Z10 : Own w13 w.heap.size 47 (encI zeroI { data := #[] } none 0 0).toArray := S13.res
      have hge10 := S13.ge
      have HB := Lib.hid (belowRow18 S13.below w.heap.size (Nat.le_refl _) (encI (it4 v7 v8 v9 (restB s a9)) (s.extract a9 s.size) none 0 0).toArray)
      have HO := Lib.hid (show (w13.setRow w.heap.size (encI (it4 v7 v8 v9 (restB s a9)) (s.extract a9 s.size) none 0 0).toArray).ownsRow w.heap.size 28 4 (.slice none 0 0) 0 (flat encV ((it4 v7 v8 v9 (restB s a9))).r.pend) from World.ownsRow_nil _ _ _ _)
      clear S13
      go_upto_region 26 with fail
      go_wp2_with (first | (refine load_ditem rfl (.tmp 5) rfl g rfl Y10 ?_) | (refine store_ditem rfl (.tmp 2) (.tmp 121) rfl w.heap.size rfl rfl Z10 ?_))
      (try simp only [Exit.inBlock, Exit.then])
      refine bodyPost_ret (results_ctdI rfl _ _ w.heap.size rfl (Z10.row _)) rfl ?_
      exact ⟨HB.out, .inl ⟨_, _, _, _, _, HG.out, rfl, tail_text, zRp_ok, HO.out, rfl, Nat.zero_le _⟩⟩
    · have hne9 := h9
      have HTR : Hid (TR (getG s.size) s 0 0 a9 c9 zeroI) := Lib.hid (HK4.out _ _ _ (tr_bad h9))
      have e9 : ((c9 : Int) == 0) = false := by rw [beq_eq_false_iff_ne]; omega
      have t2 := S9b.tk.c2
      clear HK4 HIN9
      have t1 := S9b.tk.c1
      have hd : decide ((a9 : Int) < (s.size : Int)) = decide (a9 < s.size) := by apply decide_eq_decide.2; omega
      have hb : Calls Try.prog 27 #[.pointer (some ⟨w.heap.size + 1, 0, none⟩), .int .i64 4, .bool (decide (a9 < s.size))] w9b fun e' w' => e' = .returned (.tuple #[]) ∧ Tk w' (w.heap.size + 1) s (a9) (badC c9 4 (decide (a9 < s.size))) ∧ w9b.grownBy w' (some (w.heap.size + 1)) := tbad S9b.tk 4 (decide (a9 < s.size)) (by decide)
      have hne10 : badC c9 4 (decide (a9 < s.size)) ≠ 0 := badC_ne hne9
      have HE := Lib.hid (tr_end HTR.out)
      clear HTR
      generalize badC c9 4 (decide (a9 < s.size)) = c10 at *
      generalize hq2 : decide (a9 < s.size) = q2 at *
      go_upto_region 23 with fail
      go_wp2_with fail
      refine hb.mono ?_
      rintro e w10 ⟨rfl, T10, G10⟩
      have S10 := S9b.go T10 G10
      have t2 := S10.tk.c2
      clear hb hd hq2 T10 G10 t1
      have HG := Lib.hid (show parseI s.data.toList = .error c10 by rw [HPS.out]; exact HE.out.2 hne10)
      have hne : ((c10 : Int) != 0) = true := by simpa using hne10
      have H0 := Lib.hid hne10
      go_upto_region 25 with fail
      have Z10 : Own w10.drew w.heap.size 47 (encI zeroI { data := #[] } none 0 0).toArray := S10.res
      have t3 : w10.drew.cell? ⟨w.heap.size + 1, 2, none⟩ = some (.int .i64 (c10 : Int)) := t2
      have B11 : Below w.heap.size w w10.drew := S10.below.trans ((Grw.refl w10).drew.below.mono S10.below.size)
      have HB := Lib.hid (belowRow18 B11 w.heap.size (Nat.le_refl _) (encI zeroI { data := #[] } none 0 0).toArray)
      clear S10 HE hne10 t2 hne B11
      refine region_til [6] (fun w' => w'.cell? ⟨w.heap.size + 1, 2, none⟩ = some (.int .i64 (c10 : Int))) (by kernel_rfl) ?_
      generalize w10.drew = wd at *
      have hTil : ∀ l, tilD [6] (fun w' => w'.cell? ⟨w.heap.size + 1, 2, none⟩ = some (.int .i64 (c10 : Int))) l wd := fun _ => .inr t3
      refine til_pure (i := 0) (v := .agg #[.int .i64 0, .string { data := #[] }, .int .u32 0, .int .u64 0, .bool false, .bool false, .int .u64 0, .int .u64 0, .int .i64 0, .int .u64 0, .slice none 0 0, .int .u64 0, .int .u64 0, .int .i64 0, .int .u64 0, .int .u64 0, .int .i64 0, .int .i64 0]) 116 rfl rfl (by kernel_rfl) (by kernel_rfl) (by kernel_rfl) (by kernel_rfl) (fun _ _ _ h => h) (.inl ⟨by kernel_rfl, fun w' _ => by (go_simp; try rfl)⟩) (hTil _) ?_
      (try simp only [Act.put, List.setIfInBounds_toArray, List.set_cons_zero, List.set_cons_succ])
      refine til_pure (i := 1) (v := .pointer (some ⟨w.heap.size + 1, 0, none⟩)) 117 rfl rfl (by kernel_rfl) (by kernel_rfl) (by kernel_rfl) (by kernel_rfl) (fun _ _ _ h => h) (.inl ⟨by kernel_rfl, fun w' _ => by (go_simp)⟩) (hTil _) ?_
      (try simp only [Act.put, List.setIfInBounds_toArray, List.set_cons_zero, List.set_cons_succ])
      refine til_pure (i := 2) (v := .pointer (some ⟨w.heap.size + 1, 0, none⟩)) 118 rfl rfl (by kernel_rfl) (by kernel_rfl) (by kernel_rfl) (by kernel_rfl) (fun _ _ _ h => h) (.inl ⟨by kernel_rfl, fun w' _ => by (go_simp)⟩) (hTil _) ?_
      (try simp only [Act.put, List.setIfInBounds_toArray, List.set_cons_zero, List.set_cons_succ])
      refine til_pure (i := 3) (v := .pointer (some ⟨w.heap.size + 1, 2, none⟩)) 119 rfl rfl (by kernel_rfl) (by kernel_rfl) (by kernel_rfl) (by kernel_rfl) (fun _ _ _ h => h) (.inl ⟨by kernel_rfl, fun w' _ => by (go_simp)⟩) (hTil _) ?_
      (try simp only [Act.put, List.setIfInBounds_toArray, List.set_cons_zero, List.set_cons_succ])
      refine til_load (i := 4) (c := 6) (v := .int .i64 (c10 : Int)) 120 rfl rfl (by kernel_rfl) (by kernel_rfl) (by kernel_rfl) (by kernel_rfl) rfl (by kernel_rfl) (by decide) (by kernel_rfl) (fun _ _ _ h => h) (.inl ⟨by kernel_rfl, fun w' hS => by (have hc0 := hS; go_simp)⟩) (hTil _) ?_
      (try simp only [Act.put, List.setIfInBounds_toArray, List.set_cons_zero, List.set_cons_succ])
      clear hTil
      refine til_next (i := 5) (by kernel_rfl) rfl (by kernel_rfl) (fun K hK => ?_)
      refine wp_store_row 47 (.tmp 2) (.tmp 116) rfl w.heap.size _ rfl rfl 47 _ Z10 ditem_size rfl (encI_one zeroI { data := #[] } none 0 0) ?_
      refine hK.out _ _ (.inr ?_) ?_
      · exact (World.cell?_of_block (a := ⟨w.heap.size + 1, 2, none⟩) (setRow_other wd w.heap.size (w.heap.size + 1) _ (by omega))).trans t3
      clear hK K t3
      (try simp only [Act.put, List.setIfInBounds_toArray, List.set_cons_zero, List.set_cons_succ])
      refine til_next (i := 6) (by kernel_rfl) rfl (by kernel_rfl) (fun K hK => ?_)
      go_simp
      refine hK.out _ _ (.inl (by kernel_rfl)) ?_
      clear hK K
      refine til_done (by kernel_rfl) ?_ _
      go_wp2
      (try simp only [Exit.inBlock, Exit.then])
      refine bodyPost_ret (results_ctdI (x := zeroI) (T := { data := #[] }) (a := none) (k := 0) (c := 0) rfl _ _ w.heap.size rfl (Z10.row _)) rfl ?_
      exact ⟨HB.out, .inr ⟨c10, H0.out, HG.out, rfl⟩⟩
  · replace HK : Hid (∀ (a' c' : Nat) (x : Itm), TR (getIt 0) s (a1) (badC (badC c1 10 true) 3 (decide (1024 < s.size))) a' c' x → TR (getG s.size) s 0 0 a' c' x) := Lib.hid fun a' c' x h => HK.out a' c' x h
    have k0 : w4.cell? ⟨g, 0, none⟩ = some (.int .i64 0) := S4.made.at_ 0 _ rfl
    have hb : Calls Try.prog 27 #[.pointer (some ⟨w.heap.size + 1, 0, none⟩), .int .i64 10, .bool true] w4 fun e' w' => e' = .returned (.tuple #[]) ∧ Tk w' (w.heap.size + 1) s (a1) (badC c1 10 true) ∧ w4.grownBy w' (some (w.heap.size + 1)) := tbad S4.tk 10 true (by decide)
    have hne5 : badC c1 10 true ≠ 0 := by unfold badC; rw [if_pos rfl]; split <;> omega
    generalize badC c1 10 true = c5 at *
    go_wp2_with fail
    refine hb.mono ?_
    rintro e w5 ⟨rfl, T5, G5⟩
    have S5 := S4.go T5 G5
    clear hb k0 T5 G5 S4
    have hd : decide ((1024 : Int) < (s.size : Int)) = decide (1024 < s.size) := by apply decide_eq_decide.2; omega
    have hb : Calls Try.prog 27 #[.pointer (some ⟨w.heap.size + 1, 0, none⟩), .int .i64 3, .bool (decide (1024 < s.size))] w5 fun e' w' => e' = .returned (.tuple #[]) ∧ Tk w' (w.heap.size + 1) s (a1) (badC c5 3 (decide (1024 < s.size))) ∧ w5.grownBy w' (some (w.heap.size + 1)) := tbad S5.tk 3 (decide (1024 < s.size)) (by decide)
    have hne6 : badC c5 3 (decide (1024 < s.size)) ≠ 0 := badC_ne hne5
    generalize badC c5 3 (decide (1024 < s.size)) = c6 at *
    generalize hq : decide (1024 < s.size) = q at *
    go_wp2_with fail
    refine hb.mono ?_
    rintro e w6 ⟨rfl, T6, G6⟩
    have S6 := S5.go T6 G6
    have k0 : w6.cell? ⟨g, 0, none⟩ = some (.int .i64 0) := S6.made.at_ 0 _ rfl
    clear hb hd hq T6 G6 S5
    have HTR : Hid (TR (getG s.size) s 0 0 (a1) c6 zeroI) := Lib.hid (HK.out _ _ _ (tr_bad hne6))
    have e6 : ((c6 : Int) == 0) = false := by rw [beq_eq_false_iff_ne]; omega
    have t2 := S6.tk.c2
    clear HIN
    have t1 := S6.tk.c1
    have hd : decide ((a1 : Int) < (s.size : Int)) = decide (a1 < s.size) := by apply decide_eq_decide.2; omega
    have hb : Calls Try.prog 27 #[.pointer (some ⟨w.heap.size + 1, 0, none⟩), .int .i64 4, .bool (decide (a1 < s.size))] w6 fun e' w' => e' = .returned (.tuple #[]) ∧ Tk w' (w.heap.size + 1) s (a1) (badC c6 4 (decide (a1 < s.size))) ∧ w6.grownBy w' (some (w.heap.size + 1)) := tbad S6.tk 4 (decide (a1 < s.size)) (by decide)
    have hne10 : badC c6 4 (decide (a1 < s.size)) ≠ 0 := badC_ne hne6
    have HE := Lib.hid (tr_end HTR.out)
    clear HTR
    generalize badC c6 4 (decide (a1 < s.size)) = c10 at *
    generalize hq2 : decide (a1 < s.size) = q2 at *
    go_upto_region 23 with fail
    go_wp2_with fail
    refine hb.mono ?_
    rintro e w10 ⟨rfl, T10, G10⟩
    have S10 := S6.go T10 G10
    have t2 := S10.tk.c2
    clear hb hd hq2 T10 G10 t1
    have HG := Lib.hid (show parseI s.data.toList = .error c10 by rw [HPS.out]; exact HE.out.2 hne10)
    have hne : ((c10 : Int) != 0) = true := by simpa using hne10
    have H0 := Lib.hid hne10
    go_upto_region 25 with fail
    have Z10 : Own w10.drew w.heap.size 47 (encI zeroI { data := #[] } none 0 0).toArray := S10.res
    have t3 : w10.drew.cell? ⟨w.heap.size + 1, 2, none⟩ = some (.int .i64 (c10 : Int)) := t2
    have B11 : Below w.heap.size w w10.drew := S10.below.trans ((Grw.refl w10).drew.below.mono S10.below.size)
    have HB := Lib.hid (belowRow18 B11 w.heap.size (Nat.le_refl _) (encI zeroI { data := #[] } none 0 0).toArray)
    clear S10 HE hne10 t2 hne B11
    refine region_til [6] (fun w' => w'.cell? ⟨w.heap.size + 1, 2, none⟩ = some (.int .i64 (c10 : Int))) (by kernel_rfl) ?_
    generalize w10.drew = wd at *
    have hTil : ∀ l, tilD [6] (fun w' => w'.cell? ⟨w.heap.size + 1, 2, none⟩ = some (.int .i64 (c10 : Int))) l wd := fun _ => .inr t3
    refine til_pure (i := 0) (v := .agg #[.int .i64 0, .string { data := #[] }, .int .u32 0, .int .u64 0, .bool false, .bool false, .int .u64 0, .int .u64 0, .int .i64 0, .int .u64 0, .slice none 0 0, .int .u64 0, .int .u64 0, .int .i64 0, .int .u64 0, .int .u64 0, .int .i64 0, .int .i64 0]) 116 rfl rfl (by kernel_rfl) (by kernel_rfl) (by kernel_rfl) (by kernel_rfl) (fun _ _ _ h => h) (.inl ⟨by kernel_rfl, fun w' _ => by (go_simp; try rfl)⟩) (hTil _) ?_
    (try simp only [Act.put, List.setIfInBounds_toArray, List.set_cons_zero, List.set_cons_succ])
    refine til_pure (i := 1) (v := .pointer (some ⟨w.heap.size + 1, 0, none⟩)) 117 rfl rfl (by kernel_rfl) (by kernel_rfl) (by kernel_rfl) (by kernel_rfl) (fun _ _ _ h => h) (.inl ⟨by kernel_rfl, fun w' _ => by (go_simp)⟩) (hTil _) ?_
    (try simp only [Act.put, List.setIfInBounds_toArray, List.set_cons_zero, List.set_cons_succ])
    refine til_pure (i := 2) (v := .pointer (some ⟨w.heap.size + 1, 0, none⟩)) 118 rfl rfl (by kernel_rfl) (by kernel_rfl) (by kernel_rfl) (by kernel_rfl) (fun _ _ _ h => h) (.inl ⟨by kernel_rfl, fun w' _ => by (go_simp)⟩) (hTil _) ?_
    (try simp only [Act.put, List.setIfInBounds_toArray, List.set_cons_zero, List.set_cons_succ])
    refine til_pure (i := 3) (v := .pointer (some ⟨w.heap.size + 1, 2, none⟩)) 119 rfl rfl (by kernel_rfl) (by kernel_rfl) (by kernel_rfl) (by kernel_rfl) (fun _ _ _ h => h) (.inl ⟨by kernel_rfl, fun w' _ => by (go_simp)⟩) (hTil _) ?_
    (try simp only [Act.put, List.setIfInBounds_toArray, List.set_cons_zero, List.set_cons_succ])
    refine til_load (i := 4) (c := 6) (v := .int .i64 (c10 : Int)) 120 rfl rfl (by kernel_rfl) (by kernel_rfl) (by kernel_rfl) (by kernel_rfl) rfl (by kernel_rfl) (by decide) (by kernel_rfl) (fun _ _ _ h => h) (.inl ⟨by kernel_rfl, fun w' hS => by (have hc0 := hS; go_simp)⟩) (hTil _) ?_
    (try simp only [Act.put, List.setIfInBounds_toArray, List.set_cons_zero, List.set_cons_succ])
    clear hTil
    refine til_next (i := 5) (by kernel_rfl) rfl (by kernel_rfl) (fun K hK => ?_)
    refine wp_store_row 47 (.tmp 2) (.tmp 116) rfl w.heap.size _ rfl rfl 47 _ Z10 ditem_size rfl (encI_one zeroI { data := #[] } none 0 0) ?_
    refine hK.out _ _ (.inr ?_) ?_
    · exact (World.cell?_of_block (a := ⟨w.heap.size + 1, 2, none⟩) (setRow_other wd w.heap.size (w.heap.size + 1) _ (by omega))).trans t3
    clear hK K t3
    (try simp only [Act.put, List.setIfInBounds_toArray, List.set_cons_zero, List.set_cons_succ])
    refine til_next (i := 6) (by kernel_rfl) rfl (by kernel_rfl) (fun K hK => ?_)
    go_simp
    refine hK.out _ _ (.inl (by kernel_rfl)) ?_
    clear hK K
    refine til_done (by kernel_rfl) ?_ _
    go_wp2
    (try simp only [Exit.inBlock, Exit.then])
    refine bodyPost_ret (results_ctdI (x := zeroI) (T := { data := #[] }) (a := none) (k := 0) (c := 0) rfl _ _ w.heap.size rfl (Z10.row _)) rfl ?_
    exact ⟨HB.out, .inr ⟨c10, H0.out, HG.out, rfl⟩⟩
  · have hlt : (4 : Int) < (k : Int) := by omega
    have hlt1 : ¬ (k : Int) < 1 := by omega
    have ek : decide (k < 1 ∨ 4 < k) = true := decide_eq_true (.inr hk4)
    rw [ek] at HK
    have n1 : ((k : Int) == 1) = false := by rw [beq_eq_false_iff_ne]; omega
    have n2 : ((k : Int) == 2) = false := by rw [beq_eq_false_iff_ne]; omega
    have n3 : ((k : Int) == 3) = false := by rw [beq_eq_false_iff_ne]; omega
    have n4 : ((k : Int) == 4) = false := by rw [beq_eq_false_iff_ne]; omega
    clear ek hk4
    have k0 : w4.cell? ⟨g, 0, none⟩ = some (.int .i64 (k : Int)) := S4.made.at_ 0 _ rfl
    have hb : Calls Try.prog 27 #[.pointer (some ⟨w.heap.size + 1, 0, none⟩), .int .i64 10, .bool true] w4 fun e' w' => e' = .returned (.tuple #[]) ∧ Tk w' (w.heap.size + 1) s (a1) (badC c1 10 true) ∧ w4.grownBy w' (some (w.heap.size + 1)) := tbad S4.tk 10 true (by decide)
    have hne5 : badC c1 10 true ≠ 0 := by unfold badC; rw [if_pos rfl]; split <;> omega
    generalize badC c1 10 true = c5 at *
    go_wp2_with fail
    refine hb.mono ?_
    rintro e w5 ⟨rfl, T5, G5⟩
    have S5 := S4.go T5 G5
    clear hb k0 T5 G5 S4
    have hd : decide ((1024 : Int) < (s.size : Int)) = decide (1024 < s.size) := by apply decide_eq_decide.2; omega
    have hb : Calls Try.prog 27 #[.pointer (some ⟨w.heap.size + 1, 0, none⟩), .int .i64 3, .bool (decide (1024 < s.size))] w5 fun e' w' => e' = .returned (.tuple #[]) ∧ Tk w' (w.heap.size + 1) s (a1) (badC c5 3 (decide (1024 < s.size))) ∧ w5.grownBy w' (some (w.heap.size + 1)) := tbad S5.tk 3 (decide (1024 < s.size)) (by decide)
    have hne6 : badC c5 3 (decide (1024 < s.size)) ≠ 0 := badC_ne hne5
    generalize badC c5 3 (decide (1024 < s.size)) = c6 at *
    generalize hq : decide (1024 < s.size) = q at *
    go_wp2_with fail
    refine hb.mono ?_
    rintro e w6 ⟨rfl, T6, G6⟩
    have S6 := S5.go T6 G6
    have k0 : w6.cell? ⟨g, 0, none⟩ = some (.int .i64 (k : Int)) := S6.made.at_ 0 _ rfl
    clear hb hd hq T6 G6 S5
    have HTR : Hid (TR (getG s.size) s 0 0 (a1) c6 zeroI) := Lib.hid (HK.out _ _ _ (tr_bad hne6))
    have e6 : ((c6 : Int) == 0) = false := by rw [beq_eq_false_iff_ne]; omega
    have t2 := S6.tk.c2
    clear HIN
    have t1 := S6.tk.c1
    have hd : decide ((a1 : Int) < (s.size : Int)) = decide (a1 < s.size) := by apply decide_eq_decide.2; omega
    have hb : Calls Try.prog 27 #[.pointer (some ⟨w.heap.size + 1, 0, none⟩), .int .i64 4, .bool (decide (a1 < s.size))] w6 fun e' w' => e' = .returned (.tuple #[]) ∧ Tk w' (w.heap.size + 1) s (a1) (badC c6 4 (decide (a1 < s.size))) ∧ w6.grownBy w' (some (w.heap.size + 1)) := tbad S6.tk 4 (decide (a1 < s.size)) (by decide)
    have hne10 : badC c6 4 (decide (a1 < s.size)) ≠ 0 := badC_ne hne6
    have HE := Lib.hid (tr_end HTR.out)
    clear HTR
    generalize badC c6 4 (decide (a1 < s.size)) = c10 at *
    generalize hq2 : decide (a1 < s.size) = q2 at *
    go_upto_region 23 with fail
    go_wp2_with fail
    refine hb.mono ?_
    rintro e w10 ⟨rfl, T10, G10⟩
    have S10 := S6.go T10 G10
    have t2 := S10.tk.c2
    clear hb hd hq2 T10 G10 t1
    have HG := Lib.hid (show parseI s.data.toList = .error c10 by rw [HPS.out]; exact HE.out.2 hne10)
    have hne : ((c10 : Int) != 0) = true := by simpa using hne10
    have H0 := Lib.hid hne10
    go_upto_region 25 with fail
    have Z10 : Own w10.drew w.heap.size 47 (encI zeroI { data := #[] } none 0 0).toArray := S10.res
    have t3 : w10.drew.cell? ⟨w.heap.size + 1, 2, none⟩ = some (.int .i64 (c10 : Int)) := t2
    have B11 : Below w.heap.size w w10.drew := S10.below.trans ((Grw.refl w10).drew.below.mono S10.below.size)
    have HB := Lib.hid (belowRow18 B11 w.heap.size (Nat.le_refl _) (encI zeroI { data := #[] } none 0 0).toArray)
    clear S10 HE hne10 t2 hne B11
    refine region_til [6] (fun w' => w'.cell? ⟨w.heap.size + 1, 2, none⟩ = some (.int .i64 (c10 : Int))) (by kernel_rfl) ?_
    generalize w10.drew = wd at *
    have hTil : ∀ l, tilD [6] (fun w' => w'.cell? ⟨w.heap.size + 1, 2, none⟩ = some (.int .i64 (c10 : Int))) l wd := fun _ => .inr t3
    refine til_pure (i := 0) (v := .agg #[.int .i64 0, .string { data := #[] }, .int .u32 0, .int .u64 0, .bool false, .bool false, .int .u64 0, .int .u64 0, .int .i64 0, .int .u64 0, .slice none 0 0, .int .u64 0, .int .u64 0, .int .i64 0, .int .u64 0, .int .u64 0, .int .i64 0, .int .i64 0]) 116 rfl rfl (by kernel_rfl) (by kernel_rfl) (by kernel_rfl) (by kernel_rfl) (fun _ _ _ h => h) (.inl ⟨by kernel_rfl, fun w' _ => by (go_simp; try rfl)⟩) (hTil _) ?_
    (try simp only [Act.put, List.setIfInBounds_toArray, List.set_cons_zero, List.set_cons_succ])
    refine til_pure (i := 1) (v := .pointer (some ⟨w.heap.size + 1, 0, none⟩)) 117 rfl rfl (by kernel_rfl) (by kernel_rfl) (by kernel_rfl) (by kernel_rfl) (fun _ _ _ h => h) (.inl ⟨by kernel_rfl, fun w' _ => by (go_simp)⟩) (hTil _) ?_
    (try simp only [Act.put, List.setIfInBounds_toArray, List.set_cons_zero, List.set_cons_succ])
    refine til_pure (i := 2) (v := .pointer (some ⟨w.heap.size + 1, 0, none⟩)) 118 rfl rfl (by kernel_rfl) (by kernel_rfl) (by kernel_rfl) (by kernel_rfl) (fun _ _ _ h => h) (.inl ⟨by kernel_rfl, fun w' _ => by (go_simp)⟩) (hTil _) ?_
    (try simp only [Act.put, List.setIfInBounds_toArray, List.set_cons_zero, List.set_cons_succ])
    refine til_pure (i := 3) (v := .pointer (some ⟨w.heap.size + 1, 2, none⟩)) 119 rfl rfl (by kernel_rfl) (by kernel_rfl) (by kernel_rfl) (by kernel_rfl) (fun _ _ _ h => h) (.inl ⟨by kernel_rfl, fun w' _ => by (go_simp)⟩) (hTil _) ?_
    (try simp only [Act.put, List.setIfInBounds_toArray, List.set_cons_zero, List.set_cons_succ])
    refine til_load (i := 4) (c := 6) (v := .int .i64 (c10 : Int)) 120 rfl rfl (by kernel_rfl) (by kernel_rfl) (by kernel_rfl) (by kernel_rfl) rfl (by kernel_rfl) (by decide) (by kernel_rfl) (fun _ _ _ h => h) (.inl ⟨by kernel_rfl, fun w' hS => by (have hc0 := hS; go_simp)⟩) (hTil _) ?_
    (try simp only [Act.put, List.setIfInBounds_toArray, List.set_cons_zero, List.set_cons_succ])
    clear hTil
    refine til_next (i := 5) (by kernel_rfl) rfl (by kernel_rfl) (fun K hK => ?_)
    refine wp_store_row 47 (.tmp 2) (.tmp 116) rfl w.heap.size _ rfl rfl 47 _ Z10 ditem_size rfl (encI_one zeroI { data := #[] } none 0 0) ?_
    refine hK.out _ _ (.inr ?_) ?_
    · exact (World.cell?_of_block (a := ⟨w.heap.size + 1, 2, none⟩) (setRow_other wd w.heap.size (w.heap.size + 1) _ (by omega))).trans t3
    clear hK K t3
    (try simp only [Act.put, List.setIfInBounds_toArray, List.set_cons_zero, List.set_cons_succ])
    refine til_next (i := 6) (by kernel_rfl) rfl (by kernel_rfl) (fun K hK => ?_)
    go_simp
    refine hK.out _ _ (.inl (by kernel_rfl)) ?_
    clear hK K
    refine til_done (by kernel_rfl) ?_ _
    go_wp2
    (try simp only [Exit.inBlock, Exit.then])
    refine bodyPost_ret (results_ctdI (x := zeroI) (T := { data := #[] }) (a := none) (k := 0) (c := 0) rfl _ _ w.heap.size rfl (Z10.row _)) rfl ?_
    exact ⟨HB.out, .inr ⟨c10, H0.out, HG.out, rfl⟩⟩
end Go.Proofs.Ytblefbjmjhgkkaa
