/- The document's reader of a packet's body: what it holds; errors, numbers, processes, configurations. -/
import Derived.Test.YtibngfpjdookkaaRdLists
import Derived.Test.YtibngfpjdookkaaRefGet
import Derived.Deep.QuietTactic
import Derived.BigQuiet
import Derived.Laws.ResultCell
import Derived.Deep.DeepCutAuto
set_option linter.unusedVariables false
set_option linter.unusedSimpArgs false
namespace Go.Proofs.Ytibngfpjdookkaa
open Go.RowKit Go.Sort

/-- The reader's block: the text, the place, the first error. -/
def Tk (w : World) (b : Nat) (s : ByteArray) (a c : Nat) : Prop := Own w b 69 #[.string s, .int .i64 (a : Int), .int .i64 (c : Int)]
theorem Tk.own {w : World} {b : Nat} {s : ByteArray} {a c : Nat} (h : Tk w b s a c) : Own w b 69 #[.string s, .int .i64 (a : Int), .int .i64 (c : Int)] := h
theorem Tk.lt {w : World} {b : Nat} {s : ByteArray} {a c : Nat} (h : Tk w b s a c) : b < w.heap.size := h.own.lt
theorem Tk.c0 {w : World} {b : Nat} {s : ByteArray} {a c : Nat} (h : Tk w b s a c) : w.cell? ⟨b, 0, none⟩ = some (.string s) := h.own.at_ 0 _ rfl
theorem Tk.c1 {w : World} {b : Nat} {s : ByteArray} {a c : Nat} (h : Tk w b s a c) : w.cell? ⟨b, 1, none⟩ = some (.int .i64 (a : Int)) := h.own.at_ 1 _ rfl
theorem Tk.c2 {w : World} {b : Nat} {s : ByteArray} {a c : Nat} (h : Tk w b s a c) : w.cell? ⟨b, 2, none⟩ = some (.int .i64 (c : Int)) := h.own.at_ 2 _ rfl
theorem Tk.free {w : World} {b : Nat} {s : ByteArray} {a c : Nat} (h : Tk w b s a c) (j : Nat) : w.frozen? ⟨b, j, none⟩ = false := h.own.free j
theorem Tk.set1 {w : World} {b : Nat} {s : ByteArray} {a c : Nat} (h : Tk w b s a c) (a' : Nat) : Tk (w.setCell ⟨b, 1, none⟩ (.int .i64 (a' : Int))) b s a' c := h.own.set 1 (.int .i64 (a' : Int))
theorem Tk.set2 {w : World} {b : Nat} {s : ByteArray} {a c : Nat} (h : Tk w b s a c) (c' : Nat) : Tk (w.setCell ⟨b, 2, none⟩ (.int .i64 (c' : Int))) b s a c' := h.own.set 2 (.int .i64 (c' : Int))
theorem Tk.later {w w' : World} {b : Nat} {s : ByteArray} {a c : Nat} (h : Tk w b s a c) (hb : Below w.heap.size w w') : Tk w' b s a c := h.own.below hb h.lt
theorem Tk.drewN {w : World} {b : Nat} {s : ByteArray} {a c : Nat} (h : Tk w b s a c) (n : Nat) : Tk (w.drewN n) b s a c := h
theorem Tk.grown {w w' : World} {b g : Nat} {s : ByteArray} {a c : Nat} (h : Tk w b s a c) (hg : w.grownBy w' (some g)) (hb : b ≠ g) : Tk w' b s a c := h.own.grown hg (by intro e; cases e; exact hb rfl)
theorem tgrown_set (w : World) (g j : Nat) (v : Value) : w.grownBy (w.setCell ⟨g, j, none⟩ v) (some g) :=
  ⟨rfl, rfl, rfl, by simp, fun k hk ho => heap_setCell_other w ⟨g, j, none⟩ k v (by intro e; apply ho; rw [e])⟩

/-- The error behind 'bad'. -/
def badC (c e : Nat) (is : Bool) : Nat := if is = true then (if c = 0 then e else c) else c
/-- What a method does of the place and the error, and which value it takes. -/
def TR {α : Type} (G : List UInt8 → Got α) (s : ByteArray) (a c a' c' : Nat) (v : α) : Prop :=
  (c ≠ 0 ∧ c' = c) ∨ (c = 0 ∧ c' = 0 ∧ G (restB s a) = .ok (v, restB s a') ∧ a' ≤ s.size) ∨ (c = 0 ∧ c' ≠ 0 ∧ G (restB s a) = .error c')
theorem TR.and {α β : Type} {G : List UInt8 → Got α} {H : α → List UInt8 → Got β} {s : ByteArray} {a c a1 c1 a' c' : Nat} {v : α} {v' : β} (h1 : TR G s a c a1 c1 v) (h2 : TR (H v) s a1 c1 a' c' v') : TR (fun l => andG (G l) H) s a c a' c' v' := by
  rcases h1 with ⟨h, rfl⟩ | ⟨h, rfl, hG, _⟩ | ⟨h, hn, hG⟩
  · rcases h2 with ⟨h', e⟩ | ⟨h', _⟩ | ⟨h', _⟩
    · exact .inl ⟨h, e⟩
    · exact absurd h' h
    · exact absurd h' h
  · rcases h2 with ⟨h', _⟩ | ⟨_, e, hH, hs⟩ | ⟨_, e, hH⟩
    · exact absurd rfl h'
    · exact .inr (.inl ⟨h, e, by simp only [hG, andG_ok]; exact hH, hs⟩)
    · exact .inr (.inr ⟨h, e, by simp only [hG, andG_ok]; exact hH⟩)
  · rcases h2 with ⟨_, e⟩ | ⟨h', _⟩ | ⟨h', _⟩
    · subst e
      exact .inr (.inr ⟨h, hn, by simp only [hG, andG_err]⟩)
    · exact absurd h' hn
    · exact absurd h' hn
theorem TR.bad {β : Type} {H : List UInt8 → Got β} {s : ByteArray} {a c e a' c' : Nat} {v : β} {P : Prop} [Decidable P] (he : e ≠ 0) (h : TR H s a (badC c e (decide P)) a' c' v) : TR (fun l => badG e P (H l)) s a c a' c' v := by
  unfold badC at h
  by_cases hP : P
  · rw [decide_eq_true hP, if_pos rfl] at h
    by_cases hc : c = 0
    · rw [if_pos hc] at h
      rcases h with ⟨_, rfl⟩ | ⟨h', _⟩ | ⟨h', _⟩
      · exact .inr (.inr ⟨hc, he, by simp only [badG, if_pos hP]⟩)
      · exact absurd h' he
      · exact absurd h' he
    · rw [if_neg hc] at h
      rcases h with ⟨_, rfl⟩ | ⟨h', _⟩ | ⟨h', _⟩
      · exact .inl ⟨hc, rfl⟩
      · exact absurd h' hc
      · exact absurd h' hc
  · rw [decide_eq_false hP, if_neg (by decide)] at h
    rcases h with ⟨h', e⟩ | ⟨h', e, hH, hs⟩ | ⟨h', e, hH⟩
    · exact .inl ⟨h', e⟩
    · exact .inr (.inl ⟨h', e, by simp only [badG, if_neg hP]; exact hH, hs⟩)
    · exact .inr (.inr ⟨h', e, by simp only [badG, if_neg hP]; exact hH⟩)
theorem TR.pure {β : Type} (v : β) {s : ByteArray} {a c : Nat} (h : c = 0 → a ≤ s.size) : TR (fun l => .ok (v, l)) s a c a c v := by
  by_cases hc : c = 0
  · exact .inr (.inl ⟨hc, hc, rfl, h hc⟩)
  · exact .inl ⟨hc, rfl⟩
/-- Where no error came, the place is within. -/
theorem TR.in_ {α : Type} {G : List UInt8 → Got α} {s : ByteArray} {a c a' c' : Nat} {v : α} (h : TR G s a c a' c' v) (h0 : c' = 0) : a' ≤ s.size := by
  rcases h with ⟨h, rfl⟩ | ⟨_, _, _, hs⟩ | ⟨_, h, _⟩
  · exact absurd h0 h
  · exact hs
  · exact absurd h0 h
theorem TR.in_bad {α : Type} {G : List UInt8 → Got α} {s : ByteArray} {a c a' c' e : Nat} {v : α} {is : Bool} (h : TR G s a c a' c' v) (he : e ≠ 0) (h0 : badC c' e is = 0) : a' ≤ s.size := by
  refine h.in_ ?_
  unfold badC at h0
  split at h0
  · split at h0
    · exact absurd h0 he
    · exact h0
  · exact h0

set_option maxHeartbeats 1000000 in
theorem tbad {w : World} {b : Nat} {s : ByteArray} {a c : Nat} (h : Tk w b s a c) (e : Nat) (is : Bool) (he : e < 1000) :
    Calls Try.prog 27 #[.pointer (some ⟨b, 0, none⟩), .int .i64 (e : Int), .bool is] w fun e' w' => e' = .returned (.tuple #[]) ∧ Tk w' b s a (badC c e is) ∧ w.grownBy w' (some b) := by
  have c2 := h.c2
  have f2 := h.free 2
  cases is
  · have hb : badC c e false = c := rfl
    rw [hb]
    have HH := Lib.hid h
    clear h hb
    go_enter Try.func27, Try.ntmps27
    go_wp2
    go_end0
    exact ⟨rfl, HH.out, World.grownBy.refl _ _⟩
  · by_cases hc : c = 0
    · subst hc
      have hb : badC 0 e true = e := rfl
      rw [hb]
      have H2 := Lib.hid (h.set2 e)
      have HG := Lib.hid (tgrown_set w b 2 (.int .i64 (e : Int)))
      clear h hb
      go_enter Try.func27, Try.ntmps27
      go_wp2
      go_end0
      exact ⟨rfl, H2.out, HG.out⟩
    · have hb : badC c e true = c := by unfold badC; rw [if_pos rfl, if_neg hc]
      rw [hb]
      have hne : ((c : Int) == 0) = false := by rw [beq_eq_false_iff_ne]; omega
      have HH := Lib.hid h
      clear h hb
      go_enter Try.func27, Try.ntmps27
      go_wp2
      go_end0
      exact ⟨rfl, HH.out, World.grownBy.refl _ _⟩
/-- What a number's method answers. -/
def NumPost (k : Nat) (w : World) (b : Nat) (s : ByteArray) (a c : Nat) (e : Ending) (w' : World) : Prop :=
  ∃ v c' : Nat, e = .returned (.int .u64 (v : Int)) ∧ v < 256 ^ k ∧ Tk w' b s (a + k) c' ∧ w.grownBy w' (some b) ∧ TR (getN k) s a c (a + k) c' v
theorem tget_yes (w : World) (s : ByteArray) (a k : Nat) (hs : s.size ≤ 1099511627776) (h1 : 1 ≤ k) (h8 : k ≤ 8) (hm : a + k ≤ s.size) (n : Nat) :
    Calls Try.prog 52 #[.string s, .int .i64 (a : Int), .int .i64 (k : Int)] (w.drewN n) fun e w'' => e = .returned (.tuple #[.int .u64 (be ((s.data.toList.drop a).take k) : Nat), .bool true]) ∧ ∃ m, w'' = w.drewN m :=
  (refGet_yes s a k _ (by unfold maxLen; omega) h1 h8 hm).mono fun _ _ ⟨h, e⟩ => ⟨h, n, e.symm⟩
theorem tget_no (w : World) (s : ByteArray) (a k : Nat) (hs : s.size ≤ 1099511627776) (ha : a ≤ 4503599627370496) (h1 : 1 ≤ k) (h8 : k ≤ 8) (hm : ¬ a + k ≤ s.size) (n : Nat) :
    Calls Try.prog 52 #[.string s, .int .i64 (a : Int), .int .i64 (k : Int)] (w.drewN n) fun e w'' => e = .returned (.tuple #[.int .u64 0, .bool false]) ∧ ∃ m, w'' = w.drewN m :=
  (refGet_no s (a : Int) (k : Int) _ (by unfold maxLen; omega) (by omega) (by omega) (by omega) (by omega) (by omega)).mono fun _ _ ⟨h, e⟩ => ⟨h, n, e.symm⟩
theorem tr_short {s : ByteArray} {a k : Nat} (h1 : 1 ≤ k) (hm : ¬ a + k ≤ s.size) : getN k (restB s a) = .error 2 := by
  unfold getN restB
  rw [if_pos (by rw [List.length_drop, Array.length_toList]; show s.size - a < k; omega)]
set_option maxHeartbeats 2000000 in
theorem tnum {w : World} {b : Nat} {s : ByteArray} {a c : Nat} (h : Tk w b s a c) (k : Nat) (h1 : 1 ≤ k) (h8 : k ≤ 8) (ha : a ≤ 4503599627370496) (hs : s.size ≤ 1099511627776) :
    Calls Try.prog 55 #[.pointer (some ⟨b, 0, none⟩), .int .i64 (k : Int)] w (NumPost k w b s a c) := by
  have hp : 0 < 256 ^ k := Nat.pow_pos (by decide)
  have hw : IntKind.i64.wrap ((a : Int) + (k : Int)) = ((a + k : Nat) : Int) := by rw [IntKind.wrap_i64]; omega
  have c0 := h.c0
  have c1 := h.c1
  have hD : ∀ n, w.grownBy (w.drewN n) (some b) := fun n => grown_drewN _ _ _
  by_cases hm : a + k ≤ s.size
  · have hg := tget_yes w s a k hs h1 h8 hm
    have hG := getN_at (s := s) hm
    have hv : be ((s.data.toList.drop a).take k) < 256 ^ k := getN_lt hG
    have HG := Lib.hid hG
    generalize be ((s.data.toList.drop a).take k) = v at *
    have hb : ∀ n, Calls Try.prog 27 #[.pointer (some ⟨b, 0, none⟩), .int .i64 2, .bool false] (w.drewN n) fun e' w' => e' = .returned (.tuple #[]) ∧ Tk w' b s a c ∧ (w.drewN n).grownBy w' (some b) := fun n => tbad (h.drewN n) 2 false (by decide)
    have HM := Lib.hid hm
    clear hG h hm
    go_enter Try.func55, Try.ntmps55
    go_upto_region 1 with fail
    go_quiet ((go_at_call 52; exact hg _))
    clear hg c0 c1
    go_wp2_with fail
    refine (hb _).mono ?_
    rintro e w1 ⟨rfl, T1, G1⟩
    have G1 := grown_tr (hD _) G1
    clear hb
    have c1 := T1.c1
    have f1 := T1.free 1
    have c2 := T1.c2
    have T2 := Lib.hid (T1.set1 (a + k))
    have G2 := Lib.hid (grown_tr G1 (tgrown_set w1 b 1 (.int .i64 ((a + k : Nat) : Int))))
    clear T1 G1
    by_cases hc : c = 0
    · subst hc
      go_wp2
      go_ret
      exact ⟨v, 0, rfl, hv, T2.out, G2.out, .inr (.inl ⟨rfl, rfl, HG.out, HM.out⟩)⟩
    · have hne : ¬ (c : Int) = 0 := by omega
      go_wp2
      go_ret
      exact ⟨0, c, rfl, hp, T2.out, G2.out, .inl ⟨hc, rfl⟩⟩
  · have hg := tget_no w s a k hs ha h1 h8 hm
    have HG := Lib.hid (tr_short h1 hm)
    have hcc : badC c 2 true ≠ 0 := by unfold badC; rw [if_pos rfl]; split <;> omega
    have HC : Hid (c ≠ 0 → badC c 2 true = c) := Lib.hid (fun h => by unfold badC; rw [if_pos rfl, if_neg h])
    have HZ : Hid (c = 0 → badC c 2 true = 2) := Lib.hid (fun h => by unfold badC; rw [if_pos rfl, if_pos h])
    have hb : ∀ n, Calls Try.prog 27 #[.pointer (some ⟨b, 0, none⟩), .int .i64 2, .bool true] (w.drewN n) fun e' w' => e' = .returned (.tuple #[]) ∧ Tk w' b s a (badC c 2 true) ∧ (w.drewN n).grownBy w' (some b) := fun n => tbad (h.drewN n) 2 true (by decide)
    generalize badC c 2 true = d at *
    clear h hm
    go_enter Try.func55, Try.ntmps55
    go_upto_region 1 with fail
    go_quiet ((go_at_call 52; exact hg _))
    clear hg c0 c1
    go_wp2_with fail
    refine (hb _).mono ?_
    rintro e w1 ⟨rfl, T1, G1⟩
    have G1 := grown_tr (hD _) G1
    clear hb
    have c1 := T1.c1
    have f1 := T1.free 1
    have c2 := T1.c2
    have T2 := Lib.hid (T1.set1 (a + k))
    have G2 := Lib.hid (grown_tr G1 (tgrown_set w1 b 1 (.int .i64 ((a + k : Nat) : Int))))
    clear T1 G1
    have hne : ¬ (d : Int) = 0 := by omega
    go_wp2
    go_ret
    refine ⟨0, d, rfl, hp, T2.out, G2.out, ?_⟩
    by_cases hc : c = 0
    · exact .inr (.inr ⟨hc, hcc, by rw [HZ.out hc]; exact HG.out⟩)
    · exact .inl ⟨hc, HC.out hc⟩

/-- What a process's method answers. -/
def ProcPost (w : World) (b : Nat) (s : ByteArray) (a c : Nat) (e : Ending) (w' : World) : Prop :=
  ∃ v c' : Nat, e = .returned (.int .i64 (v : Int)) ∧ v < 256 ∧ Tk w' b s (a + 1) c' ∧ w.grownBy w' (some b) ∧ TR getP s a c (a + 1) c' (v : Int)
set_option maxHeartbeats 2000000 in
theorem tprocess {w : World} {b : Nat} {s : ByteArray} {a c : Nat} (h : Tk w b s a c) (ha : a ≤ 4503599627370496) (hs : s.size ≤ 1099511627776) :
    Calls Try.prog 57 #[.pointer (some ⟨b, 0, none⟩)] w (ProcPost w b s a c) := by
  have hn : Calls Try.prog 55 #[.pointer (some ⟨b, 0, none⟩), .int .i64 1] w (NumPost 1 w b s a c) := tnum h 1 (by decide) (by decide) ha hs
  clear h
  go_enter Try.func57, Try.ntmps57
  go_wp2_with fail
  refine hn.mono ?_
  rintro e w1 ⟨v, c1, rfl, hv, T1, G1, R1⟩
  have hv : v < 256 := hv
  have hwv : IntKind.i64.wrap (v : Int) = (v : Int) := by rw [IntKind.wrap_i64]; omega
  have hd : decide ((63 : Int) < (v : Int)) = decide (63 < v) := by apply decide_eq_decide.2; omega
  have hb : Calls Try.prog 27 #[.pointer (some ⟨b, 0, none⟩), .int .i64 1, .bool (decide (63 < v))] w1 fun e' w' => e' = .returned (.tuple #[]) ∧ Tk w' b s (a + 1) (badC c1 1 (decide (63 < v))) ∧ w1.grownBy w' (some b) := tbad T1 1 (decide (63 < v)) (by decide)
  have HR : Hid (TR getP s a c (a + 1) (badC c1 1 (decide (63 < v))) (v : Int)) := Lib.hid (R1.and (TR.bad (by decide) (TR.pure _ (fun h => R1.in_bad (by decide) h))))
  clear R1 hn
  generalize badC c1 1 (decide (63 < v)) = c2 at *
  generalize decide (63 < v) = q at *
  go_wp2_with fail
  refine hb.mono ?_
  rintro e w2 ⟨rfl, T2, G2⟩
  have HT := Lib.hid T2
  have HG := Lib.hid (grown_tr G1 G2)
  clear hb T1 G1 T2 G2
  go_wp2
  go_ret
  exact ⟨v, c2, rfl, hv, HT.out, HG.out, HR.out⟩
/-- A configuration's. -/
def ConfPost (w : World) (b : Nat) (s : ByteArray) (a c : Nat) (e : Ending) (w' : World) : Prop :=
  ∃ v r c' : Nat, e = .returned (.agg #[.int .u64 (v : Int), .int .i64 (r : Int)]) ∧ v < 256 ^ 8 ∧ r < 256 ∧ Tk w' b s (a + 9) c' ∧ w.grownBy w' (some b) ∧ TR getC s a c (a + 9) c' ⟨v, (r : Int)⟩
theorem conf_size2 : (Try.prog.info? 28).map (·.size) = some 2 := by kernel_rfl
set_option maxHeartbeats 2000000 in
theorem tconf {w : World} {b : Nat} {s : ByteArray} {a c : Nat} (h : Tk w b s a c) (ha : a ≤ 2251799813685248) (hs : s.size ≤ 1099511627776) :
    Calls Try.prog 53 #[.pointer (some ⟨b, 0, none⟩)] w (ConfPost w b s a c) := by
  have T0 := h.later ((Grw.refl w).alloc (.cells #[.int .u64 0, .int .i64 0] 28)).below
  have G0 := grown_alloc w (.cells #[.int .u64 0, .int .i64 0] 28) (some b)
  have O0 := Own.new w 28 #[.int .u64 0, .int .i64 0]
  have hlt := h.lt
  have hn : Calls Try.prog 55 #[.pointer (some ⟨b, 0, none⟩), .int .i64 8] (w.alloc (.cells #[.int .u64 0, .int .i64 0] 28)) (NumPost 8 (w.alloc (.cells #[.int .u64 0, .int .i64 0] 28)) b s a c) := tnum T0 8 (by decide) (by decide) (by omega) hs
  clear h
  go_enter Try.func53, Try.ntmps53
  go_wp2_with fail
  refine hn.mono ?_
  rintro e w1 ⟨v, c1, rfl, hv, T1, G1, R1⟩
  have O1 := O0.grown G1 (by intro e; cases e; omega)
  have G2 := grown_tr G0 G1
  have hp := tprocess T1 (by omega) hs
  clear hn T0 G0 O0 G1 T1
  go_wp2_with fail
  refine hp.mono ?_
  rintro e w2 ⟨r, c2, rfl, hr, T2, G3, R2⟩
  have O2 := O1.grown G3 (by intro e; cases e; omega)
  have G4 := grown_tr G2 G3
  have HR : Hid (TR getC s a c (a + 9) c2 ⟨v, (r : Int)⟩) := Lib.hid (R1.and (R2.and (TR.pure _ (fun h => R2.in_ h))))
  clear hp O1 G2 G3 R1 R2
  have c0 := O2.at_ 0 _ rfl
  have c1' := O2.at_ 1 _ rfl
  have f0 := O2.free 0
  have f1 := O2.free 1
  have O3 := Lib.hid ((O2.set 0 (.int .u64 (v : Int))).set 1 (.int .i64 (r : Int)))
  have HT : Hid (Tk ((w2.setCell ⟨w.heap.size, 0, none⟩ (.int .u64 (v : Int))).setCell ⟨w.heap.size, 1, none⟩ (.int .i64 (r : Int))) b s (a + 9) c2) := Lib.hid ((T2.own.set_other _ _ _ (by omega)).set_other _ _ _ (by omega))
  have HG := Lib.hid (grown_set (grown_set G4 (Nat.le_refl _) 0 (.int .u64 (v : Int))) (Nat.le_refl _) 1 (.int .i64 (r : Int)))
  clear O2 T2 G4
  go_wp2
  (try simp only [Exit.inBlock, Exit.then])
  exact bodyPost_ret (results_cell_row rfl _ _ w.heap.size 28 #[.int .u64 (v : Int), .int .i64 (r : Int)] (0, 0) _ rfl O3.out Try.underlying28 rfl conf_size2) rfl ⟨v, r, c2, rfl, hv, hr, HT.out, HG.out, HR.out⟩
end Go.Proofs.Ytibngfpjdookkaa
