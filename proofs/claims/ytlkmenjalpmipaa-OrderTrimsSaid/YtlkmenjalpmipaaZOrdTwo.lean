/- Two orders beside each other, and what the law holds beside them. -/
import Derived.Test.YtlkmenjalpmipaaZOrdTrim
set_option linter.unusedVariables false
set_option maxRecDepth 100000
set_option linter.unusedSimpArgs false
namespace Go.Proofs.Ytlkmenjalpmipaa
open Go.RowKit Go.Sort Go.Shelf

/-- Two orders of blocks of their own. -/
structure TwoF (w wr : World) (G : Nat → Nat) (N : Nat) (St : Nat → Od) (E : Nat → Nat → Prop) : Prop where
  rep : ∀ k, k < 2 → ORep wr (E k) (G k) N (St k)
  base : ∀ k, k < 2 → ∀ j, E k j → w.heap.size ≤ j
  apart : ∀ k q, k < 2 → q < 2 → k ≠ q → ∀ j, E k j → ¬ E q j
  bel : Below w.heap.size w wr
def setE (E : Nat → Nat → Prop) (k : Nat) (F : Nat → Prop) : Nat → Nat → Prop := fun q => if q = k then F else E q
theorem setE_same (E : Nat → Nat → Prop) (k : Nat) (F : Nat → Prop) : setE E k F k = F := if_pos rfl
theorem setE_other (E : Nat → Nat → Prop) (k q : Nat) (F : Nat → Prop) (h : q ≠ k) : setE E k F q = E q := if_neg h
/-- No order's block. -/
def Free (E : Nat → Nat → Prop) (j : Nat) : Prop := ∀ q, q < 2 → ¬ E q j
section
variable {w wr w' : World} {G : Nat → Nat} {N M : Nat} {St : Nat → Od} {E : Nat → Nat → Prop}
theorem TwoF.later (h : TwoF w wr G N St E) (hb : Below wr.heap.size wr w') : TwoF w w' G N St E := ⟨fun k hk => (h.rep k hk).below hb, h.base, h.apart, h.bel.trans (hb.mono h.bel.size)⟩
theorem TwoF.le (h : TwoF w wr G N St E) (hm : N ≤ M) : TwoF w wr G M St E := ⟨fun k hk => (h.rep k hk).le hm, h.base, h.apart, h.bel⟩
/-- One of them has turned, by itself. -/
theorem TwoF.turn (h : TwoF w wr G N St E) (hm : N ≤ M) (k : Nat) (hk : k < 2) {F : Nat → Prop} {P : Od} (hr : ORep w' F (G k) M P) (hc : Chg (E k) wr w') (hF : ∀ j, F j → newF (E k) wr w' j) : TwoF w w' G M (updF St k P) (setE E k F) := by
  refine ⟨fun q hq => ?_, fun q hq j hj => ?_, fun p q hp hq hpq j hj he => ?_, h.bel.trans (hc.below h.bel.size (h.base k hk))⟩
  · by_cases e : q = k
    · subst e; rw [updF_same, setE_same]; exact hr
    · rw [updF_other _ _ _ _ e, setE_other _ _ _ _ e]
      exact ((h.rep q hq).le hm).chg hc fun j hj => h.apart q k hq hk e j hj
  · by_cases e : q = k
    · subst e
      rw [setE_same] at hj
      rcases hF j hj with e2 | e2
      · exact h.base q hq j e2
      · have := h.bel.size; omega
    · rw [setE_other _ _ _ _ e] at hj
      exact h.base q hq j hj
  · by_cases e : p = k
    · subst e
      rw [setE_same] at hj
      rw [setE_other _ _ _ _ (fun e2 => hpq e2.symm)] at he
      rcases hF j hj with e2 | e2
      · exact h.apart p q hp hq hpq j e2 he
      · have := (h.rep q hq).lim j he; omega
    · rw [setE_other _ _ _ _ e] at hj
      by_cases e2 : q = k
      · subst e2
        rw [setE_same] at he
        rcases hF j he with e3 | e3
        · exact h.apart p q hp hq hpq j hj e3
        · have := (h.rep p hp).lim j hj; omega
      · rw [setE_other _ _ _ _ e2] at he
        exact h.apart p q hp hq hpq j hj he
theorem Free.turn {k : Nat} {F : Nat → Prop} {j : Nat} (h : Free E j) (hj : j < wr.heap.size) (hk : k < 2) (hF : ∀ j, F j → newF (E k) wr w' j) : Free (setE E k F) j := fun q hq he => by
  by_cases e : q = k
  · subst e
    rw [setE_same] at he
    rcases hF j he with e2 | e2
    · exact h q hq e2
    · omega
  · rw [setE_other _ _ _ _ e] at he
    exact h q hq he
theorem Free.new (h : TwoF w wr G N St E) {j : Nat} (hj : wr.heap.size ≤ j) : Free E j := fun q hq he => by have := (h.rep q hq).lim j he; omega
end
/-- What is there amid a round. -/
structure TrE (w wr : World) (G : Nat → Nat) (N : Nat) (St : Nat → Od) (ab vb lb : Nat) (a : OA) (s : Nat → Sl) (X : Nat → List Mg) (E : Nat → Nat → Prop) : Prop where
  two : TwoF w wr G N St E
  fab : Free E ab
  fvb : Free E vb
  flb : Free E lb
  oab : Own wr ab 86 #[.pointer (some ⟨G 0, 0, none⟩), .pointer (some ⟨G 1, 0, none⟩)]
  ovb : Own wr vb 49 (encO a).toArray
  olb : Own wr lb 87 #[(s 0).v, (s 1).v]
  bas : w.heap.size ≤ lb
  row : ∀ k, k < 2 → RowO (fun j => E 0 j ∨ E 1 j) w.heap.size wr (s k).v (s k).n (X k)
structure TrSt (w wr : World) (G : Nat → Nat) (N : Nat) (St : Nat → Od) (ab vb lb : Nat) (a : OA) (s : Nat → Sl) (X : Nat → List Mg) : Prop where
  ex : ∃ E, TrE w wr G N St ab vb lb a s X E
section
variable {w wr w' : World} {G : Nat → Nat} {N M : Nat} {St : Nat → Od} {ab vb lb : Nat} {a : OA} {s : Nat → Sl} {X : Nat → List Mg} {E : Nat → Nat → Prop}
theorem TrE.later (h : TrE w wr G N St ab vb lb a s X E) (hb : Below wr.heap.size wr w') : TrE w w' G N St ab vb lb a s X E :=
  ⟨h.two.later hb, h.fab, h.fvb, h.flb, h.oab.below hb h.oab.lt, h.ovb.below hb h.ovb.lt, h.olb.below hb h.olb.lt, h.bas, fun k hk => (h.row k hk).below hb⟩
theorem TrE.pab (h : TrE w wr G N St ab vb lb a s X E) (k : Nat) (hk : k < 2) : wr.cell? ⟨ab, k, none⟩ = some (.pointer (some ⟨G k, 0, none⟩)) := by
  match k, hk with
  | 0, _ => exact h.oab.at_ 0 _ rfl
  | 1, _ => exact h.oab.at_ 1 _ rfl
theorem TrE.plb (h : TrE w wr G N St ab vb lb a s X E) (k : Nat) (hk : k < 2) : wr.cell? ⟨lb, k, none⟩ = some (s k).v := by
  match k, hk with
  | 0, _ => exact h.olb.at_ 0 _ rfl
  | 1, _ => exact h.olb.at_ 1 _ rfl
theorem RowO.two {k : Nat} {F : Nat → Prop} {v : Value} {n : Nat} {Y : List Mg} {B : Nat} (h : RowO (fun j => E 0 j ∨ E 1 j) B wr v n Y) (hk : k < 2) (hc : Chg (E k) wr w') (hF : ∀ j, F j → newF (E k) wr w' j) : RowO (fun j => setE E k F 0 j ∨ setE E k F 1 j) B w' v n Y := by
  have hE : ∀ j, (E 0 j ∨ E 1 j) ∨ True := fun _ => .inr trivial
  have hc' : Chg (fun j => E 0 j ∨ E 1 j) wr w' := hc.mono fun j _ hj => by
    match k, hk with
    | 0, _ => exact .inl hj
    | 1, _ => exact .inr hj
  refine h.kept hc' fun j hj => ?_
  match k, hk with
  | 0, _ =>
    rcases hj with hj | hj
    · rw [setE_same] at hj
      rcases hF j hj with e | e
      · exact .inl (.inl e)
      · exact .inr e
    · rw [setE_other _ _ _ _ (by decide)] at hj
      exact .inl (.inr hj)
  | 1, _ =>
    rcases hj with hj | hj
    · rw [setE_other _ _ _ _ (by decide)] at hj
      exact .inl (.inl hj)
    · rw [setE_same] at hj
      rcases hF j hj with e | e
      · exact .inl (.inr e)
      · exact .inr e
/-- An act, done to one of them. -/
theorem TrE.actedE (h : TrE w wr G N St ab vb lb a s X E) (hm : N ≤ M) (k : Nat) (hk : k < 2) {P : Od} {F : Nat → Prop} (hr : ORep w' F (G k) M P) (hc : Chg (E k) wr w') (hF : ∀ j, F j → newF (E k) wr w' j) : TrE w w' G M (updF St k P) ab vb lb a s X (setE E k F) :=
  ⟨h.two.turn hm k hk hr hc hF, h.fab.turn h.oab.lt hk hF, h.fvb.turn h.ovb.lt hk hF, h.flb.turn h.olb.lt hk hF, (hc.block ab h.oab.lt (h.fab k hk)).trans h.oab, (hc.block vb h.ovb.lt (h.fvb k hk)).trans h.ovb, (hc.block lb h.olb.lt (h.flb k hk)).trans h.olb, h.bas, fun q hq => (h.row q hq).two hk hc hF⟩
theorem TrE.acted (h : TrE w wr G N St ab vb lb a s X E) (hm : N ≤ M) (k : Nat) (hk : k < 2) {P : Od} {F : Nat → Prop} (hr : ORep w' F (G k) M P) (hc : Chg (E k) wr w') (hF : ∀ j, F j → newF (E k) wr w' j) : TrSt w w' G M (updF St k P) ab vb lb a s X := ⟨⟨_, h.actedE hm k hk hr hc hF⟩⟩
theorem setE_self (E : Nat → Nat → Prop) (k : Nat) : setE E k (E k) = E := by
  funext q; unfold setE; split
  · rename_i e; rw [e]
  · rfl
theorem TrE.drained (h : TrE w wr G N St ab vb lb a s X E) (hm : N ≤ M) (k : Nat) (hk : k < 2) {P : Od} {b : Option Addr} {n c : Nat} {Y : List Mg} (hr : ORep w' (E k) (G k) N P) (hc : Chg (fun j => j = G k) wr w') (ho : w'.ownsRow wr.heap.size 47 6 (.slice b n c) n (flat encG Y)) (hl : Y.length = n) (hd : ∀ y ∈ Y, DpT w' (fun j => wr.heap.size ≤ j) y) : TrE w w' G M (updF St k P) ab vb lb a s X E ∧ RowO (fun j => E 0 j ∨ E 1 j) w.heap.size w' (.slice b n c) n Y := by
  have h1 := h.actedE hm k hk (hr.le hm) (hc.mono fun j _ hj => hj ▸ (h.two.rep k hk).eg) (fun j hj => .inl hj)
  rw [setE_self] at h1
  refine ⟨h1, own_base ho h.two.bel.size, hl, fun j hj he => ?_, fun x hx => (hd x hx).more fun j _ hj => ⟨Nat.le_trans h.two.bel.size hj, fun he => ?_⟩⟩
  · have e1 := (own_typ ho j hj).1
    rcases he with he | he
    · have := (h.two.rep 0 (by decide)).lim j he; omega
    · have := (h.two.rep 1 (by decide)).lim j he; omega
  · rcases he with he | he
    · have := (h.two.rep 0 (by decide)).lim j he; omega
    · have := (h.two.rep 1 (by decide)).lim j he; omega
/-- What was handed out is laid down. -/
theorem TrE.laid (h : TrE w wr G N St ab vb lb a s X E) (k : Nat) (hk : k < 2) {b : Option Addr} {n c : Nat} {Y : List Mg} (hY : RowO (fun j => E 0 j ∨ E 1 j) w.heap.size wr (.slice b n c) n Y) : TrSt w (wr.setCell ⟨lb, k, none⟩ (.slice b n c)) G N St ab vb lb a (updF s k ⟨b, n, c⟩) (updF X k Y) := by
  have hg := grown_set13 wr lb k (.slice b n c)
  have hlt := h.olb.lt
  have hne : ∀ j, j < wr.heap.size → j ≠ lb → (wr.setCell ⟨lb, k, none⟩ (.slice b n c)).heap[j]? = wr.heap[j]? := fun j hj hn => hg.block j hj (fun e => hn (by cases e; rfl))
  have rk : ∀ {v : Value} {m : Nat} {Z : List Mg}, RowO (fun j => E 0 j ∨ E 1 j) w.heap.size wr v m Z → RowO (fun j => E 0 j ∨ E 1 j) w.heap.size (wr.setCell ⟨lb, k, none⟩ (.slice b n c)) v m Z := fun {v m Z} hz => by
    refine ⟨own_kept hz.own fun j hj => hne j (own_ltD hz.own j hj) (fun e => ?_), hz.len, hz.ne, fun x hx => (hz.deps x hx).kept fun ad e => hne _ ((hz.deps x hx).lt ad e) (fun e2 => ?_)⟩
    · obtain ⟨_, cur, hc⟩ := own_typ hz.own j hj
      rw [e] at hc
      have := h.olb.is.symm.trans hc
      injection this with e
      injection e with _ e _
      exact absurd e (by decide)
    · obtain ⟨cur, hc⟩ := ((hz.deps x hx).typ ad e).2
      rw [e2] at hc
      have := h.olb.is.symm.trans hc
      injection this with e
      injection e with _ e _
      exact absurd e (by decide)
  have hne2 : ∀ {j : Nat} {ty : TypeId} {cs : Array Value}, Own wr j ty cs → ty ≠ 87 → j ≠ lb := fun {j ty cs} ho ht e => by
    subst e
    have := h.olb.is.symm.trans ho.is
    injection this with e
    injection e with _ e _
    exact ht e.symm
  refine ⟨⟨E, ⟨fun q hq => (h.two.rep q hq).kept hg.size fun j hj => hne j ((h.two.rep q hq).lim j hj) (fun e => h.flb q hq (e ▸ hj)), h.two.base, h.two.apart, h.two.bel.grown hg h.two.bel.size (fun j e => by cases e; exact h.bas)⟩, h.fab, h.fvb, h.flb, (hne ab h.oab.lt (hne2 h.oab (by decide))).trans h.oab, (hne vb h.ovb.lt (hne2 h.ovb (by decide))).trans h.ovb, ?_, h.bas, fun q hq => ?_⟩⟩
  · have := h.olb.set k (.slice b n c)
    match k, hk with
    | 0, _ => exact this
    | 1, _ => exact this
  · by_cases e : q = k
    · subst e; rw [updF_same, updF_same]; exact rk hY
    · rw [updF_other _ _ _ _ e, updF_other _ _ _ _ e]; exact rk (h.row q hq)
end
end Go.Proofs.Ytlkmenjalpmipaa
