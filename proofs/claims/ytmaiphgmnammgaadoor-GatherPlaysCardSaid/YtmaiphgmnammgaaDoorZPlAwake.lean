/- Layer 15: awake. -/
import Derived.Test.YtmaiphgmnammgaaDoorZPlLacks
set_option linter.unusedVariables false
set_option maxRecDepth 100000
set_option linter.unusedSimpArgs false
namespace Go.Proofs.YtmaiphgmnammgaaDoor
open Go.RowKit Go.Sort Go.Shelf Go.Maps

/-- A block of the call's own, as a slice. -/
theorem lst_own {α : Type} {enc : α → List Value} {k : Nat} {w : World} {b : Nat} {t : TypeId} {l : List α} (hk : ∀ x, (enc x).length = k) (h : Own w b t (flat enc l).toArray) : Lst enc k w (some ⟨b, 0, none⟩) l.length l :=
  ⟨rfl, fun _ => ⟨b, 0, rfl, fun i x hx c v hv => by
    have hc : c < k := by rw [← hk x]; exact (List.getElem?_eq_some_iff.1 hv).1
    rw [Nat.zero_add]
    exact h.at_ _ v (by rw [List.getElem?_toArray, flat_at enc k hk l i x hx c hc]; exact hv)⟩⟩
def kx0 (a : Option Addr) : Xg := ⟨0, 3, 0, a, 2, 2, [0, 2], ⟨0, 0⟩⟩
def kx2 (a : Option Addr) : Xg := ⟨2, 3, 0, a, 2, 2, [0, 3], ⟨4, 1⟩⟩
def kx3 : Xg := ⟨3, 0, 0, none, 0, 0, [], ⟨0, 0⟩⟩
def kf : Nat → Wh := whL [kx0 none, kx2 none]
theorem kf_eq (a b : Option Addr) : whL [kx0 a, kx2 b] = kf := rfl
theorem kcomp (a b : Option Addr) : compL (kx0 a) [kx0 a, kx2 b, kx3] = [kx0 a, kx2 b] := rfl
theorem kof : ofl [0, 2] = 5 := by decide +kernel
theorem kplan (a b : Option Addr) : planL (compL (kx0 a) [kx0 a, kx2 b, kx3]) = ⟨5, kf, ⟨4, 1⟩⟩ := by
  rw [kcomp]
  unfold planL
  rw [kf_eq, show csL [kx0 a, kx2 b] = 5 from kof]
  rfl
theorem kf1 : kf 1 = ⟨3, 2⟩ := rfl
theorem kf0 : kf 0 = ⟨0, 0⟩ := rfl
theorem kgap : gapK kf [0, 2] 64 = [⟨1, 2, 3, 3⟩] := by kernel_rfl
theorem plan_ok {w : World} {ao : Option Addr} {n : Nat} {l : List Xg} {me : Int} {y : Xg} (h : XgL w ao n l) (hp : HasPlan l me y) : WhOk (planL (compL y l)).f :=
  WhOk.list (w := w) _ fun x hx => ⟨(h.in_ x (List.mem_filter.1 hx).1).1, hp.ap.in_ x (List.mem_filter.1 hx).1⟩
def km1 : Mg := ⟨1, 2, 0, 0, none, 0, 0, [], { data := #[] }⟩
def km2 (a : Option Addr) : Mg := ⟨1, 3, 0, 0, a, 1, 1, [1], { data := #[] }⟩
theorem kgiven (a : Option Addr) (m : Mg) (h : Given kf [km1, km2 a] m) : m = km2 a := by
  have two : ∀ m, m ∈ [km1, km2 a] → m = km1 ∨ m = km2 a := fun m hm => by simpa using hm
  induction h with
  | deps m hm hc q d hd hb =>
    rcases two m hm with rfl | rfl
    · cases hd
    · rfl
  | same m x hm hc hx h1 h2 ih =>
    subst ih
    rcases two m hm with rfl | rfl
    · exact absurd h2 (of_decide_eq_false rfl)
    · rfl
  | lean m x hm hc hx h ih =>
    subst ih
    rcases two m hm with rfl | rfl
    · exact absurd h (of_decide_eq_false rfl)
    · rfl
theorem kkeep (a : Option Addr) : keepL kf [km1, km2 a] = [km1] := by
  have h1 : keptB kf [km1, km2 a] km1 = true := kept_iff.2 ⟨⟨by decide, by decide, by decide, by decide⟩, fun h => by
    have := congrArg Mg.q (kgiven a _ h)
    exact absurd this (of_decide_eq_false rfl)⟩
  have h2 : keptB kf [km1, km2 a] (km2 a) = false := by
    cases hb : keptB kf [km1, km2 a] (km2 a) with
    | false => rfl
    | true =>
      exact absurd (Given.deps (km2 a) (by simp) ⟨of_decide_eq_true rfl, of_decide_eq_true rfl, of_decide_eq_true rfl, of_decide_eq_true rfl⟩ 0 1 rfl (.inr ⟨of_decide_eq_true rfl, of_decide_eq_true rfl⟩)) (kept_iff.1 hb).2
  unfold keepL
  rw [List.filter_cons, if_pos h1, List.filter_cons, if_neg (by rw [h2]; decide), List.filter_nil]
theorem nat32_len (n : Int) : ([Value.int .u32 n]).length = 1 := rfl
/-- The world in which awake's exchanges stand. -/
def kw1 (w : World) : World := (((w.alloc (.cells #[.int .u64 3, .int .i64 0] 24)).alloc (.cells #[.int .u32 0, .int .u32 2] 52)).alloc (.cells #[.int .u32 0, .int .u32 3] 52)).alloc (.cells #[.int .i64 0, .int .u64 3, .int .i64 0, .slice (some ⟨w.heap.size + 1, 0, none⟩) 2 2, .int .u64 0, .int .i64 0, .int .i64 2, .int .u64 3, .int .i64 0, .slice (some ⟨w.heap.size + 2, 0, none⟩) 2 2, .int .u64 4, .int .i64 1, .int .i64 3, .int .u64 0, .int .i64 0, .slice none 0 0, .int .u64 0, .int .i64 0] 38)
theorem kw1_below (w : World) : Below w.heap.size w (kw1 w) := (((((Grw.refl w).alloc _).alloc _).alloc _).alloc _).below
theorem kw1_l (w : World) : XgL (kw1 w) (some ⟨w.heap.size + 3, 0, none⟩) 3 [kx0 (some ⟨w.heap.size + 1, 0, none⟩), kx2 (some ⟨w.heap.size + 2, 0, none⟩), kx3] := by
  have s1 : (w.alloc (.cells #[.int .u64 3, .int .i64 0] 24)).heap.size = w.heap.size + 1 := by simp
  have o1 := Own.new (w.alloc (.cells #[.int .u64 3, .int .i64 0] 24)) 52 #[.int .u32 0, .int .u32 2]
  rw [s1] at o1
  have s2 : ((w.alloc (.cells #[.int .u64 3, .int .i64 0] 24)).alloc (.cells #[.int .u32 0, .int .u32 2] 52)).heap.size = w.heap.size + 2 := by simp
  have o2 := Own.new ((w.alloc (.cells #[.int .u64 3, .int .i64 0] 24)).alloc (.cells #[.int .u32 0, .int .u32 2] 52)) 52 #[.int .u32 0, .int .u32 3]
  rw [s2] at o2
  have s3 : (((w.alloc (.cells #[.int .u64 3, .int .i64 0] 24)).alloc (.cells #[.int .u32 0, .int .u32 2] 52)).alloc (.cells #[.int .u32 0, .int .u32 3] 52)).heap.size = w.heap.size + 3 := by simp
  have o3 : Own (kw1 w) (w.heap.size + 3) 38 (flat encXg [kx0 (some ⟨w.heap.size + 1, 0, none⟩), kx2 (some ⟨w.heap.size + 2, 0, none⟩), kx3]).toArray := by
    rw [← s3]; exact Own.new _ _ _
  have o2' := o2.below ((Grw.refl _).alloc (.cells #[.int .i64 0, .int .u64 3, .int .i64 0, .slice (some ⟨w.heap.size + 1, 0, none⟩) 2 2, .int .u64 0, .int .i64 0, .int .i64 2, .int .u64 3, .int .i64 0, .slice (some ⟨w.heap.size + 2, 0, none⟩) 2 2, .int .u64 4, .int .i64 1, .int .i64 3, .int .u64 0, .int .i64 0, .slice none 0 0, .int .u64 0, .int .i64 0] 38)).below o2.lt
  have o1' := o1.below (((Grw.refl _).alloc (.cells #[.int .u32 0, .int .u32 3] 52)).alloc (.cells #[.int .i64 0, .int .u64 3, .int .i64 0, .slice (some ⟨w.heap.size + 1, 0, none⟩) 2 2, .int .u64 0, .int .i64 0, .int .i64 2, .int .u64 3, .int .i64 0, .slice (some ⟨w.heap.size + 2, 0, none⟩) 2 2, .int .u64 4, .int .i64 1, .int .i64 3, .int .u64 0, .int .i64 0, .slice none 0 0, .int .u64 0, .int .i64 0] 38)).below o1.lt
  refine ⟨lst_own encXg_length o3, fun x hx => ?_⟩
  have h3 : x = kx0 (some ⟨w.heap.size + 1, 0, none⟩) ∨ x = kx2 (some ⟨w.heap.size + 2, 0, none⟩) ∨ x = kx3 := by simpa using hx
  have hv : ∀ v z : Int, 0 ≤ z → z < 4294967296 → v ∈ [0, z] → 0 ≤ v ∧ v < 4294967296 := fun v z z0 z1 hv => by
    rcases List.mem_cons.1 hv with rfl | hv
    · decide
    · rw [List.mem_singleton.1 hv]; exact ⟨z0, z1⟩
  rcases h3 with rfl | rfl | rfl
  · exact ⟨⟨Nat.le_refl _, lst_own (enc := fun n : Int => [.int .u32 n]) (l := [0, 2]) (fun _ => rfl) o1', fun v hv' => hv v 2 (by decide) (by decide) hv'⟩, ⟨of_decide_eq_true rfl, of_decide_eq_true rfl⟩⟩
  · exact ⟨⟨Nat.le_refl _, lst_own (enc := fun n : Int => [.int .u32 n]) (l := [0, 3]) (fun _ => rfl) o2', fun v hv' => hv v 3 (by decide) (by decide) hv'⟩, ⟨of_decide_eq_true rfl, of_decide_eq_true rfl⟩⟩
  · exact ⟨⟨Nat.le_refl _, ⟨rfl, fun h0 => absurd h0 (by decide)⟩, fun v hv => by cases hv⟩, ⟨by decide, by decide⟩⟩
theorem held_key15 : Tryd.prog.stoodInHeld 36 = false := by kernel_rfl
def kx1 : Xg := ⟨0, 0, 0, none, 0, 0, [], ⟨0, 0⟩⟩
end Go.Proofs.YtmaiphgmnammgaaDoor
