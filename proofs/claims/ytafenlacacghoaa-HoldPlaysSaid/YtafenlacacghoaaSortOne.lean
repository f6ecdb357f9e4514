/- Sort: the library's Clone by its own contract, SortStableFunc over what is told of the stable sort, the program's Sort; the stable sort of few. -/
import Derived.Test.YtafenlacacghoaaInsertion
import Derived.Test.YtafenlacacghoaaKeys
import Derived.Shelf.SlicesE.Clone
set_option linter.unusedVariables false
set_option linter.unusedSimpArgs false
namespace Go.Proofs.Ytafenlacacghoaa
open Go.Shelf Go.RowKit Go.Lib Go.Sort

/-- What the stable sort does with rows of some length. -/
def StableAt (len : Nat) : Prop := ∀ (blk off cap : Nat) (d0 : Array Mg) (w0 w : World) (L : List Mg), RowK encG 6 w0 blk off d0 → d0.size = len → SWK encG 6 w0 blk off L.toArray w → L.length = len →
  Calls Try.prog 48 #[.slice (some ⟨blk, off, none⟩) len cap, .int .i64 len, .func (.func 45) #[] #[]] w fun e w' => e = .returned (.tuple #[]) ∧ ∃ M, IsSrt Mg.key L M ∧ SWK encG 6 w0 blk off M.toArray w'

set_option maxHeartbeats 2000000 in
theorem stable_few (len : Nat) (hl : len < 20) : StableAt len := by
  intro blk off cap d0 w0 w L R hs S hL
  have HR := Lib.hid R
  have hz : ¬ (20 : Int) ≤ (len : Int) := by omega
  have hz2 : ¬ (20 : Int) < (len : Int) := by omega
  have S0 : Aside (SWK encG 6 w0 blk off ([] ++ (L ++ [])).toArray w) := by rw [List.nil_append, List.append_nil]; exact S
  have HS := Lib.hid hs
  have HL := Lib.hid hL
  clear S R hs hL
  go_enter Try.func48, Try.ntmps48
  go_wp2_with fail
  go_loopg [7, 8] 0 (fun kx s7 s8 wr => s7 = .int .i64 0 ∧ s8 = .int .i64 20 ∧ Aside (SWK encG 6 w0 blk off ([] ++ (L ++ [])).toArray wr))
  case atStart => exact ⟨rfl, rfl, S0⟩
  case round =>
    clear S0
    obtain ⟨rfl, rfl, S1⟩ := hrel
    go_wp2_with fail
    refine (ins_any blk off len cap 0 len d0 w0 _ [] L [] HR.out HS.out S1.out (by simpa using HL.out) rfl (by simpa using HL.out) (by omega)).mono ?_
    rintro e w1 ⟨rfl, M, hM, S2⟩
    have HM := Lib.hid hM
    have S3 : Aside (SWK encG 6 w0 blk off M.toArray w1) := by
      have := S2
      rw [List.nil_append, List.append_nil] at this
      exact this
    clear S1 S2 hM
    go_wp2_with fail
    go_loopg [6, 7, 8, 9] 0 (fun kx s6 s7 s8 s9 wr => s6 = .int .i64 20 ∧ Aside (SWK encG 6 w0 blk off M.toArray wr))
    case atStart => exact ⟨rfl, S3⟩
    case round =>
      clear S3
      obtain ⟨rfl, S4⟩ := hrel
      go_wp2_with fail
      go_end0
      exact ⟨rfl, M, HM.out, S4.out⟩

/-! ### No message -/
set_option maxHeartbeats 1000000 in
theorem ins_none (ao : Option Addr) (cap : Nat) (w : World) :
    Calls Try.prog 49 #[.slice ao 0 cap, .int .i64 0, .int .i64 0, .func (.func 45) #[] #[]] w fun e w' => e = .returned (.tuple #[]) ∧ w = w' := by
  go_enter Try.func49, Try.ntmps49
  go_wp2_with fail
  go_loop [8] (fun s8 => s8 = .int .i64 1) (fun _ => 0)
  case atStart => rfl
  case round =>
    subst hrel
    go_wp2_with fail
    go_end0
    exact ⟨rfl, rfl⟩
set_option maxHeartbeats 1000000 in
theorem stable_none (ao : Option Addr) (cap : Nat) (w : World) :
    Calls Try.prog 48 #[.slice ao 0 cap, .int .i64 0, .func (.func 45) #[] #[]] w fun e w' => e = .returned (.tuple #[]) ∧ w = w' := by
  go_enter Try.func48, Try.ntmps48
  go_wp2_with fail
  go_loop [7, 8] (fun s7 s8 => s7 = .int .i64 0 ∧ s8 = .int .i64 20) (fun _ _ => 0)
  case atStart => exact ⟨rfl, rfl⟩
  case round =>
    obtain ⟨rfl, rfl⟩ := hrel
    go_wp2_with fail
    refine (ins_none _ _ _).mono ?_
    rintro e w1 ⟨rfl, rfl⟩
    go_wp2_with fail
    go_loop [6, 7, 8, 9] (fun s6 s7 s8 s9 => s6 = .int .i64 20) (fun _ _ _ _ => 0)
    case atStart => rfl
    case round =>
      subst hrel
      go_wp2_with fail
      go_end0
      exact ⟨rfl, rfl⟩

/-! ### SortStableFunc -/
theorem sortStable_any (len : Nat) (hst : StableAt len) (blk off cap : Nat) (d0 : Array Mg) (w0 w : World) (L : List Mg) (R : RowK encG 6 w0 blk off d0) (hs : d0.size = len) (S : SWK encG 6 w0 blk off L.toArray w) (hL : L.length = len) :
    Calls Try.prog 44 #[.slice (some ⟨blk, off, none⟩) len cap, .func (.func 45) #[] #[]] w fun e w' => e = .returned (.tuple #[]) ∧ ∃ M, IsSrt Mg.key L M ∧ SWK encG 6 w0 blk off M.toArray w' := by
  have h := Lib.hid (hst blk off cap d0 w0 w L R hs S hL)
  clear R hs S hL hst
  go_enter Try.func44, Try.ntmps44
  go_wp2_with fail
  refine h.out.mono ?_
  rintro e w1 ⟨rfl, M, hM, S2⟩
  have HM := Lib.hid (And.intro hM S2)
  clear hM S2
  go_wp2_with fail
  go_end0
  exact ⟨rfl, M, HM.out.1, HM.out.2⟩
theorem sortStable_none (ao : Option Addr) (cap : Nat) (w : World) :
    Calls Try.prog 44 #[.slice ao 0 cap, .func (.func 45) #[] #[]] w fun e w' => e = .returned (.tuple #[]) ∧ w = w' := by
  go_enter Try.func44, Try.ntmps44
  go_wp2_with fail
  refine (stable_none _ _ _).mono ?_
  rintro e w1 ⟨rfl, rfl⟩
  go_wp2_with fail
  go_end0
  exact ⟨rfl, rfl⟩

/-! ### Clone -/
def cloneRen : Go.Shelf.Ren := ⟨fun | 41 => 39 | n => n, fun | 4 => 4 | 22 => 31 | 23 => 37 | n => n, fun n => n⟩
theorem cloneLays : SlLaysE0.n41 Try.prog cloneRen := {
  mixed := by kernel_rfl
  f41 := ⟨Try.f39.name, by decide +kernel, by kernel_rfl⟩
  t4 := Try.underlying4
  a4 := Try.isAgg4
  z4 := Try.sizeOf4
  v4 := Try.zeroValue4
  t22 := Try.underlying31
  a22 := Try.isAgg31
  z22 := Try.sizeOf31
  v22 := Try.zeroValue31 }
def zeroM : Value := .agg #[.int .i64 0, .int .u32 0, .int .u64 0, .int .i64 0, .slice none 0 0, .string ByteArray.empty]
theorem infoM : (Try.prog.info? 37).map (fun i => (i.zero, i.size, i.bytes)) = some (some zeroM, 6, 72) := by kernel_rfl

section
variable {α : Type}
/-- A row of the call's own: as the sort holds it. -/
theorem own_holdsK [Inhabited α] {enc : α → List Value} {k : Nat} {w : World} {base g n cap : Nat} {t : TypeId} {l : List α} (hk : ∀ x, (enc x).length = k) (hl : l.length = n) (h : w.ownsRow base t k (.slice (some ⟨g, 0, none⟩) n cap) n (flat enc l)) : HoldsK enc k w g 0 l.toArray := by
  intro j hj
  rw [size_flatK, List.size_toArray, hl] at hj
  have hj2 : j < (flat enc l).length := by rw [flat_length enc k hk, hl]; exact hj
  obtain ⟨i, x, c, hx, hc, hck, hji⟩ := flat_split enc k hk l j _ (List.getElem?_eq_getElem hj2)
  have hil := (List.getElem?_eq_some_iff.1 hx).1
  have k0 : 0 < k := by omega
  have hd : j / k = i := by rw [hji, Nat.mul_comm, Nat.mul_add_div k0, Nat.div_eq_of_lt hck, Nat.add_zero]
  have hm : j % k = c := by rw [hji, Nat.mul_comm, Nat.mul_add_mod, Nat.mod_eq_of_lt hck]
  have hv : (flatK enc k l.toArray)[j]! = (flat enc l)[j] := by
    rw [get_flatK enc k l.toArray j (by rw [List.size_toArray, hl]; exact hj), hd, hm]
    have e1 : l.toArray[i]! = x := by
      rw [getElem!_pos l.toArray i (by simpa using hil)]
      exact (List.getElem?_eq_some_iff.1 hx).2
    obtain ⟨hcl, hce⟩ := List.getElem?_eq_some_iff.1 hc
    rw [e1, getElem!_pos (enc x) c hcl, hce]
  rw [Nat.zero_add, hv]
  refine ⟨?_, ?_⟩
  · rw [h.cellAt j hj]
    exact List.getElem?_eq_getElem hj2
  · rcases h.2 with ⟨h', _⟩ | ⟨g', cap', cur, h', _, hg, _⟩
    · cases h'
    · have : g' = g := by injection h' with h1; injection h1 with h2; injection h2 with h3; exact h3.symm
      subst this
      simp [World.frozen?, hg]
end

theorem clone_any (b o len cap : Nat) (l : List Mg) (w : World) (hl : l.length = len) (hr : RowAt encG 6 w b o l) (hn : len ≤ 1048576) :
    Calls Try.prog 39 #[.slice (some ⟨b, o, none⟩) len cap] w fun e w' => ∃ g c, e = .returned (.slice (some ⟨g, 0, none⟩) len c) ∧ w.heap.size ≤ g ∧ g < w'.heap.size ∧ HoldsK encG 6 w' g 0 l.toArray ∧ Below w.heap.size w w' := by
  obtain ⟨i0, hi, hz0, hz1, hz2⟩ := info_parts infoM
  have hfl := flat_length encG 6 encG_length l
  have h := AnyE.slices_Clone cloneLays i0 zeroM 6 72 hi hz0 hz1 hz2 rfl (by decide) Try.sizeOf37 b o len cap (flat encG l) w (by rw [hfl, hl]) (by unfold maxLen; omega) (by omega)
    (fun j u hu => hr.flat encG_length j u hu) (fun u hu => by
      unfold flat at hu
      obtain ⟨c, hc, huc⟩ := List.mem_flatten.1 hu
      obtain ⟨m, _, rfl⟩ := List.mem_map.1 hc
      exact encG_one m u huc)
  refine Calls.mono h fun e w' ⟨v', he, hown, hne, hB⟩ => ?_
  rcases hown.2 with ⟨h', _⟩ | ⟨g, c, cur, rfl, hb, hg, _⟩
  · exact absurd h' hne
  · exact ⟨g, c, he, hb, (Array.getElem?_eq_some_iff.1 hg).1, own_holdsK encG_length hl hown, hB⟩
theorem clone_nil (w : World) : Calls Try.prog 39 #[.slice none 0 0] w fun e w' => e = .returned (.slice none 0 0) ∧ w' = w := AnyE.slices_Clone_nil cloneLays 0 0 w

/-! ### Sort -/
/-- What the sort leaves of a world: all below its row. -/
theorem SWK.below_ {α : Type} {enc : α → List Value} {k : Nat} {w0 W : World} {blk off : Nat} {dk : Array α} [Inhabited α] (h : SWK enc k w0 blk off dk W) (hblk : blk < w0.heap.size) : Below blk w0 W := by
  obtain ⟨n, os, rfl⟩ := h
  refine ⟨rfl, rfl, rfl, ?_, fun j hj => ?_⟩
  · unfold sortWorldK
    rw [size_grow, size_putRowK]
    show w0.heap.size ≤ w0.heap.size + _
    omega
  · show ((w0.heap.modify blk _) ++ os)[j]? = _
    rw [Array.getElem?_append_left (by rw [Array.size_modify]; omega), Array.getElem?_modify, if_neg (by omega)]
/-- A row as the sort holds it, read as a slice. -/
theorem lst_of_holds {α : Type} [Inhabited α] {enc : α → List Value} {k : Nat} {w : World} {g n : Nat} {l : List α} (hk : ∀ x, (enc x).length = k) (hl : l.length = n) (h : HoldsK enc k w g 0 l.toArray) : Lst enc k w (some ⟨g, 0, none⟩) n l := by
  refine ⟨hl, fun _ => ⟨g, 0, rfl, fun i x hx c v hv => ?_⟩⟩
  obtain ⟨hil, hxe⟩ := List.getElem?_eq_some_iff.1 hx
  have e1 : l.toArray[i]! = x := by rw [getElem!_pos l.toArray i (by simpa using hil)]; exact hxe
  have := HoldsK.cells h hk (i := i) (by simpa using hil) c v (by rw [e1]; exact hv)
  rw [Addr.add_lit] at this
  exact this

set_option maxHeartbeats 1000000 in
theorem clone_zero (ad : Addr) (cap : Nat) (w : World) : Calls Try.prog 39 #[.slice (some ad) 0 cap] w fun e w' => ∃ g c, e = .returned (.slice (some ⟨g, 0, none⟩) 0 c) ∧ Below w.heap.size w w' := by
  obtain ⟨i0, hi, hz0, hz1, hz2⟩ := info_parts infoM
  have q22 : ∀ (w : World) (a : Option Addr) (n c n' c' : Nat), (binOp .eql 31 (.slice a n c) (.slice none n' c')).run Try.prog w = .ok (.bool a.isNone) w := fun w a n c n' c' => Lib.run_eql_slice_nil w _ _ a n c n' c' Try.underlying31
  go_enter Try.func39, Try.ntmps39
  go_wp2_with (at_builtin; refine wpList_append_own _ rfl _ _ 31 rfl w.heap.size 37 i0 zeroM 6 72 Try.underlying31 hi hz0 hz1 hz2 rfl (by decide) _ _ _ rfl (World.ownsRow_made w #[] 0 (Nat.le_refl _) (Nat.zero_le _) (by simp)) ad 0 cap [] rfl rfl (fun j u hj => by simp at hj) (fun u hu => by cases hu) (Nat.zero_le _) (Nat.zero_le _) (by simp) ?_)
  intro v' w1 hown hgrow hnil
  go_wp2
  go_ret
  rcases hown.2 with ⟨h', _⟩ | ⟨g, c, cur, rfl, hb, hg, _⟩
  · exact absurd h' hnil
  · exact ⟨g, c, rfl, ((Below.refl _ w).alloc (Nat.le_refl _) _).grown hgrow (by simp) (by intro k hk; simp [Value.ownBlock] at hk; omega)⟩

/-- What Sort answers: a slice that is sorted, what has one key as it stood. -/
def Sorted (w : World) (len : Nat) (l : List Mg) (e : Ending) (w' : World) : Prop := ∃ ao c M, e = .returned (.slice ao len c) ∧ (ao = none → c = 0) ∧ IsSrt Mg.key l M ∧ Lst encG 6 w' ao len M ∧ Below w.heap.size w w'

set_option maxHeartbeats 1000000 in
theorem sort_any (len : Nat) (hst : StableAt len) (ao : Option Addr) (cap : Nat) (l : List Mg) (w : World) (h : Lst encG 6 w ao len l) (hc : ao = none → cap = 0) (hn : len ≤ 1048576) :
    Calls Try.prog 37 #[.slice ao len cap] w (Sorted w len l) := by
  by_cases h0 : len = 0
  · subst h0
    obtain rfl : l = [] := List.eq_nil_of_length_eq_zero h.size
    rcases ao with _ | ad
    · obtain rfl := hc rfl
      clear h hc hst
      go_enter Try.func37, Try.ntmps37
      go_wp2_with fail
      refine (clone_nil _).mono ?_
      rintro e w' ⟨rfl, rfl⟩
      go_wp2_with fail
      refine (sortStable_none _ _ _).mono ?_
      rintro e w' ⟨rfl, rfl⟩
      go_wp2_with fail
      go_ret
      exact ⟨none, 0, [], rfl, fun _ => rfl, IsSrt.same Srt.nil, ⟨rfl, fun h => by omega⟩, Below.refl _ _⟩
    · clear h hc hst
      go_enter Try.func37, Try.ntmps37
      go_wp2_with fail
      refine (clone_zero _ _ _).mono ?_
      rintro e w' ⟨g, c, rfl, hB⟩
      go_wp2_with fail
      refine (sortStable_none _ _ _).mono ?_
      rintro e w' ⟨rfl, rfl⟩
      go_wp2_with fail
      go_ret
      exact ⟨some ⟨g, 0, none⟩, c, [], rfl, (fun h => by cases h), IsSrt.same Srt.nil, ⟨rfl, fun h => by omega⟩, hB⟩
  · obtain ⟨b, o, rfl, hr⟩ := h.src (by omega)
    have HL := Lib.hid h.size
    have HC := Lib.hid (clone_any b o len cap l w h.size hr hn)
    have HT := Lib.hid hst
    clear h hc hst hr
    go_enter Try.func37, Try.ntmps37
    go_wp2_with fail
    refine HC.out.mono ?_
    rintro e w1 ⟨g, c, rfl, hg1, hg2, hH, hB⟩
    have HG := Lib.hid (And.intro hg1 (And.intro hg2 (And.intro hH hB)))
    clear hg1 hg2 hH hB
    go_wp2_with fail
    refine (sortStable_any len HT.out g 0 c l.toArray w1 w1 l ⟨encG_length, encG_one, HG.out.2.2.1, HG.out.2.1⟩ (by rw [List.size_toArray, HL.out]) (SWK.start HG.out.2.2.1) HL.out).mono ?_
    rintro e w2 ⟨rfl, M, hM, S⟩
    have HM := Lib.hid (And.intro hM S)
    clear hM S
    go_wp2_with fail
    go_ret
    have hml : M.length = len := by rw [HM.out.1.fil.length, HL.out]
    refine ⟨some ⟨g, 0, none⟩, c, M, rfl, (fun h => by cases h), HM.out.1, lst_of_holds encG_length hml (HM.out.2.holds HG.out.2.1 HG.out.2.2.1 (by rw [List.size_toArray, List.size_toArray, hml, HL.out])), ?_⟩
    exact HG.out.2.2.2.trans ((SWK.below_ HM.out.2 HG.out.2.1).mono HG.out.1)
end Go.Proofs.Ytafenlacacghoaa
