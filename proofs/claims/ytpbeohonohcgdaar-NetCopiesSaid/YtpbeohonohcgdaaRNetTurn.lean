/- Turn. -/
import Derived.Test.YtpbeohonohcgdaaRNetDouble
import Derived.Test.YtpbeohonohcgdaaRCrcBits
import Derived.Lib.Strings
import Derived.BigRegion
set_option linter.unusedVariables false
set_option linter.unusedSimpArgs false
namespace Go.Proofs.YtpbeohonohcgdaaR
open Go.RowKit Go.Sort

/-- A block of the call's own, whose first cells hold bytes. -/
structure HoldB (w : World) (g : Nat) (l : List Nat) : Prop where
  lt : g < w.heap.size
  cell : ∀ j b, l[j]? = some b → w.cell? ⟨g, j, none⟩ = some (.int .u8 (b : Nat))
  free : ∀ j, j < l.length → w.frozen? ⟨g, j, none⟩ = false

theorem HoldB.bytes (W : World) (z : ByteArray) (c : Nat) : HoldB (W.alloc (.cells (bytesRow z c) 5 ((bytesRow z c).size, (bytesRow z c).size + 1))) W.heap.size (nats z) where
  lt := by simp
  cell := fun j b hj => by
    have hlt : j < z.size := by have := (List.getElem?_eq_some_iff.1 hj).1; rw [nats_length] at this; exact this
    rw [nats_at hlt] at hj
    cases hj
    rw [World.cell?_alloc_mark, bytesRow_at z c j hlt]
  free := fun j hj => by
    rw [nats_length] at hj
    have hs : z.size ≤ (bytesRow z c).size := by
      simp [bytesRow]
    rw [World.frozen?_alloc_mark]
    have h2 : decide ((bytesRow z c).size ≤ j) = false := by simp; omega
    rw [h2]; rfl
theorem HoldB.drew {w : World} {g : Nat} {l : List Nat} (h : HoldB w g l) : HoldB w.drew g l := ⟨h.lt, h.cell, h.free⟩
theorem HoldB.set {w : World} {g : Nat} {l : List Nat} (h : HoldB w g l) (j x : Nat) : HoldB (w.setCell ⟨g, j, none⟩ (.int .u8 (x : Nat))) g (l.set j x) where
  lt := by simp; exact h.lt
  cell := fun k b hk => by
    by_cases e : k = j
    · subst e
      have hlt : k < l.length := by have := (List.getElem?_eq_some_iff.1 hk).1; rw [List.length_set] at this; exact this
      rw [List.getElem?_set_self hlt] at hk
      cases hk
      refine World.cell?_setCell_same' _ _ _ ?_
      rw [h.cell k _ (List.getElem?_eq_getElem hlt)]; rfl
    · rw [List.getElem?_set_ne (Ne.symm e)] at hk
      rw [World.cell?_setCell_other _ _ _ _ (by intro e2; injection e2; omega)]
      exact h.cell k b hk
  free := fun k hk => by
    rw [List.length_set] at hk
    rw [World.frozen?_setCell]
    exact h.free k hk
/-- Bytes as a text. -/
def txt (l : List Nat) : ByteArray := ⟨(l.map UInt8.ofNat).toArray⟩
theorem txt_nats {l : List Nat} (h : Bytes l) : nats (txt l) = l := by
  unfold nats txt
  simp only [List.map_map]
  conv => rhs; rw [← List.map_id l]
  apply List.map_congr_left
  intro b hb
  simp only [Function.comp, UInt8.toNat_ofNat', id]
  exact Nat.mod_eq_of_lt (h b hb)
theorem txt_size (l : List Nat) : (txt l).size = l.length := by
  show ((l.map UInt8.ofNat).toArray).size = _
  simp
theorem conv_holdB (w : World) (g : Nat) (l : List Nat) (n cap : Nat) (h : HoldB w g l) (hb : Bytes l) (hn : l.length = n) :
    (convert 61 9 (.slice (some ⟨g, 0, none⟩) n cap)).run Try.prog w = .ok (.string (txt l)) w := by
  have hc := run_convert_bytes_back (P := Try.prog) w 61 9 5 ⟨g, 0, none⟩ cap (l.map UInt8.ofNat) Try.underlying61 Try.underlying5 Try.underlying9 (fun j hj => by
    have hj' : j < l.length := by simpa using hj
    have := h.cell j _ (List.getElem?_eq_getElem hj')
    rw [show (⟨g, 0, none⟩ : Addr).add j = ⟨g, j, none⟩ by cases j <;> simp [Addr.add], this, List.getElem_map, UInt8.toNat_ofNat', Nat.mod_eq_of_lt (by have := hb _ (List.getElem_mem hj'); omega)])
  rw [List.length_map, hn] at hc
  exact hc
theorem HoldB.same {w w' : World} {g : Nat} {l : List Nat} (h : HoldB w g l) (e : w'.heap[g]? = w.heap[g]?) (hs : w.heap.size ≤ w'.heap.size) : HoldB w' g l :=
  ⟨Nat.lt_of_lt_of_le h.lt hs, fun j b hj => by rw [World.cell?_of_block e]; exact h.cell j b hj, fun j hj => by rw [World.frozen?_of_block e]; exact h.free j hj⟩
theorem str_some {s : ByteArray} (h : ¬ s = { data := #[] }) : s.toList.isEmpty = false := by
  rw [ByteArray.toList_eq]
  cases hs : s.data.toList with
  | nil => exact absurd (show s = { data := #[] } by
      obtain ⟨d⟩ := s
      congr 1
      exact Array.toList_inj.1 hs) h
  | cons a l => rfl
/-- A text with one byte turned by a mask. -/
def turnS (s : ByteArray) (p m : Nat) : ByteArray := txt ((nats s).set p ((nats s).getD p 0 ^^^ m))
theorem turn_bytes (s : ByteArray) (p m : Nat) (hm : m < 256) : Bytes ((nats s).set p ((nats s).getD p 0 ^^^ m)) := by
  intro b hb
  rcases List.mem_or_eq_of_mem_set hb with h | rfl
  · exact nats_bytes s b h
  · have h1 : (nats s).getD p 0 < 256 := by
      rw [List.getD_eq_getElem?_getD]
      cases h : (nats s)[p]? with
      | none => decide
      | some x => exact nats_bytes s x (List.mem_of_getElem? h)
    exact Nat.xor_lt_two_pow (n := 8) h1 hm
theorem turnS_size (s : ByteArray) (p m : Nat) : (turnS s p m).size = s.size := by unfold turnS; rw [txt_size, List.length_set, nats_length]
theorem turnS_nats (s : ByteArray) (p m : Nat) (hm : m < 256) : nats (turnS s p m) = (nats s).set p ((nats s).getD p 0 ^^^ m) := txt_nats (turn_bytes s p m hm)
def turnD (d : Dg) (p m : Nat) : Dg := ⟨d.frm, d.to, turnS d.data p m, true⟩

theorem flat_set {α : Type} (enc : α → List Value) (c : Nat) (hc : ∀ x, (enc x).length = c) (l : List α) (k : Nat) (hk : k < l.length) (x : α) : flat enc (l.set k x) = (flat enc l).take (k * c) ++ enc x ++ (flat enc l).drop (k * c + c) := by
  have e : l = l.take k ++ l[k] :: l.drop (k + 1) := by
    conv => lhs; rw [← List.take_append_drop k l, List.drop_eq_getElem_cons hk]
  have hl : (flat enc (l.take k)).length = k * c := by rw [flat_length enc c hc, List.length_take, Nat.min_eq_left (by omega)]
  rw [List.set_eq_take_append_cons_drop, if_pos hk, flat_append, flat_cons, flat_take enc c hc l k (by omega)]
  have e2 : (flat enc l).drop (k * c + c) = flat enc (l.drop (k + 1)) := by
    conv => lhs; rw [e, flat_append, flat_cons, ← List.append_assoc]
    rw [List.drop_left' (by rw [List.length_append, hl, hc])]
  rw [e2, List.append_assoc]
/-- One datagram of the row is another one. -/
theorem NetAt.setRow {w : World} {g B : Nat} {N : Nt} {b cap : Nat} (h : NetAt w g B N (some ⟨b, 0, none⟩) cap) (k : Nat) (hk : k < N.rows.length) (d : Dg) (hd : d.ok) :
    NetAt (w.setCells b (k * 4) (encD d)) g B { N with rows := N.rows.set k d } (some ⟨b, 0, none⟩) cap ∧ Moved w (w.setCells b (k * 4) (encD d)) g (some ⟨b, 0, none⟩) (some ⟨b, 0, none⟩) := by
  have hg := grown_cells b (encD d) (k * 4) w
  have hbg : g ≠ b := by
    rcases h.spot with ⟨e1, _⟩ | ⟨b', e1, _, _, e2, _⟩
    · cases e1
    · cases e1; exact fun e => e2 e.symm
  refine ⟨⟨?_, ?_, h.base, h.len, h.pr, h.lk, fun x hx => ?_, by show (N.rows.set k d).length ≤ 4096; rw [List.length_set]; exact h.few⟩, ⟨hg.os, hg.tape, hg.output, hg.size, fun i hi _ ha => hg.block i hi (by intro e; injection e with e; exact ha _ rfl e), fun a e => .inl ⟨a, e, rfl⟩⟩⟩
  · show Own _ g _ ((({ N with rows := N.rows.set k d } : Nt).cells (.slice (some ⟨b, 0, none⟩) (N.rows.set k d).length cap)).toArray)
    rw [List.length_set]
    exact (hg.block g h.lt (by intro e; injection e with e; exact hbg e)).trans h.own
  · show World.ownsRow _ B _ 4 (.slice _ (N.rows.set k d).length cap) (N.rows.set k d).length (flat encD (N.rows.set k d))
    rw [List.length_set]
    refine ⟨by rw [flat_length encD 4 encD_length, List.length_set], ?_⟩
    rcases h.row.2 with ⟨h', _⟩ | ⟨b', c, cur, h1, h2, h3, h4, h5, h6, h7⟩
    · cases h'
    injection h1 with e1 e2 e3
    injection e1 with e1
    injection e1 with e1
    subst e1 e3
    have hm := Nat.mul_le_mul_right 4 h4
    obtain ⟨cur', k1, k2⟩ := heap_setCells (encD d) (k * 4) w cur h3 (by rw [encD_length, h6]; omega)
    have hs : cur'.size = cur.size := by
      have := congrArg List.length k2
      simp only [List.length_append, List.length_take, List.length_drop, Array.length_toList, encD_length] at this
      omega
    refine .inr ⟨b, cap, cur', rfl, h2, k1, h4, h5, by rw [hs, h6], ?_⟩
    rw [k2, flat_set encD 4 encD_length _ _ hk, ← h7, List.take_take, Nat.min_eq_left (by omega), encD_length, List.append_assoc, List.append_assoc]
    rw [List.take_append, List.length_take, Array.length_toList, List.take_take, Nat.min_eq_right (by omega), List.take_append, encD_length, List.take_of_length_le (l := encD d) (by rw [encD_length]; omega)]
    rw [List.drop_take, Nat.sub_sub, Nat.min_eq_left (by omega)]
  · rcases List.mem_or_eq_of_mem_set hx with h1 | rfl
    · exact h.ok x h1
    · exact hd

set_option maxHeartbeats 1000000 in
theorem nturn_none {w : World} {g B : Nat} {N : Nt} {ao : Option Addr} {cap : Nat} (h : NetAt w g B N ao cap) (i at_ : Int) (m : Int) (h0 : -9223372036854775808 ≤ i) (h1 : i ≤ 9223372036854775807) (hi : hasB N.rows.length i = false) :
    Calls Try.prog 22 #[.pointer (some ⟨g, 0, none⟩), .int .i64 i, .int .i64 at_, .int .u8 m] w fun e w' => e = .returned (.bool false) ∧ Below w.heap.size w w' := by
  have M := nat_no h i h0 h1 hi
  clear h hi
  go_enter Try.func22, Try.ntmps22
  go_upto_region 2 with (first | (go_at_call 20; refine M.mono ?_; rintro e w1 ⟨rfl, L1⟩) | (refine store_dg rfl (.tmp 9) (.tmp 16) rfl w1.heap.size 0 0 { data := #[] } false rfl rfl (DgB.new w1 0 0 { data := #[] } false) ?_))
  rw [putD_is]
  have HB := Lib.hid (L1.trans ((putD_below w1 0 0 { data := #[] } false).mono L1.size))
  generalize putD w1 0 0 { data := #[] } false = w2 at *
  clear M L1
  go_wp2
  go_ret
  exact ⟨rfl, HB.out⟩
set_option maxHeartbeats 1000000 in
theorem nturn_no {w : World} {g B : Nat} {N : Nt} {ao : Option Addr} {cap : Nat} (h : NetAt w g B N ao cap) (k : Nat) (d : Dg) (hk : N.rows[k]? = some d) (at_ : Int) (m : Nat) (hm : m < 256) (hno : d.torn = true ∨ d.data = { data := #[] } ∨ m = 0) :
    Calls Try.prog 22 #[.pointer (some ⟨g, 0, none⟩), .int .i64 (k : Nat), .int .i64 at_, .int .u8 (m : Nat)] w fun e w' => e = .returned (.bool false) ∧ Below w.heap.size w w' := by
  have M := nat_yes h k d hk
  obtain ⟨df, dt, dd, dx⟩ := d
  simp only at hno M
  clear h hk
  have start : ∀ (Q : Prop), Q → Q := fun _ h => h
  cases dx
  · by_cases he : dd = { data := #[] }
    · subst he
      clear hno
      go_enter Try.func22, Try.ntmps22
      go_upto_region 2 with (first | (go_at_call 20; refine M.mono ?_; rintro e w1 ⟨rfl, L1⟩) | (refine store_dg rfl (.tmp 9) (.tmp 16) rfl w1.heap.size df dt { data := #[] } false rfl rfl (DgB.new w1 0 0 { data := #[] } false) ?_))
      rw [putD_is]
      have HB := Lib.hid (L1.trans ((putD_below w1 df dt { data := #[] } false).mono L1.size))
      have Y := putD_at w1 df dt { data := #[] } false
      have y2 := Y.c2
      have y3 := Y.c3
      generalize putD w1 df dt { data := #[] } false = w2 at *
      clear M L1 Y
      go_wp2
      go_ret
      exact ⟨rfl, HB.out⟩
    · have hes := str_some he
      obtain rfl : m = 0 := by
        rcases hno with h1 | h1 | h1
        · cases h1
        · exact absurd h1 he
        · exact h1
      clear hno
      go_enter Try.func22, Try.ntmps22
      go_upto_region 2 with (first | (go_at_call 20; refine M.mono ?_; rintro e w1 ⟨rfl, L1⟩) | (refine store_dg rfl (.tmp 9) (.tmp 16) rfl w1.heap.size df dt dd false rfl rfl (DgB.new w1 0 0 { data := #[] } false) ?_))
      rw [putD_is]
      have HB := Lib.hid (L1.trans ((putD_below w1 df dt dd false).mono L1.size))
      have Y := putD_at w1 df dt dd false
      have y2 := Y.c2
      have y3 := Y.c3
      generalize putD w1 df dt dd false = w2 at *
      clear M L1 Y
      go_wp2
      go_ret
      exact ⟨rfl, HB.out⟩
  · clear hno
    go_enter Try.func22, Try.ntmps22
    go_upto_region 2 with (first | (go_at_call 20; refine M.mono ?_; rintro e w1 ⟨rfl, L1⟩) | (refine store_dg rfl (.tmp 9) (.tmp 16) rfl w1.heap.size df dt dd true rfl rfl (DgB.new w1 0 0 { data := #[] } false) ?_))
    rw [putD_is]
    have HB := Lib.hid (L1.trans ((putD_below w1 df dt dd true).mono L1.size))
    have Y := putD_at w1 df dt dd true
    have y2 := Y.c2
    have y3 := Y.c3
    generalize putD w1 df dt dd true = w2 at *
    clear M L1 Y
    go_wp2
    go_ret
    exact ⟨rfl, HB.out⟩
/-- Amid Turn: the net as it was, the copy of the datagram in a block of its own. -/
structure TurnAt (w W : World) (g B : Nat) (N : Nt) (ao : Option Addr) (cap : Nat) (r : Nat) (a b : Int) (s : ByteArray) (c : Bool) : Prop where
  net : NetAt W g B N ao cap
  box : DgB W r a b s c
  below : Go.RowKit.Below w.heap.size w W
  hr : w.heap.size ≤ r
set_option maxHeartbeats 4000000 in
theorem nturn_yes {w : World} {g B : Nat} {N : Nt} {ao : Option Addr} {cap : Nat} (h : NetAt w g B N ao cap) (k : Nat) (d : Dg) (hk : N.rows[k]? = some d) (at_ : Int) (m : Nat) (hm : m < 256) (ht : d.torn = false) (hd : ¬ d.data = { data := #[] }) (hm0 : m ≠ 0) (u p : Nat) (hu : IntKind.u64.wrap at_ = (u : Int)) (hul : u < 18446744073709551616) (hp : u % d.data.size = p) :
    Calls Try.prog 22 #[.pointer (some ⟨g, 0, none⟩), .int .i64 (k : Nat), .int .i64 at_, .int .u8 (m : Nat)] w fun e w' => e = .returned (.bool true) ∧ NetAt w' g B { N with rows := N.rows.set k (turnD d p m) } ao cap ∧ Moved w w' g ao ao := by
  have hkl := (List.getElem?_eq_some_iff.1 hk).1
  have M := nat_yes h k d hk
  have hok := h.ok d (List.mem_of_getElem? hk)
  have HF : Hid (Dg.ok (turnD d p m)) := Lib.hid ⟨hok.f0, hok.f1, hok.t0, hok.t1, by show (turnS d.data p m).size ≤ maxLen; rw [turnS_size]; exact hok.sz⟩
  have hsz := hok.sz
  have HS := Lib.hid (turnS_nats d.data p m hm)
  obtain ⟨df, dt, s, dx⟩ := d
  simp only at ht hd M hp HS hsz
  subst ht
  unfold turnD at HF
  simp only at HF
  have hpos : 0 < s.size := by
    rcases Nat.eq_zero_or_pos s.size with e | e
    · exact absurd (by obtain ⟨⟨l⟩⟩ := s; have : l = [] := List.length_eq_zero_iff.1 e; subst this; rfl) hd
    · exact e
  have hpl : p < s.size := by rw [← hp]; exact Nat.mod_lt _ hpos
  have hp' : (u : Int) % (s.size : Int) = (p : Int) := by rw [← hp]; rfl
  have hes := str_some hd
  have hmz : ((m : Int) == 0) = false := by simp; omega
  have hbs := fun W => run_bytes_of_string (P := Try.prog) W 9 61 5 s Try.underlying9 Try.underlying61 Try.underlying5
  have hH := Lib.hid h
  have hgl := h.lt
  have hsl : ∀ a, ao = some a → a.block < w.heap.size := fun a e => by
    rcases h.spot with ⟨e1, _⟩ | ⟨b, e1, _, e2, _⟩
    · rw [e1] at e; cases e
    · rw [e1] at e; cases e; exact e2
  have hsl := Lib.hid hsl
  have hk2 := hk
  clear hok h hk hd hm0 hp
  unfold maxLen at hsz
  go_enter Try.func22, Try.ntmps22
  go_upto_region 2 with (first | (go_at_call 20; refine M.mono ?_; rintro e w1 ⟨rfl, L1⟩) | (refine store_dg rfl (.tmp 9) (.tmp 16) rfl w1.heap.size df dt s false rfl rfl (DgB.new w1 0 0 { data := #[] } false) ?_))
  rw [putD_is]
  have T2 : TurnAt w (putD w1 df dt s false) g B N ao cap w1.heap.size df dt s false := ⟨(hH.out.below L1).below (putD_below w1 _ _ _ _), putD_at w1 df dt s false, L1.trans ((putD_below w1 df dt s false).mono L1.size), L1.size⟩
  generalize putD w1 df dt s false = w2 at *
  generalize w1.heap.size = r at *
  clear M L1 hH
  have y2 := T2.box.c2
  have y3 := T2.box.c3
  have HT2 := Lib.hid T2
  clear T2
  go_upto_region 5 with fail
  have hH := HoldB.bytes w2.drew s (grownCap w2 s.size 0 5)
  have hG := ((Grw.refl w2).drew.alloc (.cells (bytesRow s (grownCap w2 s.size 0 5)) 5 ((bytesRow s (grownCap w2 s.size 0 5)).size, (bytesRow s (grownCap w2 s.size 0 5)).size + 1)))
  change HoldB (w2.alloc _).drew w2.heap.size _ at hH
  change Grw w2 (w2.alloc _).drew at hG
  have T3 : TurnAt w (w2.alloc (.cells (bytesRow s (grownCap w2 s.size 0 5)) 5 ((bytesRow s (grownCap w2 s.size 0 5)).size, (bytesRow s (grownCap w2 s.size 0 5)).size + 1))).drew g B N ao cap r df dt s false :=
    ⟨HT2.out.net.below hG.below, HT2.out.box.below hG.below HT2.out.box.lt, HT2.out.below.trans (hG.below.mono HT2.out.below.size), HT2.out.hr⟩
  have hrl := HT2.out.box.lt
  have hgl2 : w.heap.size ≤ w2.heap.size := HT2.out.below.size
  have hr0 := HT2.out.hr
  clear hG HT2 y2 y3
  generalize (w2.alloc (.cells (bytesRow s (grownCap w2 s.size 0 5)) 5 ((bytesRow s (grownCap w2 s.size 0 5)).size, (bytesRow s (grownCap w2 s.size 0 5)).size + 1))).drew = w3 at *
  generalize w2.heap.size = q at *
  generalize grownCap w2 s.size 0 5 = cp at *
  clear hbs
  obtain ⟨x, hx⟩ : ∃ x, (nats s)[p]? = some x := ⟨_, nats_at hpl⟩
  have hxl : x < 256 := nats_bytes s x (List.mem_of_getElem? hx)
  have hc := hH.cell p x hx
  have hf := hH.free p (by rw [nats_length]; exact hpl)
  have hxo := xor_u8 x m hxl hm
  have hgd : (nats s).getD p 0 = x := by rw [List.getD_eq_getElem?_getD, hx]; rfl
  have H4 := hH.set p (x ^^^ m)
  have hq : q < w3.heap.size := hH.lt
  have T4 : TurnAt w (w3.setCell ⟨q, p, none⟩ (.int .u8 ((x ^^^ m : Nat) : Int))) g B N ao cap r df dt s false := by
    have hb : ∀ j, j ≠ q → (w3.setCell ⟨q, p, none⟩ (.int .u8 ((x ^^^ m : Nat) : Int))).heap[j]? = w3.heap[j]? := fun j hj => heap_setCell_other w3 _ _ _ hj
    refine ⟨T3.net.kept fun j hj e => hb j ?_, (hb r (by omega)).trans T3.box, T3.below.setCell (by show w.heap.size ≤ q; omega) _, hr0⟩
    rcases e with rfl | ⟨a, e1, rfl⟩
    · omega
    · rcases T3.net.spot with ⟨e2, _⟩ | ⟨b, e2, _⟩
      · rw [e2] at e1; cases e1
      · have := hsl.out a e1; omega
  clear hH T3
  have T5 := Lib.hid T4
  have H5 := Lib.hid H4
  clear T4 H4
  go_upto_region 6 with fail
  generalize w3.setCell ⟨q, p, none⟩ (.int .u8 ((x ^^^ m : Nat) : Int)) = w4 at *
  have hcv : (convert 61 9 (.slice (some ⟨q, 0, none⟩) s.size cp)).run Try.prog w4 = .ok (.string (turnS s p m)) w4 := by
    have hb := turn_bytes s p m hm
    rw [hgd] at hb
    have := conv_holdB w4 q _ s.size cp H5.out hb (by rw [List.length_set, nats_length])
    rw [this]
    unfold turnS
    rw [hgd]
  clear hc hf hxo hx hgd H5 hxl HS
  obtain ⟨z, hz⟩ : ∃ z, turnS s p m = z := ⟨_, rfl⟩
  rw [hz] at hcv HF
  have hz := Lib.hid hz
  have y2 := T5.out.box.c2
  have y3 := T5.out.box.c3
  have f2 := T5.out.box.own.free 2
  have f3 := T5.out.box.own.free 3
  go_upto_region 7 with fail
  have hb : ∀ j, j ≠ r → ((w4.setCell ⟨r, 2, none⟩ (.string z)).setCell ⟨r, 3, none⟩ (.bool true)).heap[j]? = w4.heap[j]? := fun j hj => (heap_setCell_other _ _ _ _ hj).trans (heap_setCell_other _ _ _ _ hj)
  have T6 : TurnAt w ((w4.setCell ⟨r, 2, none⟩ (.string z)).setCell ⟨r, 3, none⟩ (.bool true)) g B N ao cap r df dt z true := by
    refine ⟨T5.out.net.kept fun j hj e => hb j ?_, (T5.out.box.own.set 2 (.string z)).set 3 (.bool true), (T5.out.below.setCell (by show w.heap.size ≤ r; omega) _).setCell (by show w.heap.size ≤ r; omega) _, hr0⟩
    rcases e with rfl | ⟨a, e1, rfl⟩
    · omega
    · have := hsl.out a e1; omega
  clear hb y2 y3 f2 f3 hcv T5
  generalize (w4.setCell ⟨r, 2, none⟩ (.string z)).setCell ⟨r, 3, none⟩ (.bool true) = w5 at *
  have z0 := T6.box.c0
  have z1 := T6.box.c1
  have z2 := T6.box.c2
  have z3 := T6.box.c3
  obtain ⟨b, rfl, hb1, hb2, hb3, hcap, d0, d1, d2, d3⟩ := T6.net.datum k _ hk2
  have cb := T6.net.bag
  have fb := T6.net.row.frozenAt (n := N.rows.length) (cap := cap) (g := b)
  have e0 := fb (k * 4)
  have e1 := fb (k * 4 + 1)
  have e2 := fb (k * 4 + 2)
  have e3 := fb (k * 4 + 3)
  have HR := Lib.hid (fun n => (T6.net.drewN n).setRow k hkl ⟨df, dt, z, true⟩ HF.out)
  have HM := Lib.hid (fun n => (Moved.of_below (below_drewN T6.below n) g (some ⟨b, 0, none⟩)))
  have hfew := T6.net.few
  have hne : r ≠ b := by have := hsl.out _ rfl; simp only at this; omega
  generalize N.rows.length = n at *
  clear T6 fb hk2
  have D0 : w5.drew.cell? ⟨b, k * 4, none⟩ = _ := d0
  have D1 : w5.drew.cell? ⟨b, k * 4 + 1, none⟩ = _ := d1
  have D2 : w5.drew.cell? ⟨b, k * 4 + 2, none⟩ = _ := d2
  have D3 : w5.drew.cell? ⟨b, k * 4 + 3, none⟩ = _ := d3
  have E0 : w5.drew.frozen? ⟨b, k * 4, none⟩ = _ := e0
  have E1 : w5.drew.frozen? ⟨b, k * 4 + 1, none⟩ = _ := e1
  have E2 : w5.drew.frozen? ⟨b, k * 4 + 2, none⟩ = _ := e2
  have E3 : w5.drew.frozen? ⟨b, k * 4 + 3, none⟩ = _ := e3
  have HR1 : Hid (NetAt (w5.drew.setCells b (k * 4) (encD ⟨df, dt, z, true⟩)) g B { N with rows := N.rows.set k ⟨df, dt, z, true⟩ } (some ⟨b, 0, none⟩) cap ∧ Moved w5.drew (w5.drew.setCells b (k * 4) (encD ⟨df, dt, z, true⟩)) g (some ⟨b, 0, none⟩) (some ⟨b, 0, none⟩)) := Lib.hid (HR.out 1)
  have HM1 : Hid (Moved w w5.drew g (some ⟨b, 0, none⟩) (some ⟨b, 0, none⟩)) := Lib.hid (HM.out 1)
  clear HR HM
  go_still_tail 7, (by kernel_rfl)
  change wpList _ _ _ _ _ w5.drew
  generalize w5.drew = w6 at *
  clear d0 d1 d2 d3 e0 e1 e2 e3 z0 z1 z2 z3 cb
  go_wp2
  go_ret
  have X := (HM1.out).trans HR1.out.2
  have Y := HR1.out.1
  simp only [encD, World.setCells, Nat.add_assoc, Nat.reduceAdd] at X Y
  have hz := hz.out
  subst hz
  exact ⟨rfl, Y, X⟩
end Go.Proofs.YtpbeohonohcgdaaR
