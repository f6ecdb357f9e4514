/- The newest slot: the program's. -/
import Derived.Test.YtimdemidnleiiaaDiskParse
set_option linter.unusedVariables false
set_option linter.unusedSimpArgs false
namespace Go.Proofs.Ytimdemidnleiiaa
open Go.RowKit Go.Sort

theorem slots_size : (Try.prog.info? 44).map (·.size) = some 2 := by kernel_rfl
theorem slots_at0 (a b : ByteArray) (w : World) : (Instr.index 44 (.agg #[.string a, .string b]) (.int .i64 0)).run Try.prog w = .ok (.string a) w := by kernel_rfl
theorem slots_at1 (a b : ByteArray) (w : World) : (Instr.index 44 (.agg #[.string a, .string b]) (.int .i64 1)).run Try.prog w = .ok (.string b) w := by kernel_rfl
theorem load_slots {ops : Array Oper} {rest : List Oper} {o : Oper} {A : Act} {w : World} {Q : Exit → Act → World → Prop} (hgd : o.guard = none) (x : Operand) (ho : o.op = .load 44 x)
    (g : Nat) (T : TypeId) (hx : A.eval x = .pointer (some ⟨g, 0, none⟩)) {a b : ByteArray} (hg : Own w g T #[.string a, .string b])
    (h : wpList Try.prog ops Q rest (A.put o.dst (.agg #[.string a, .string b])) w) : wpList Try.prog ops Q (o :: rest) A w :=
  wpList_load_row hgd 44 x ho g hx T _ _ _ hg Try.underlying44 rfl slots_size h
/-- The slots' block. -/
def SlB (w wr : World) (a b : ByteArray) : Prop := Own wr w.heap.size 44 #[.string a, .string b]
theorem SlB.own {w wr : World} {a b : ByteArray} (h : SlB w wr a b) : Own wr w.heap.size 44 #[.string a, .string b] := h
theorem SlB.lt {w wr : World} {a b : ByteArray} (h : SlB w wr a b) : w.heap.size < wr.heap.size := h.own.lt
def atD (d : Dk) : Int := if sndB d = true then 1 else 0
/-- Amid newest: the results' block, the newest one's so far. -/
structure NwAt (w wr : World) (n : Nat) (t : ByteArray) : Prop where
  res : RecB wr (w.heap.size + 1) 0 { data := #[] }
  last : RecB wr (w.heap.size + 1 + 1) n t
  below : Below w.heap.size w wr
theorem NwAt.later {w wr w' : World} {n : Nat} {t : ByteArray} (h : NwAt w wr n t) (hb : Below wr.heap.size wr w') : NwAt w w' n t :=
  ⟨h.res.later hb, h.last.later hb, h.below.trans (hb.mono h.below.size)⟩
theorem NwAt.put {w wr : World} {n : Nat} {t : ByteArray} (h : NwAt w wr n t) (n' : Nat) (t' : ByteArray) : NwAt w (wr.setRow (w.heap.size + 1 + 1) #[.int .u64 (n' : Int), .string t']) n' t' :=
  ⟨h.res.otherRow _ _ (by omega), h.last.put n' t', dbelowRow h.below _ (by omega) _⟩

set_option maxHeartbeats 4000000 in
theorem dnewest (d : Dk) (hd : d.ok) (w : World) :
    Calls Try.prog 20 #[.agg #[.string d.a, .string d.b]] w fun e w' => e = .returned (.tuple #[.int .i64 (atD d), .agg #[.int .u64 (numD d : Nat), .string (recD d)], .bool (fndB d)]) ∧ Below w.heap.size w w' := by
  obtain ⟨a, b⟩ := d
  have hpa := fun W => dparse a W (by have := hd.a; simp only at this; omega)
  have hpb := fun W => dparse b W (by have := hd.b; simp only at this; omega)
  have hna := numS_lt a
  have hnb := numS_lt b
  have HF : fndB ⟨a, b⟩ = (wholeB a || wholeB b) := rfl
  have HS : sndB ⟨a, b⟩ = (wholeB b && (!wholeB a || decide (numS a < numS b))) := rfl
  have HN : numD ⟨a, b⟩ = if sndB ⟨a, b⟩ = true then numS b else numS a := rfl
  have HR : recD ⟨a, b⟩ = if sndB ⟨a, b⟩ = true then recS b else recS a := rfl
  have HA : atD ⟨a, b⟩ = if sndB ⟨a, b⟩ = true then 1 else 0 := rfl
  have za : wholeB a = false → numS a = 0 ∧ recS a = { data := #[] } := fun h => ⟨by unfold numS; rw [h]; rfl, by unfold recS; rw [h]; rfl⟩
  have zb : wholeB b = false → numS b = 0 ∧ recS b = { data := #[] } := fun h => ⟨by unfold numS; rw [h]; rfl, by unfold recS; rw [h]; rfl⟩
  have x0 := slots_at0 a b
  have x1 := slots_at1 a b
  clear hd
  simp only
  rw [HF, HN, HR, HA, HS]
  clear HF HN HR HA HS
  generalize numS a = na at *
  generalize numS b = nb at *
  generalize recS a = ra at *
  generalize recS b = rb at *
  generalize wholeB a = fa at *
  generalize wholeB b = fb at *
  have za := Lib.hid za
  generalize hp : (if (fb && (!fa || decide (na < nb))) = true then (1 : Int) else 0) = p
  generalize hn : (if (fb && (!fa || decide (na < nb))) = true then nb else na) = n
  generalize ht : (if (fb && (!fa || decide (na < nb))) = true then rb else ra) = t
  generalize hf : (fa || fb) = f
  have HE : Hid ((if (fb && (!fa || decide (na < nb))) = true then (1 : Int) else 0) = p ∧ (if (fb && (!fa || decide (na < nb))) = true then nb else na) = n ∧ (if (fb && (!fa || decide (na < nb))) = true then rb else ra) = t ∧ (fa || fb) = f) := Lib.hid ⟨hp, hn, ht, hf⟩
  clear hp hn ht hf
  go_enter Try.func20, Try.ntmps20
  go_upto_region 2 with fail
  have B1 : SlB w ((w.alloc (Obj.cells #[Value.string a, Value.string b] 44)).alloc (Obj.cells #[Value.int IntKind.u64 ((0 : Nat) : Int), Value.string { data := #[] }] 50)) a b := (Own.new w _ _).below ((Grw.refl _).alloc _).below (by simp)
  have N1 : NwAt w (((w.alloc (Obj.cells #[Value.string a, Value.string b] 44)).alloc (Obj.cells #[Value.int IntKind.u64 ((0 : Nat) : Int), Value.string { data := #[] }] 50)).alloc (Obj.cells #[Value.int IntKind.u64 ((0 : Nat) : Int), Value.string { data := #[] }] 50)) 0 { data := #[] } :=
    ⟨by have h := RecB.new (w.alloc (Obj.cells #[Value.string a, Value.string b] 44)) 0 { data := #[] }; rw [show (w.alloc (Obj.cells #[Value.string a, Value.string b] 44)).heap.size = w.heap.size + 1 by simp] at h; exact h.later ((Grw.refl _).alloc _).below,
     by have h := RecB.new ((w.alloc (Obj.cells #[Value.string a, Value.string b] 44)).alloc (Obj.cells #[Value.int IntKind.u64 ((0 : Nat) : Int), Value.string { data := #[] }] 50)) 0 { data := #[] }; rw [show ((w.alloc (Obj.cells #[Value.string a, Value.string b] 44)).alloc (Obj.cells #[Value.int IntKind.u64 ((0 : Nat) : Int), Value.string { data := #[] }] 50)).heap.size = w.heap.size + 1 + 1 by simp] at h; exact h,
     ((((Grw.refl w).alloc _).alloc _).alloc _).below⟩
  change NwAt w (((w.alloc (Obj.cells #[Value.string a, Value.string b] 44)).alloc (Obj.cells #[Value.int IntKind.u64 0, Value.string { data := #[] }] 50)).alloc (Obj.cells #[Value.int IntKind.u64 0, Value.string { data := #[] }] 50)) 0 { data := #[] } at N1
  have B2 : SlB w (((w.alloc (Obj.cells #[Value.string a, Value.string b] 44)).alloc (Obj.cells #[Value.int IntKind.u64 0, Value.string { data := #[] }] 50)).alloc (Obj.cells #[Value.int IntKind.u64 0, Value.string { data := #[] }] 50)) a b := Own.below B1 ((Grw.refl _).alloc _).below B1.lt
  generalize (((w.alloc (Obj.cells #[Value.string a, Value.string b] 44)).alloc (Obj.cells #[Value.int IntKind.u64 0, Value.string { data := #[] }] 50)).alloc (Obj.cells #[Value.int IntKind.u64 0, Value.string { data := #[] }] 50)) = W at *
  clear B1
  have HB2 := Lib.hid B2.own
  clear B2
  go_upto_region 3 with (refine load_slots rfl (.tmp 1) rfl w.heap.size 44 rfl HB2.out ?_)
  clear HB2
  go_loopw [14, 5, 7] (fun i at_ fo wr => (i = .int .i64 0 ∧ at_ = .int .i64 0 ∧ fo = .bool false ∧ NwAt w wr 0 { data := #[] }) ∨ (i = .int .i64 1 ∧ at_ = .int .i64 0 ∧ fo = .bool fa ∧ NwAt w wr na ra) ∨
      (i = .int .i64 2 ∧ at_ = .int .i64 p ∧ fo = .bool f ∧ NwAt w wr n t))
    (fun i _ _ _ => 2 - (intOf i).toNat)
  case atStart => exact .inl ⟨rfl, rfl, rfl, N1⟩
  case round =>
    clear N1
    rcases hrel with ⟨rfl, rfl, rfl, N1⟩ | ⟨rfl, rfl, rfl, N1⟩ | ⟨rfl, rfl, rfl, N1⟩
    · clear hpb
      cases fa
      · obtain ⟨rfl, rfl⟩ := za.out rfl
        go_wp2_with fail
        refine (hpa _).mono ?_
        rintro e w1 ⟨rfl, L1⟩
        have N2 := N1.later L1
        clear N1 L1 hpa
        go_upto_region 6 with fail
        have N3 := N2.later ((Grw.refl w1).alloc (.cells #[.int .u64 (0), .string { data := #[] }] 50)).below
        have R3 : RecB (w1.alloc (.cells #[.int .u64 (0), .string { data := #[] }] 50)) w1.heap.size (0) { data := #[] } := RecB.new w1 _ _
        clear N2
        generalize (w1.alloc (.cells #[.int .u64 (0), .string { data := #[] }] 50)) = w2 at *
        generalize w1.heap.size = r at *
        go_wp2
        go_roundw
        case rel => exact .inr (.inl ⟨rfl, rfl, rfl, N3⟩)
        case measure => simp [intOf]
      ·
        go_wp2_with fail
        refine (hpa _).mono ?_
        rintro e w1 ⟨rfl, L1⟩
        have N2 := N1.later L1
        clear N1 L1 hpa
        go_upto_region 6 with fail
        have N3 := N2.later ((Grw.refl w1).alloc (.cells #[.int .u64 (na : Int), .string ra] 50)).below
        have R3 : RecB (w1.alloc (.cells #[.int .u64 (na : Int), .string ra] 50)) w1.heap.size (na) ra := RecB.new w1 _ _
        clear N2
        generalize (w1.alloc (.cells #[.int .u64 (na : Int), .string ra] 50)) = w2 at *
        generalize w1.heap.size = r at *
        go_upto_region 7 with fail
        have D0 : w2.drew.cell? ⟨r, 0, none⟩ = some (.int .u64 (na : Int)) := R3.c0
        have D1 : w2.drew.cell? ⟨r, 1, none⟩ = some (.string ra) := R3.c1
        have N4 := N3.later ((Grw.refl w2).drew).below
        clear N3 R3
        go_still_tail 3, (by kernel_rfl)
        change wpList _ _ _ _ _ w2.drew
        generalize w2.drew = w3 at *
        have N5 := Lib.hid (N4.put na ra)
        go_wp2_with (refine store_drec rfl (.tmp 6) (.tmp 36) rfl (w.heap.size + 1 + 1) na ra rfl rfl N4.last ?_)
        go_roundw
        case rel => exact .inr (.inl ⟨rfl, rfl, rfl, N5.out⟩)
        case measure => simp [intOf]
    · clear hpa
      have zb := Lib.hid zb
      cases fb
      · obtain ⟨rfl, rfl⟩ := zb.out rfl
        go_wp2_with fail
        refine (hpb _).mono ?_
        rintro e w1 ⟨rfl, L1⟩
        have N2 := N1.later L1
        clear N1 L1 hpb
        go_upto_region 6 with fail
        have N3 := N2.later ((Grw.refl w1).alloc (.cells #[.int .u64 (0), .string { data := #[] }] 50)).below
        have R3 : RecB (w1.alloc (.cells #[.int .u64 (0), .string { data := #[] }] 50)) w1.heap.size (0) { data := #[] } := RecB.new w1 _ _
        clear N2
        generalize (w1.alloc (.cells #[.int .u64 (0), .string { data := #[] }] 50)) = w2 at *
        generalize w1.heap.size = r at *
        go_wp2
        go_roundw
        case rel => exact .inr (.inr ⟨rfl, by rw [← HE.out.1]; simp, by rw [← HE.out.2.2.2]; simp, by rw [← HE.out.2.1, ← HE.out.2.2.1]; simpa using N3⟩)
        case measure => simp [intOf]
      · cases fa
        ·
          go_wp2_with fail
          refine (hpb _).mono ?_
          rintro e w1 ⟨rfl, L1⟩
          have N2 := N1.later L1
          clear N1 L1 hpb
          go_upto_region 6 with fail
          have N3 := N2.later ((Grw.refl w1).alloc (.cells #[.int .u64 (nb : Int), .string rb] 50)).below
          have R3 : RecB (w1.alloc (.cells #[.int .u64 (nb : Int), .string rb] 50)) w1.heap.size (nb) rb := RecB.new w1 _ _
          clear N2
          generalize (w1.alloc (.cells #[.int .u64 (nb : Int), .string rb] 50)) = w2 at *
          generalize w1.heap.size = r at *
          go_upto_region 7 with fail
          have D0 : w2.drew.cell? ⟨r, 0, none⟩ = some (.int .u64 (nb : Int)) := R3.c0
          have D1 : w2.drew.cell? ⟨r, 1, none⟩ = some (.string rb) := R3.c1
          have N4 := N3.later ((Grw.refl w2).drew).below
          clear N3 R3
          go_still_tail 3, (by kernel_rfl)
          change wpList _ _ _ _ _ w2.drew
          generalize w2.drew = w3 at *
          have N5 := Lib.hid (N4.put nb rb)
          go_wp2_with (refine store_drec rfl (.tmp 6) (.tmp 36) rfl (w.heap.size + 1 + 1) nb rb rfl rfl N4.last ?_)
          go_roundw
          case rel => exact .inr (.inr ⟨rfl, by rw [← HE.out.1]; simp, by rw [← HE.out.2.2.2]; simp, by rw [← HE.out.2.1, ← HE.out.2.2.1]; simpa using N5.out⟩)
          case measure => simp [intOf]
        · by_cases hlt : na < nb
          · have ht : decide ((na : Int) < (nb : Int)) = true := by simp; exact hlt
            go_wp2_with fail
            refine (hpb _).mono ?_
            rintro e w1 ⟨rfl, L1⟩
            have N2 := N1.later L1
            clear N1 L1 hpb
            go_upto_region 6 with fail
            have N3 := N2.later ((Grw.refl w1).alloc (.cells #[.int .u64 (nb : Int), .string rb] 50)).below
            have R3 : RecB (w1.alloc (.cells #[.int .u64 (nb : Int), .string rb] 50)) w1.heap.size (nb) rb := RecB.new w1 _ _
            clear N2
            generalize (w1.alloc (.cells #[.int .u64 (nb : Int), .string rb] 50)) = w2 at *
            generalize w1.heap.size = r at *
            have e0 := R3.c0
            have e1 := N3.last.c0
            go_upto_region 7 with fail
            clear e0 e1
            have D0 : w2.drew.cell? ⟨r, 0, none⟩ = some (.int .u64 (nb : Int)) := R3.c0
            have D1 : w2.drew.cell? ⟨r, 1, none⟩ = some (.string rb) := R3.c1
            have N4 := N3.later ((Grw.refl w2).drew).below
            clear N3 R3
            go_still_tail 3, (by kernel_rfl)
            change wpList _ _ _ _ _ w2.drew
            generalize w2.drew = w3 at *
            have N5 := Lib.hid (N4.put nb rb)
            go_wp2_with (refine store_drec rfl (.tmp 6) (.tmp 36) rfl (w.heap.size + 1 + 1) nb rb rfl rfl N4.last ?_)
            go_roundw
            case rel => exact .inr (.inr ⟨rfl, by rw [← HE.out.1]; simp [hlt], by rw [← HE.out.2.2.2]; simp, by rw [← HE.out.2.1, ← HE.out.2.2.1]; simpa [hlt] using N5.out⟩)
            case measure => simp [intOf]
          · have ht : decide ((na : Int) < (nb : Int)) = false := by simp; omega
            go_wp2_with fail
            refine (hpb _).mono ?_
            rintro e w1 ⟨rfl, L1⟩
            have N2 := N1.later L1
            clear N1 L1 hpb
            go_upto_region 6 with fail
            have N3 := N2.later ((Grw.refl w1).alloc (.cells #[.int .u64 (nb : Int), .string rb] 50)).below
            have R3 : RecB (w1.alloc (.cells #[.int .u64 (nb : Int), .string rb] 50)) w1.heap.size (nb) rb := RecB.new w1 _ _
            clear N2
            generalize (w1.alloc (.cells #[.int .u64 (nb : Int), .string rb] 50)) = w2 at *
            generalize w1.heap.size = r at *
            have e0 := R3.c0
            have e1 := N3.last.c0
            go_wp2
            go_roundw
            case rel => exact .inr (.inr ⟨rfl, by rw [← HE.out.1]; simp [hlt], by rw [← HE.out.2.2.2]; simp, by rw [← HE.out.2.1, ← HE.out.2.2.1]; simpa [hlt] using N3⟩)
            case measure => simp [intOf]
    · clear hpa hpb
      go_upto_region 9 with fail
      have D0 : wr.cell? ⟨w.heap.size + 1 + 1, 0, none⟩ = some (.int .u64 (n : Int)) := N1.last.c0
      have D1 : wr.cell? ⟨w.heap.size + 1 + 1, 1, none⟩ = some (.string t) := N1.last.c1
      have E0 : wr.cell? ⟨w.heap.size + 1, 0, none⟩ = some (.int .u64 ((0 : Nat) : Int)) := N1.res.c0
      have E1 : wr.cell? ⟨w.heap.size + 1, 1, none⟩ = some (.string { data := #[] }) := N1.res.c1
      have F0 : wr.frozen? ⟨w.heap.size + 1, 0, none⟩ = false := N1.res.own.free 0
      have F1 : wr.frozen? ⟨w.heap.size + 1, 1, none⟩ = false := N1.res.own.free 1
      have N4 := Lib.hid (N1.later ((Grw.refl wr).drew).below)
      clear N1
      go_region
      all_goals
        go_wp2
        (try simp only [Exit.inBlock, Exit.then])
        have RR : RecB ((wr.setCell ⟨w.heap.size + 1, 0, none⟩ (.int .u64 (n : Int))).setCell ⟨w.heap.size + 1, 1, none⟩ (.string t)).drew (w.heap.size + 1) n t := (N4.out.res.own.set 0 (.int .u64 (n : Int))).set 1 (.string t)
        have LL := (N4.out.below.setCell (p := ⟨w.heap.size + 1, 0, none⟩) (by show _ ≤ w.heap.size + 1; omega) (.int .u64 (n : Int))).setCell (p := ⟨w.heap.size + 1, 1, none⟩) (by show _ ≤ w.heap.size + 1; omega) (.string t)
        exact bodyPost_ret (results_three_drec rfl _ _ (w.heap.size + 1) rfl RR) rfl ⟨rfl, LL⟩
end Go.Proofs.Ytimdemidnleiiaa
