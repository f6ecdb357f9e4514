/- The document's disk: newest, put, Write, Tear, Read. -/
import Derived.Test.YtimdemidnleiiaaDiskRef
set_option linter.unusedVariables false
set_option linter.unusedSimpArgs false
namespace Go.Proofs.Ytimdemidnleiiaa
open Go.RowKit Go.Sort

def refAt (d : Dk) : Int := if sndB d = true then 2 else if wholeB d.a = true then 1 else 0
theorem refAt_one (d : Dk) : refAt d = 1 ↔ nextB d = true := by
  unfold refAt nextB
  cases sndB d <;> cases wholeB d.a <;> simp
theorem refAt_pos (d : Dk) : decide (0 < refAt d) = fndB d := by
  unfold refAt
  cases h : sndB d
  · rw [if_neg (by decide)]
    unfold sndB at h
    unfold fndB
    cases ha : wholeB d.a
    · rw [ha] at h
      have hb : wholeB d.b = false := by simpa using h
      rw [hb]; rfl
    · rfl
  · unfold sndB at h
    unfold fndB
    have hb : wholeB d.b = true := by
      cases hb : wholeB d.b
      · rw [hb] at h; cases h
      · rfl
    rw [hb]; simp
theorem rdisk_size : (Try.prog.info? 28).map (·.size) = some 2 := by kernel_rfl
theorem rdisk_one (a b : ByteArray) : (#[.string a, .string b] : Array Value).all (·.oneCell') = true := by simp [Value.oneCell']
/-- A disk of the document in a block. -/
def RdB (w : World) (g : Nat) (a b : ByteArray) : Prop := Own w g 28 #[.string a, .string b]
theorem RdB.own {w : World} {g : Nat} {a b : ByteArray} (h : RdB w g a b) : Own w g 28 #[.string a, .string b] := h
theorem RdB.new (w : World) (a b : ByteArray) : RdB (w.alloc (.cells #[.string a, .string b] 28)) w.heap.size a b := Own.new w _ _
theorem RdB.lt {w : World} {g : Nat} {a b : ByteArray} (h : RdB w g a b) : g < w.heap.size := h.own.lt
theorem RdB.later {w w' : World} {g : Nat} {a b : ByteArray} (h : RdB w g a b) (hb : Below w.heap.size w w') : RdB w' g a b := h.own.below hb h.lt
theorem RdB.put {w : World} {g : Nat} {a b : ByteArray} (h : RdB w g a b) (a' b' : ByteArray) : RdB (w.setRow g #[.string a', .string b']) g a' b' := setRow_heap _ _ _ _ _ _ h
theorem RdB.set0 {w : World} {g : Nat} {a b : ByteArray} (h : RdB w g a b) (x : ByteArray) : RdB (w.setCell ⟨g, 0, none⟩ (.string x)) g x b := h.own.set 0 (.string x)
theorem RdB.set1 {w : World} {g : Nat} {a b : ByteArray} (h : RdB w g a b) (x : ByteArray) : RdB (w.setCell ⟨g, 1, none⟩ (.string x)) g a x := h.own.set 1 (.string x)
theorem RdB.other {w : World} {g : Nat} {a b : ByteArray} (h : RdB w g a b) (k j : Nat) (v : Value) (hk : g ≠ k) : RdB (w.setCell ⟨k, j, none⟩ v) g a b := h.own.set_other k j v hk
theorem load_rd {ops : Array Oper} {rest : List Oper} {o : Oper} {A : Act} {w : World} {Q : Exit → Act → World → Prop} (hgd : o.guard = none) (x : Operand) (ho : o.op = .load 28 x)
    (g : Nat) (hx : A.eval x = .pointer (some ⟨g, 0, none⟩)) {a b : ByteArray} (hg : RdB w g a b)
    (h : wpList Try.prog ops Q rest (A.put o.dst (.agg #[.string a, .string b])) w) : wpList Try.prog ops Q (o :: rest) A w :=
  wpList_load_row hgd 28 x ho g hx 28 _ _ _ hg Try.underlying28 rfl rdisk_size h
theorem store_rd {ops : Array Oper} {rest : List Oper} {o : Oper} {A : Act} {w : World} {Q : Exit → Act → World → Prop} (hgd : o.guard = none) (x y : Operand) (ho : o.op = .store 28 x y)
    (g : Nat) (a b : ByteArray) (hx : A.eval x = .pointer (some ⟨g, 0, none⟩)) (hy : A.eval y = .agg #[.string a, .string b])
    {a0 b0 : ByteArray} (hg : RdB w g a0 b0)
    (h : wpList Try.prog ops Q rest (A.put o.dst undef) (w.setRow g #[.string a, .string b])) : wpList Try.prog ops Q (o :: rest) A w :=
  wpList_store_row hgd 28 x y ho g _ hx hy 28 _ hg rdisk_size rfl (rdisk_one a b) h
theorem results_rd {fn : Func} {p u : Tmp} (h : fn.results = #[.cell p 28, .tmp u]) (tmps : Array Value) (w : World) (g : Nat) {a b : ByteArray}
    (hp : tmps.getD p undef = .pointer (some ⟨g, 0, none⟩)) (hg : RdB w g a b) :
    (results fn tmps).run Try.prog w = .ok (.tuple #[.agg #[.string a, .string b], tmps.getD u undef]) w := by
  rw [results_cell_tmp h, hp]
  have hl := run_loadVar_row (P := Try.prog) w g 28 28 #[.string a, .string b] (0, 0) _ hg Try.underlying28 rfl rdisk_size
  simp [asAddr, hl, Result.andThen]

set_option maxHeartbeats 2000000 in
theorem rnewest (d : Dk) (hd : d.ok) (w : World) :
    Calls Try.prog 21 #[.agg #[.string d.a, .string d.b]] w fun e w' => e = .returned (.tuple #[.int .i64 (refAt d), .int .u64 (numD d : Nat), .string (recD d)]) ∧ Below w.heap.size w w' := by
  obtain ⟨a, b⟩ := d
  have hpa := fun W => rwhole a W (by have := hd.a; simp only at this; omega)
  have hpb := fun W => rwhole b W (by have := hd.b; simp only at this; omega)
  have hna := numS_lt a
  have hnb := numS_lt b
  have HS : sndB ⟨a, b⟩ = (wholeB b && (!wholeB a || decide (numS a < numS b))) := rfl
  have HN : numD ⟨a, b⟩ = if sndB ⟨a, b⟩ = true then numS b else numS a := rfl
  have HR : recD ⟨a, b⟩ = if sndB ⟨a, b⟩ = true then recS b else recS a := rfl
  have HA : refAt ⟨a, b⟩ = if sndB ⟨a, b⟩ = true then 2 else if wholeB a = true then 1 else 0 := rfl
  have za : wholeB a = false → numS a = 0 ∧ recS a = { data := #[] } := fun h => ⟨by unfold numS; rw [h]; rfl, by unfold recS; rw [h]; rfl⟩
  clear hd
  simp only
  rw [HN, HR, HA, HS]
  clear HN HR HA HS
  generalize numS a = na at *
  generalize numS b = nb at *
  generalize recS a = ra at *
  generalize recS b = rb at *
  generalize wholeB a = fa at *
  generalize wholeB b = fb at *
  generalize hp : (if (fb && (!fa || decide (na < nb))) = true then (2 : Int) else if fa = true then 1 else 0) = p
  generalize hn : (if (fb && (!fa || decide (na < nb))) = true then nb else na) = n
  generalize ht : (if (fb && (!fa || decide (na < nb))) = true then rb else ra) = t
  cases fb
  · cases fa
    · obtain ⟨rfl, rfl⟩ := za rfl
      clear za
      obtain rfl : (0 : Int) = p := by rw [← hp]; simp
      obtain rfl : 0 = n := by rw [← hn]; simp
      obtain rfl : ({ data := #[] } : ByteArray) = t := by rw [← ht]; simp
      clear hp hn ht
      go_enter Try.func21, Try.ntmps21
      go_upto_region 1 with fail
      have B1 : RdB (w.alloc (.cells #[.string a, .string b] 28)) w.heap.size a b := RdB.new w a b
      have L0 : Below w.heap.size w (w.alloc (.cells #[.string a, .string b] 28)) := ((Grw.refl w).alloc _).below
      generalize (w.alloc (.cells #[.string a, .string b] 28)) = W at *
      have c0 := B1.own.at_ 0 _ rfl
      go_wp2_with fail
      refine (hpa _).mono ?_
      rintro e w1 ⟨rfl, L1⟩
      have c1 := (B1.later L1).own.at_ 1 _ rfl
      have L2 := L0.trans (L1.mono L0.size)
      clear hpa c0 B1 L0 L1
      go_wp2_with fail
      refine (hpb _).mono ?_
      rintro e w2 ⟨rfl, L3⟩
      have HL := Lib.hid (L2.trans (L3.mono L2.size))
      clear hpb c1 L2 L3
      go_wp2
      (try simp only [Exit.inBlock, Exit.then])
      exact bodyPost_ret (results_tmp3 rfl _ _ _) rfl ⟨rfl, HL.out⟩
    · clear za
      obtain rfl : (1 : Int) = p := by rw [← hp]; simp
      obtain rfl : na = n := by rw [← hn]; simp
      obtain rfl : ra = t := by rw [← ht]; simp
      clear hp hn ht
      go_enter Try.func21, Try.ntmps21
      go_upto_region 1 with fail
      have B1 : RdB (w.alloc (.cells #[.string a, .string b] 28)) w.heap.size a b := RdB.new w a b
      have L0 : Below w.heap.size w (w.alloc (.cells #[.string a, .string b] 28)) := ((Grw.refl w).alloc _).below
      generalize (w.alloc (.cells #[.string a, .string b] 28)) = W at *
      have c0 := B1.own.at_ 0 _ rfl
      go_wp2_with fail
      refine (hpa _).mono ?_
      rintro e w1 ⟨rfl, L1⟩
      have c1 := (B1.later L1).own.at_ 1 _ rfl
      have L2 := L0.trans (L1.mono L0.size)
      clear hpa c0 B1 L0 L1
      go_wp2_with fail
      refine (hpb _).mono ?_
      rintro e w2 ⟨rfl, L3⟩
      have HL := Lib.hid (L2.trans (L3.mono L2.size))
      clear hpb c1 L2 L3
      go_wp2
      (try simp only [Exit.inBlock, Exit.then])
      exact bodyPost_ret (results_tmp3 rfl _ _ _) rfl ⟨rfl, HL.out⟩
  · cases fa
    · clear za
      obtain rfl : (2 : Int) = p := by rw [← hp]; simp
      obtain rfl : nb = n := by rw [← hn]; simp
      obtain rfl : rb = t := by rw [← ht]; simp
      clear hp hn ht
      go_enter Try.func21, Try.ntmps21
      go_upto_region 1 with fail
      have B1 : RdB (w.alloc (.cells #[.string a, .string b] 28)) w.heap.size a b := RdB.new w a b
      have L0 : Below w.heap.size w (w.alloc (.cells #[.string a, .string b] 28)) := ((Grw.refl w).alloc _).below
      generalize (w.alloc (.cells #[.string a, .string b] 28)) = W at *
      have c0 := B1.own.at_ 0 _ rfl
      go_wp2_with fail
      refine (hpa _).mono ?_
      rintro e w1 ⟨rfl, L1⟩
      have c1 := (B1.later L1).own.at_ 1 _ rfl
      have L2 := L0.trans (L1.mono L0.size)
      clear hpa c0 B1 L0 L1
      go_wp2_with fail
      refine (hpb _).mono ?_
      rintro e w2 ⟨rfl, L3⟩
      have HL := Lib.hid (L2.trans (L3.mono L2.size))
      clear hpb c1 L2 L3
      go_wp2
      (try simp only [Exit.inBlock, Exit.then])
      exact bodyPost_ret (results_tmp3 rfl _ _ _) rfl ⟨rfl, HL.out⟩
    · clear za
      by_cases hlt : na < nb
      · have hd : decide ((nb : Int) ≤ (na : Int)) = false := by simp; omega
        obtain rfl : (2 : Int) = p := by rw [← hp]; simp [hlt]
        obtain rfl : nb = n := by rw [← hn]; simp [hlt]
        obtain rfl : rb = t := by rw [← ht]; simp [hlt]
        clear hp hn ht
        go_enter Try.func21, Try.ntmps21
        go_upto_region 1 with fail
        have B1 : RdB (w.alloc (.cells #[.string a, .string b] 28)) w.heap.size a b := RdB.new w a b
        have L0 : Below w.heap.size w (w.alloc (.cells #[.string a, .string b] 28)) := ((Grw.refl w).alloc _).below
        generalize (w.alloc (.cells #[.string a, .string b] 28)) = W at *
        have c0 := B1.own.at_ 0 _ rfl
        go_wp2_with fail
        refine (hpa _).mono ?_
        rintro e w1 ⟨rfl, L1⟩
        have c1 := (B1.later L1).own.at_ 1 _ rfl
        have L2 := L0.trans (L1.mono L0.size)
        clear hpa c0 B1 L0 L1
        go_wp2_with fail
        refine (hpb _).mono ?_
        rintro e w2 ⟨rfl, L3⟩
        have HL := Lib.hid (L2.trans (L3.mono L2.size))
        clear hpb c1 L2 L3
        go_wp2
        (try simp only [Exit.inBlock, Exit.then])
        exact bodyPost_ret (results_tmp3 rfl _ _ _) rfl ⟨rfl, HL.out⟩
      · have hd : decide ((nb : Int) ≤ (na : Int)) = true := by simp; omega
        obtain rfl : (1 : Int) = p := by rw [← hp]; simp [hlt]
        obtain rfl : na = n := by rw [← hn]; simp [hlt]
        obtain rfl : ra = t := by rw [← ht]; simp [hlt]
        clear hp hn ht
        go_enter Try.func21, Try.ntmps21
        go_upto_region 1 with fail
        have B1 : RdB (w.alloc (.cells #[.string a, .string b] 28)) w.heap.size a b := RdB.new w a b
        have L0 : Below w.heap.size w (w.alloc (.cells #[.string a, .string b] 28)) := ((Grw.refl w).alloc _).below
        generalize (w.alloc (.cells #[.string a, .string b] 28)) = W at *
        have c0 := B1.own.at_ 0 _ rfl
        go_wp2_with fail
        refine (hpa _).mono ?_
        rintro e w1 ⟨rfl, L1⟩
        have c1 := (B1.later L1).own.at_ 1 _ rfl
        have L2 := L0.trans (L1.mono L0.size)
        clear hpa c0 B1 L0 L1
        go_wp2_with fail
        refine (hpb _).mono ?_
        rintro e w2 ⟨rfl, L3⟩
        have HL := Lib.hid (L2.trans (L3.mono L2.size))
        clear hpb c1 L2 L3
        go_wp2
        (try simp only [Exit.inBlock, Exit.then])
        exact bodyPost_ret (results_tmp3 rfl _ _ _) rfl ⟨rfl, HL.out⟩

/-- What 'put' leaves. -/
def rputD (d : Dk) (s : ByteArray) (keep : Int) : Dk := if keep < 0 then slotD2 d (bytesS (nextN d) s) else slotD2 d (tornS (bytesS (nextN d) s) keep)
def eightS (m : Nat) : ByteArray := ⟨(pb 8 m).toArray⟩
theorem eightS_size (m : Nat) : (eightS m).size = 8 := by
  show (pb 8 m).toArray.size = 8
  rw [List.size_toArray, pb_length]
theorem rput8 (m : Nat) (hm : m < 18446744073709551616) (W : World) : Calls Try.prog 26 #[.string { data := #[] }, .int .u64 (m : Int), .int .i64 8] W fun e w' => e = .returned (.string (eightS m)) ∧ Below W.heap.size W w' :=
  refPut_any { data := #[] } (eightS m) m 8 8 W (by decide) hm (by decide) (by decide) (by unfold eightS; simp)
theorem rput2 (m n : Nat) (hn : n < 18446744073709551616) (W : World) : Calls Try.prog 26 #[.string (eightS m), .int .u64 (n : Int), .int .i64 2] W fun e w' => e = .returned (.string (headS m n)) ∧ Below W.heap.size W w' :=
  refPut_any (eightS m) (headS m n) n 2 2 W (by rw [eightS_size]; decide) hn (by decide) (by decide) (by rw [headS_list]; unfold eightS; simp)
theorem rput_is (d : Dk) (s : ByteArray) (keep : Int) (m : Nat) (hm : nextN d = m) : rputD d s keep = if keep < 0 then (if refAt d = 1 then ⟨d.a, bytesS m s⟩ else ⟨bytesS m s, d.b⟩) else (if refAt d = 1 then ⟨d.a, tornS (bytesS m s) keep⟩ else ⟨tornS (bytesS m s) keep, d.b⟩) := by
  have h : ∀ x, slotD2 d x = if refAt d = 1 then ⟨d.a, x⟩ else ⟨x, d.b⟩ := fun x => by
    unfold slotD2
    cases hb : nextB d
    · rw [if_neg (by decide), if_neg (by rw [refAt_one, hb]; decide)]
    · rw [if_pos rfl, if_pos ((refAt_one d).2 hb)]
  unfold rputD
  rw [h, h, hm]
set_option maxHeartbeats 4000000 in
theorem rput (d : Dk) (hd : d.ok) (s : ByteArray) (keep : Int) (w : World) (hs : s.size ≤ 8192) (hk0 : -9223372036854775808 ≤ keep) (hk1 : keep ≤ 9223372036854775807) :
    Calls Try.prog 19 #[.agg #[.string d.a, .string d.b], .string s, .int .i64 keep] w fun e w' => e = .returned (.agg #[.string (rputD d s keep).a, .string (rputD d s keep).b]) ∧ Below w.heap.size w w' := by
  have hn := fun W => rnewest d hd W
  have hu := u64_next (numD_lt d)
  have hnl := nextN_lt d
  obtain ⟨m, hm⟩ : ∃ m, nextN d = m := ⟨_, rfl⟩
  have hu2 : IntKind.u64.wrap ((numD d : Int) + 1) = (m : Int) := by rw [hu, ← hm]; unfold nextN; rfl
  have HRP := Lib.hid (rput_is d s keep m hm)
  rw [hm] at hnl
  clear hu hm hd
  have hxs := bytesS_size m s
  have hh := headS_size m s.size
  have hse : ∀ W, Calls Try.prog 25 #[.string (headS m s.size ++ s)] W fun e w' => e = .returned (.string (bytesS m s)) ∧ Grw W w' := fun W => seal_ref _ W (by rw [ByteArray.size_append, hh]; omega)
  have hp1 := fun W => rput8 m hnl W
  have hp2 := fun W => rput2 m s.size (by omega) W
  generalize bytesS m s = x at *
  have hx1 : 1 ≤ x.size := by omega
  have hx2 : x.size ≤ 8206 := by omega
  clear hxs
  generalize headS m s.size = z at *
  generalize eightS m = y at *
  generalize numD d = n at *
  generalize recD d = t at *
  generalize refAt d = p at *
  generalize hR : rputD d s keep = R at *
  obtain ⟨a, b⟩ := d
  obtain ⟨ra, rb⟩ := R
  simp only at hn HRP ⊢
  go_enter Try.func19, Try.ntmps19
  go_upto_region 1 with fail
  have B1 : RdB ((w.alloc (.cells #[.string a, .string b] 28)).alloc (.cells #[.string { data := #[] }, .string { data := #[] }] 28)) w.heap.size a b := (RdB.new w a b).later ((Grw.refl _).alloc _).below
  have C1 : RdB ((w.alloc (.cells #[.string a, .string b] 28)).alloc (.cells #[.string { data := #[] }, .string { data := #[] }] 28)) (w.heap.size + 1) { data := #[] } { data := #[] } := by
    have h := RdB.new (w.alloc (.cells #[.string a, .string b] 28)) { data := #[] } { data := #[] }
    rw [show (w.alloc (.cells #[.string a, .string b] 28)).heap.size = w.heap.size + 1 by simp] at h
    exact h
  have L1 : Below w.heap.size w ((w.alloc (.cells #[.string a, .string b] 28)).alloc (.cells #[.string { data := #[] }, .string { data := #[] }] 28)) := (((Grw.refl w).alloc _).alloc _).below
  generalize ((w.alloc (.cells #[.string a, .string b] 28)).alloc (.cells #[.string { data := #[] }, .string { data := #[] }] 28)) = W at *
  go_upto_region 2 with (first | (refine load_rd rfl (.tmp 3) rfl w.heap.size rfl B1 ?_) | (go_at_call 21; refine (hn _).mono ?_; rintro e w1 ⟨rfl, L2⟩))
  have B2 := B1.later L2
  have C2 := C1.later L2
  have L3 := L1.trans (L2.mono L1.size)
  clear B1 C1 L1 L2 hn
  go_wp2_with fail
  refine (hp1 _).mono ?_
  rintro e w2 ⟨rfl, L4⟩
  have B3 := B2.later L4
  have C3 := C2.later L4
  have L5 := L3.trans (L4.mono L3.size)
  clear B2 C2 L3 L4 hp1
  go_wp2_with fail
  refine (hp2 _).mono ?_
  rintro e w3 ⟨rfl, L6⟩
  have B4 := B3.later L6
  have C4 := C3.later L6
  have L7 := L5.trans (L6.mono L5.size)
  clear B3 C3 L5 L6 hp2
  go_wp2_with fail
  refine (hse _).mono ?_
  rintro e w4 ⟨rfl, G8⟩
  have B5 := B4.later G8.below
  have C5 := C4.later G8.below
  have L8 := L7.trans (G8.below.mono L7.size)
  clear B4 C4 L7 G8 hse
  have f0 := B5.own.free 0
  have f1 := B5.own.free 1
  have c0 := B5.own.at_ 0 _ rfl
  have c1 := B5.own.at_ 1 _ rfl
  by_cases hk : keep < 0
  · have hkd : decide (0 ≤ keep) = false := by simp; omega
    by_cases hp : p = 1
    · subst hp
      have HX : Hid ((⟨ra, rb⟩ : Dk) = ⟨a, x⟩) := Lib.hid (by rw [HRP.out, if_pos hk, if_pos rfl])
      have B6 := B5.set1 (x)
      have C6 := C5.other w.heap.size 1 (.string (x)) (by omega)
      have L9 := L8.setCell (p := ⟨w.heap.size, 1, none⟩) (Nat.le_refl _) (.string (x))
      have HE : Hid ((⟨ra, rb⟩ : Dk) = ⟨a, x⟩) := Lib.hid (HX.out)
      clear B5 C5 L8
      go_upto_region 10 with fail
      clear c0 c1 f0 f1
      generalize (w4.setCell ⟨w.heap.size, 1, none⟩ (.string (x))) = w5 at *
      have HB := Lib.hid (dbelowRow L9 (w.heap.size + 1) (by omega) #[.string (a), .string (x)])
      go_wp2_with (first | (refine load_rd rfl (.tmp 3) rfl w.heap.size rfl B6 ?_) | (refine store_rd rfl (.tmp 6) (.tmp 46) rfl (w.heap.size + 1) (a) (x) rfl rfl C6 ?_))
      (try simp only [Exit.inBlock, Exit.then])
      obtain ⟨h1, h2⟩ := Dk.mk.inj HE.out
      subst h1 h2
      exact bodyPost_ret (results_cell_row rfl _ _ (w.heap.size + 1) 28 _ (0, 0) _ rfl (C6.put _ _) Try.underlying28 rfl rdisk_size) rfl ⟨rfl, HB.out⟩
    · have HX : Hid ((⟨ra, rb⟩ : Dk) = ⟨x, b⟩) := Lib.hid (by rw [HRP.out, if_pos hk, if_neg hp])
      have B6 := B5.set0 (x)
      have C6 := C5.other w.heap.size 0 (.string (x)) (by omega)
      have L9 := L8.setCell (p := ⟨w.heap.size, 0, none⟩) (Nat.le_refl _) (.string (x))
      have HE : Hid ((⟨ra, rb⟩ : Dk) = ⟨x, b⟩) := Lib.hid (HX.out)
      clear B5 C5 L8
      go_upto_region 10 with fail
      clear c0 c1 f0 f1
      generalize (w4.setCell ⟨w.heap.size, 0, none⟩ (.string (x))) = w5 at *
      have HB := Lib.hid (dbelowRow L9 (w.heap.size + 1) (by omega) #[.string (x), .string (b)])
      go_wp2_with (first | (refine load_rd rfl (.tmp 3) rfl w.heap.size rfl B6 ?_) | (refine store_rd rfl (.tmp 6) (.tmp 46) rfl (w.heap.size + 1) (x) (b) rfl rfl C6 ?_))
      (try simp only [Exit.inBlock, Exit.then])
      obtain ⟨h1, h2⟩ := Dk.mk.inj HE.out
      subst h1 h2
      exact bodyPost_ret (results_cell_row rfl _ _ (w.heap.size + 1) 28 _ (0, 0) _ rfl (C6.put _ _) Try.underlying28 rfl rdisk_size) rfl ⟨rfl, HB.out⟩
  · have hkd : decide (0 ≤ keep) = true := by simp; omega
    obtain ⟨q, rfl⟩ := Int.eq_ofNat_of_zero_le (show 0 ≤ keep by omega)
    obtain ⟨y, hy⟩ : ∃ y : Nat, (x.size : Int) - 1 = (y : Int) := ⟨x.size - 1, by omega⟩
    have hyw : IntKind.i64.wrap (y : Int) = (y : Int) := by rw [IntKind.wrap_i64]; omega
    by_cases hq : y < q
    · have hq1 : decide ((y : Int) < (q : Int)) = true := by simp; exact hq
      have hyl : y ≤ x.size := by omega
      have HT : Hid (tornS x (q : Int) = x.extract 0 y) := Lib.hid (by unfold tornS keepN; congr 1; omega)
      by_cases hp : p = 1
      · subst hp
        have HX : Hid ((⟨ra, rb⟩ : Dk) = ⟨a, x.extract 0 y⟩) := Lib.hid (by rw [HRP.out, if_neg hk, HT.out, if_pos rfl])
        have B6 := B5.set1 (x.extract 0 y)
        have C6 := C5.other w.heap.size 1 (.string (x.extract 0 y)) (by omega)
        have L9 := L8.setCell (p := ⟨w.heap.size, 1, none⟩) (Nat.le_refl _) (.string (x.extract 0 y))
        have HE : Hid ((⟨ra, rb⟩ : Dk) = ⟨a, x.extract 0 y⟩) := Lib.hid (HX.out)
        clear B5 C5 L8
        go_upto_region 10 with fail
        clear c0 c1 f0 f1
        generalize (w4.setCell ⟨w.heap.size, 1, none⟩ (.string (x.extract 0 y))) = w5 at *
        have HB := Lib.hid (dbelowRow L9 (w.heap.size + 1) (by omega) #[.string (a), .string (x.extract 0 y)])
        go_wp2_with (first | (refine load_rd rfl (.tmp 3) rfl w.heap.size rfl B6 ?_) | (refine store_rd rfl (.tmp 6) (.tmp 46) rfl (w.heap.size + 1) (a) (x.extract 0 y) rfl rfl C6 ?_))
        (try simp only [Exit.inBlock, Exit.then])
        obtain ⟨h1, h2⟩ := Dk.mk.inj HE.out
        subst h1 h2
        exact bodyPost_ret (results_cell_row rfl _ _ (w.heap.size + 1) 28 _ (0, 0) _ rfl (C6.put _ _) Try.underlying28 rfl rdisk_size) rfl ⟨rfl, HB.out⟩
      · have HX : Hid ((⟨ra, rb⟩ : Dk) = ⟨x.extract 0 y, b⟩) := Lib.hid (by rw [HRP.out, if_neg hk, HT.out, if_neg hp])
        have B6 := B5.set0 (x.extract 0 y)
        have C6 := C5.other w.heap.size 0 (.string (x.extract 0 y)) (by omega)
        have L9 := L8.setCell (p := ⟨w.heap.size, 0, none⟩) (Nat.le_refl _) (.string (x.extract 0 y))
        have HE : Hid ((⟨ra, rb⟩ : Dk) = ⟨x.extract 0 y, b⟩) := Lib.hid (HX.out)
        clear B5 C5 L8
        go_upto_region 10 with fail
        clear c0 c1 f0 f1
        generalize (w4.setCell ⟨w.heap.size, 0, none⟩ (.string (x.extract 0 y))) = w5 at *
        have HB := Lib.hid (dbelowRow L9 (w.heap.size + 1) (by omega) #[.string (x.extract 0 y), .string (b)])
        go_wp2_with (first | (refine load_rd rfl (.tmp 3) rfl w.heap.size rfl B6 ?_) | (refine store_rd rfl (.tmp 6) (.tmp 46) rfl (w.heap.size + 1) (x.extract 0 y) (b) rfl rfl C6 ?_))
        (try simp only [Exit.inBlock, Exit.then])
        obtain ⟨h1, h2⟩ := Dk.mk.inj HE.out
        subst h1 h2
        exact bodyPost_ret (results_cell_row rfl _ _ (w.heap.size + 1) 28 _ (0, 0) _ rfl (C6.put _ _) Try.underlying28 rfl rdisk_size) rfl ⟨rfl, HB.out⟩
    · have hq1 : decide ((y : Int) < (q : Int)) = false := by simp; omega
      have hyl : q ≤ x.size := by omega
      have HT : Hid (tornS x (q : Int) = x.extract 0 q) := Lib.hid (by unfold tornS keepN; congr 1; omega)
      by_cases hp : p = 1
      · subst hp
        have HX : Hid ((⟨ra, rb⟩ : Dk) = ⟨a, x.extract 0 q⟩) := Lib.hid (by rw [HRP.out, if_neg hk, HT.out, if_pos rfl])
        have B6 := B5.set1 (x.extract 0 q)
        have C6 := C5.other w.heap.size 1 (.string (x.extract 0 q)) (by omega)
        have L9 := L8.setCell (p := ⟨w.heap.size, 1, none⟩) (Nat.le_refl _) (.string (x.extract 0 q))
        have HE : Hid ((⟨ra, rb⟩ : Dk) = ⟨a, x.extract 0 q⟩) := Lib.hid (HX.out)
        clear B5 C5 L8
        go_upto_region 10 with fail
        clear c0 c1 f0 f1
        generalize (w4.setCell ⟨w.heap.size, 1, none⟩ (.string (x.extract 0 q))) = w5 at *
        have HB := Lib.hid (dbelowRow L9 (w.heap.size + 1) (by omega) #[.string (a), .string (x.extract 0 q)])
        go_wp2_with (first | (refine load_rd rfl (.tmp 3) rfl w.heap.size rfl B6 ?_) | (refine store_rd rfl (.tmp 6) (.tmp 46) rfl (w.heap.size + 1) (a) (x.extract 0 q) rfl rfl C6 ?_))
        (try simp only [Exit.inBlock, Exit.then])
        obtain ⟨h1, h2⟩ := Dk.mk.inj HE.out
        subst h1 h2
        exact bodyPost_ret (results_cell_row rfl _ _ (w.heap.size + 1) 28 _ (0, 0) _ rfl (C6.put _ _) Try.underlying28 rfl rdisk_size) rfl ⟨rfl, HB.out⟩
      · have HX : Hid ((⟨ra, rb⟩ : Dk) = ⟨x.extract 0 q, b⟩) := Lib.hid (by rw [HRP.out, if_neg hk, HT.out, if_neg hp])
        have B6 := B5.set0 (x.extract 0 q)
        have C6 := C5.other w.heap.size 0 (.string (x.extract 0 q)) (by omega)
        have L9 := L8.setCell (p := ⟨w.heap.size, 0, none⟩) (Nat.le_refl _) (.string (x.extract 0 q))
        have HE : Hid ((⟨ra, rb⟩ : Dk) = ⟨x.extract 0 q, b⟩) := Lib.hid (HX.out)
        clear B5 C5 L8
        go_upto_region 10 with fail
        clear c0 c1 f0 f1
        generalize (w4.setCell ⟨w.heap.size, 0, none⟩ (.string (x.extract 0 q))) = w5 at *
        have HB := Lib.hid (dbelowRow L9 (w.heap.size + 1) (by omega) #[.string (x.extract 0 q), .string (b)])
        go_wp2_with (first | (refine load_rd rfl (.tmp 3) rfl w.heap.size rfl B6 ?_) | (refine store_rd rfl (.tmp 6) (.tmp 46) rfl (w.heap.size + 1) (x.extract 0 q) (b) rfl rfl C6 ?_))
        (try simp only [Exit.inBlock, Exit.then])
        obtain ⟨h1, h2⟩ := Dk.mk.inj HE.out
        subst h1 h2
        exact bodyPost_ret (results_cell_row rfl _ _ (w.heap.size + 1) 28 _ (0, 0) _ rfl (C6.put _ _) Try.underlying28 rfl rdisk_size) rfl ⟨rfl, HB.out⟩

set_option maxHeartbeats 2000000 in
theorem rwrite (d : Dk) (hd : d.ok) (s : ByteArray) (w : World) (hsz : s.size ≤ maxLen) :
    Calls Try.prog 12 #[.agg #[.string d.a, .string d.b], .string s] w fun e w' => e = .returned (.tuple #[.agg #[.string (writeD d s).a, .string (writeD d s).b], .int .i64 (codeD s)]) ∧ Below w.heap.size w w' := by
  unfold maxLen at hsz
  by_cases hs : s.size ≤ 8192
  · have hc : codeD s = 0 := by unfold codeD; rw [if_pos hs]
    have hp := fun W => rput d hd s (-1) W hs (by decide) (by decide)
    have hw : rputD d s (-1) = writeD d s := by unfold rputD writeD; rw [if_pos (by decide), if_pos hs]
    rw [hw] at hp
    rw [hc]
    have ht : ¬ (8192 : Int) < (s.size : Int) := by omega
    clear hc hw hd hs
    generalize (writeD d s).a = x at *
    generalize (writeD d s).b = y at *
    obtain ⟨a, b⟩ := d
    simp only at *
    go_enter Try.func12, Try.ntmps12
    go_upto_region 1 with fail
    have B1 : RdB ((w.alloc (.cells #[.string a, .string b] 28)).alloc (.cells #[.string { data := #[] }, .string { data := #[] }] 28)) w.heap.size a b := (RdB.new w a b).later ((Grw.refl _).alloc _).below
    have C1 : RdB ((w.alloc (.cells #[.string a, .string b] 28)).alloc (.cells #[.string { data := #[] }, .string { data := #[] }] 28)) (w.heap.size + 1) { data := #[] } { data := #[] } := by
      have h := RdB.new (w.alloc (.cells #[.string a, .string b] 28)) { data := #[] } { data := #[] }
      rw [show (w.alloc (.cells #[.string a, .string b] 28)).heap.size = w.heap.size + 1 by simp] at h
      exact h
    have L1 : Below w.heap.size w ((w.alloc (.cells #[.string a, .string b] 28)).alloc (.cells #[.string { data := #[] }, .string { data := #[] }] 28)) := (((Grw.refl w).alloc _).alloc _).below
    generalize ((w.alloc (.cells #[.string a, .string b] 28)).alloc (.cells #[.string { data := #[] }, .string { data := #[] }] 28)) = W at *
    go_wp2_with (first | (refine load_rd rfl (.tmp 2) rfl w.heap.size rfl B1 ?_) | (go_at_call 19; refine (hp _).mono ?_; rintro e w1 ⟨rfl, L2⟩; (have C2 := C1.later L2); (have HB := Lib.hid (dbelowRow (L1.trans (L2.mono L1.size)) (w.heap.size + 1) (by omega) #[.string x, .string y])); clear C1 B1 L1 L2) | (refine store_rd rfl (.tmp 4) (.tmp 12) rfl (w.heap.size + 1) x y rfl rfl C2 ?_))
    (try simp only [Exit.inBlock, Exit.then])
    exact bodyPost_ret (results_rd rfl _ _ (w.heap.size + 1) rfl (C2.put _ _)) rfl ⟨rfl, HB.out⟩
  · have hc : codeD s = 3 := by unfold codeD; rw [if_neg hs]
    rw [hc, write_long hs]
    have ht : (8192 : Int) < (s.size : Int) := by omega
    clear hc hd hs
    obtain ⟨a, b⟩ := d
    simp only
    go_enter Try.func12, Try.ntmps12
    go_upto_region 1 with fail
    have B1 : RdB ((w.alloc (.cells #[.string a, .string b] 28)).alloc (.cells #[.string { data := #[] }, .string { data := #[] }] 28)) w.heap.size a b := (RdB.new w a b).later ((Grw.refl _).alloc _).below
    have C1 : RdB ((w.alloc (.cells #[.string a, .string b] 28)).alloc (.cells #[.string { data := #[] }, .string { data := #[] }] 28)) (w.heap.size + 1) { data := #[] } { data := #[] } := by
      have h := RdB.new (w.alloc (.cells #[.string a, .string b] 28)) { data := #[] } { data := #[] }
      rw [show (w.alloc (.cells #[.string a, .string b] 28)).heap.size = w.heap.size + 1 by simp] at h
      exact h
    have L1 : Below w.heap.size w ((w.alloc (.cells #[.string a, .string b] 28)).alloc (.cells #[.string { data := #[] }, .string { data := #[] }] 28)) := (((Grw.refl w).alloc _).alloc _).below
    generalize ((w.alloc (.cells #[.string a, .string b] 28)).alloc (.cells #[.string { data := #[] }, .string { data := #[] }] 28)) = W at *
    have HB := Lib.hid (dbelowRow L1 (w.heap.size + 1) (by omega) #[.string a, .string b])
    go_wp2_with (first | (refine load_rd rfl (.tmp 2) rfl w.heap.size rfl B1 ?_) | (refine store_rd rfl (.tmp 4) (.tmp 9) rfl (w.heap.size + 1) a b rfl rfl C1 ?_))
    (try simp only [Exit.inBlock, Exit.then])
    exact bodyPost_ret (results_rd rfl _ _ (w.heap.size + 1) rfl (C1.put _ _)) rfl ⟨rfl, HB.out⟩

set_option maxHeartbeats 2000000 in
theorem rtear (d : Dk) (hd : d.ok) (s : ByteArray) (keep : Int) (w : World) (hsz : s.size ≤ maxLen) (hk0 : -9223372036854775808 ≤ keep) (hk1 : keep ≤ 9223372036854775807) :
    Calls Try.prog 11 #[.agg #[.string d.a, .string d.b], .string s, .int .i64 keep] w fun e w' => e = .returned (.tuple #[.agg #[.string (tearD d s keep).a, .string (tearD d s keep).b], .int .i64 (codeD s)]) ∧ Below w.heap.size w w' := by
  unfold maxLen at hsz
  by_cases hs : s.size ≤ 8192
  · have hc : codeD s = 0 := by unfold codeD; rw [if_pos hs]
    have ht : ¬ (8192 : Int) < (s.size : Int) := by omega
    rw [hc]
    by_cases hk : keep < 0
    · have hp := fun W => rput d hd s 0 W hs (by decide) (by decide)
      have hw : rputD d s 0 = tearD d s keep := by
        unfold rputD tearD
        rw [if_neg (by decide), if_pos hs]
        unfold tornS keepN
        rw [show keep.toNat = (0 : Int).toNat by omega]
      rw [hw] at hp
      have hkd : decide (keep < 0) = true := by simp; exact hk
      clear hc hw hd hs
      generalize (tearD d s keep).a = x at *
      generalize (tearD d s keep).b = y at *
      obtain ⟨a, b⟩ := d
      simp only at *
      go_enter Try.func11, Try.ntmps11
      go_upto_region 1 with fail
      have B1 : RdB ((w.alloc (.cells #[.string a, .string b] 28)).alloc (.cells #[.string { data := #[] }, .string { data := #[] }] 28)) w.heap.size a b := (RdB.new w a b).later ((Grw.refl _).alloc _).below
      have C1 : RdB ((w.alloc (.cells #[.string a, .string b] 28)).alloc (.cells #[.string { data := #[] }, .string { data := #[] }] 28)) (w.heap.size + 1) { data := #[] } { data := #[] } := by
        have h := RdB.new (w.alloc (.cells #[.string a, .string b] 28)) { data := #[] } { data := #[] }
        rw [show (w.alloc (.cells #[.string a, .string b] 28)).heap.size = w.heap.size + 1 by simp] at h
        exact h
      have L1 : Below w.heap.size w ((w.alloc (.cells #[.string a, .string b] 28)).alloc (.cells #[.string { data := #[] }, .string { data := #[] }] 28)) := (((Grw.refl w).alloc _).alloc _).below
      generalize ((w.alloc (.cells #[.string a, .string b] 28)).alloc (.cells #[.string { data := #[] }, .string { data := #[] }] 28)) = W at *
      go_wp2_with (first | (refine load_rd rfl (.tmp 3) rfl w.heap.size rfl B1 ?_) | (go_at_call 19; refine (hp _).mono ?_; rintro e w1 ⟨rfl, L2⟩; (have C2 := C1.later L2); (have HB := Lib.hid (dbelowRow (L1.trans (L2.mono L1.size)) (w.heap.size + 1) (by omega) #[.string x, .string y])); clear C1 B1 L1 L2) | (refine store_rd rfl (.tmp 6) (.tmp 17) rfl (w.heap.size + 1) x y rfl rfl C2 ?_))
      (try simp only [Exit.inBlock, Exit.then])
      exact bodyPost_ret (results_rd rfl _ _ (w.heap.size + 1) rfl (C2.put _ _)) rfl ⟨rfl, HB.out⟩
    · have hp := fun W => rput d hd s keep W hs hk0 hk1
      have hw : rputD d s keep = tearD d s keep := by unfold rputD tearD; rw [if_neg hk, if_pos hs]
      rw [hw] at hp
      have hkd : decide (keep < 0) = false := by simp; omega
      clear hc hw hd hs
      generalize (tearD d s keep).a = x at *
      generalize (tearD d s keep).b = y at *
      obtain ⟨a, b⟩ := d
      simp only at *
      go_enter Try.func11, Try.ntmps11
      go_upto_region 1 with fail
      have B1 : RdB ((w.alloc (.cells #[.string a, .string b] 28)).alloc (.cells #[.string { data := #[] }, .string { data := #[] }] 28)) w.heap.size a b := (RdB.new w a b).later ((Grw.refl _).alloc _).below
      have C1 : RdB ((w.alloc (.cells #[.string a, .string b] 28)).alloc (.cells #[.string { data := #[] }, .string { data := #[] }] 28)) (w.heap.size + 1) { data := #[] } { data := #[] } := by
        have h := RdB.new (w.alloc (.cells #[.string a, .string b] 28)) { data := #[] } { data := #[] }
        rw [show (w.alloc (.cells #[.string a, .string b] 28)).heap.size = w.heap.size + 1 by simp] at h
        exact h
      have L1 : Below w.heap.size w ((w.alloc (.cells #[.string a, .string b] 28)).alloc (.cells #[.string { data := #[] }, .string { data := #[] }] 28)) := (((Grw.refl w).alloc _).alloc _).below
      generalize ((w.alloc (.cells #[.string a, .string b] 28)).alloc (.cells #[.string { data := #[] }, .string { data := #[] }] 28)) = W at *
      go_wp2_with (first | (refine load_rd rfl (.tmp 3) rfl w.heap.size rfl B1 ?_) | (go_at_call 19; refine (hp _).mono ?_; rintro e w1 ⟨rfl, L2⟩; (have C2 := C1.later L2); (have HB := Lib.hid (dbelowRow (L1.trans (L2.mono L1.size)) (w.heap.size + 1) (by omega) #[.string x, .string y])); clear C1 B1 L1 L2) | (refine store_rd rfl (.tmp 6) (.tmp 17) rfl (w.heap.size + 1) x y rfl rfl C2 ?_))
      (try simp only [Exit.inBlock, Exit.then])
      exact bodyPost_ret (results_rd rfl _ _ (w.heap.size + 1) rfl (C2.put _ _)) rfl ⟨rfl, HB.out⟩
  · have hc : codeD s = 3 := by unfold codeD; rw [if_neg hs]
    rw [hc, tear_long hs]
    have ht : (8192 : Int) < (s.size : Int) := by omega
    clear hc hd hs
    obtain ⟨a, b⟩ := d
    simp only
    go_enter Try.func11, Try.ntmps11
    go_upto_region 1 with fail
    have B1 : RdB ((w.alloc (.cells #[.string a, .string b] 28)).alloc (.cells #[.string { data := #[] }, .string { data := #[] }] 28)) w.heap.size a b := (RdB.new w a b).later ((Grw.refl _).alloc _).below
    have C1 : RdB ((w.alloc (.cells #[.string a, .string b] 28)).alloc (.cells #[.string { data := #[] }, .string { data := #[] }] 28)) (w.heap.size + 1) { data := #[] } { data := #[] } := by
      have h := RdB.new (w.alloc (.cells #[.string a, .string b] 28)) { data := #[] } { data := #[] }
      rw [show (w.alloc (.cells #[.string a, .string b] 28)).heap.size = w.heap.size + 1 by simp] at h
      exact h
    have L1 : Below w.heap.size w ((w.alloc (.cells #[.string a, .string b] 28)).alloc (.cells #[.string { data := #[] }, .string { data := #[] }] 28)) := (((Grw.refl w).alloc _).alloc _).below
    generalize ((w.alloc (.cells #[.string a, .string b] 28)).alloc (.cells #[.string { data := #[] }, .string { data := #[] }] 28)) = W at *
    have HB := Lib.hid (dbelowRow L1 (w.heap.size + 1) (by omega) #[.string a, .string b])
    go_wp2_with (first | (refine load_rd rfl (.tmp 3) rfl w.heap.size rfl B1 ?_) | (refine store_rd rfl (.tmp 6) (.tmp 11) rfl (w.heap.size + 1) a b rfl rfl C1 ?_))
    (try simp only [Exit.inBlock, Exit.then])
    exact bodyPost_ret (results_rd rfl _ _ (w.heap.size + 1) rfl (C1.put _ _)) rfl ⟨rfl, HB.out⟩

set_option maxHeartbeats 2000000 in
theorem rread (d : Dk) (hd : d.ok) (w : World) :
    Calls Try.prog 14 #[.agg #[.string d.a, .string d.b]] w fun e w' => e = .returned (.tuple #[.string (recD d), .bool (fndB d)]) ∧ Below w.heap.size w w' := by
  have hn := fun W => rnewest d hd W
  have hf := refAt_pos d
  generalize fndB d = f at *
  generalize refAt d = p at *
  generalize recD d = t at *
  generalize numD d = n at *
  obtain ⟨a, b⟩ := d
  simp only at *
  clear hd
  have B1 := RdB.new w a b
  have L1 := ((Grw.refl w).alloc (.cells #[.string a, .string b] 28)).below
  subst hf
  go_enter Try.func14, Try.ntmps14
  go_wp2_with (first | (refine load_rd rfl (.tmp 1) rfl w.heap.size rfl B1 ?_) | (go_at_call 21; refine (hn _).mono ?_; rintro e w1 ⟨rfl, L2⟩))
  go_ret2
  exact ⟨rfl, L1.trans (L2.mono L1.size)⟩
end Go.Proofs.Ytimdemidnleiiaa
