/- Forget. -/
import Derived.Test.YtcjbjcojmjfmaaaEarFns
set_option linter.unusedVariables false
set_option linter.unusedSimpArgs false
namespace Go.Proofs.Ytcjbjcojmjfmaaa
open Go.RowKit Go.Sort

theorem record_size : (Try.prog.info? 65).map (·.size) = some 8 := by kernel_rfl
theorem rec_one (r : Rc) : (#[.int .i64 r.tick, .bool r.ever, .int .u64 (r.b.ce : Int), .int .i64 r.b.cr, .int .u64 (r.b.pe : Int), .int .i64 r.b.pr, .int .u64 (r.b.ep : Int), .bool r.told] : Array Value).all (·.oneCell') = true := by simp [Value.oneCell']
/-- A record stored amid a block. -/
theorem store_rec_mid {ops : Array Oper} {rest : List Oper} {o : Oper} {A : Act} {w : World} {Q : Exit → Act → World → Prop} (hgd : o.guard = none) (x y : Operand) (ho : o.op = .store 65 x y)
    (g q : Nat) (r : Rc) (hx : A.eval x = .pointer (some ⟨g, q, none⟩)) (hy : A.eval y = .agg #[.int .i64 r.tick, .bool r.ever, .int .u64 (r.b.ce : Int), .int .i64 r.b.cr, .int .u64 (r.b.pe : Int), .int .i64 r.b.pr, .int .u64 (r.b.ep : Int), .bool r.told])
    (hg : w.there g q 8) (h : wpList Try.prog ops Q rest (A.put o.dst undef) (w.setCells g q (encR r))) : wpList Try.prog ops Q (o :: rest) A w :=
  wpList_store_mid hgd 65 x y ho g q _ hx hy hg record_size (rec_one r) h
theorem store_gone_mid {ops : Array Oper} {rest : List Oper} {o : Oper} {A : Act} {w : World} {Q : Exit → Act → World → Prop} (hgd : o.guard = none) (x y : Operand) (ho : o.op = .store 65 x y)
    (g q : Nat) (t : Int) (e : Bool) (hx : A.eval x = .pointer (some ⟨g, q, none⟩)) (hy : A.eval y = .agg #[.int .i64 t, .bool e, .int .u64 0, .int .i64 0, .int .u64 0, .int .i64 0, .int .u64 0, .bool false])
    (hg : w.there g q 8) (h : wpList Try.prog ops Q rest (A.put o.dst undef) (w.setCells g q [.int .i64 t, .bool e, .int .u64 0, .int .i64 0, .int .u64 0, .int .i64 0, .int .u64 0, .bool false])) : wpList Try.prog ops Q (o :: rest) A w :=
  wpList_store_mid hgd 65 x y ho g q _ hx hy hg record_size (by simp [Value.oneCell']) h
theorem enc_gone (r : Rc) : encR (goneR r) = [.int .i64 r.tick, .bool r.ever, .int .u64 0, .int .i64 0, .int .u64 0, .int .i64 0, .int .u64 0, .bool false] := rfl
set_option maxHeartbeats 1000000 in
theorem eforget {w : World} {g : Nat} {E : Er} (h : EarAt w g E) (s : Nat) (hs : s < 18446744073709551616) :
    Calls Try.prog 13 #[.pointer (some ⟨g, 0, none⟩), .int .u64 (s : Int)] w fun e w' => e = .returned (.tuple #[]) ∧ Eared w w' g (forgetE E s) := by
  have HL := list_any s w hs
  have hn := Lib.hid (lst_length s)
  have hn64 := card_le s
  have hlt64 : Hid (∀ k (hk : k < (lst s).length), (lst s)[k] < 64) := Lib.hid fun k hk => ((lst_mem s _).1 (List.getElem_mem hk)).1
  have HF := Lib.hid (forget_lst E s hs)
  have hg := h.lt
  have HH := Lib.hid h
  clear h
  generalize card s = n at *
  go_enter Try.func13, Try.ntmps13
  go_wp2_with fail
  refine HL.mono ?_
  rintro e w1 ⟨rfl, hin, L1⟩
  have hrow : Hid (∀ k (hk : k < (lst s).length), w1.cell? ⟨w.heap.size, k, none⟩ = some (.int .i64 ((lst s)[k] : Nat))) := Lib.hid fun k hk => by
    obtain ⟨ad, e1, hc⟩ := hin.src k ((lst s)[k] : Nat) (by unfold ints; rw [List.getElem?_map, List.getElem?_eq_getElem hk]; rfl)
    cases e1
    rw [show (⟨w.heap.size, 0, none⟩ : Addr).add k = ⟨w.heap.size, k, none⟩ by cases k <;> simp [Addr.add]] at hc
    exact hc
  have hLs : w.heap.size < w1.heap.size ∨ n = 0 := by
    by_cases h0 : n = 0
    · exact .inr h0
    · exact .inl (World.block_lt_of_cell? _ _ (hrow.out 0 (by rw [hn.out]; omega)))
  have A1 := HH.out.below L1
  have HG1 := Lib.hid (egrown_below L1 (some g))
  clear hin L1 HL
  generalize w.heap.size = b at *
  go_wp2
  go_loopw [9] (fun si wr => ∃ k : Nat, k ≤ n ∧ si = .int .i64 k ∧ Eared w1 wr g { E with recs := goneF E.recs (fun q => ((lst s).take k).contains q) }) (fun si _ => n - (intOf si).toNat)
  case atStart => exact ⟨0, Nat.zero_le _, rfl, by rw [List.take_zero]; exact Eared.refl A1⟩
  case round =>
    obtain ⟨k, hk, rfl, A⟩ := hrel
    clear A1
    by_cases hlt : k < n
    · have hkl : k < (lst s).length := by rw [hn.out]; exact hlt
      have c0 : wr.cell? ⟨b, k, none⟩ = some (.int .i64 ((lst s)[k] : Nat)) := by
        rw [← hrow.out k hkl]
        exact World.cell?_of_block (A.gr.block b (by omega) (by intro e; cases e; omega))
      have hx := hlt64.out k hkl
      have HN := Lib.hid (goneF_next E.recs (lst s) k hkl (lst_nodup s))
      have HA := Lib.hid (goneF_at E.recs (lst s) k hkl (lst_nodup s))
      have hok := ok_gone (E := E) HH.out.ok (fun q => ((lst s).take (k + 1)).contains q)
      have HK := Lib.hid (show ({ E with recs := goneF E.recs (fun q => ((lst s).take (k + 1)).contains q) } : Er).ok from hok)
      clear hok
      generalize (lst s)[k] = x at *
      rw [HN.out] at HK
      have k0 : wr.drew.cell? ⟨g, 4 + x * 8, none⟩ = some (.int .i64 (E.recs x).tick) := by have := A.at_.cl x hx 0 _ rfl; simp only [HA.out] at this; exact this
      have k1 : wr.drew.cell? ⟨g, 4 + x * 8 + 1, none⟩ = some (.bool (E.recs x).ever) := by have := A.at_.cl x hx 1 _ rfl; simp only [HA.out] at this; exact this
      have T := Lib.hid (show wr.drew.there g (4 + x * 8) 8 from A.at_.drew.there x hx 0 8 (by decide))
      have R := A.at_.drew.putN x hx 0 (encR (goneR (E.recs x))) (by rw [encR_length]; omega) (goneR (E.recs x)) (by simp [encR]) HK.out
      have HR := Lib.hid (show Eared w1 (wr.drew.setCells g (4 + x * 8) (encR (goneR (E.recs x)))) g { E with recs := goneF E.recs (fun q => ((lst s).take (k + 1)).contains q) } by
        rw [HN.out]
        exact ⟨R.at_, egrown_tr (w1 := wr.drew) (egrown_tr A.gr ⟨rfl, rfl, rfl, Nat.le_refl _, fun _ _ _ => rfl⟩) R.gr⟩)
      rw [enc_gone] at HR
      clear R A HN HA HK
      have hxi : (x : Int) < 64 := by omega
      go_upto_region 3 with fail
      go_still_tail 13, (by kernel_rfl)
      change wpList _ _ _ _ _ wr.drew
      generalize wr.drew = V at *
      go_wp2_with (with_reducible refine store_gone_mid rfl (.tmp 25) (.tmp 22) rfl g (4 + x * 8) (E.recs x).tick (E.recs x).ever rfl rfl T.out ?_)
      go_roundw
      case rel => exact ⟨k + 1, by omega, by go_num, HR.out⟩
      case measure => simp [intOf]; omega
    · obtain rfl : k = n := by omega
      have A2 := A
      rw [List.take_of_length_le (by rw [hn.out]; omega), HF.out] at A2
      have HA := Lib.hid (show Eared w wr g (forgetE E s) from ⟨A2.at_, egrown_tr HG1.out A2.gr⟩)
      clear A A2
      go_wp2
      go_end0
      exact ⟨rfl, HA.out⟩
end Go.Proofs.Ytcjbjcojmjfmaaa
