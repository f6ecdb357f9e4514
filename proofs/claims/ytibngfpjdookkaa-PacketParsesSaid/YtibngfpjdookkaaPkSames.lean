import Derived.Test.YtibngfpjdookkaaPkVal
import Derived.Deep.QuietTactic
import Derived.BigQuiet
import Derived.Deep.DeepCutAuto
/- The document's Same, of two readings of one packet. -/
set_option linter.unusedVariables false
set_option linter.unusedSimpArgs false
namespace Go.Proofs.Ytibngfpjdookkaa
open Go.RowKit Go.Sort

/-- What a comparison that only reads answers. -/
def Same1 (w : World) (e : Ending) (w' : World) : Prop := e = .returned (.bool true) ∧ ∃ m, w' = w.drewN m
theorem drewN_add (w : World) (a b : Nat) : (w.drewN a).drewN b = w.drewN (a + b) := World.drewN_drewN ..

set_option maxHeartbeats 2000000 in
theorem vec_same (va vb : Vc) (l : List Nat) (w : World) (ha : VecAt w va l) (hb : VecAt w vb l) (hn : va.n ≤ 1048576) :
    Calls Try.prog 29 #[.slice va.a va.n va.c, .slice vb.a vb.n vb.c] w (Same1 w) := by
  have hl1 := ha.len
  have hl2 := hb.len
  have HA := Lib.hid ha
  have HB := Lib.hid hb
  obtain ⟨a, n, c⟩ := va
  obtain ⟨a', n', c'⟩ := vb
  simp only at hl1 hl2 hn
  obtain rfl : n = n' := by omega
  clear ha hb hl2
  have mixed : Try.prog.follows .mixedOrders = true := by kernel_rfl
  go_enter Try.func29, Try.ntmps29
  go_wp2
  go_loopw [5] (fun si wr => ∃ k m : Nat, k ≤ n ∧ si = .int .i64 k ∧ wr = w.drewN m) (fun si _ => n - (intOf si).toNat)
  case atStart => exact ⟨0, 0, Nat.zero_le _, rfl, rfl⟩
  case round =>
    obtain ⟨k, m, hk, rfl, rfl⟩ := hrel
    by_cases hlt : k < n
    · have hkl : k < l.length := by omega
      obtain ⟨bx, ox, e1, c1⟩ := HA.out.at_ k _ (List.getElem?_eq_getElem hkl)
      obtain ⟨byy, oy, e2, c2⟩ := HB.out.at_ k _ (List.getElem?_eq_getElem hkl)
      simp only at e1 e2
      subst e1 e2
      generalize l[k] = z at *
      clear hkl
      go_wp2
      go_quiet (fail)
      go_wp2
      go_roundw
      case rel => exact ⟨k + 1, _, by omega, by go_num, rfl⟩
      case measure => simp [intOf]; omega
    · go_wp2
      go_ret
      exact ⟨rfl, _, rfl⟩

set_option maxHeartbeats 4000000 in
theorem xs_same (va vb : Vc) (l : List PX) (w : World) (ha : XsAt w va l) (hb : XsAt w vb l) (hn : va.n ≤ 1048576) (hc : ∀ x ∈ l, x.cnt.length ≤ 1048576) :
    Calls Try.prog 30 #[.slice va.a va.n va.c, .slice vb.a vb.n vb.c] w (Same1 w) := by
  have hl1 := ha.len
  have hl2 := hb.len
  have HA := Lib.hid ha
  have HB := Lib.hid hb
  have HC := Lib.hid hc
  obtain ⟨a, n, c⟩ := va
  obtain ⟨a', n', c'⟩ := vb
  simp only at hl1 hl2 hn
  obtain rfl : n = n' := by omega
  clear ha hb hl2 hc
  have mixed : Try.prog.follows .mixedOrders = true := by kernel_rfl
  go_enter Try.func30, Try.ntmps30
  go_wp2
  go_loopw [5] (fun si wr => ∃ k m : Nat, k ≤ n ∧ si = .int .i64 k ∧ wr = w.drewN m) (fun si _ => n - (intOf si).toNat)
  case atStart => exact ⟨0, 0, Nat.zero_le _, rfl, rfl⟩
  case round =>
    obtain ⟨k, m, hk, rfl, rfl⟩ := hrel
    by_cases hlt : k < n
    · have hkl : k < l.length := by omega
      obtain ⟨bx, ox, vx, e1, hv1, cc⟩ := HA.out.at_ k _ (List.getElem?_eq_getElem hkl)
      obtain ⟨byy, oy, vy, e2, hv2, dd⟩ := HB.out.at_ k _ (List.getElem?_eq_getElem hkl)
      simp only at e1 e2
      subst e1 e2
      have hcn := HC.out _ (List.getElem_mem hkl)
      generalize l[k] = z at *
      have c0 : w.cell? ⟨bx, ox + k * 6, none⟩ = some (.int .i64 z.w) := cc 0 _ rfl
      have c1 : w.cell? ⟨bx, ox + k * 6 + 1, none⟩ = some (.int .u64 (z.old.e : Int)) := cc 1 _ rfl
      have c2 : w.cell? ⟨bx, ox + k * 6 + 2, none⟩ = some (.int .i64 z.old.r) := cc 2 _ rfl
      have c3 : w.cell? ⟨bx, ox + k * 6 + 3, none⟩ = some (.slice vx.a vx.n vx.c) := cc 3 _ rfl
      have c4 : w.cell? ⟨bx, ox + k * 6 + 4, none⟩ = some (.int .u64 (z.ls : Int)) := cc 4 _ rfl
      have c5 : w.cell? ⟨bx, ox + k * 6 + 5, none⟩ = some (.int .i64 z.lf) := cc 5 _ rfl
      have d0 : w.cell? ⟨byy, oy + k * 6, none⟩ = some (.int .i64 z.w) := dd 0 _ rfl
      have d1 : w.cell? ⟨byy, oy + k * 6 + 1, none⟩ = some (.int .u64 (z.old.e : Int)) := dd 1 _ rfl
      have d2 : w.cell? ⟨byy, oy + k * 6 + 2, none⟩ = some (.int .i64 z.old.r) := dd 2 _ rfl
      have d3 : w.cell? ⟨byy, oy + k * 6 + 3, none⟩ = some (.slice vy.a vy.n vy.c) := dd 3 _ rfl
      have d4 : w.cell? ⟨byy, oy + k * 6 + 4, none⟩ = some (.int .u64 (z.ls : Int)) := dd 4 _ rfl
      have d5 : w.cell? ⟨byy, oy + k * 6 + 5, none⟩ = some (.int .i64 z.lf) := dd 5 _ rfl
      have hvn : vx.n ≤ 1048576 := by rw [← hv1.len]; exact hcn
      have HV : Hid (∀ j, Calls Try.prog 29 #[.slice vx.a vx.n vx.c, .slice vy.a vy.n vy.c] (w.drewN (m + j)) fun e w' => e = .returned (.bool true) ∧ ∃ m', w' = w.drewN (m + m')) :=
        Lib.hid fun j => (vec_same vx vy z.cnt (w.drewN (m + j)) (hv1.below ((Grw.refl w).drewN _).below) (hv2.below ((Grw.refl w).drewN _).below) hvn).mono fun e w' h => ⟨h.1, by obtain ⟨m', rfl⟩ := h.2; exact ⟨j + m', by rw [drewN_add, Nat.add_assoc]⟩⟩
      clear hkl cc dd hv1 hv2 hcn hvn
      go_wp2
      go_quiet ((go_at_call 29; exact HV.out _))
      go_wp2
      go_roundw
      case rel => exact ⟨k + 1, _, by omega, by go_num, rfl⟩
      case measure => simp [intOf]; omega
    · go_wp2
      go_ret
      exact ⟨rfl, _, rfl⟩
end Go.Proofs.Ytibngfpjdookkaa

/- The document's Same, of two readings of one message. -/
set_option linter.unusedVariables false
set_option linter.unusedSimpArgs false
namespace Go.Proofs.Ytibngfpjdookkaa
open Go.RowKit Go.Sort

/-- What Same answers. -/
def Told (b : Bool) (w : World) (e : Ending) (w' : World) : Prop := e = .returned (.bool b) ∧ Grw w w'
theorem text_one {T T' : ByteArray} {l : List UInt8} (h : T.data.toList = l) (h' : T'.data.toList = l) : T = T' := by
  obtain ⟨⟨a⟩⟩ := T
  obtain ⟨⟨b⟩⟩ := T'
  simp only at h h'
  rw [h, h']

set_option maxHeartbeats 4000000 in
theorem msg_same (w : World) (f : Int) (q s : Int) (v : Int) (va vb : Vc) (l : List Nat) (T : ByteArray) (hx : VecAt w va l) (hy : VecAt w vb l) (hdl : va.n ≤ 1048576) :
    Calls Try.prog 28 #[.agg #[.int .i64 f, .int .u32 q, .int .u64 s, .int .i64 v, .slice va.a va.n va.c, .string T], .agg #[.int .i64 f, .int .u32 q, .int .u64 s, .int .i64 v, .slice vb.a vb.n vb.c, .string T]] w (Told true w) := by
  have hl1 := hx.len
  have hl2 := hy.len
  have HX := Lib.hid hx
  have HY := Lib.hid hy
  obtain ⟨a, dl, dc⟩ := va
  obtain ⟨a', dl', dc'⟩ := vb
  simp only at hl1 hl2 hdl
  obtain rfl : dl = dl' := by omega
  clear hx hy hl2
  have mixed : Try.prog.follows .mixedOrders = true := by kernel_rfl
  go_enter Try.func28, Try.ntmps28
  go_wp2
  generalize hW : ((w.alloc (.cells #[.int .i64 f, .int .u32 q, .int .u64 s, .int .i64 v, .slice a dl dc, .string T] 32)).alloc (.cells #[.int .i64 f, .int .u32 q, .int .u64 s, .int .i64 v, .slice a' dl dc', .string T] 32)) = W
  have a4 : W.cell? ⟨w.heap.size, 4, none⟩ = some (.slice a dl dc) := by rw [← hW]; simp
  have b4 : W.cell? ⟨w.heap.size + 1, 4, none⟩ = some (.slice a' dl dc') := by rw [← hW]; simp
  have G : Grw w W := by rw [← hW]; exact ((Grw.refl _).alloc _).alloc _
  have HG := Lib.hid G
  clear hW G
  go_loopw [5] (fun si wr => ∃ k n : Nat, k ≤ dl ∧ si = .int .i64 k ∧ wr = W.drewN n) (fun si _ => dl - (intOf si).toNat)
  case atStart => exact ⟨0, 0, Nat.zero_le _, rfl, rfl⟩
  case round =>
    obtain ⟨k, n, hk, rfl, rfl⟩ := hrel
    by_cases hlt : k < dl
    · have hkl : k < l.length := by omega
      obtain ⟨bx, ox, e1, c1'⟩ := HX.out.at_ k _ (List.getElem?_eq_getElem hkl)
      obtain ⟨byy, oy, e2, c2'⟩ := HY.out.at_ k _ (List.getElem?_eq_getElem hkl)
      simp only at e1 e2
      subst e1 e2
      have c1 := cell_later HG.out.below c1'
      have c2 := cell_later HG.out.below c2'
      clear c1' c2'
      generalize l[k] = z at *
      clear hkl
      go_wp2
      go_quiet (fail)
      go_wp2
      go_roundw
      case rel => exact ⟨k + 1, _, by omega, by go_num, rfl⟩
      case measure => simp [intOf]; omega
    · go_wp2
      go_ret
      exact ⟨rfl, HG.out.drewN _⟩
end Go.Proofs.Ytibngfpjdookkaa

/- The document's Same, of two readings of one packet. (Written by wip/gen_pksame.py.) -/
set_option linter.unusedVariables false
set_option linter.unusedSimpArgs false
namespace Go.Proofs.Ytibngfpjdookkaa
open Go.RowKit Go.Sort

set_option maxHeartbeats 8000000 in
set_option maxRecDepth 100000 in
theorem pk_same (w : World) (p : Pk) (T T' : ByteArray) (vd vg vx ud ug ux : Vc) (ha : PkAt w p T vd vg vx) (hb : PkAt w p T' ud ug ux) (hd : p.m.deps.length ≤ 1048576) (hg : p.got.length ≤ 1048576) (hx : p.x.length ≤ 1048576) (hc : ∀ x ∈ p.x, x.cnt.length ≤ 1048576) :
    Calls Try.prog 11 #[.agg (encP p T vd vg vx).toArray, .agg (encP p T' ud ug ux).toArray] w (Told true w) := by
  obtain rfl := text_one ha.text hb.text
  have HA := Lib.hid ha
  have HB := Lib.hid hb
  have hdn : vd.n ≤ 1048576 := by rw [← ha.deps.len]; exact hd
  have hgn : vg.n ≤ 1048576 := by rw [← ha.got.len]; exact hg
  have hxn : vx.n ≤ 1048576 := by rw [← ha.xs.len]; exact hx
  clear ha hb hd hg hx
  have HC := Lib.hid hc
  clear hc
  obtain ⟨da, dn, dc⟩ := vd
  obtain ⟨ga, gn, gc⟩ := vg
  obtain ⟨xa, xn, xc⟩ := vx
  obtain ⟨da', dn', dc'⟩ := ud
  obtain ⟨ga', gn', gc'⟩ := ug
  obtain ⟨xa', xn', xc'⟩ := ux
  simp only at hdn hgn hxn
  rw [show (encP p T ⟨da, dn, dc⟩ ⟨ga, gn, gc⟩ ⟨xa, xn, xc⟩).toArray = #[.int .i64 p.kind, .int .i64 p.frm, .int .i64 p.to, .int .u64 (p.conf.e : Int), .int .i64 p.conf.r, .int .i64 p.m.f, .int .u32 (p.m.q : Int), .int .u64 (p.m.s : Int), .int .i64 p.m.v, .slice da dn dc, .string T, .int .u64 (p.stamp : Int), .int .u32 (p.sent : Int), .slice ga gn gc, .int .u64 (p.hor : Int), .int .i64 p.whom, .int .u32 (p.seq : Int), .int .u64 (p.mem : Int), .int .u64 (p.prom.e : Int), .int .i64 p.prom.r, .int .u64 (p.epoch : Int), .slice xa xn xc] from rfl, show (encP p T ⟨da', dn', dc'⟩ ⟨ga', gn', gc'⟩ ⟨xa', xn', xc'⟩).toArray = #[.int .i64 p.kind, .int .i64 p.frm, .int .i64 p.to, .int .u64 (p.conf.e : Int), .int .i64 p.conf.r, .int .i64 p.m.f, .int .u32 (p.m.q : Int), .int .u64 (p.m.s : Int), .int .i64 p.m.v, .slice da' dn' dc', .string T, .int .u64 (p.stamp : Int), .int .u32 (p.sent : Int), .slice ga' gn' gc', .int .u64 (p.hor : Int), .int .i64 p.whom, .int .u32 (p.seq : Int), .int .u64 (p.mem : Int), .int .u64 (p.prom.e : Int), .int .i64 p.prom.r, .int .u64 (p.epoch : Int), .slice xa' xn' xc'] from rfl]
  obtain ⟨W, hW⟩ : ∃ W, W = ((w.alloc (.cells #[.int .i64 p.kind, .int .i64 p.frm, .int .i64 p.to, .int .u64 (p.conf.e : Int), .int .i64 p.conf.r, .int .i64 p.m.f, .int .u32 (p.m.q : Int), .int .u64 (p.m.s : Int), .int .i64 p.m.v, .slice da dn dc, .string T, .int .u64 (p.stamp : Int), .int .u32 (p.sent : Int), .slice ga gn gc, .int .u64 (p.hor : Int), .int .i64 p.whom, .int .u32 (p.seq : Int), .int .u64 (p.mem : Int), .int .u64 (p.prom.e : Int), .int .i64 p.prom.r, .int .u64 (p.epoch : Int), .slice xa xn xc] 35)).alloc (.cells #[.int .i64 p.kind, .int .i64 p.frm, .int .i64 p.to, .int .u64 (p.conf.e : Int), .int .i64 p.conf.r, .int .i64 p.m.f, .int .u32 (p.m.q : Int), .int .u64 (p.m.s : Int), .int .i64 p.m.v, .slice da' dn' dc', .string T, .int .u64 (p.stamp : Int), .int .u32 (p.sent : Int), .slice ga' gn' gc', .int .u64 (p.hor : Int), .int .i64 p.whom, .int .u32 (p.seq : Int), .int .u64 (p.mem : Int), .int .u64 (p.prom.e : Int), .int .i64 p.prom.r, .int .u64 (p.epoch : Int), .slice xa' xn' xc'] 35)) := ⟨_, rfl⟩
  have G : Grw w W := by rw [hW]; exact ((Grw.refl _).alloc _).alloc _
  have OA : Own W w.heap.size 35 #[.int .i64 p.kind, .int .i64 p.frm, .int .i64 p.to, .int .u64 (p.conf.e : Int), .int .i64 p.conf.r, .int .i64 p.m.f, .int .u32 (p.m.q : Int), .int .u64 (p.m.s : Int), .int .i64 p.m.v, .slice da dn dc, .string T, .int .u64 (p.stamp : Int), .int .u32 (p.sent : Int), .slice ga gn gc, .int .u64 (p.hor : Int), .int .i64 p.whom, .int .u32 (p.seq : Int), .int .u64 (p.mem : Int), .int .u64 (p.prom.e : Int), .int .i64 p.prom.r, .int .u64 (p.epoch : Int), .slice xa xn xc] := by rw [hW]; exact (Own.new w _ _).below ((Grw.refl _).alloc _).below (by simp)
  have OB : Own W (w.heap.size + 1) 35 #[.int .i64 p.kind, .int .i64 p.frm, .int .i64 p.to, .int .u64 (p.conf.e : Int), .int .i64 p.conf.r, .int .i64 p.m.f, .int .u32 (p.m.q : Int), .int .u64 (p.m.s : Int), .int .i64 p.m.v, .slice da' dn' dc', .string T, .int .u64 (p.stamp : Int), .int .u32 (p.sent : Int), .slice ga' gn' gc', .int .u64 (p.hor : Int), .int .i64 p.whom, .int .u32 (p.seq : Int), .int .u64 (p.mem : Int), .int .u64 (p.prom.e : Int), .int .i64 p.prom.r, .int .u64 (p.epoch : Int), .slice xa' xn' xc'] := by
    rw [hW]
    have := Own.new (w.alloc (.cells #[.int .i64 p.kind, .int .i64 p.frm, .int .i64 p.to, .int .u64 (p.conf.e : Int), .int .i64 p.conf.r, .int .i64 p.m.f, .int .u32 (p.m.q : Int), .int .u64 (p.m.s : Int), .int .i64 p.m.v, .slice da dn dc, .string T, .int .u64 (p.stamp : Int), .int .u32 (p.sent : Int), .slice ga gn gc, .int .u64 (p.hor : Int), .int .i64 p.whom, .int .u32 (p.seq : Int), .int .u64 (p.mem : Int), .int .u64 (p.prom.e : Int), .int .i64 p.prom.r, .int .u64 (p.epoch : Int), .slice xa xn xc] 35)) 35 #[.int .i64 p.kind, .int .i64 p.frm, .int .i64 p.to, .int .u64 (p.conf.e : Int), .int .i64 p.conf.r, .int .i64 p.m.f, .int .u32 (p.m.q : Int), .int .u64 (p.m.s : Int), .int .i64 p.m.v, .slice da' dn' dc', .string T, .int .u64 (p.stamp : Int), .int .u32 (p.sent : Int), .slice ga' gn' gc', .int .u64 (p.hor : Int), .int .i64 p.whom, .int .u32 (p.seq : Int), .int .u64 (p.mem : Int), .int .u64 (p.prom.e : Int), .int .i64 p.prom.r, .int .u64 (p.epoch : Int), .slice xa' xn' xc']
    simpa using this
  have c0 : W.cell? ⟨w.heap.size, 0, none⟩ = some (.int .i64 p.kind) := OA.at_ 0 _ rfl
  have d0 : W.cell? ⟨w.heap.size + 1, 0, none⟩ = some (.int .i64 p.kind) := OB.at_ 0 _ rfl
  have c1 : W.cell? ⟨w.heap.size, 1, none⟩ = some (.int .i64 p.frm) := OA.at_ 1 _ rfl
  have d1 : W.cell? ⟨w.heap.size + 1, 1, none⟩ = some (.int .i64 p.frm) := OB.at_ 1 _ rfl
  have c2 : W.cell? ⟨w.heap.size, 2, none⟩ = some (.int .i64 p.to) := OA.at_ 2 _ rfl
  have d2 : W.cell? ⟨w.heap.size + 1, 2, none⟩ = some (.int .i64 p.to) := OB.at_ 2 _ rfl
  have c3 : W.cell? ⟨w.heap.size, 3, none⟩ = some (.int .u64 (p.conf.e : Int)) := OA.at_ 3 _ rfl
  have d3 : W.cell? ⟨w.heap.size + 1, 3, none⟩ = some (.int .u64 (p.conf.e : Int)) := OB.at_ 3 _ rfl
  have c4 : W.cell? ⟨w.heap.size, 4, none⟩ = some (.int .i64 p.conf.r) := OA.at_ 4 _ rfl
  have d4 : W.cell? ⟨w.heap.size + 1, 4, none⟩ = some (.int .i64 p.conf.r) := OB.at_ 4 _ rfl
  have c5 : W.cell? ⟨w.heap.size, 5, none⟩ = some (.int .i64 p.m.f) := OA.at_ 5 _ rfl
  have d5 : W.cell? ⟨w.heap.size + 1, 5, none⟩ = some (.int .i64 p.m.f) := OB.at_ 5 _ rfl
  have c6 : W.cell? ⟨w.heap.size, 6, none⟩ = some (.int .u32 (p.m.q : Int)) := OA.at_ 6 _ rfl
  have d6 : W.cell? ⟨w.heap.size + 1, 6, none⟩ = some (.int .u32 (p.m.q : Int)) := OB.at_ 6 _ rfl
  have c7 : W.cell? ⟨w.heap.size, 7, none⟩ = some (.int .u64 (p.m.s : Int)) := OA.at_ 7 _ rfl
  have d7 : W.cell? ⟨w.heap.size + 1, 7, none⟩ = some (.int .u64 (p.m.s : Int)) := OB.at_ 7 _ rfl
  have c8 : W.cell? ⟨w.heap.size, 8, none⟩ = some (.int .i64 p.m.v) := OA.at_ 8 _ rfl
  have d8 : W.cell? ⟨w.heap.size + 1, 8, none⟩ = some (.int .i64 p.m.v) := OB.at_ 8 _ rfl
  have c9 : W.cell? ⟨w.heap.size, 9, none⟩ = some (.slice da dn dc) := OA.at_ 9 _ rfl
  have d9 : W.cell? ⟨w.heap.size + 1, 9, none⟩ = some (.slice da' dn' dc') := OB.at_ 9 _ rfl
  have c10 : W.cell? ⟨w.heap.size, 10, none⟩ = some (.string T) := OA.at_ 10 _ rfl
  have d10 : W.cell? ⟨w.heap.size + 1, 10, none⟩ = some (.string T) := OB.at_ 10 _ rfl
  have HOA := Lib.hid OA
  have HOB := Lib.hid OB
  have HG := Lib.hid G
  have HW := Lib.hid hW
  clear OA OB G hW
  go_enter Try.func11, Try.ntmps11
  go_upto_region 1 with fail
  rw [show ((w.alloc (.cells #[.int .i64 p.kind, .int .i64 p.frm, .int .i64 p.to, .int .u64 (p.conf.e : Int), .int .i64 p.conf.r, .int .i64 p.m.f, .int .u32 (p.m.q : Int), .int .u64 (p.m.s : Int), .int .i64 p.m.v, .slice da dn dc, .string T, .int .u64 (p.stamp : Int), .int .u32 (p.sent : Int), .slice ga gn gc, .int .u64 (p.hor : Int), .int .i64 p.whom, .int .u32 (p.seq : Int), .int .u64 (p.mem : Int), .int .u64 (p.prom.e : Int), .int .i64 p.prom.r, .int .u64 (p.epoch : Int), .slice xa xn xc] 35)).alloc (.cells #[.int .i64 p.kind, .int .i64 p.frm, .int .i64 p.to, .int .u64 (p.conf.e : Int), .int .i64 p.conf.r, .int .i64 p.m.f, .int .u32 (p.m.q : Int), .int .u64 (p.m.s : Int), .int .i64 p.m.v, .slice da' dn' dc', .string T, .int .u64 (p.stamp : Int), .int .u32 (p.sent : Int), .slice ga' gn' gc', .int .u64 (p.hor : Int), .int .i64 p.whom, .int .u32 (p.seq : Int), .int .u64 (p.mem : Int), .int .u64 (p.prom.e : Int), .int .i64 p.prom.r, .int .u64 (p.epoch : Int), .slice xa' xn' xc'] 35)) = W from HW.out.symm]
  clear HW
  go_wp2_with fail
  refine (msg_same W p.m.f p.m.q p.m.s p.m.v ⟨da, dn, dc⟩ ⟨da', dn', dc'⟩ p.m.deps T (HA.out.deps.below HG.out.below) (HB.out.deps.below HG.out.below) hdn).mono ?_
  rintro e w1 ⟨rfl, g1⟩
  have OA := HOA.out.below g1.below HOA.out.lt
  have OB := HOB.out.below g1.below HOB.out.lt
  have G := HG.out.trans g1
  clear c0 d0 c1 d1 c2 d2 c3 d3 c4 d4 c5 d5 c6 d6 c7 d7 c8 d8 c9 d9 c10 d10
  have c11 : w1.cell? ⟨w.heap.size, 11, none⟩ = some (.int .u64 (p.stamp : Int)) := OA.at_ 11 _ rfl
  have d11 : w1.cell? ⟨w.heap.size + 1, 11, none⟩ = some (.int .u64 (p.stamp : Int)) := OB.at_ 11 _ rfl
  have c12 : w1.cell? ⟨w.heap.size, 12, none⟩ = some (.int .u32 (p.sent : Int)) := OA.at_ 12 _ rfl
  have d12 : w1.cell? ⟨w.heap.size + 1, 12, none⟩ = some (.int .u32 (p.sent : Int)) := OB.at_ 12 _ rfl
  have c13 : w1.cell? ⟨w.heap.size, 13, none⟩ = some (.slice ga gn gc) := OA.at_ 13 _ rfl
  have d13 : w1.cell? ⟨w.heap.size + 1, 13, none⟩ = some (.slice ga' gn' gc') := OB.at_ 13 _ rfl
  clear HOA HOB HG g1
  have HOA := Lib.hid OA
  have HOB := Lib.hid OB
  have HG := Lib.hid G
  clear OA OB G
  go_wp2_with fail
  refine (vec_same ⟨ga, gn, gc⟩ ⟨ga', gn', gc'⟩ p.got w1 (HA.out.got.below HG.out.below) (HB.out.got.below HG.out.below) hgn).mono ?_
  rintro e w2 ⟨rfl, m2, hm2⟩
  have g2 : Grw w1 w2 := by rw [hm2]; exact (Grw.refl _).drewN _
  clear hm2
  have OA := HOA.out.below g2.below HOA.out.lt
  have OB := HOB.out.below g2.below HOB.out.lt
  have G := HG.out.trans g2
  clear c11 d11 c12 d12 c13 d13
  have c14 : w2.cell? ⟨w.heap.size, 14, none⟩ = some (.int .u64 (p.hor : Int)) := OA.at_ 14 _ rfl
  have d14 : w2.cell? ⟨w.heap.size + 1, 14, none⟩ = some (.int .u64 (p.hor : Int)) := OB.at_ 14 _ rfl
  have c15 : w2.cell? ⟨w.heap.size, 15, none⟩ = some (.int .i64 p.whom) := OA.at_ 15 _ rfl
  have d15 : w2.cell? ⟨w.heap.size + 1, 15, none⟩ = some (.int .i64 p.whom) := OB.at_ 15 _ rfl
  have c16 : w2.cell? ⟨w.heap.size, 16, none⟩ = some (.int .u32 (p.seq : Int)) := OA.at_ 16 _ rfl
  have d16 : w2.cell? ⟨w.heap.size + 1, 16, none⟩ = some (.int .u32 (p.seq : Int)) := OB.at_ 16 _ rfl
  have c17 : w2.cell? ⟨w.heap.size, 17, none⟩ = some (.int .u64 (p.mem : Int)) := OA.at_ 17 _ rfl
  have d17 : w2.cell? ⟨w.heap.size + 1, 17, none⟩ = some (.int .u64 (p.mem : Int)) := OB.at_ 17 _ rfl
  have c18 : w2.cell? ⟨w.heap.size, 18, none⟩ = some (.int .u64 (p.prom.e : Int)) := OA.at_ 18 _ rfl
  have d18 : w2.cell? ⟨w.heap.size + 1, 18, none⟩ = some (.int .u64 (p.prom.e : Int)) := OB.at_ 18 _ rfl
  have c19 : w2.cell? ⟨w.heap.size, 19, none⟩ = some (.int .i64 p.prom.r) := OA.at_ 19 _ rfl
  have d19 : w2.cell? ⟨w.heap.size + 1, 19, none⟩ = some (.int .i64 p.prom.r) := OB.at_ 19 _ rfl
  have c20 : w2.cell? ⟨w.heap.size, 20, none⟩ = some (.int .u64 (p.epoch : Int)) := OA.at_ 20 _ rfl
  have d20 : w2.cell? ⟨w.heap.size + 1, 20, none⟩ = some (.int .u64 (p.epoch : Int)) := OB.at_ 20 _ rfl
  have c21 : w2.cell? ⟨w.heap.size, 21, none⟩ = some (.slice xa xn xc) := OA.at_ 21 _ rfl
  have d21 : w2.cell? ⟨w.heap.size + 1, 21, none⟩ = some (.slice xa' xn' xc') := OB.at_ 21 _ rfl
  clear HOA HOB HG g2 OA OB
  have HG := Lib.hid G
  clear G
  go_wp2_with fail
  refine (xs_same ⟨xa, xn, xc⟩ ⟨xa', xn', xc'⟩ p.x w2 (HA.out.xs.below HG.out.below) (HB.out.xs.below HG.out.below) hxn HC.out).mono ?_
  rintro e w3 ⟨rfl, m3, hm3⟩
  have g3 : Grw w2 w3 := by rw [hm3]; exact (Grw.refl _).drewN _
  clear hm3
  go_wp2
  go_ret
  exact ⟨rfl, HG.out.trans g3⟩
end Go.Proofs.Ytibngfpjdookkaa
