/- Layer 19: reading a configuration, a view, pending views, a record, a stable record. -/
import Derived.Test.YtblefbjmjhgkkaaLgKit
import Derived.Deep.DeepCutAuto
set_option linter.unusedVariables false
set_option maxRecDepth 100000
set_option linter.unusedSimpArgs false
namespace Go.Proofs.Ytblefbjmjhgkkaa
open Go.RowKit Go.Sort

/-- A configuration: its epoch, its representative. -/
def getCf (l : List UInt8) : Got (Nat × Int) := andG (getN 8 l) fun e r => andG (getP r) fun p r => .ok ((e, p), r)
set_option maxHeartbeats 1000000 in
theorem rconf (w : World) (b : Nat) (s : ByteArray) (a : Nat) (h : Rd w b s a) :
    Calls Try.prog 68 #[.agg #[.pointer (some ⟨b, 0, none⟩)]] w (RP getCf (fun _ v val => val = .agg #[.int .u64 (v.1 : Int), .int .i64 v.2]) w b s a) := by
  go_enter Try.func68, Try.ntmps68
  go_wp2
  have A0 := Ahead.new h 26 67 #[.int .u64 0, .int .i64 0]
  go_region_held2 (fun w' => w'.cell? ⟨w.heap.size, 0, none⟩ = some (.pointer (some ⟨b, 0, none⟩))) (first | (with_reducible exact A1.box) | (with_reducible exact A2.box) | go_keep)
    (first
      | (go_at_call 45; refine (rnum _ b s a 8 8 (by decide) A0.rd).mono ?_; rintro e w1 (⟨v, _, a1, hG, rfl, rfl, hr, hg⟩ | ⟨q, hG, rfl, hg⟩); rotate_left; exact ⟨rfl, .inr ⟨q, by simp only [getCf, hG, andG_err], rfl, grown_tr A0.gr hg⟩⟩; (have A1 := A0.go hr hg); (have HG := Lib.hid hG); clear hG hr hg)
      | (go_at_call 67; refine (rsmall _ b s _ 63 1 A1.rd).mono ?_; rintro e w2 (⟨v', _, a2, hG', rfl, rfl, hr', hg'⟩ | ⟨q, hG', rfl, hg'⟩); rotate_left; exact ⟨rfl, .inr ⟨q, by rw [← getP_sm] at hG'; simp only [getCf, HG.out, hG', andG_ok, andG_err], rfl, grown_tr A1.gr hg'⟩⟩; (have A2 := A1.go hr' hg'); (rw [← getP_sm] at hG'); (have HG' := Lib.hid hG'); (have c0 := A2.res.at_ 0 _ rfl); (have c1 := A2.res.at_ 1 _ rfl); (have f0 := A2.res.free 0); (have f1 := A2.res.free 1); clear hG' hr' hg'))
  go_wp2
  (try simp only [Exit.inBlock, Exit.then])
  refine bodyPost_ret (results_cell_row rfl _ _ (w.heap.size + 1) 26 #[.int .u64 (v : Int), .int .i64 v'] (0, 0) _ rfl ((A2.res.set 0 _).set 1 _) Try.underlying26 rfl (by kernel_rfl)) rfl ?_
  have hlt := A2.lt
  exact .inl ⟨(v, v'), _, a2, by simp only [getCf, HG.out, HG'.out, andG_ok], rfl, rfl, (A2.rd.set (by omega) _ _).set (by omega) _ _, grown_set (grown_set A2.gr (by omega) _ _) (by omega) _ _⟩
theorem getVw_cf (l : List UInt8) : getVw l = andG (getN 8 l) fun n r => andG (getCf r) fun c r => andG (getN 8 r) fun m r => .ok (⟨n, c.1, c.2, m⟩, r) := by
  unfold getVw getCf
  cases h1 : getN 8 l with
  | error e => simp only [andG_err]
  | ok x =>
    obtain ⟨n, r⟩ := x
    simp only [andG_ok]
    cases h2 : getN 8 r with
    | error e => simp only [andG_err]
    | ok x =>
      obtain ⟨e, r2⟩ := x
      simp only [andG_ok]
      cases h3 : getP r2 with
      | error e => simp only [andG_err]
      | ok x =>
        obtain ⟨p, r3⟩ := x
        simp only [andG_ok]
set_option maxHeartbeats 2000000 in
theorem rview (w : World) (b : Nat) (s : ByteArray) (a : Nat) (h : Rd w b s a) :
    Calls Try.prog 53 #[.agg #[.pointer (some ⟨b, 0, none⟩)]] w (RP getVw (fun _ v val => val = .agg #[.int .u64 (v.n : Int), .int .u64 (v.e : Int), .int .i64 v.r, .int .u64 (v.m : Int)]) w b s a) := by
  go_enter Try.func53, Try.ntmps53
  go_wp2
  have A0 := Ahead.new h 28 67 #[.int .u64 0, .int .u64 0, .int .i64 0, .int .u64 0]
  go_region_held2 (fun w' => w'.cell? ⟨w.heap.size, 0, none⟩ = some (.pointer (some ⟨b, 0, none⟩))) (first | (with_reducible exact A1.box) | (with_reducible exact A2.box) | (with_reducible exact A3.box) | go_keep)
    (first
      | (go_at_call 45; (with_reducible refine (rnum _ b s _ 8 8 (by decide) A0.rd).mono ?_); rintro e w1 (⟨v, _, a1, hG, rfl, rfl, hr, hg⟩ | ⟨q, hG, rfl, hg⟩); rotate_left; exact ⟨rfl, .inr ⟨q, by rw [getVw_cf]; simp only [hG, andG_err], rfl, grown_tr A0.gr hg⟩⟩; (have A1 := A0.go hr hg); (have HG := Lib.hid hG); clear hG hr hg)
      | (go_at_call 68; (with_reducible refine (rconf _ b s _ A1.rd).mono ?_); rintro e w2 (⟨v', _, a2, hG', rfl, rfl, hr', hg'⟩ | ⟨q, hG', rfl, hg'⟩); rotate_left; exact ⟨rfl, .inr ⟨q, by rw [getVw_cf]; simp only [HG.out, hG', andG_ok, andG_err], rfl, grown_tr A1.gr hg'⟩⟩; (have A2 := A1.go hr' hg'); (have HG' := Lib.hid hG'); clear hG' hr' hg')
      | (go_at_call 45; (with_reducible refine (rnum _ b s _ 8 8 (by decide) A2.rd).mono ?_); rintro e w3 (⟨v'', _, a3, hG'', rfl, rfl, hr'', hg''⟩ | ⟨q, hG'', rfl, hg''⟩); rotate_left; exact ⟨rfl, .inr ⟨q, by rw [getVw_cf]; simp only [HG.out, HG'.out, hG'', andG_ok, andG_err], rfl, grown_tr A2.gr hg''⟩⟩; (have A3 := A2.go hr'' hg''); (have HG'' := Lib.hid hG''); (have c0 := A3.res.at_ 0 _ rfl); (have c1 := A3.res.at_ 1 _ rfl); (have c2 := A3.res.at_ 2 _ rfl); (have c3 := A3.res.at_ 3 _ rfl); (have f0 := A3.res.free 0); (have f1 := A3.res.free 1); (have f2 := A3.res.free 2); (have f3 := A3.res.free 3); clear hG'' hr'' hg''))
  go_wp2
  (try simp only [Exit.inBlock, Exit.then])
  refine bodyPost_ret (results_cell_row rfl _ _ (w.heap.size + 1) 28 #[.int .u64 (v : Int), .int .u64 (v'.1 : Int), .int .i64 v'.2, .int .u64 (v'' : Int)] (0, 0) _ rfl ((((A3.res.set 0 _).set 1 _).set 2 _).set 3 _) Try.underlying28 rfl (by kernel_rfl)) rfl ?_
  have hlt := A3.lt
  exact .inl ⟨⟨v, v'.1, v'.2, v''⟩, _, a3, by rw [getVw_cf]; simp only [HG.out, HG'.out, HG''.out, andG_ok], rfl, rfl, (((A3.rd.set (by omega) _ _).set (by omega) _ _).set (by omega) _ _).set (by omega) _ _, grown_set (grown_set (grown_set (grown_set A3.gr (by omega) _ _) (by omega) _ _) (by omega) _ _) (by omega) _ _⟩
end Go.Proofs.Ytblefbjmjhgkkaa
