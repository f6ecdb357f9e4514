/- Packets' bodies: plain facts, without the program: what is written, what is read, and that each is the other's. -/
import Derived.Test.YtblefbjmjhgkkaaZMath
set_option linter.unusedVariables false
set_option maxRecDepth 100000
set_option linter.unusedSimpArgs false
namespace Go.Proofs.Ytblefbjmjhgkkaa

/-! ### A number of k bytes is just its bytes -/
theorem pb_mod : ∀ (k v : Nat), pb k (v % 256 ^ k) = pb k v
  | 0, _ => rfl
  | k + 1, v => by
    have h1 : v % 256 ^ (k + 1) / 256 ^ k % 256 = v / 256 ^ k % 256 := by
      rw [Nat.pow_succ, Nat.mod_mul_right_div_self, Nat.mod_mod]
    have h2 : pb k (v % 256 ^ (k + 1)) = pb k v := by
      rw [← pb_mod k (v % 256 ^ (k + 1)), Nat.pow_succ, Nat.mod_mul_right_mod, pb_mod k v]
    rw [pb, pb, h1, h2]
theorem pb_be : ∀ (l : List UInt8), pb l.length (be l) = l
  | [] => rfl
  | c :: l => by
    have hl := be_lt l.length l rfl
    have hp : 0 < 256 ^ l.length := Nat.pow_pos (by decide)
    rw [List.length_cons, pb, be_cons]
    have h1 : (c.toNat * 256 ^ l.length + be l) / 256 ^ l.length = c.toNat := by
      rw [Nat.mul_comm, Nat.mul_add_div hp, Nat.div_eq_of_lt hl, Nat.add_zero]
    have h2 : pb l.length (c.toNat * 256 ^ l.length + be l) = l := by
      rw [← pb_mod, Nat.mul_add_mod_self_right, pb_mod]
      exact pb_be l
    rw [h1, h2, Nat.mod_eq_of_lt c.toNat_lt]
    simp
theorem be_pb_lt {k v : Nat} (h : v < 256 ^ k) : be (pb k v) = v := by rw [be_pb, Nat.mod_eq_of_lt h]

/-! ### What a reader takes off the front: a value and the rest, or an error -/
abbrev Got (α : Type) := Except Nat (α × List UInt8)
def getN (n : Nat) (l : List UInt8) : Got Nat := if l.length < n then .error 2 else .ok (be (l.take n), l.drop n)
theorem getN_iff {n : Nat} {l : List UInt8} {v : Nat} {r : List UInt8} : getN n l = .ok (v, r) ↔ v < 256 ^ n ∧ l = pb n v ++ r := by
  unfold getN
  constructor
  · intro h
    split at h
    · cases h
    · rename_i hl
      obtain ⟨rfl, rfl⟩ := Prod.mk.injEq .. ▸ (Except.ok.inj h)
      have hn : (l.take n).length = n := by rw [List.length_take]; omega
      refine ⟨be_lt n _ hn, ?_⟩
      have := pb_be (l.take n)
      rw [hn] at this
      rw [this, List.take_append_drop]
  · rintro ⟨hv, rfl⟩
    have hl : (pb n v).length = n := pb_length n v
    rw [if_neg (by rw [List.length_append, hl]; omega), List.take_left' hl, List.drop_left' hl, be_pb_lt hv]
/-- One thing behind the other. -/
def andG {α β : Type} (x : Got α) (f : α → List UInt8 → Got β) : Got β := match x with
  | .error e => .error e
  | .ok (a, r) => f a r
theorem andG_iff {α β : Type} {x : Got α} {f : α → List UInt8 → Got β} {b : β} {r : List UInt8} : andG x f = .ok (b, r) ↔ ∃ a m, x = .ok (a, m) ∧ f a m = .ok (b, r) := by
  unfold andG
  cases x with
  | error e => simp
  | ok p =>
    obtain ⟨a, m⟩ := p
    constructor
    · intro h; exact ⟨a, m, rfl, h⟩
    · rintro ⟨a', m', h, h'⟩
      cases h
      exact h'
@[simp] theorem andG_ok {α β : Type} (a : α) (r : List UInt8) (f : α → List UInt8 → Got β) : andG (.ok (a, r)) f = f a r := rfl
@[simp] theorem andG_err {α β : Type} (e : Nat) (f : α → List UInt8 → Got β) : andG (.error e) f = .error e := rfl
/-- An error, if something is so. -/
def badG {β : Type} (e : Nat) (is : Prop) [Decidable is] (x : Got β) : Got β := if is then .error e else x
theorem badG_iff {β : Type} {e : Nat} {is : Prop} [Decidable is] {x : Got β} {b : β × List UInt8} : badG e is x = .ok b ↔ ¬ is ∧ x = .ok b := by
  unfold badG
  split <;> simp_all

/-- A process, as a plain number. -/
def getP (l : List UInt8) : Got Int := andG (getN 1 l) fun p r => badG 1 (63 < p) (.ok ((p : Int), r))
def Proc (p : Int) : Prop := 0 ≤ p ∧ p ≤ 63
instance (p : Int) : Decidable (Proc p) := inferInstanceAs (Decidable (_ ∧ _))
def putP (p : Int) : List UInt8 := pb 1 p.toNat
theorem getP_iff {l : List UInt8} {p : Int} {r : List UInt8} : getP l = .ok (p, r) ↔ Proc p ∧ l = putP p ++ r := by
  unfold getP Proc putP
  simp only [andG_iff, badG_iff, getN_iff, Except.ok.injEq, Prod.mk.injEq]
  constructor
  · rintro ⟨a, m, ⟨_, rfl⟩, h1, rfl, rfl⟩
    exact ⟨by omega, by simp⟩
  · rintro ⟨h, rfl⟩
    refine ⟨p.toNat, r, ⟨by omega, rfl⟩, by omega, by omega, rfl⟩

/-! ### Configurations, keys, vectors, messages, exchanges -/
structure PC where
  e : Nat
  r : Int
  deriving Inhabited, DecidableEq
structure PM where
  f : Int
  q : Nat
  s : Nat
  v : Int
  deps : List Nat
  text : List UInt8
  deriving Inhabited, DecidableEq
structure PX where
  w : Int
  old : PC
  cnt : List Nat
  ls : Nat
  lf : Int
  deriving Inhabited, DecidableEq

def getC (l : List UInt8) : Got PC := andG (getN 8 l) fun e r => andG (getP r) fun p r => .ok (⟨e, p⟩, r)
def PC.ok (c : PC) : Prop := c.e < 256 ^ 8 ∧ Proc c.r
def putC (c : PC) : List UInt8 := pb 8 c.e ++ putP c.r
theorem getC_iff {l : List UInt8} {c : PC} {r : List UInt8} : getC l = .ok (c, r) ↔ c.ok ∧ l = putC c ++ r := by
  unfold getC PC.ok putC
  simp only [andG_iff, getN_iff, getP_iff, Except.ok.injEq, Prod.mk.injEq]
  constructor
  · rintro ⟨a, m, ⟨h1, rfl⟩, b, m', ⟨h2, rfl⟩, rfl, rfl⟩
    exact ⟨⟨h1, h2⟩, by simp⟩
  · rintro ⟨⟨h1, h2⟩, rfl⟩
    exact ⟨_, _, ⟨h1, by rw [List.append_assoc]⟩, _, _, ⟨h2, rfl⟩, rfl, rfl⟩
/-- n numbers of four bytes. -/
def getNs : Nat → List UInt8 → Got (List Nat)
  | 0, l => .ok ([], l)
  | n + 1, l => andG (getN 4 l) fun v r => andG (getNs n r) fun vs r => .ok (v :: vs, r)
def putNs : List Nat → List UInt8
  | [] => []
  | v :: vs => pb 4 v ++ putNs vs
def Words (l : List Nat) : Prop := ∀ v ∈ l, v < 256 ^ 4
theorem getNs_iff : ∀ {n : Nat} {l : List UInt8} {vs : List Nat} {r : List UInt8}, getNs n l = .ok (vs, r) ↔ vs.length = n ∧ Words vs ∧ l = putNs vs ++ r
  | 0, l, vs, r => by
    unfold getNs
    simp only [Except.ok.injEq, Prod.mk.injEq]
    constructor
    · rintro ⟨rfl, rfl⟩; exact ⟨rfl, (fun v h => by cases h), rfl⟩
    · rintro ⟨h, _, rfl⟩
      obtain rfl : vs = [] := List.eq_nil_of_length_eq_zero h
      exact ⟨rfl, rfl⟩
  | n + 1, l, vs, r => by
    unfold getNs
    simp only [andG_iff, getN_iff, getNs_iff, Except.ok.injEq, Prod.mk.injEq]
    constructor
    · rintro ⟨v, m, ⟨h1, rfl⟩, us, m', ⟨h2, h3, rfl⟩, rfl, rfl⟩
      refine ⟨by rw [List.length_cons, h2], ?_, by simp [putNs]⟩
      intro x hx
      rcases List.mem_cons.1 hx with rfl | hx
      · exact h1
      · exact h3 x hx
    · rintro ⟨h, hw, rfl⟩
      match vs, h, hw with
      | v :: us, h, hw => exact ⟨v, _, ⟨hw v (List.mem_cons_self ..), by simp [putNs]⟩, us, r, ⟨by simpa using h, fun x hx => hw x (List.mem_cons_of_mem _ hx), rfl⟩, rfl, rfl⟩
/-- A vector. -/
def getV (l : List UInt8) : Got (List Nat) := andG (getN 1 l) fun n r => badG 3 (64 < n) (getNs n r)
def Vec (l : List Nat) : Prop := l.length ≤ 64 ∧ Words l
def putV (l : List Nat) : List UInt8 := pb 1 l.length ++ putNs l
theorem getV_iff {l : List UInt8} {v : List Nat} {r : List UInt8} : getV l = .ok (v, r) ↔ Vec v ∧ l = putV v ++ r := by
  unfold getV Vec putV
  simp only [andG_iff, badG_iff, getN_iff, getNs_iff]
  constructor
  · rintro ⟨n, m, ⟨_, rfl⟩, h1, h2, h3, rfl⟩
    exact ⟨⟨by omega, h3⟩, by rw [h2]; simp⟩
  · rintro ⟨⟨h1, h2⟩, rfl⟩
    exact ⟨v.length, putNs v ++ r, ⟨by omega, by simp⟩, by omega, rfl, h2, rfl⟩
/-- n bytes as they are. -/
def getT (n : Nat) (l : List UInt8) : Got (List UInt8) := if l.length < n then .error 2 else .ok (l.take n, l.drop n)
theorem getT_iff {n : Nat} {l t r : List UInt8} : getT n l = .ok (t, r) ↔ t.length = n ∧ l = t ++ r := by
  unfold getT
  constructor
  · intro h
    split at h
    · cases h
    · obtain ⟨rfl, rfl⟩ := Prod.mk.injEq .. ▸ (Except.ok.inj h)
      exact ⟨by rw [List.length_take]; omega, (List.take_append_drop _ _).symm⟩
  · rintro ⟨rfl, rfl⟩
    rw [if_neg (by rw [List.length_append]; omega), List.take_left' rfl, List.drop_left' rfl]
/-- A message; from is whose it is. -/
def getM (f : Int) (l : List UInt8) : Got PM :=
  andG (getN 4 l) fun q r => andG (getN 8 r) fun s r => andG (getN 1 r) fun v r => badG 1 (2 < v) (andG (getV r) fun d r => andG (getN 2 r) fun n r => badG 3 (1024 < n) (andG (getT n r) fun t r => .ok (⟨f, q, s, (v : Int), d, t⟩, r)))
def PM.ok (m : PM) : Prop := m.q < 256 ^ 4 ∧ m.s < 256 ^ 8 ∧ (0 ≤ m.v ∧ m.v ≤ 2) ∧ Vec m.deps ∧ m.text.length ≤ 1024
def putM (m : PM) : List UInt8 := pb 4 m.q ++ (pb 8 m.s ++ (pb 1 m.v.toNat ++ (putV m.deps ++ (pb 2 m.text.length ++ m.text))))
theorem getM_iff {f : Int} {l : List UInt8} {m : PM} {r : List UInt8} : getM f l = .ok (m, r) ↔ m.f = f ∧ m.ok ∧ l = putM m ++ r := by
  unfold getM PM.ok putM
  simp only [andG_iff, badG_iff, getN_iff, getV_iff, getT_iff, Except.ok.injEq, Prod.mk.injEq]
  constructor
  · rintro ⟨q, _, ⟨h1, rfl⟩, s, _, ⟨h2, rfl⟩, v, _, ⟨_, rfl⟩, h3, d, _, ⟨h4, rfl⟩, n, _, ⟨_, rfl⟩, h5, t, _, ⟨h6, rfl⟩, rfl, rfl⟩
    exact ⟨rfl, ⟨h1, h2, ⟨by show (0 : Int) ≤ (v : Int); omega, by show (v : Int) ≤ 2; omega⟩, h4, by show t.length ≤ 1024; omega⟩, by simp [h6]⟩
  · rintro ⟨rfl, ⟨h1, h2, h3, h4, h5⟩, rfl⟩
    refine ⟨_, _, ⟨h1, by simp only [List.append_assoc]⟩, _, _, ⟨h2, rfl⟩, m.v.toNat, _, ⟨by omega, rfl⟩, by omega, _, _, ⟨h4, rfl⟩, m.text.length, _, ⟨by omega, rfl⟩, by omega, _, _, ⟨rfl, rfl⟩, ?_, rfl⟩
    obtain ⟨f, q, s, v, d, t⟩ := m
    simp only [PM.mk.injEq, true_and, and_true]
    simp only at h3
    omega
/-- An exchange. -/
def getX (l : List UInt8) : Got PX :=
  andG (getP l) fun w r => andG (getC r) fun o r => andG (getV r) fun c r => andG (getN 8 r) fun s r => andG (getP r) fun f r => .ok (⟨w, o, c, s, f⟩, r)
def PX.ok (x : PX) : Prop := Proc x.w ∧ x.old.ok ∧ Vec x.cnt ∧ x.ls < 256 ^ 8 ∧ Proc x.lf
def putX (x : PX) : List UInt8 := putP x.w ++ (putC x.old ++ (putV x.cnt ++ (pb 8 x.ls ++ putP x.lf)))
theorem getX_iff {l : List UInt8} {x : PX} {r : List UInt8} : getX l = .ok (x, r) ↔ x.ok ∧ l = putX x ++ r := by
  unfold getX PX.ok putX
  simp only [andG_iff, getN_iff, getP_iff, getC_iff, getV_iff, Except.ok.injEq, Prod.mk.injEq]
  constructor
  · rintro ⟨w, _, ⟨h1, rfl⟩, o, _, ⟨h2, rfl⟩, c, _, ⟨h3, rfl⟩, s, _, ⟨h4, rfl⟩, f, _, ⟨h5, rfl⟩, rfl, rfl⟩
    exact ⟨⟨h1, h2, h3, h4, h5⟩, by simp⟩
  · rintro ⟨⟨h1, h2, h3, h4, h5⟩, rfl⟩
    exact ⟨_, _, ⟨h1, by simp only [List.append_assoc]⟩, _, _, ⟨h2, rfl⟩, _, _, ⟨h3, rfl⟩, _, _, ⟨h4, rfl⟩, _, _, ⟨h5, rfl⟩, rfl, rfl⟩
/-- n exchanges. -/
def getXs : Nat → List UInt8 → Got (List PX)
  | 0, l => .ok ([], l)
  | n + 1, l => andG (getX l) fun v r => andG (getXs n r) fun vs r => .ok (v :: vs, r)
def putXs : List PX → List UInt8
  | [] => []
  | v :: vs => putX v ++ putXs vs
def Exs (l : List PX) : Prop := ∀ v ∈ l, v.ok
theorem getXs_iff : ∀ {n : Nat} {l : List UInt8} {vs : List PX} {r : List UInt8}, getXs n l = .ok (vs, r) ↔ vs.length = n ∧ Exs vs ∧ l = putXs vs ++ r
  | 0, l, vs, r => by
    unfold getXs
    simp only [Except.ok.injEq, Prod.mk.injEq]
    constructor
    · rintro ⟨rfl, rfl⟩; exact ⟨rfl, (fun v h => by cases h), rfl⟩
    · rintro ⟨h, _, rfl⟩
      obtain rfl : vs = [] := List.eq_nil_of_length_eq_zero h
      exact ⟨rfl, rfl⟩
  | n + 1, l, vs, r => by
    unfold getXs
    simp only [andG_iff, getX_iff, getXs_iff, Except.ok.injEq, Prod.mk.injEq]
    constructor
    · rintro ⟨v, m, ⟨h1, rfl⟩, us, m', ⟨h2, h3, rfl⟩, rfl, rfl⟩
      refine ⟨by rw [List.length_cons, h2], ?_, by simp [putXs]⟩
      intro x hx
      rcases List.mem_cons.1 hx with rfl | hx
      · exact h1
      · exact h3 x hx
    · rintro ⟨h, hw, rfl⟩
      match vs, h, hw with
      | v :: us, h, hw => exact ⟨v, _, ⟨hw v (List.mem_cons_self ..), by simp [putXs]⟩, us, r, ⟨by simpa using h, fun x hx => hw x (List.mem_cons_of_mem _ hx), rfl⟩, rfl, rfl⟩
def getL (l : List UInt8) : Got (List PX) := andG (getN 1 l) fun n r => badG 3 (64 < n) (getXs n r)
def putL (l : List PX) : List UInt8 := pb 1 l.length ++ putXs l
theorem getL_iff {l : List UInt8} {v : List PX} {r : List UInt8} : getL l = .ok (v, r) ↔ (v.length ≤ 64 ∧ Exs v) ∧ l = putL v ++ r := by
  unfold getL putL
  simp only [andG_iff, badG_iff, getN_iff, getXs_iff]
  constructor
  · rintro ⟨n, m, ⟨_, rfl⟩, h1, h2, h3, rfl⟩
    exact ⟨⟨by omega, h3⟩, by rw [h2]; simp⟩
  · rintro ⟨⟨h1, h2⟩, rfl⟩
    exact ⟨v.length, putXs v ++ r, ⟨by omega, by simp⟩, by omega, rfl, h2, rfl⟩

/-! ### Packets -/
structure Pk where
  kind : Int
  frm : Int
  to : Int
  conf : PC
  m : PM
  stamp : Nat
  sent : Nat
  got : List Nat
  hor : Nat
  whom : Int
  seq : Nat
  mem : Nat
  prom : PC
  epoch : Nat
  x : List PX
  deriving Inhabited, DecidableEq
/-- The fields of a body. -/
inductive Fd where
  | c | m | s | n | g | h | w | q | p | e | b | x | l
  deriving DecidableEq
/-- The row of a kind. -/
def rowF : Nat → List Fd
  | 1 => [.c, .m]
  | 2 => [.c, .s, .n, .g, .h]
  | 3 => [.c, .w, .q]
  | 4 => [.c, .p, .e, .b]
  | 5 => [.c, .b]
  | 6 => [.c, .x]
  | 7 => [.c, .b, .l]
  | 8 => [.c, .w, .q]
  | 9 => [.c, .w, .m]
  | 10 => [.c]
  | 11 => [.c]
  | _ => []
/-- Whose a packet's message is. -/
def whose (p : Pk) : Int := if p.kind = 9 then p.whom else p.frm
def getF (f : Fd) (p : Pk) (l : List UInt8) : Got Pk := match f with
  | .c => andG (getC l) fun v r => .ok ({ p with conf := v }, r)
  | .m => andG (getM (whose p) l) fun v r => .ok ({ p with m := v }, r)
  | .s => andG (getN 8 l) fun v r => .ok ({ p with stamp := v }, r)
  | .n => andG (getN 4 l) fun v r => .ok ({ p with sent := v }, r)
  | .g => andG (getV l) fun v r => .ok ({ p with got := v }, r)
  | .h => andG (getN 8 l) fun v r => .ok ({ p with hor := v }, r)
  | .w => andG (getP l) fun v r => .ok ({ p with whom := v }, r)
  | .q => andG (getN 4 l) fun v r => .ok ({ p with seq := v }, r)
  | .p => andG (getC l) fun v r => .ok ({ p with prom := v }, r)
  | .e => andG (getN 8 l) fun v r => .ok ({ p with epoch := v }, r)
  | .b => andG (getN 8 l) fun v r => .ok ({ p with mem := v }, r)
  | .x => andG (getX l) fun v r => .ok ({ p with x := [v] }, r)
  | .l => andG (getL l) fun v r => .ok ({ p with x := v }, r)
/-- A field of a packet is as it may be. -/
def okF (f : Fd) (p : Pk) : Prop := match f with
  | .c => p.conf.ok
  | .m => p.m.ok
  | .s => p.stamp < 256 ^ 8
  | .n => p.sent < 256 ^ 4
  | .g => Vec p.got
  | .h => p.hor < 256 ^ 8
  | .w => Proc p.whom
  | .q => p.seq < 256 ^ 4
  | .p => p.prom.ok
  | .e => p.epoch < 256 ^ 8
  | .b => p.mem < 256 ^ 8
  | .x => p.x.length = 1 ∧ Exs p.x
  | .l => p.x.length ≤ 64 ∧ Exs p.x
/-- Its bytes. -/
def putF (f : Fd) (p : Pk) : List UInt8 := match f with
  | .c => putC p.conf
  | .m => putM p.m
  | .s => pb 8 p.stamp
  | .n => pb 4 p.sent
  | .g => putV p.got
  | .h => pb 8 p.hor
  | .w => putP p.whom
  | .q => pb 4 p.seq
  | .p => putC p.prom
  | .e => pb 8 p.epoch
  | .b => pb 8 p.mem
  | .x => putXs p.x
  | .l => putL p.x
/-- q with a field of p. -/
def setF (f : Fd) (p q : Pk) : Pk := match f with
  | .c => { q with conf := p.conf }
  | .m => { q with m := { p.m with f := whose q } }
  | .s => { q with stamp := p.stamp }
  | .n => { q with sent := p.sent }
  | .g => { q with got := p.got }
  | .h => { q with hor := p.hor }
  | .w => { q with whom := p.whom }
  | .q => { q with seq := p.seq }
  | .p => { q with prom := p.prom }
  | .e => { q with epoch := p.epoch }
  | .b => { q with mem := p.mem }
  | .x => { q with x := p.x }
  | .l => { q with x := p.x }
theorem getF_iff {f : Fd} {q : Pk} {l : List UInt8} {q' : Pk} {r : List UInt8} : getF f q l = .ok (q', r) ↔ q' = setF f q' q ∧ okF f q' ∧ l = putF f q' ++ r := by
  cases f
  case m =>
    simp only [getF, okF, putF, setF, andG_iff, getM_iff, Except.ok.injEq, Prod.mk.injEq]
    constructor
    · rintro ⟨v, m, ⟨h1, h2, rfl⟩, rfl, rfl⟩
      refine ⟨?_, h2, rfl⟩
      obtain ⟨a, b, c, d, e, g⟩ := v
      simp only at h1
      subst h1
      rfl
    · rintro ⟨h1, h2, rfl⟩
      refine ⟨q'.m, r, ⟨?_, h2, rfl⟩, ?_, rfl⟩
      · rw [h1]
      · have : q'.m = { q'.m with f := whose q } := by
          conv => lhs; rw [h1]
        rw [this]; exact h1.symm
  case x =>
    simp only [getF, okF, putF, setF, andG_iff, getX_iff, Except.ok.injEq, Prod.mk.injEq]
    constructor
    · rintro ⟨v, m, ⟨h1, rfl⟩, rfl, rfl⟩
      exact ⟨rfl, ⟨rfl, fun y hy => by rcases List.mem_singleton.1 hy with rfl; exact h1⟩, by simp [putXs]⟩
    · rintro ⟨h1, ⟨h2, h3⟩, rfl⟩
      obtain ⟨v, hv⟩ := List.length_eq_one_iff.1 h2
      refine ⟨v, r, ⟨h3 v (by rw [hv]; exact List.mem_singleton.2 rfl), by rw [hv]; simp [putXs]⟩, ?_, rfl⟩
      rw [← hv]; exact h1.symm
  all_goals
    simp only [getF, okF, putF, setF, andG_iff, getC_iff, getN_iff, getV_iff, getP_iff, getL_iff, Except.ok.injEq, Prod.mk.injEq]
    constructor
    · rintro ⟨v, m, ⟨h1, rfl⟩, rfl, rfl⟩
      exact ⟨rfl, h1, rfl⟩
    · rintro ⟨h1, h2, rfl⟩
      exact ⟨_, r, ⟨h2, rfl⟩, h1.symm, rfl⟩

/-! ### Rows of fields -/
def getFs : List Fd → Pk → List UInt8 → Got Pk
  | [], p, l => .ok (p, l)
  | f :: fs, p, l => andG (getF f p l) fun p r => getFs fs p r
def okFs : List Fd → Pk → Prop
  | [], _ => True
  | f :: fs, p => okF f p ∧ okFs fs p
def putFs : List Fd → Pk → List UInt8
  | [], _ => []
  | f :: fs, p => putF f p ++ putFs fs p
def setFs : List Fd → Pk → Pk → Pk
  | [], _, q => q
  | f :: fs, p, q => setFs fs p (setF f p q)
/-- Fields that lie in other places (x and l lie in one). -/
def apart (f j : Fd) : Bool := f != j && !(f == .x && j == .l) && !(f == .l && j == .x)
theorem setF_other {f j : Fd} (h : apart f j = true) (p q z : Pk) : setF f (setF j p q) z = setF f q z := by
  cases f <;> cases j <;> first | rfl | (exact absurd h (by decide))
def apartAll (f : Fd) (fs : List Fd) : Bool := fs.all (apart f)
def allApart : List Fd → Bool
  | [] => true
  | f :: fs => apartAll f fs && allApart fs
theorem setF_others {f : Fd} : ∀ {fs : List Fd}, apartAll f fs = true → ∀ (p q z : Pk), setF f (setFs fs p q) z = setF f q z
  | [], _, _, _, _ => rfl
  | j :: fs, h, p, q, z => by
    unfold apartAll at h
    rw [List.all_cons, Bool.and_eq_true] at h
    unfold setFs
    rw [setF_others (fs := fs) h.2, setF_other h.1]
theorem setF_same (f : Fd) (p q z : Pk) (hz : whose z = whose q) : setF f (setF f p q) z = setF f p z := by
  cases f <;> simp [setF, hz]
theorem okF_set (f : Fd) (p q : Pk) : okF f (setF f p q) ↔ okF f p := by cases f <;> rfl
theorem putF_set (f : Fd) (p q : Pk) : putF f (setF f p q) = putF f p := by cases f <;> rfl
theorem getFs_iff : ∀ {fs : List Fd} {q : Pk} {l : List UInt8} {q' : Pk} {r : List UInt8}, allApart fs = true → (getFs fs q l = .ok (q', r) ↔ q' = setFs fs q' q ∧ okFs fs q' ∧ l = putFs fs q' ++ r)
  | [], q, l, q', r, _ => by
    simp only [getFs, setFs, okFs, putFs, Except.ok.injEq, Prod.mk.injEq, List.nil_append, true_and]
    constructor
    · rintro ⟨rfl, rfl⟩; exact ⟨rfl, rfl⟩
    · rintro ⟨rfl, rfl⟩; exact ⟨rfl, rfl⟩
  | f :: fs, q, l, q', r, ha => by
    unfold allApart at ha
    rw [Bool.and_eq_true] at ha
    have ih := fun {q : Pk} {l : List UInt8} {q' : Pk} {r : List UInt8} => getFs_iff (fs := fs) (q := q) (l := l) (q' := q') (r := r) ha.2
    unfold getFs setFs okFs putFs
    rw [andG_iff]
    constructor
    · rintro ⟨q1, m, h1, h2⟩
      obtain ⟨e1, o1, rfl⟩ := getF_iff.1 h1
      obtain ⟨e2, o2, rfl⟩ := ih.1 h2
      -- q' and q1 have one and the same field f
      have hs : ∀ z, setF f q' z = setF f q1 z := fun z => by rw [e2]; exact setF_others ha.1 _ _ z
      have hq : setF f q' q = q1 := by rw [hs]; exact e1.symm
      have hk : okF f q' ↔ okF f q1 := by rw [← okF_set f q' q, ← okF_set f q1 q, hs]
      have hp : putF f q' = putF f q1 := by rw [← putF_set f q' q, ← putF_set f q1 q, hs]
      exact ⟨by rw [hq]; exact e2, ⟨hk.2 o1, o2⟩, by rw [hp, List.append_assoc]⟩
    · rintro ⟨e, ⟨o1, o2⟩, rfl⟩
      refine ⟨setF f q' q, putFs fs q' ++ r, getF_iff.2 ⟨(setF_same f q' q q rfl).symm, (okF_set f q' q).2 o1, by rw [putF_set, List.append_assoc]⟩, ih.2 ⟨e, o2, rfl⟩⟩
theorem rows_apart : ∀ k, allApart (rowF k) = true
  | 0 | 1 | 2 | 3 | 4 | 5 | 6 | 7 | 8 | 9 | 10 | 11 => rfl
  | _ + 12 => rfl

/-! ### Clean packets -/
def noneC : PC := ⟨0, 0⟩
def noneM : PM := ⟨0, 0, 0, 0, [], []⟩
def baseP (kind frm to : Int) : Pk := ⟨kind, frm, to, noneC, noneM, 0, 0, [], 0, 0, 0, 0, noneC, 0, []⟩
def rowP (p : Pk) : List Fd := if 1 ≤ p.kind ∧ p.kind ≤ 11 then rowF p.kind.toNat else []
def cleanP (p : Pk) : Pk := setFs (rowP p) p (baseP p.kind p.frm p.to)
theorem setF_again (f : Fd) (p q z : Pk) : setF f (setF f p q) z = setF f p z := by cases f <;> rfl
theorem setF_of {f : Fd} : ∀ {fs : List Fd}, allApart fs = true → f ∈ fs → ∀ (p q z : Pk), setF f (setFs fs p q) z = setF f p z
  | [], _, h, _, _, _ => by cases h
  | j :: fs, ha, h, p, q, z => by
    unfold allApart at ha
    rw [Bool.and_eq_true] at ha
    unfold setFs
    rcases List.mem_cons.1 h with rfl | h
    · rw [setF_others ha.1, setF_again]
    · exact setF_of ha.2 h p _ z
theorem setFs_of {fs : List Fd} (ha : allApart fs = true) (p q : Pk) : ∀ (js : List Fd), (∀ f ∈ js, f ∈ fs) → ∀ z, setFs js (setFs fs p q) z = setFs js p z
  | [], _, _ => rfl
  | j :: js, h, z => by
    unfold setFs
    rw [setF_of ha (h j (List.mem_cons_self ..))]
    exact setFs_of ha p q js (fun f hf => h f (List.mem_cons_of_mem _ hf)) _
theorem okFs_of {fs : List Fd} (ha : allApart fs = true) (p q : Pk) : ∀ (js : List Fd), (∀ f ∈ js, f ∈ fs) → (okFs js (setFs fs p q) ↔ okFs js p)
  | [], _ => Iff.rfl
  | j :: js, h => by
    unfold okFs
    rw [okFs_of ha p q js (fun f hf => h f (List.mem_cons_of_mem _ hf)), ← okF_set j (setFs fs p q) q, setF_of ha (h j (List.mem_cons_self ..)), okF_set]
theorem putFs_of {fs : List Fd} (ha : allApart fs = true) (p q : Pk) : ∀ (js : List Fd), (∀ f ∈ js, f ∈ fs) → putFs js (setFs fs p q) = putFs js p
  | [], _ => rfl
  | j :: js, h => by
    unfold putFs
    rw [putFs_of ha p q js (fun f hf => h f (List.mem_cons_of_mem _ hf)), ← putF_set j (setFs fs p q) q, setF_of ha (h j (List.mem_cons_self ..)), putF_set]
theorem setF_head (f : Fd) (p q : Pk) : (setF f p q).kind = q.kind ∧ (setF f p q).frm = q.frm ∧ (setF f p q).to = q.to := by cases f <;> exact ⟨rfl, rfl, rfl⟩
theorem setFs_head : ∀ (fs : List Fd) (p q : Pk), (setFs fs p q).kind = q.kind ∧ (setFs fs p q).frm = q.frm ∧ (setFs fs p q).to = q.to
  | [], _, _ => ⟨rfl, rfl, rfl⟩
  | f :: fs, p, q => by
    have h := setF_head f p q
    have h' := setFs_head fs p (setF f p q)
    unfold setFs
    exact ⟨h'.1.trans h.1, h'.2.1.trans h.2.1, h'.2.2.trans h.2.2⟩
theorem rowP_apart (p : Pk) : allApart (rowP p) = true := by
  unfold rowP
  split
  · exact rows_apart _
  · rfl
theorem clean_head (p : Pk) : (cleanP p).kind = p.kind ∧ (cleanP p).frm = p.frm ∧ (cleanP p).to = p.to := setFs_head _ _ _
theorem clean_row (p : Pk) : rowP (cleanP p) = rowP p := by unfold rowP; rw [(clean_head p).1]
theorem clean_put (p : Pk) : putFs (rowP p) (cleanP p) = putFs (rowP p) p := putFs_of (rowP_apart p) p _ _ fun _ h => h
theorem clean_ok (p : Pk) : okFs (rowP p) (cleanP p) ↔ okFs (rowP p) p := okFs_of (rowP_apart p) p _ _ fun _ h => h
theorem clean_clean (p : Pk) : cleanP (cleanP p) = cleanP p := by
  have e : cleanP (cleanP p) = setFs (rowP (cleanP p)) (cleanP p) (baseP (cleanP p).kind (cleanP p).frm (cleanP p).to) := rfl
  rw [e, clean_row, (clean_head p).1, (clean_head p).2.1, (clean_head p).2.2]
  exact setFs_of (rowP_apart p) p _ _ (fun _ h => h) _
/-- What was written is read as the clean packet. -/
theorem get_put (p : Pk) (h : okFs (rowP p) p) : getFs (rowP p) (baseP p.kind p.frm p.to) (putFs (rowP p) p) = .ok (cleanP p, []) := by
  refine (getFs_iff (rowP_apart p)).2 ⟨?_, (clean_ok p).2 h, by rw [clean_put, List.append_nil]⟩
  exact (setFs_of (rowP_apart p) p _ _ (fun _ h => h) _).symm
/-- What is read is clean, and written to the bytes that it was read of. -/
theorem put_get {kind frm to : Int} {l : List UInt8} {q : Pk} (h : getFs (rowP (baseP kind frm to)) (baseP kind frm to) l = .ok (q, [])) :
    q.kind = kind ∧ q.frm = frm ∧ q.to = to ∧ rowP q = rowP (baseP kind frm to) ∧ okFs (rowP q) q ∧ l = putFs (rowP q) q ∧ cleanP q = q := by
  obtain ⟨e, o, rfl⟩ := (getFs_iff (rowP_apart _)).1 h
  have hh := setFs_head (rowP (baseP kind frm to)) q (baseP kind frm to)
  rw [← e] at hh
  have hk : q.kind = kind := hh.1
  have hf : q.frm = frm := hh.2.1
  have ht : q.to = to := hh.2.2
  have hr : rowP q = rowP (baseP kind frm to) := by unfold rowP; rw [hk]; rfl
  refine ⟨hk, hf, ht, hr, by rw [hr]; exact o, by rw [hr, List.append_nil], ?_⟩
  unfold cleanP
  rw [hr, hk, hf, ht]
  exact e.symm

/-! ### What is wrong with a packet that is to be written -/
def orN (a b : Nat) : Nat := if a = 0 then b else a
theorem orN_zero {a b : Nat} : orN a b = 0 ↔ a = 0 ∧ b = 0 := by unfold orN; split <;> omega
theorem orN_left {a b : Nat} (h : a ≠ 0) : orN a b = a := by unfold orN; rw [if_neg h]
theorem orN_right {a b : Nat} (h : a = 0) : orN a b = b := by unfold orN; rw [if_pos h]
def errP (p : Int) : Nat := if Proc p then 0 else 1
def errC (c : PC) : Nat := errP c.r
def errV (l : List Nat) : Nat := if 64 < l.length then 3 else 0
def errM (m : PM) : Nat := orN (if m.v < 0 ∨ 2 < m.v then 1 else 0) (orN (errV m.deps) (if 1024 < m.text.length then 3 else 0))
def errX (x : PX) : Nat := orN (errP x.w) (orN (errC x.old) (orN (errV x.cnt) (errP x.lf)))
def errXs : List PX → Nat
  | [] => 0
  | x :: xs => orN (errX x) (errXs xs)
def errF (f : Fd) (p : Pk) : Nat := match f with
  | .c => errC p.conf
  | .m => errM p.m
  | .g => errV p.got
  | .w => errP p.whom
  | .p => errC p.prom
  | .x => if p.x.length ≠ 1 then 1 else errXs p.x
  | .l => if 64 < p.x.length then 3 else errXs p.x
  | _ => 0
def errFs : List Fd → Pk → Nat
  | [], _ => 0
  | f :: fs, p => orN (errF f p) (errFs fs p)
/-- Its numbers are within their types. -/
def PC.typed (c : PC) : Prop := c.e < 256 ^ 8
def PM.typed (m : PM) : Prop := m.q < 256 ^ 4 ∧ m.s < 256 ^ 8 ∧ Words m.deps
def PX.typed (x : PX) : Prop := x.old.typed ∧ Words x.cnt ∧ x.ls < 256 ^ 8
def Pk.typed (p : Pk) : Prop := p.conf.typed ∧ p.m.typed ∧ p.stamp < 256 ^ 8 ∧ p.sent < 256 ^ 4 ∧ Words p.got ∧ p.hor < 256 ^ 8 ∧ p.seq < 256 ^ 4 ∧ p.mem < 256 ^ 8 ∧ p.prom.typed ∧ p.epoch < 256 ^ 8 ∧ ∀ x ∈ p.x, x.typed
theorem errP_iff {p : Int} : errP p = 0 ↔ Proc p := by unfold errP; split <;> simp_all
theorem errC_iff {c : PC} (h : c.typed) : errC c = 0 ↔ c.ok := by
  unfold errC PC.ok
  rw [errP_iff]
  exact ⟨fun h' => ⟨h, h'⟩, fun h' => h'.2⟩
theorem errV_iff {l : List Nat} (h : Words l) : errV l = 0 ↔ Vec l := by
  unfold errV Vec
  split
  · constructor
    · intro h'; cases h'
    · rintro ⟨h', _⟩; omega
  · exact ⟨fun _ => ⟨by omega, h⟩, fun _ => rfl⟩
theorem errM_iff {m : PM} (h : m.typed) : errM m = 0 ↔ m.ok := by
  unfold errM PM.ok
  rw [orN_zero, orN_zero, errV_iff h.2.2]
  constructor
  · rintro ⟨h1, h2, h3⟩
    refine ⟨h.1, h.2.1, ?_, h2, ?_⟩
    · split at h1 <;> omega
    · split at h3 <;> omega
  · rintro ⟨_, _, h1, h2, h3⟩
    exact ⟨by rw [if_neg (by omega)], h2, by rw [if_neg (by omega)]⟩
theorem errX_iff {x : PX} (h : x.typed) : errX x = 0 ↔ x.ok := by
  unfold errX PX.ok
  rw [orN_zero, orN_zero, orN_zero, errP_iff, errC_iff h.1, errV_iff h.2.1, errP_iff]
  exact ⟨fun ⟨h1, h2, h3, h4⟩ => ⟨h1, h2, h3, h.2.2, h4⟩, fun ⟨h1, h2, h3, _, h4⟩ => ⟨h1, h2, h3, h4⟩⟩
theorem errXs_iff : ∀ {l : List PX}, (∀ x ∈ l, x.typed) → (errXs l = 0 ↔ Exs l)
  | [], _ => ⟨fun _ x hx => (by cases hx), fun _ => rfl⟩
  | x :: l, h => by
    unfold errXs
    rw [orN_zero, errX_iff (h x (List.mem_cons_self ..)), errXs_iff fun y hy => h y (List.mem_cons_of_mem _ hy)]
    constructor
    · rintro ⟨h1, h2⟩ y hy
      rcases List.mem_cons.1 hy with rfl | hy
      · exact h1
      · exact h2 y hy
    · intro h'
      exact ⟨h' x (List.mem_cons_self ..), fun y hy => h' y (List.mem_cons_of_mem _ hy)⟩
theorem errF_iff {f : Fd} {p : Pk} (h : p.typed) : errF f p = 0 ↔ okF f p := by
  obtain ⟨h1, h2, h3, h4, h5, h6, h7, h8, h9, h10, h11⟩ := h
  cases f
  case c => exact errC_iff h1
  case m => exact errM_iff h2
  case s => exact ⟨fun _ => h3, fun _ => rfl⟩
  case n => exact ⟨fun _ => h4, fun _ => rfl⟩
  case g => exact errV_iff h5
  case h => exact ⟨fun _ => h6, fun _ => rfl⟩
  case w => exact errP_iff
  case q => exact ⟨fun _ => h7, fun _ => rfl⟩
  case p => exact errC_iff h9
  case e => exact ⟨fun _ => h10, fun _ => rfl⟩
  case b => exact ⟨fun _ => h8, fun _ => rfl⟩
  case x =>
    unfold errF okF
    simp only
    split
    · constructor
      · intro h'; cases h'
      · rintro ⟨h', _⟩; exact absurd h' (by assumption)
    · rename_i hl
      rw [errXs_iff h11]
      exact ⟨fun h' => ⟨Decidable.not_not.1 hl, h'⟩, fun h' => h'.2⟩
  case l =>
    unfold errF okF
    simp only
    split
    · constructor
      · intro h'; cases h'
      · rintro ⟨h', _⟩; omega
    · rw [errXs_iff h11]
      exact ⟨fun h' => ⟨by omega, h'⟩, fun h' => h'.2⟩
theorem errFs_iff {p : Pk} (h : p.typed) : ∀ {fs : List Fd}, errFs fs p = 0 ↔ okFs fs p
  | [] => ⟨fun _ => trivial, fun _ => rfl⟩
  | f :: fs => by
    unfold errFs okFs
    rw [orN_zero, errF_iff h, errFs_iff h]

/-! ### How long a body may be -/
theorem putNs_length : ∀ (l : List Nat), (putNs l).length = 4 * l.length
  | [] => rfl
  | v :: l => by unfold putNs; rw [List.length_append, pb_length, putNs_length l, List.length_cons]; omega
theorem putV_length (l : List Nat) : (putV l).length = 1 + 4 * l.length := by unfold putV; rw [List.length_append, pb_length, putNs_length]
theorem putP_length (p : Int) : (putP p).length = 1 := pb_length 1 _
theorem putC_length (c : PC) : (putC c).length = 9 := by unfold putC; rw [List.length_append, pb_length, putP_length]
theorem putM_length (m : PM) : (putM m).length = 16 + 4 * m.deps.length + m.text.length := by
  unfold putM
  simp only [List.length_append, pb_length, putV_length]
  omega
theorem putX_length (x : PX) : (putX x).length = 20 + 4 * x.cnt.length := by
  unfold putX
  simp only [List.length_append, pb_length, putV_length, putP_length, putC_length]
  omega
theorem putXs_length : ∀ (l : List PX), Exs l → (putXs l).length ≤ 276 * l.length
  | [], _ => Nat.le_refl _
  | x :: l, h => by
    unfold putXs
    have h1 := putX_length x
    have h2 := (h x (List.mem_cons_self ..)).2.2.1.1
    have h3 := putXs_length l fun y hy => h y (List.mem_cons_of_mem _ hy)
    rw [List.length_append, List.length_cons]
    omega
theorem putF_length {f : Fd} {p : Pk} (h : okF f p) : (putF f p).length ≤ 18000 := by
  cases f
  case c => exact Nat.le_trans (Nat.le_of_eq (putC_length _)) (by decide)
  case m =>
    have h1 := putM_length p.m
    have h2 := h.2.2.2.1.1
    have h3 := h.2.2.2.2
    show (putM p.m).length ≤ 18000
    omega
  case g =>
    have h1 := putV_length p.got
    have h2 := h.1
    show (putV p.got).length ≤ 18000
    omega
  case w => exact Nat.le_trans (Nat.le_of_eq (putP_length _)) (by decide)
  case p => exact Nat.le_trans (Nat.le_of_eq (putC_length _)) (by decide)
  case x =>
    have h1 := putXs_length p.x h.2
    have h2 := h.1
    show (putXs p.x).length ≤ 18000
    omega
  case l =>
    have h1 := putXs_length p.x h.2
    have h2 := h.1
    show (pb 1 p.x.length ++ putXs p.x).length ≤ 18000
    rw [List.length_append, pb_length]
    omega
  all_goals exact Nat.le_trans (Nat.le_of_eq (pb_length _ _)) (by decide)
theorem putF_small {f : Fd} {p : Pk} (h : okF f p) (hf : f ≠ .x ∧ f ≠ .l) : (putF f p).length ≤ 1400 := by
  cases f
  case c => exact Nat.le_trans (Nat.le_of_eq (putC_length _)) (by decide)
  case m =>
    have h1 := putM_length p.m
    have h2 := h.2.2.2.1.1
    have h3 := h.2.2.2.2
    show (putM p.m).length ≤ 1400
    omega
  case g =>
    have h1 := putV_length p.got
    have h2 := h.1
    show (putV p.got).length ≤ 1400
    omega
  case w => exact Nat.le_trans (Nat.le_of_eq (putP_length _)) (by decide)
  case p => exact Nat.le_trans (Nat.le_of_eq (putC_length _)) (by decide)
  case x => exact absurd rfl hf.1
  case l => exact absurd rfl hf.2
  all_goals exact Nat.le_trans (Nat.le_of_eq (pb_length _ _)) (by decide)
def mostF (f : Fd) : Nat := if f = .x ∨ f = .l then 18000 else 1400
def mostFs : List Fd → Nat
  | [] => 0
  | f :: fs => mostF f + mostFs fs
theorem putFs_length {p : Pk} : ∀ {fs : List Fd}, okFs fs p → (putFs fs p).length ≤ mostFs fs
  | [], _ => Nat.le_refl _
  | f :: fs, h => by
    unfold putFs mostFs mostF
    have h2 := putFs_length h.2
    rw [List.length_append]
    split
    · have h1 := putF_length h.1; omega
    · rename_i hf
      have h1 := putF_small h.1 ⟨fun e => hf (.inl e), fun e => hf (.inr e)⟩
      omega
theorem rows_most : ∀ k, mostFs (rowF k) ≤ 30000
  | 0 | 1 | 2 | 3 | 4 | 5 | 6 | 7 | 8 | 9 | 10 | 11 => by decide
  | _ + 12 => by show mostFs [] ≤ 30000; decide
theorem body_length {p : Pk} (h : okFs (rowP p) p) : (putFs (rowP p) p).length ≤ 30000 := by
  refine Nat.le_trans (putFs_length h) ?_
  unfold rowP
  split
  · exact rows_most _
  · decide

/-! ### A whole body; a reader at a place of a text -/
def parseB (kind frm to : Int) (l : List UInt8) : Except Nat Pk := match getFs (rowP (baseP kind frm to)) (baseP kind frm to) l with
  | .error e => .error e
  | .ok (q, []) => .ok q
  | .ok (_, _ :: _) => .error 4
theorem parseB_iff {kind frm to : Int} {l : List UInt8} {q : Pk} : parseB kind frm to l = .ok q ↔ getFs (rowP (baseP kind frm to)) (baseP kind frm to) l = .ok (q, []) := by
  unfold parseB
  split
  · simp_all
  · simp_all
  · simp_all
theorem parse_put (p : Pk) (h : okFs (rowP p) p) : parseB p.kind p.frm p.to (putFs (rowP p) p) = .ok (cleanP p) := parseB_iff.2 (get_put p h)
theorem put_parse {kind frm to : Int} {l : List UInt8} {q : Pk} (h : parseB kind frm to l = .ok q) :
    q.kind = kind ∧ q.frm = frm ∧ q.to = to ∧ okFs (rowP q) q ∧ l = putFs (rowP q) q ∧ cleanP q = q := by
  obtain ⟨h1, h2, h3, _, h4, h5, h6⟩ := put_get (parseB_iff.1 h)
  exact ⟨h1, h2, h3, h4, h5, h6⟩
/-- What is left of a text behind a place. -/
def restB (s : ByteArray) (a : Nat) : List UInt8 := s.data.toList.drop a
theorem restB_length (s : ByteArray) (a : Nat) : (restB s a).length = s.size - a := by
  unfold restB
  rw [List.length_drop, Array.length_toList]; rfl
theorem getN_at {s : ByteArray} {a n : Nat} (h : a + n ≤ s.size) : getN n (restB s a) = .ok (be ((s.data.toList.drop a).take n), restB s (a + n)) := by
  have hl := restB_length s a
  unfold getN
  rw [if_neg (by omega)]
  unfold restB
  rw [List.drop_drop]
theorem getN_short {s : ByteArray} {a n : Nat} (h : s.size - a < n) : getN n (restB s a) = .error 2 := by
  unfold getN
  rw [if_pos (by rw [restB_length]; exact h)]
theorem getT_at {s : ByteArray} {a n : Nat} (h : a + n ≤ s.size) : getT n (restB s a) = .ok ((s.data.toList.drop a).take n, restB s (a + n)) := by
  have hl := restB_length s a
  unfold getT
  rw [if_neg (by omega)]
  unfold restB
  rw [List.drop_drop]
theorem getT_short {s : ByteArray} {a n : Nat} (h : s.size - a < n) : getT n (restB s a) = .error 2 := by
  unfold getT
  rw [if_pos (by rw [restB_length]; exact h)]
end Go.Proofs.Ytblefbjmjhgkkaa
