import PyProof.Rows.All
import Wide.All
import OpenK.AllK
import Wide.FinOn
import HandS.ForMost
import HandS.Codes
import HandS.Wide
import HandS.WideMore
import HandS.Gcd
import HandS.Walk
import HandS.Style
import HandS.Conv
import HandS.IsInst
import HandS.SetIn
import HandS.TupLe
import HandS.TupAny
import HandS.TupMul
import HandS.Zip
import KE.GoesMore
import KE.GoesEnum
import KE.KSetDisp
import PySem.Challenge.RW_narrowadds_k01_what_is_a_machine
set_option Elab.async false
set_option linter.all false
set_option maxRecDepth 100000
set_option maxHeartbeats 2000000
set_option exponentiation.threshold 5000
/-! the mathematics of sizes: primes to 97, how often they divide -/
namespace NA
def PRn : List Nat := [2, 3, 5, 7, 11, 13, 17, 19, 23, 29, 31, 37, 41, 43, 47, 53, 59, 61, 67, 71, 73, 79, 83, 89, 97]
inductive Smo : Nat → Prop
  | one : Smo 1
  | mul {p n : Nat} : p ∈ PRn → Smo n → Smo (p * n)
theorem PRn_two {p : Nat} (h : p ∈ PRn) : 2 ≤ p := by
  have e : PRn.all (fun p => decide (2 ≤ p)) = true := by decide
  exact of_decide_eq_true (List.all_eq_true.mp e p h)
theorem PRn_le {p : Nat} (h : p ∈ PRn) : p ≤ 97 := by
  have e : PRn.all (fun p => decide (p ≤ 97)) = true := by decide
  exact of_decide_eq_true (List.all_eq_true.mp e p h)
theorem Smo.pos {n : Nat} (h : Smo n) : 0 < n := by
  induction h with
  | one => decide
  | mul hp _ ih => exact Nat.mul_pos (Nat.lt_of_lt_of_le (by decide) (PRn_two hp)) ih
theorem Smo.mulr {p n : Nat} (hp : p ∈ PRn) (h : Smo n) : Smo (n * p) := by
  rw [Nat.mul_comm]
  exact .mul hp h
def stripN (p : Nat) : Nat → Nat → Nat
  | 0, n => n
  | f + 1, n => if n % p = 0 then stripN p f (n / p) else n
theorem stripN_smo {p : Nat} (hp : p ∈ PRn) : ∀ (f n : Nat), Smo (stripN p f n) → Smo n
  | 0, _, h => h
  | f + 1, n, h => by
    unfold stripN at h
    by_cases e : n % p = 0
    · rw [if_pos e] at h
      have h1 := stripN_smo hp f (n / p) h
      have h2 : n = p * (n / p) := by
        have := Nat.div_add_mod n p
        omega
      rw [h2]
      exact .mul hp h1
    · rw [if_neg e] at h
      exact h
def smoB (n : Nat) : Bool := PRn.foldl (fun n p => stripN p 110 n) n == 1
theorem foldl_smo : ∀ (l : List Nat), (∀ p ∈ l, p ∈ PRn) → ∀ n, Smo (l.foldl (fun n p => stripN p 110 n) n) → Smo n
  | [], _, _, h => h
  | p :: l, hl, n, h => stripN_smo (hl p List.mem_cons_self) 110 n (foldl_smo l (fun q hq => hl q (List.mem_cons_of_mem _ hq)) _ h)
theorem smo_of {n : Nat} (h : smoB n = true) : Smo n := by
  refine foldl_smo PRn (fun _ h => h) n ?_
  rw [show List.foldl (fun n p => stripN p 110 n) n PRn = 1 from eq_of_beq h]
  exact .one
def SizeOk (n : Int) : Prop := ∃ m : Nat, n = m ∧ 2 ≤ m ∧ m ≤ 10 ^ 30 ∧ Smo m
def wlt (a b : Nat × Nat) : Prop := a.1 < b.1 ∨ (a.1 = b.1 ∧ a.2 < b.2)
/-- wires of a machine of many registers -/
structure WOk (many : Nat) (ws : List (Nat × Nat)) : Prop where
  asc : ws.Pairwise wlt
  low : ∀ w ∈ ws, w.1 < many ∧ w.2 < many ∧ w.1 ≠ w.2
structure MOk (ss : List Int) (ws : List (Nat × Nat)) : Prop where
  one : 1 ≤ ss.length
  six : ss.length ≤ 6
  size : ∀ s ∈ ss, SizeOk s
  wires : WOk ss.length ws
end NA
namespace NA
def val (p n : Nat) : Nat := if h : 2 ≤ p ∧ 0 < n ∧ n % p = 0 then val p (n / p) + 1 else 0
termination_by n
decreasing_by exact Nat.div_lt_self h.2.1 h.1
theorem val_yes {p n : Nat} (hp : 2 ≤ p) (hn : 0 < n) (h : n % p = 0) : val p n = val p (n / p) + 1 := by
  rw [val]
  exact dif_pos ⟨hp, hn, h⟩
theorem val_no {p n : Nat} (h : n % p ≠ 0) : val p n = 0 := by
  rw [val]
  exact dif_neg fun z => h z.2.2
theorem pow_dvd_val {p : Nat} (hp : 2 ≤ p) : ∀ (k n : Nat), 0 < n → (p ^ k ∣ n ↔ k ≤ val p n)
  | 0, n, _ => by simp
  | k + 1, n, hn => by
    by_cases h : n % p = 0
    · have e : n = p * (n / p) := by
        have := Nat.div_add_mod n p
        omega
      have hq : 0 < n / p := Nat.div_pos (Nat.le_of_dvd hn (Nat.dvd_of_mod_eq_zero h)) (by omega)
      rw [val_yes hp hn h]
      have ih := pow_dvd_val hp k (n / p) hq
      constructor
      · intro d
        rw [e, Nat.pow_succ, Nat.mul_comm] at d
        have := ih.mp (Nat.dvd_of_mul_dvd_mul_left (by omega) d)
        omega
      · intro d
        have := ih.mpr (by omega)
        rw [e, Nat.pow_succ, Nat.mul_comm]
        exact Nat.mul_dvd_mul_left p this
    · rw [val_no h]
      constructor
      · intro d
        exact absurd (Nat.mod_eq_zero_of_dvd (Nat.dvd_trans (by rw [Nat.pow_succ]; exact Nat.dvd_mul_left p _) d)) h
      · intro d
        omega
theorem val_eq {p n m : Nat} (hp : 2 ≤ p) (hn : 0 < n) (hm : 0 < m) (h : ∀ k, p ^ k ∣ n ↔ p ^ k ∣ m) : val p n = val p m := by
  have a := (pow_dvd_val hp (val p n) m hm).mp ((h _).mp ((pow_dvd_val hp _ n hn).mpr (Nat.le_refl _)))
  have b := (pow_dvd_val hp (val p m) n hn).mp ((h _).mpr ((pow_dvd_val hp _ m hm).mpr (Nat.le_refl _)))
  omega
theorem PRn_prime {p : Nat} (h : p ∈ PRn) {d : Nat} (hd : d ∣ p) : d = 1 ∨ d = p := by
  have e : (PRn.all fun p => (List.range (p + 1)).all fun d => p % d != 0 || d == 1 || d == p) = true := by decide +kernel
  have e1 := List.all_eq_true.mp e p h
  have dl : d ≤ p := Nat.le_of_dvd (Nat.lt_of_lt_of_le (by decide) (PRn_two h)) hd
  have e2 := List.all_eq_true.mp e1 d (List.mem_range.mpr (by omega))
  have m := Nat.mod_eq_zero_of_dvd hd
  simp only [m, bne_self_eq_false, Bool.false_or, Bool.or_eq_true, beq_iff_eq] at e2
  exact e2
theorem PRn_cop {p x : Nat} (h : p ∈ PRn) (hx : ¬ p ∣ x) : Nat.Coprime p x := by
  rcases PRn_prime h (Nat.gcd_dvd_left p x) with e | e
  · exact e
  · exact absurd (e ▸ Nat.gcd_dvd_right p x) hx
theorem PRn_euclid {p x y : Nat} (h : p ∈ PRn) (d : p ∣ x * y) : p ∣ x ∨ p ∣ y := by
  by_cases hx : p ∣ x
  · exact .inl hx
  · exact .inr ((PRn_cop h hx).dvd_of_dvd_mul_left d)
theorem PRn_ne {p q : Nat} (hp : p ∈ PRn) (hq : q ∈ PRn) (h : p ≠ q) : Nat.Coprime p q := PRn_cop hp fun d => by
  rcases PRn_prime hq d with e | e
  · have := PRn_two hp
    omega
  · exact h e
theorem val_mul_ne {p q n : Nat} (hp : p ∈ PRn) (hq : q ∈ PRn) (hn : 0 < n) (h : p ≠ q) : val p (q * n) = val p n := by
  refine val_eq (PRn_two hp) (Nat.mul_pos (Nat.lt_of_lt_of_le (by decide) (PRn_two hq)) hn) hn fun k => ⟨fun d => ?_, fun d => Nat.dvd_trans d (Nat.dvd_mul_left n q)⟩
  exact (Nat.Coprime.pow_left k (PRn_ne hp hq h)).dvd_of_dvd_mul_left d
theorem val_mul_self {p n : Nat} (hp : 2 ≤ p) (hn : 0 < n) : val p (p * n) = val p n + 1 := by
  rw [val_yes hp (Nat.mul_pos (by omega) hn) (Nat.mul_mod_right p n), Nat.mul_div_cancel_left n (by omega)]
theorem val_add {p : Nat} (hp : p ∈ PRn) : ∀ (x y : Nat), 0 < x → 0 < y → val p (x * y) = val p x + val p y := by
  intro x
  induction x using Nat.strongRecOn with
  | ind x ih =>
    intro y hx hy
    have h2 := PRn_two hp
    by_cases h : x % p = 0
    · have e : x = p * (x / p) := by
        have := Nat.div_add_mod x p
        omega
      have hq : 0 < x / p := Nat.div_pos (Nat.le_of_dvd hx (Nat.dvd_of_mod_eq_zero h)) (by omega)
      have i := ih (x / p) (Nat.div_lt_self hx h2) y hq hy
      rw [val_yes h2 hx h, show x * y = p * (x / p * y) by rw [← Nat.mul_assoc, ← e], val_mul_self h2 (Nat.mul_pos hq hy), i]
      omega
    · rw [val_no h, Nat.zero_add]
      have c : Nat.Coprime p x := PRn_cop hp fun d => h (Nat.mod_eq_zero_of_dvd d)
      refine val_eq h2 (Nat.mul_pos hx hy) hy fun k => ⟨fun d => (Nat.Coprime.pow_left k c).dvd_of_dvd_mul_left d, fun d => Nat.dvd_trans d (Nat.dvd_mul_left y x)⟩
theorem val_gcd {p a b : Nat} (hp : 2 ≤ p) (ha : 0 < a) (hb : 0 < b) : val p (Nat.gcd a b) = min (val p a) (val p b) := by
  have hg : 0 < Nat.gcd a b := Nat.gcd_pos_of_pos_left b ha
  have le : ∀ k, k ≤ val p (Nat.gcd a b) ↔ k ≤ val p a ∧ k ≤ val p b := fun k => by
    rw [← pow_dvd_val hp k _ hg, ← pow_dvd_val hp k a ha, ← pow_dvd_val hp k b hb]
    exact ⟨fun d => ⟨Nat.dvd_trans d (Nat.gcd_dvd_left a b), Nat.dvd_trans d (Nat.gcd_dvd_right a b)⟩, fun ⟨x, y⟩ => Nat.dvd_gcd x y⟩
  have h1 := (le _).mp (Nat.le_refl _)
  have h2 := (le (min (val p a) (val p b))).mpr ⟨Nat.min_le_left _ _, Nat.min_le_right _ _⟩
  omega
/-! ### a size is put together of its primes -/
def made (l : List Nat) (m s : Nat) : Nat := l.foldl (fun m p => m * p ^ val p s) m
theorem made_acc : ∀ (l : List Nat) (m s : Nat), made l m s = m * made l 1 s
  | [], m, s => by simp [made]
  | p :: l, m, s => by
    show made l (m * p ^ val p s) s = m * made l (1 * p ^ val p s) s
    rw [made_acc l (m * p ^ val p s) s, made_acc l (1 * p ^ val p s) s, Nat.one_mul, Nat.mul_assoc]
theorem made_one : ∀ l : List Nat, made l 1 1 = 1
  | [] => rfl
  | p :: l => by
    show made l (1 * p ^ val p 1) 1 = 1
    have v : val p 1 = 0 := by
      by_cases h : 1 % p = 0
      · by_cases h2 : 2 ≤ p
        · rw [Nat.mod_eq_of_lt (by omega)] at h
          cases h
        · rw [val]
          exact dif_neg fun z => h2 z.1
      · exact val_no h
    rw [v, Nat.pow_zero, Nat.mul_one, made_one l]
theorem made_mul {q n : Nat} (hq : q ∈ PRn) (hn : 0 < n) : ∀ l : List Nat, (∀ p ∈ l, p ∈ PRn) → made l 1 (q * n) = q ^ l.count q * made l 1 n
  | [], _ => by simp [made]
  | p :: l, hl => by
    have ih := made_mul hq hn l fun x hx => hl x (List.mem_cons_of_mem _ hx)
    have hp := hl p List.mem_cons_self
    show made l (1 * p ^ val p (q * n)) (q * n) = q ^ (p :: l).count q * made l (1 * p ^ val p n) n
    rw [made_acc l (1 * p ^ val p (q * n)), made_acc l (1 * p ^ val p n), ih, Nat.one_mul, Nat.one_mul]
    by_cases e : p = q
    · subst e
      rw [val_mul_self (PRn_two hp) hn, List.count_cons_self, Nat.pow_succ, Nat.pow_succ]
      simp only [Nat.mul_assoc, Nat.mul_left_comm]
    · rw [val_mul_ne hp hq hn e, List.count_cons_of_ne e]
      simp only [Nat.mul_left_comm]
theorem made_smo {s : Nat} (h : Smo s) : made PRn 1 s = s := by
  induction h with
  | one => exact made_one PRn
  | @mul q n hq hn ih =>
    rw [made_mul hq hn.pos PRn fun _ z => z, ih]
    have c : PRn.count q = 1 := by
      have e : (PRn.all fun q => PRn.count q == 1) = true := by decide +kernel
      exact eq_of_beq (List.all_eq_true.mp e q hq)
    rw [c, Nat.pow_one]
theorem made_filter {s : Nat} (f : Nat → Bool) : ∀ (l : List Nat) (m : Nat), (∀ p ∈ l, f p = false → val p s = 0) → made (l.filter f) m s = made l m s
  | [], _, _ => rfl
  | p :: l, m, h => by
    have hl : ∀ q ∈ l, f q = false → val q s = 0 := fun q hq => h q (List.mem_cons_of_mem _ hq)
    cases e : f p with
    | true =>
      rw [List.filter_cons_of_pos e]
      exact made_filter f l _ hl
    | false =>
      rw [List.filter_cons_of_neg (by rw [e]; exact Bool.false_ne_true), made_filter f l m hl]
      show made l m s = made l (m * p ^ val p s) s
      rw [h p List.mem_cons_self e, Nat.pow_zero, Nat.mul_one]
/-! ### steps: b by what it has in common with a -/
def stp (a b : Nat) : Nat := b / Nat.gcd b a
section
variable {a b : Nat}
theorem gcd_pos' (hb : 0 < b) : 0 < Nat.gcd b a := Nat.gcd_pos_of_pos_left a hb
theorem stp_mul (a b : Nat) : stp a b * Nat.gcd b a = b := Nat.div_mul_cancel (Nat.gcd_dvd_left b a)
theorem stp_pos (hb : 0 < b) : 0 < stp a b := Nat.div_pos (Nat.le_of_dvd hb (Nat.gcd_dvd_left b a)) (gcd_pos' hb)
theorem stp_cop (hb : 0 < b) : Nat.Coprime (stp a b) (a / Nat.gcd b a) := Nat.coprime_div_gcd_div_gcd (gcd_pos' hb)
theorem a_eq (a b : Nat) : a / Nat.gcd b a * Nat.gcd b a = a := Nat.div_mul_cancel (Nat.gcd_dvd_right b a)
/-- the multiples that do -/
theorem stp_iff (hb : 0 < b) (x : Nat) : b ∣ x * a ↔ stp a b ∣ x := by
  have g := gcd_pos' (a := a) hb
  have eb : b = Nat.gcd b a * stp a b := by rw [Nat.mul_comm]; exact (stp_mul a b).symm
  have ea : x * a = Nat.gcd b a * (x * (a / Nat.gcd b a)) := by
    rw [Nat.mul_left_comm, Nat.mul_comm (Nat.gcd b a), a_eq]
  constructor
  · intro d
    rw [ea] at d
    have d2 : Nat.gcd b a * stp a b ∣ Nat.gcd b a * (x * (a / Nat.gcd b a)) := by rw [← eb]; exact d
    exact (stp_cop hb).dvd_of_dvd_mul_right (Nat.dvd_of_mul_dvd_mul_left g d2)
  · intro d
    rw [ea]
    have d2 : Nat.gcd b a * stp a b ∣ Nat.gcd b a * (x * (a / Nat.gcd b a)) := Nat.mul_dvd_mul_left _ (Nat.dvd_trans d (Nat.dvd_mul_right x _))
    rw [← eb] at d2
    exact d2
theorem stp_least (hb : 0 < b) {p : Nat} (hp : 2 ≤ p) (h : stp a b % p = 0) : stp a b / p * a % b ≠ 0 := fun z => by
  have d := (stp_iff hb _).mp (Nat.dvd_of_mod_eq_zero z)
  have pos := stp_pos (a := a) hb
  have q : 0 < stp a b / p := Nat.div_pos (Nat.le_of_dvd pos (Nat.dvd_of_mod_eq_zero h)) (by omega)
  have := Nat.le_of_dvd q d
  have := Nat.div_lt_self pos hp
  omega
theorem stp_val (ha : 0 < a) (hb : 0 < b) {p : Nat} (hp : p ∈ PRn) : val p (stp a b) = val p b - val p a := by
  have e := val_add hp (stp a b) (Nat.gcd b a) (stp_pos hb) (gcd_pos' hb)
  rw [stp_mul, val_gcd (PRn_two hp) hb ha] at e
  omega
theorem stp_one (hb : 0 < b) : stp a b = 1 ↔ a % b = 0 := by
  constructor
  · intro e
    have d := (stp_iff hb 1).mpr (by rw [e]; exact Nat.dvd_refl 1)
    rw [Nat.one_mul] at d
    exact Nat.mod_eq_zero_of_dvd d
  · intro e
    have d := (stp_iff hb 1).mp (by rw [Nat.one_mul]; exact Nat.dvd_of_mod_eq_zero e)
    exact Nat.dvd_one.mp d
theorem stp_all (hb : 0 < b) : stp a b = b ↔ Nat.gcd b a = 1 := by
  have e := stp_mul a b
  constructor
  · intro h
    rw [h] at e
    have : b * Nat.gcd b a = b * 1 := by rw [e, Nat.mul_one]
    exact Nat.eq_of_mul_eq_mul_left hb this
  · intro h
    rw [h, Nat.mul_one] at e
    exact e
theorem stp_does (hb : 0 < b) : stp a b * a % b = 0 := Nat.mod_eq_zero_of_dvd ((stp_iff hb _).mpr (Nat.dvd_refl _))
theorem stp_two {c : Nat} (hb : 0 < b) (hc : 0 < c) : stp a b * stp b c % stp a c = 0 := by
  refine Nat.mod_eq_zero_of_dvd ((stp_iff hc _).mp ?_)
  have d1 : b ∣ stp a b * a := (stp_iff hb _).mpr (Nat.dvd_refl _)
  have d2 : c ∣ stp b c * b := (stp_iff hc _).mpr (Nat.dvd_refl _)
  have e : stp a b * stp b c * a = stp b c * (stp a b * a) := by
    rw [Nat.mul_comm (stp a b), Nat.mul_assoc]
  rw [e]
  exact Nat.dvd_trans d2 (Nat.mul_dvd_mul_left _ d1)
end
end NA
namespace NA
open PySem PySem.Spec PyProof.Rows L2

/-! ### defs while no repr is under way -/
abbrev Bare (A : Around) : Prop := A.guards = some []
structure GFn (P : Program) (w : World) (K : PySem.W.Frag) (mg : Str → Option Value) (base : Heap) (k : Nat) (f : Addr) (fd : FuncData) (ps : List Str) (sp : Sp) : Prop where
  len : ∀ vs H Q E, sp vs H Q E → vs.length = ps.length
  go : ∀ (A : Around) (outer : List Env) (s : Shared) (H : Hp) (args : Args) (us : List Value) (vs : List V) (Q : VK) (E : XK),
    Bare A → Room k A → Env0 P w K mg base A outer s H → BindsTo s fd args (ps.zip us) → Vals vs us → sp vs H Q E →
    codeAny (model P w) A (.call (.ref f) args) (CR CX0 outer P w H s Q E) s
/-- a def of the text: where it stands, how it binds -/
structure DefAt (K : PySem.W.Frag) (mg : Str → Option Value) (x : Str) (st : Stmt) (ps : List Str) (f : Addr) (fd : FuncData) : Prop where
  fn : Fun K x x st f fd
  mgf : mg x = some (.ref f)
  bd : Binds K fd ps []
structure Cal (P : Program) (w : World) (K : PySem.W.Frag) (mg : Str → Option Value) (base : Heap) (k : Nat) (x : Str) (sp : Sp) : Prop where
  ex : ∃ (f : Addr) (fd : FuncData) (ps : List Str), FnOk P w K mg base CX0 k f fd ps sp ∧ mg x = some (.ref f) ∧ PySem.W.keepIn K (.ref f) = true ∧ Binds K fd ps []
structure GCal (P : Program) (w : World) (K : PySem.W.Frag) (mg : Str → Option Value) (base : Heap) (k : Nat) (x : Str) (sp : Sp) : Prop where
  ex : ∃ (f : Addr) (fd : FuncData) (ps : List Str), GFn P w K mg base k f fd ps sp ∧ mg x = some (.ref f) ∧ PySem.W.keepIn K (.ref f) = true ∧ Binds K fd ps []
section
variable {P : Program} {w : World} {K : PySem.W.Frag} {mg : Str → Option Value} {base : Heap}
theorem cal_of {x : Str} {st : Stmt} {f : Addr} {fd : FuncData} {N ps : List Str} {k : Nat} {sp : Sp} (D : DefAt K mg x st ps f fd) (S : FnScope N ps (defScope st)) (len : ∀ vs H Q E, sp vs H Q E → vs.length = ps.length)
    (body : ∀ (cdv : Value) (A : Around) (outer : List Env) (s : Shared) (H : Hp) (vs : List V) (Q : VK) (E : XK), Room k (A.deeper (envOfC x (defScope st) s.heap.objs.size f cdv)) → sp vs H Q E →
      ∃ t, PSs (cxOf CX0 P w K mg base N x (defScope st) f cdv A outer s H E).nox (defBody st) t ∧ t { nx := fun _ H' => Q .non H', rt := Q } (start N vs) H) : Cal P w K mg base (k + 1) x sp :=
  ⟨f, fd, ps, D.fn.ok S len body, D.mgf, D.fn.kp, D.bd⟩
theorem gfn_of {x : Str} {st : Stmt} {f : Addr} {fd : FuncData} {N ps : List Str} {k : Nat} {sp : Sp} (F : Fun K x x st f fd) (S : FnScope N ps (defScope st)) (len : ∀ vs H Q E, sp vs H Q E → vs.length = ps.length)
    (body : ∀ (cdv : Value) (A : Around) (outer : List Env) (s : Shared) (H : Hp) (vs : List V) (Q : VK) (E : XK), PySem.W.codeIn K cdv x = true → Bare A → Room k (A.deeper (envOfC x (defScope st) s.heap.objs.size f cdv)) → sp vs H Q E →
      ∃ t, PSs (cxOf CX0 P w K mg base N x (defScope st) f cdv A outer s H E).nox (defBody st) t ∧ t { nx := fun _ H' => Q .non H', rt := Q } (start N vs) H) : GFn P w K mg base (k + 1) f fd ps sp := by
  obtain ⟨oc, od, kV, doc, pm, an, cdv, ct, osl, rfl, lk, hcode⟩ := F.ex
  refine ⟨len, fun A outer s H args us vs Q E hg room e0 bind rel want => ?_⟩
  have hlen := len _ _ _ _ want
  have KX : K.In s.heap := e0.mod.kin.keeps fun b o z => (e0.bs b o z).1
  have nolim : s.heap.NoLimit := e0.mod.nolimit.keeps fun b o z => (e0.bs b o z).1
  have kinds : ∀ y ∈ ps.zip us, (defScope st).names.lookup y.1 = some .local ∨ ((defScope st).names.lookup y.1 = some .cell ∧ ((cellsFrom (s.heap.objs.size + 1) (defScope st).names []).lookup y.1).isSome = true) := by
    intro ⟨nm, v⟩ hy
    rcases S.par nm (List.of_mem_zip hy).1 with z | z
    · exact .inl z
    · exact .inr ⟨z, PySem.W.cellsFrom_some _ _ _ (.inl z)⟩
  refine codeAny_call_function room.depth (KX _ _ lk) rfl S.co S.gen rfl (PySem.W.codeRec_of KX hcode) (bind _ _ _ _ ?_)
  refine wpAny_newFunctionEnv_cells S.kind kinds fun env henv s1 inc => ?_
  subst henv
  refine ⟨nolim.keeps inc.toInCall.keep, codeAny_func ?_⟩
  obtain ⟨t, derives, reads⟩ := body cdv A outer s H vs Q E hcode hg (room.deeper _) want
  have I := inv_start (CX := CX0) (E := E) (cd := cdv) S room.hd e0 hlen rel inc
  refine wpAny_mono (derives.nox.run [] s1 (start N vs) H _ I reads) (fun fl s' hs => ?_) fun e s' hs => hs
  cases fl with
  | ret u =>
    obtain ⟨v, σ', H', J, rv, q⟩ := hs
    exact ⟨v, H', J.os, J.bare, J.base, J.hok, rv, q⟩
  | next =>
    obtain ⟨σ', H', J, q⟩ := hs
    exact ⟨V.non, H', J.os, J.bare, J.base, J.hok, rfl, q⟩
  | brk =>
    obtain ⟨σ', H', J, q⟩ := hs
    exact False.elim q
  | cont =>
    obtain ⟨σ', H', J, q⟩ := hs
    exact False.elim q
theorem gcal_of {x : Str} {st : Stmt} {f : Addr} {fd : FuncData} {N ps : List Str} {k : Nat} {sp : Sp} (D : DefAt K mg x st ps f fd) (S : FnScope N ps (defScope st)) (len : ∀ vs H Q E, sp vs H Q E → vs.length = ps.length)
    (body : ∀ (cdv : Value) (A : Around) (outer : List Env) (s : Shared) (H : Hp) (vs : List V) (Q : VK) (E : XK), PySem.W.codeIn K cdv x = true → Bare A → Room k (A.deeper (envOfC x (defScope st) s.heap.objs.size f cdv)) → sp vs H Q E →
      ∃ t, PSs (cxOf CX0 P w K mg base N x (defScope st) f cdv A outer s H E).nox (defBody st) t ∧ t { nx := fun _ H' => Q .non H', rt := Q } (start N vs) H) : GCal P w K mg base (k + 1) x sp :=
  ⟨f, fd, ps, gfn_of D.fn S len body, D.mgf, D.fn.kp, D.bd⟩
end
section
variable {X : Cx} {x : Str} {p pos : Pos} {e : Expr} {es : List Expr} {t : TA} {k j : Nat} {sp : Sp}
/-- f(..) of such a def -/
theorem pe_g (c : GCal X.prog X.w X.K X.mg X.base k x sp) (hg : Bare X.A) (hr : Room j X.A) (hk : k ≤ j) (hgl : Gl X x) (ha : PA X (e :: es) t) (hdb : (x == ("__debug__" : Str)) = false := by decide)
    (he : starEach (e :: es) X.env = (false, eval e X.env) :: starEach es X.env := by rfl) (hpl : (backTo pos (starEach es X.env)).any (·.1) = false := by rfl) :
    PE X (.Call (.Name x p) (e :: es) [] pos) (tCall sp [] E0 t) := by
  obtain ⟨f, fd, ps, F, hm, hkeep, hb⟩ := c.ex
  refine ⟨fun pins s σ H Q I h => wpAny_Call_Name_kw (ld_glob I hgl hm ?_ hdb)⟩
  refine PySem.W.callWith_K (h₀ := X.base) I.ok.mod.kin hkeep (thn (ha.run pos pins s σ H _ I h) fun us s1 ⟨vs, H1, I1, r, q⟩ => ⟨I1.kIn, ?_⟩) he hpl
  have q' : sp (vs ++ []) H1 Q E0 := q
  rw [List.append_nil] at q'
  have l : (us ++ []).length = ps.length := by rw [List.append_nil, ← r.length]; exact F.len _ _ _ _ q'
  have b := hb s1 us I1.kIn l
  rw [List.append_nil] at b
  refine wpAny_call (codeAny_mono (F.go X.A X.stack s1 H1 ⟨us, []⟩ us vs Q E0 hg (hr.mono hk) I1.env0 b r q') fun res s' hq => ?_)
  cases res with
  | error err => exact False.elim hq
  | ok fl =>
    cases fl with
    | ret u => exact I1.after hq
    | next => exact False.elim hq
    | brk => exact False.elim hq
    | cont => exact False.elim hq
/-- f(k=v, ..): keywords alone -/
theorem pe_kw {CX : CXT} {f : Addr} {fd : FuncData} {ps ks : List Str} {E : XK} {kws : List Keyword} {tk : TA} {g : List Value → List Value → List Value} {gV : List V → List V → List V} (F : FnOk X.prog X.w X.K X.mg X.base CX k f fd ps sp) (hr : Room k X.A) (hgl : Gl X x) (hm : X.mg x = some (.ref f))
    (hkeep : PySem.W.keepIn X.K (.ref f) = true) (hb : KBinds X.K fd ps ks g gV) (hx : Passes CX X E) (hkw : PK X kws tk) (hall : (backToKw pos (keywordEach kws X.env)).all (·.1.isSome) = true := by rfl)
    (hks : (backToKw pos (keywordEach kws X.env)).filterMap (·.1) = ks := by rfl) (hdb : (x == ("__debug__" : Str)) = false := by decide)
    (hpl : ((backTo pos (starEach [] X.env)).any (·.1) || (backToKw pos (keywordEach kws X.env)).any (·.1.isNone)) = false := by rfl) :
    PE X (.Call (.Name x p) [] kws pos) (tCallK sp gV E tNil tk) := by
  refine ⟨fun pins s σ H Q I h => wpAny_Call_Name_kw (ld_glob I hgl hm ?_ hdb)⟩
  refine PySem.W.callWith_KW0 (h₀ := X.base) I.ok.mod.kin hkeep hall (thn (hkw.run pos pins s σ H _ I h) fun ws s2 ⟨zs, H2, I2, rz, q2⟩ => ⟨I2.kIn, ?_⟩) hpl
  rw [hks]
  exact run_fnk (us := []) F hr hb hx I2 .nil rz q2
end
/-- a def that may be called by keywords, in the order ks -/
structure CalK (P : Program) (w : World) (K : PySem.W.Frag) (mg : Str → Option Value) (base : Heap) (k : Nat) (x : Str) (sp : Sp) (ks : List Str) (gV : List V → List V → List V) : Prop where
  ex : ∃ (f : Addr) (fd : FuncData) (ps : List Str) (g : List Value → List Value → List Value), FnOk P w K mg base CX0 k f fd ps sp ∧ mg x = some (.ref f) ∧ PySem.W.keepIn K (.ref f) = true ∧ KBinds K fd ps ks g gV
section
variable {X : Cx} {x : Str} {p pos : Pos} {k j : Nat} {sp : Sp} {ks : List Str} {kws : List Keyword} {tk : TA} {gV : List V → List V → List V}
theorem pe_ck (c : CalK X.prog X.w X.K X.mg X.base k x sp ks gV) (hr : Room j X.A) (hk : k ≤ j) (hgl : Gl X x) (hkw : PK X kws tk) (hall : (backToKw pos (keywordEach kws X.env)).all (·.1.isSome) = true := by rfl)
    (hks : (backToKw pos (keywordEach kws X.env)).filterMap (·.1) = ks := by rfl) (hdb : (x == ("__debug__" : Str)) = false := by decide)
    (hpl : ((backTo pos (starEach [] X.env)).any (·.1) || (backToKw pos (keywordEach kws X.env)).any (·.1.isNone)) = false := by rfl) :
    PE X (.Call (.Name x p) [] kws pos) (tCallK sp gV E0 tNil tk) := by
  obtain ⟨f, fd, ps, g, F, hm, hkeep, hb⟩ := c.ex
  exact pe_kw F (hr.mono hk) hgl hm hkeep hb pass0 hkw hall hks hdb hpl
theorem pe_c0 (c : Cal X.prog X.w X.K X.mg X.base k x sp) (hr : Room j X.A) (hk : k ≤ j) (hgl : Gl X x) (hdb : (x == ("__debug__" : Str)) = false := by decide) : PE X (.Call (.Name x p) [] [] pos) (tCall sp [] E0 tNil) := by
  obtain ⟨f, fd, ps, F, hm, hkeep, hb⟩ := c.ex
  exact pe_call0 F (hr.mono hk) hgl hm hkeep hb .nil pass0 hdb
theorem pe_c {e : Expr} {es : List Expr} {t : TA} (c : Cal X.prog X.w X.K X.mg X.base k x sp) (hr : Room j X.A) (hk : k ≤ j) (hgl : Gl X x) (ha : PA X (e :: es) t) (hdb : (x == ("__debug__" : Str)) = false := by decide)
    (he : starEach (e :: es) X.env = (false, eval e X.env) :: starEach es X.env := by rfl) (hpl : (backTo pos (starEach es X.env)).any (·.1) = false := by rfl) : PE X (.Call (.Name x p) (e :: es) [] pos) (tCall sp [] E0 t) := by
  obtain ⟨f, fd, ps, F, hm, hkeep, hb⟩ := c.ex
  exact pe_call F (hr.mono hk) hgl hm hkeep hb .nil pass0 ha hdb he hpl
end
/-- the end of a law over such a def -/
theorem walkG {l : PySem.W.OpenLaw} {n k : Nat} {q : Program} {loose : List Str} {XP : (Str → Option Value) → Heap → Prop} {YP : World → Heap → Prop} {d : DefRec} {K : Params → PySem.W.Frag} {sp : PySem.W.Frag → Sp} {x : Str}
    (hn : l.most = some n) (hn2 : n ≤ sizeLine) (hdf : d.params.defaults = []) (hr : Room k callerA)
    (hY : ∀ (w : World) (h : Heap), YP w h → (K w.params).In h)
    (F : ∀ (w : World) (mg : Str → Option Value) (fa : Addr) (h : Heap), (K w.params).In h → h.Ns mainGlobals mg → mg d.name = some (.ref fa) →
      ∃ fd : FuncData, (∀ (s : Shared) (u : Value), BindsTo s fd ⟨[u], []⟩ [(x, u)]) ∧
        ∀ base : Heap, (K w.params).In base → base.Ns mainGlobals mg → GFn l.prog w (K w.params) mg base k fa fd [x] (sp (K w.params)))
    (hsp : ∀ (K : PySem.W.Frag) (H : Hp) (a : Addr) (ns : List Int), ns.length ≤ n → Only H → SqL K H a (ns.map V.int) → sp K [.ref a] H (fun v _ => v = .bl true) fun _ _ _ => False) :
    PySem.W.WalkO q loose XP YP l.row.toRowW d [] (fun f vs => PySem.call f vs) := by
  refine Att.attach_call hn hdf fun w s₀ s₁ mg mb fa o pm cd doc a vs ns G Y ho hd hcd hmg hobj hints hlen hgen => ?_
  have KX := hY w _ Y
  obtain ⟨fd, hb, hF⟩ := F w mg fa _ KX G.T.g hmg
  have mine : ∀ base : Heap, (K w.params).In base → base.Ns mainGlobals mg → FnOk l.prog w (K w.params) mg base CX0 k fa fd [x] (sp (K w.params)) → True := fun _ _ _ _ => trivial
  have rv := vals_ints hints
  have lenV := hints.length
  -- as the layer's own head does it, for the caller's surroundings alone
  have core : ∀ H : Hp, Only H → SqL (K w.params) H a (ns.map V.int) → HOk l.prog w H s₁.heap → (∀ b, H b ≠ none → b = a) → (H a ≠ none → (K w.params).lookup a = none) →
      codeAny (model l.prog w) callerA (.call (.ref fa) ⟨[.ref a], []⟩) (fun r s' => r = .ok (.ret (.bool true)) ∧ OldK s₁.heap s'.heap ∧ s'.os = s₁.os ∧ AllBare s'.gens) s₁ := by
    intro H hO hS hok only unk
    have keepHid : ∀ {b : Addr} {ob : Obj}, s₁.heap.get? b = some ob → H b = none → (hidT s₁.heap H).get? b = some ob := fun z nn => hidT_get z nn
    have dictFree : ∀ {b : Addr} {ob : Obj} {es : Array DictEntry} {ep : Nat}, s₁.heap.get? b = some ob → ob.data = .dict es ep → H b = none := by
      intro b ob es ep z dd
      cases hb' : H b with
      | none => rfl
      | some u =>
        have eb : b = a := only b (by rw [hb']; exact Option.some_ne_none u)
        rw [eb, hobj] at z
        cases z
        have dd' : Data.seq vs.toArray _ = Data.dict es ep := dd
        cases dd'
    have nsHid : ∀ {b : Addr} {m : Str → Option Value}, s₁.heap.Ns b m → (hidT s₁.heap H).Ns b m := fun {b m} ⟨ob, es, ep, z, dd, rest⟩ => ⟨ob, es, ep, keepHid z (dictFree z dd), dd, rest⟩
    have inHid : (K w.params).In (hidT s₁.heap H) := fun b ob z => keepHid (KX b ob z) (by
      cases hb' : H b with
      | none => rfl
      | some u =>
        have eb : b = a := only b (by rw [hb']; exact Option.some_ne_none u)
        rw [eb, unk (by rw [← eb, hb']; exact Option.some_ne_none u)] at z
        cases z)
    have M : Mod (K w.params) mg (hidT s₁.heap H) := ⟨inHid, nsHid G.T.g, ⟨mb, nsHid G.T.b, G.T.builtins⟩, let ⟨mc, z1, z2⟩ := G.T.nolimit; ⟨mc, nsHid z1, z2⟩⟩
    have e0 : Env0 l.prog w (K w.params) mg (hidT s₁.heap H) callerA [] s₁ H := ⟨rfl, M, fun b ob z => of_hidT z, Nat.le_of_eq (hidT_size _ _), trivial, fun b hb => absurd (show b ∈ ([] : List Addr) from hb) List.not_mem_nil, hok, .of_eq hgen⟩
    refine codeAny_mono ((hF _ inHid (nsHid G.T.g)).go callerA [] s₁ H ⟨[.ref a], []⟩ [.ref a] [.ref a] _ _ rfl hr e0 (hb s₁ (.ref a)) (.cons rfl .nil) (hsp (K w.params) H a ns hlen hO hS)) fun r s' hq => ?_
    have hq2 : ∃ u, r = .ok (.ret u) ∧ CE [] l.prog w H s₁ (fun v _ => v = .bl true) u s' := by
      cases r with
      | error err => exact False.elim hq
      | ok fl =>
        cases fl with
        | ret u => exact ⟨u, rfl, hq⟩
        | next => exact False.elim hq
        | brk => exact False.elim hq
        | cont => exact False.elim hq
    match hq2 with
    | ⟨u, er, v, H', os, bare, un, hok', rel, q⟩ =>
      have q' : v = .bl true := q
      subst q'
      have eu : u = Value.bool true := rel
      subst eu
      refine ⟨er, OldK.of_keep fun b ob z => ?_, os, bare⟩
      cases hb' : H b with
      | none => exact un.keep b ob z hb' (fun m => by cases m) (fun m => by cases m)
      | some u =>
        rcases hO b with n0 | ⟨ob', xs, n0⟩
        · rw [hb'] at n0
          cases n0
        · have n1 := un.frzs b ob' _ n0
          obtain ⟨z1, _⟩ := hok b _ n0
          obtain ⟨z2, _⟩ := hok' b _ n1
          rw [z] at z1
          cases z1
          exact z2
  cases hk : (K w.params).lookup a with
  | some ob =>
    have z := KX a ob hk
    rw [hobj] at z
    cases z
    exact core (fun _ => none) (fun _ => .inl rfl) (.inr ⟨_, vs.toArray, _, hk, rfl, rfl, rfl, by rw [List.size_toArray, lenV]; exact Nat.le_trans hlen hn2, by simpa using rv⟩) (fun b u z => by have z' : (none : Option HO) = some u := z; cases z') (fun b z => absurd rfl z) fun z => absurd rfl z
  | none =>
    refine core (fun b => if b = a then some (.frz { cls := .type "list", data := .seq vs.toArray } (.lst (ns.map V.int))) else none) (fun b => ?_) (.inl (.inr ⟨{ cls := .type "list", data := .seq vs.toArray }, if_pos rfl⟩)) (fun b u z => ?_) (fun b z => ?_) fun _ => hk
    · by_cases eb : b = a
      · exact .inr ⟨_, _, if_pos eb⟩
      · exact .inl (if_neg eb)
    · by_cases eb : b = a
      · have z' := (if_pos eb).symm.trans z
        cases z'
        subst eb
        exact ⟨hobj, by rw [List.length_map]; exact Nat.le_trans hlen hn2, vs, _, rv, hobj⟩
      · have z' := (if_neg eb).symm.trans z
        cases z'
    · by_cases eb : b = a
      · exact eb
      · exact absurd (if_neg eb) z
end NA
namespace NA
open PySem PySem.Spec PyProof.Rows L2

/-! ### how long a repr may be -/
mutual
def cost : PyData → Nat
  | .none => 4
  | .bool _ => 5
  | .int _ => 1921
  | .str x => 10 * x.length + 2
  | .list xs => costAll xs + 3
  | .tuple xs => costAll xs + 3
  | .dict _ => 0
def costAll : List PyData → Nat
  | [] => 0
  | x :: xs => cost x + 2 + costAll xs
end
def strSmall (x : Str) : Bool := x.cps.toList.all fun c => decide (c < 16 ^ 8)
mutual
def okD : PyData → Bool
  | .none => true
  | .bool _ => true
  | .int i => decide (i.natAbs.log2 < 1920)
  | .str x => strSmall x
  | .list xs => okAll xs
  | .tuple xs => okAll xs
  | .dict _ => false
def okAll : List PyData → Bool
  | [] => true
  | x :: xs => okD x && okAll xs
end
mutual
theorem okD_facts : ∀ d : PyData, okD d = true → d.showable = true ∧ d.hasDict = false ∧ d.shown.length ≤ cost d
  | .none, _ => ⟨rfl, rfl, by decide +kernel⟩
  | .bool true, _ => ⟨rfl, rfl, by decide +kernel⟩
  | .bool false, _ => ⟨rfl, rfl, by decide +kernel⟩
  | .int i, h => by
    have h1 : i.natAbs.log2 < 1920 := by simpa [okD] using h
    refine ⟨by simpa [PyData.showable] using h1, by simp only [PyData.hasDict], ?_⟩
    simp only [PyData.shown, cost]
    exact PyProof.Rows.int_text_len_1921 h1
  | .str x, h => by
    refine ⟨by simp only [PyData.showable], by simp only [PyData.hasDict], ?_⟩
    simp only [PyData.shown, cost]
    refine StrLaws.reprText_len x fun c hc => ?_
    have h1 : strSmall x = true := by simpa [okD] using h
    unfold strSmall at h1
    exact of_decide_eq_true (List.all_eq_true.mp h1 c hc)
  | .list xs, h => by
    obtain ⟨a, b, c, e⟩ := okAll_facts xs (by simpa [okD] using h)
    refine ⟨by simpa [PyData.showable] using a, by simpa [PyData.hasDict] using b, ?_⟩
    simp only [PyData.shown, cost]
    have := listText_len_le (PyData.shownAll xs)
    omega
  | .tuple xs, h => by
    obtain ⟨a, b, c, e⟩ := okAll_facts xs (by simpa [okD] using h)
    refine ⟨by simpa [PyData.showable] using a, by simpa [PyData.hasDict] using b, ?_⟩
    simp only [PyData.shown, cost]
    have := tupleText_len_le (PyData.shownAll xs)
    omega
  | .dict _, h => by simp [okD] at h
theorem okAll_facts : ∀ xs : List PyData, okAll xs = true → PyData.showableAll xs = true ∧ PyData.hasDictAll xs = false ∧ ((PyData.shownAll xs).map (·.length)).sum + 2 * (PyData.shownAll xs).length ≤ costAll xs ∧ True
  | [], _ => ⟨rfl, rfl, Nat.le_refl _, trivial⟩
  | x :: xs, h => by
    have h' : okD x = true ∧ okAll xs = true := by simpa [okAll] using h
    obtain ⟨a, b, c⟩ := okD_facts x h'.1
    obtain ⟨d, e, f, _⟩ := okAll_facts xs h'.2
    refine ⟨by simp only [PyData.showableAll, a, d, Bool.and_self], by simp only [PyData.hasDictAll, b, e, Bool.or_self], ?_, trivial⟩
    simp only [PyData.shownAll, costAll, List.map_cons, List.sum_cons, List.length_cons]
    omega
end
/-- data whose repr may be taken -/
structure Sh (d : PyData) : Prop where
  ok : okD d = true
  cost : cost d ≤ 16000000
  depth : d.depth ≤ 60
section
variable {X : Cx}
theorem call_reprD {k : Nat} (hg : Bare X.A) (hr : Room k X.A) : CallR X (.builtin "repr") (fun xs H Q => ∃ v d, xs = [v] ∧ Dp X.K H v d ∧ Sh d ∧ Q (.str d.shown) H) := by
  intro pins s σ H xs us Q I r h
  obtain ⟨v, d, rfl, hd, sh, q⟩ := h
  obtain ⟨u, rfl, rv⟩ := r.one
  obtain ⟨f1, f2, f3⟩ := okD_facts d sh.ok
  have hz : d.shown.length ≤ sizeLine := Nat.le_trans f3 (Nat.le_trans sh.cost (by decide))
  have hu := hr.un
  have hdep := sh.depth
  obtain ⟨as, rd⟩ := Dp.reads I d v u hd rv
  have big : ∀ a, u = Value.ref a → wpAny (model X.prog X.w) X.A (call (.builtin "repr") [u]) (EP X pins σ Q) X.xe s := fun a e => by
    subst e
    exact repr_of_reads' rd f1 (PyData.noDict_hsm f2) hg (by omega) (fun _ _ z => z) (fun h' u tk hk => ⟨.str _, H, I.kept (t' := tk) hk, ⟨_, rfl⟩, q⟩) hz
  cases hd with
  | non =>
    cases (show u = Value.none from rv)
    exact PySem.P.repr_of_none ⟨.str _, H, I.tok _, ⟨_, rfl⟩, q⟩
  | bl b =>
    cases (show u = Value.bool b from rv)
    refine PySem.P.repr_of_bool ⟨.str _, H, I.tok _, ⟨_, rfl⟩, ?_⟩
    simpa only [PyData.shown] using q
  | int i =>
    obtain ⟨t, rfl⟩ := (show ∃ t, u = Value.int i t from rv)
    refine PySem.P.repr_of_int (by simpa [okD] using sh.ok) ⟨.str _, H, I.tok _, ⟨_, rfl⟩, ?_⟩
    simpa only [PyData.shown] using q
  | str x =>
    obtain ⟨t, rfl⟩ := (show ∃ t, u = Value.str x t from rv)
    refine PySem.P.repr_of_str ⟨.str _, H, I.tok _, ⟨_, rfl⟩, ?_⟩ (by simpa only [PyData.shown] using hz)
    simpa only [PyData.shown] using q
  | lst _ _ => exact big _ rv
  | tup _ _ => exact big _ rv
end
/-! ### data that never changes: tuples all the way -/
mutual
inductive Im (H : Hp) : V → PyData → Prop
  | non : Im H .non .none
  | bl (b : Bool) : Im H (.bl b) (.bool b)
  | int (i : Int) : Im H (.int i) (.int i)
  | str (x : Str) : Im H (.str x) (.str x)
  | tup {a : Addr} {xs : List V} {ds : List PyData} : H a = some (.tup xs) → ImAll H xs ds → Im H (.ref a) (.tuple ds)
inductive ImAll (H : Hp) : List V → List PyData → Prop
  | nil : ImAll H [] []
  | cons {v : V} {vs : List V} {d : PyData} {ds : List PyData} : Im H v d → ImAll H vs ds → ImAll H (v :: vs) (d :: ds)
end
/-- tuples stay -/
def Tk (H H' : Hp) : Prop := ∀ b xs, H b = some (.tup xs) → H' b = some (.tup xs)
theorem Tk.refl (H : Hp) : Tk H H := fun _ _ h => h
theorem Tk.trans {H H1 H2 : Hp} (a : Tk H H1) (b : Tk H1 H2) : Tk H H2 := fun c x h => b c x (a c x h)
theorem Tk.new {H H' : Hp} {p : Addr} {o : HO} (e : Tk H H') (h : H' p = none) : Tk H (upd H' p o) := fun b xs z => by
  have z' := e b xs z
  rw [upd_ne (ne_of_none z' h)]
  exact z'
theorem Tk.put {H H' : Hp} {p : Addr} {xs : List V} {o : HO} (e : Tk H H') (h : H' p = some (.lst xs)) : Tk H (upd H' p o) := fun b ys z => by
  have z' := e b ys z
  rw [upd_ne (ne_of z' h (by intro q; cases q))]
  exact z'
theorem Tk.same {H H' : Hp} (e : Same H H') : Tk H H' := fun b xs z => e b _ z
mutual
theorem Im.keep {H H' : Hp} (e : Tk H H') : ∀ (d : PyData) (v : V), Im H v d → Im H' v d
  | .none, _, h => by cases h; exact .non
  | .bool _, _, h => by cases h; exact .bl _
  | .int _, _, h => by cases h; exact .int _
  | .str _, _, h => by cases h; exact .str _
  | .tuple ds, _, h => by
    cases h with
    | tup a b => exact .tup (e _ _ a) (ImAll.keep e ds _ b)
  | .list _, _, h => by cases h
  | .dict _, _, h => by cases h
theorem ImAll.keep {H H' : Hp} (e : Tk H H') : ∀ (ds : List PyData) (vs : List V), ImAll H vs ds → ImAll H' vs ds
  | [], _, h => by cases h; exact .nil
  | d :: ds, _, h => by
    cases h with
    | cons a b => exact .cons (Im.keep e d _ a) (ImAll.keep e ds _ b)
end
theorem Im.k {H H' : Hp} {v : V} {d : PyData} (h : Im H v d) (e : Tk H H') : Im H' v d := Im.keep e d v h
theorem ImAll.k {H H' : Hp} {vs : List V} {ds : List PyData} (h : ImAll H vs ds) (e : Tk H H') : ImAll H' vs ds := ImAll.keep e ds vs h
mutual
theorem Im.toDp {K : PySem.W.Frag} {H : Hp} : ∀ (d : PyData) (v : V), Im H v d → Dp K H v d
  | .none, _, h => by cases h; exact .non
  | .bool _, _, h => by cases h; exact .bl _
  | .int _, _, h => by cases h; exact .int _
  | .str _, _, h => by cases h; exact .str _
  | .tuple ds, _, h => by
    cases h with
    | tup a b => exact .tup (SqT.of a) (ImAll.toDp ds _ b)
  | .list _, _, h => by cases h
  | .dict _, _, h => by cases h
theorem ImAll.toDp {K : PySem.W.Frag} {H : Hp} : ∀ (ds : List PyData) (vs : List V), ImAll H vs ds → DpAll K H vs ds
  | [], _, h => by cases h; exact .nil
  | d :: ds, _, h => by
    cases h with
    | cons a b => exact .cons (Im.toDp d _ a) (ImAll.toDp ds _ b)
end
theorem Im.dp {K : PySem.W.Frag} {H : Hp} {v : V} {d : PyData} (h : Im H v d) : Dp K H v d := Im.toDp d v h
theorem ImAll.dp {K : PySem.W.Frag} {H : Hp} {vs : List V} {ds : List PyData} (h : ImAll H vs ds) : DpAll K H vs ds := ImAll.toDp ds vs h
theorem Im.tuple {H : Hp} {v : V} {ds : List PyData} (h : Im H v (.tuple ds)) : ∃ a xs, v = .ref a ∧ H a = some (.tup xs) ∧ ImAll H xs ds := by
  cases h with
  | tup a b => exact ⟨_, _, rfl, a, b⟩
theorem Im.isInt {H : Hp} {v : V} {i : Int} (h : Im H v (.int i)) : v = .int i := by cases h; rfl
theorem ImAll.length {H : Hp} : ∀ {vs : List V} {ds : List PyData}, ImAll H vs ds → vs.length = ds.length
  | _, _, .nil => rfl
  | _, _, .cons _ b => by rw [List.length_cons, List.length_cons, ImAll.length b]
theorem ImAll.get {H : Hp} : ∀ {vs : List V} {ds : List PyData} {i : Nat} {d : PyData}, ImAll H vs ds → ds[i]? = some d → ∃ v, vs[i]? = some v ∧ Im H v d
  | _, _, _, _, .nil, e => by simp at e
  | _, _, 0, _, .cons a _, e => by
    simp at e
    subst e
    exact ⟨_, rfl, a⟩
  | _, _, i + 1, d, .cons _ b, e => by
    obtain ⟨v, h1, h2⟩ := ImAll.get (i := i) (d := d) b (by simpa using e)
    exact ⟨v, by simpa using h1, h2⟩
theorem ImAll.ints {H : Hp} : ∀ {vs : List V} {ns : List Int}, ImAll H vs (ns.map PyData.int) → vs = ns.map V.int
  | vs, [], h => by cases h; rfl
  | vs, n :: ns, h => by
    cases h with
    | cons a b =>
      cases a
      rw [List.map_cons, ImAll.ints b]
theorem ImAll.of_ints (H : Hp) : ∀ ns : List Int, ImAll H (ns.map V.int) (ns.map PyData.int)
  | [] => .nil
  | n :: ns => .cons (.int n) (ImAll.of_ints H ns)
theorem ImAll.append {H : Hp} : ∀ {vs ws : List V} {ds es : List PyData}, ImAll H vs ds → ImAll H ws es → ImAll H (vs ++ ws) (ds ++ es)
  | _, _, _, _, .nil, h => h
  | _, _, _, _, .cons a b, h => .cons a (ImAll.append b h)
end NA
namespace PySem
open Sem (wp)
open AutoSeq1 (wpAny_loadPart')
/-- the iterator of a tuple at l, new -/
abbrev tIt (l : Addr) : Obj := { cls := .type "tuple_iterator", data := .fields #[.ref l, .int 0 0] }
/-- the enumerate object over the iterator at i, new -/
abbrev tEn (i : Addr) : Obj := { cls := .type "enumerate", data := .fields #[.none, .bool false, .ref i, rawInt 0, .none, .none] }
set_option maxHeartbeats 1000000 in
theorem enumT_new (l : Addr) (o : Obj) (its : Array Value) (hc : o.cls = .type "tuple") (hd : ∃ n, o.data = .seq its n) :
    Meets (Builtin.«enumerate.__new__» ⟨[.type "enumerate", .ref l], []⟩)
      (fun _ R s => s.heap.get? l = some o ∧ R (.ok (.ret (.ref (s.heap.push (tIt l)).objs.size))) { s with heap := (s.heap.push (tIt l)).push (tEn s.heap.objs.size) }) :=
  .of_wp fun prog w A R s h => by
    obtain ⟨hp, gg, dr, tk, os⟩ := s
    obtain ⟨hl, h⟩ := h
    have sub := sub_enumerate
    have T : Heap.IsTuple (Shared.heap ⟨hp, gg, dr, tk, os⟩) l its := ⟨o, hl, hc, hd⟩
    wp_walk using wpAny_loadPart' hl
    refine wpAny_stack_any fun _ => wpAny_pure ?_
    split
    · rename_i cc _ _ _ _ _
      cases (cc == Value.type "enumerate")
      · wp_walk using wpAny_loadPart' hl, wpAny_pyIter_tuple T
        exact ⟨_, rfl, h⟩
      · wp_walk using wpAny_loadPart' hl, wpAny_pyIter_tuple T
        exact ⟨_, rfl, h⟩
    · wp_walk using wpAny_loadPart' hl, wpAny_pyIter_tuple T
      exact ⟨_, rfl, h⟩
section
variable {prog : Program} {w : World} {A : Around} {E : Value → Shared → Prop} {s : Shared}
theorem enumT_call {l : Addr} {its : Array Value} {Q : Value → Shared → Prop} (T : s.heap.IsTuple l its)
    (h : ∀ h', IsEnum h' (s.heap.objs.size + 1) s.heap.objs.size 0 .none → h'.get? s.heap.objs.size = some (tIt l) →
      (∀ b o, s.heap.get? b = some o → h'.get? b = some o) → Q (.ref (s.heap.objs.size + 1)) { s with heap := h' }) :
    wpAny (model prog w) A (call (.type "enumerate") [.ref l]) Q E s := by
  obtain ⟨o, hl, hc, hd⟩ := T
  refine callType_new F.called_enumerate (by decide) (F.typeCall_enumerate_1 _) (F.newCall_enumerate_1 _) (fun obj => F.args_object_init_2 obj _) F.entry_enumerate_new (enumT_new l o its hc hd) ⟨hl, ?_⟩
  have sz : (s.heap.push (tIt l)).objs.size = s.heap.objs.size + 1 := Heap.size_push ..
  show _ ∧ _
  rw [sz]
  have en : IsEnum ((s.heap.push (tIt l)).push (tEn s.heap.objs.size)) (s.heap.objs.size + 1) s.heap.objs.size 0 .none := by
    have z := Heap.get?_push_size (s.heap.push (tIt l)) (o := tEn s.heap.objs.size) rfl
    rw [sz] at z
    exact z
  exact ⟨⟨_, en, rfl⟩, h _ en (Heap.get?_push_of_some _ (Heap.get?_push_size _ rfl)) fun b u z => Heap.get?_push_of_some _ (Heap.get?_push_of_some _ z)⟩
end
end PySem
namespace NA
open PySem PySem.Spec PyProof.Rows L2
/-- enumerate(t), t a tuple: each item in a new pair -/
def IeT (K : PySem.W.Frag) (a : Addr) : It :=
  ⟨fun i H => ∃ (xs : List V) (x : V), SqT K H a xs ∧ xs[i]? = some x, fun i H v H' => ∃ T x, v = .ref T ∧ H T = none ∧ H' = upd H T (.tup [.int (i : Nat), x]) ∧ ∀ xs, SqT K H a xs → xs[i]? = some x,
    fun i H => ∃ xs : List V, SqT K H a xs ∧ xs.length ≤ i⟩
theorem turn_enumT {P : Program} {w : World} {K : PySem.W.Frag} {elts : List Expr} {kk : Nat} {tpos : Pos} (a e it : Addr) :
    Turn P w K (.Tuple elts kk tpos) (IeT K a) [e, it] e (fun i h => (∃ old, IsEnum h e it (0 + ((i : Nat) : Int)) old) ∧ h.IsTupleIter it a i ∧ e ≠ it) where
  mem := by simp
  obj := fun i h st b hb => by
    obtain ⟨⟨old, he⟩, ⟨o, ho, hc, hd⟩, _⟩ := st
    have cases2 : b = e ∨ b = it := by simpa using hb
    rcases cases2 with z | z
    · subst z
      exact ⟨_, he, fun v q => nomatch q⟩
    · subst z
      exact ⟨o, ho, fun v q => by rw [hd] at q; cases q⟩
  keep := fun i h h' st k => by
    obtain ⟨⟨old, he⟩, hi, hne⟩ := st
    exact ⟨⟨old, k e (by simp) _ he⟩, hi.at fun o q => k it (by simp) o q, hne⟩
  item := by
    intro X hP hw hK hc i pins s σ H E I hf st hg
    subst hP hw hK
    obtain ⟨⟨old, he⟩, hit, hne⟩ := st
    obtain ⟨xs, x, hq, hx⟩ := hg
    obtain ⟨its, rv, tp, hz⟩ := I.tuple hq
    obtain ⟨u, hu, ru⟩ := rv.get hx
    have el : e < s.heap.objs.size := Heap.lt_size he
    have il : it < s.heap.objs.size := by obtain ⟨_, q, _⟩ := hit; exact Heap.lt_size q
    have al : a < s.heap.objs.size := tp.lt
    have lenI : i < its.toArray.size := by
      have := (List.getElem?_eq_some_iff.mp hu).1
      simpa using this
    -- the tuple's own iterator, by what it draws
    have ta_it : a ≠ it := fun z => by
      obtain ⟨o1, q1, c1, _⟩ := hit
      obtain ⟨o2, q2, c2, _⟩ := (show s.heap.IsTuple a its.toArray from tp)
      rw [z, q1] at q2
      cases q2
      rw [c1] at c2
      exact absurd c2 (by decide)
    have ta_e : a ≠ e := fun z => by
      obtain ⟨o2, q2, c2, _⟩ := (show s.heap.IsTuple a its.toArray from tp)
      rw [z, show s.heap.get? e = some _ from he] at q2
      cases q2
      exact absurd (show Value.type "enumerate" = Value.type "tuple" from c2) (by decide)
    have D : Draws X.prog X.w X.A.in1 it [it, a] its.toArray.size (fun i v => its.toArray[i]? = some v) (fun i h => h.IsTupleIter it a i ∧ h.IsTuple a its.toArray) := Draws.tuple (A := X.A.in1) (I.ok.hd hc) it a ta_it its.toArray
    refine wpAny_pyNext_enum_itemC D he ⟨hit, tp⟩ lenI hne (by simp [hne, Ne.symm ta_e]) fun y h' tk hP ho hs' hT hsz hk => ?_
    have ey : y = u := Option.some.inj (hP.symm.trans (by simpa using hu))
    subst ey
    refine ⟨_, rfl, wpAny_letOwnedTupleGo_enum (s := { s with heap := h', toks := tk + 1 }) ho fun h'' he' sb => ?_⟩
    have hT2 : h''.get? s.heap.objs.size = some { cls := .type "tuple", data := .seq #[.int (0 + (i : Int)) tk, y] } := (sb.2 _ (Nat.ne_of_gt el)).trans hT
    have e0 : (0 + (i : Int)) = (i : Int) := by omega
    have new : ObjOk X.prog X.w (upd H s.heap.objs.size (.tup [.int (i : Nat), x])) h'' s.heap.objs.size (.tup [.int (i : Nat), x]) :=
      ⟨by show 2 ≤ sizeLine; decide, [.int (0 + (i : Int)) tk, y], .cons ⟨tk, by rw [e0]⟩ (.cons ru .nil), ⟨_, hT2, rfl, _, rfl⟩⟩
    have I1 : Inv X pins σ (upd H s.heap.objs.size (.tup [.int (i : Nat), x])) { s with heap := h'', toks := tk + 1 } :=
      I.turnedNew (ch := [e, it]) (fun b ob hb q => (sb.2 b (fun z => hb (by simp [z]))).trans (hk b ob (fun z => hb (by simp [z])) (fun z => hb (by simp [z])) q)) hf (Nat.le_refl _) new
    refine ⟨.ref s.heap.objs.size, _, I1, rfl, ⟨_, x, rfl, I.hok.fresh (Nat.le_refl _), rfl, fun ys hy => by rw [I.tuple_inj hy hq]; exact hx⟩, ⟨⟨y, ?_⟩, hs'.1.at fun o q => (sb.2 it (Ne.symm hne)).trans q, hne⟩, fun b hb => ?_⟩
    · have e1 : (0 + ((i + 1 : Nat) : Int)) = 0 + (i : Int) + 1 := by omega
      rw [e1]
      exact he'
    · have lt : b < s.heap.objs.size := by
        have cases2 : b = e ∨ b = it := by simpa using hb
        rcases cases2 with z | z
        · rw [z]; exact el
        · rw [z]; exact il
      rw [upd_ne (Nat.ne_of_lt lt)]
      exact (hf b hb).1
  done := by
    intro X hP hw hK hc i pins s σ H E I hf st hg
    subst hP hw hK
    obtain ⟨⟨old, he⟩, hit, hne⟩ := st
    obtain ⟨xs, hq, hx⟩ := hg
    obtain ⟨its, rv, tp, hz⟩ := I.tuple hq
    have ta_it : a ≠ it := fun z => by
      obtain ⟨o1, q1, c1, _⟩ := hit
      obtain ⟨o2, q2, c2, _⟩ := (show s.heap.IsTuple a its.toArray from tp)
      rw [z, q1] at q2
      cases q2
      rw [c1] at c2
      exact absurd c2 (by decide)
    obtain ⟨f0, f1, f2, f3, f4, f5⟩ := hf it (by simp)
    have ln := rv.length
    have gone : xs.length ≤ i := hx
    have D : Draws X.prog X.w X.A.in1 it [it, a] i (fun _ _ => False) (fun j h => j = i ∧ h.IsTupleIter it a j ∧ h.IsTuple a its.toArray) := {
      live := fun j h st => by
        obtain ⟨_, ⟨o, q, _⟩, _⟩ := st
        exact ⟨o, q⟩
      frame := fun j h h' st k => ⟨st.1, st.2.1.at fun o q => k it (by simp) o q, st.2.2.at fun o q => k a (by simp) o q⟩
      item := fun j s Q E hj st _ => absurd hj (by rw [st.1]; exact Nat.lt_irrefl _)
      done := fun s Q E st hE => wpAny_nextOf_tuple_end (A := X.A.in1) (I.ok.hd hc) st.2.1 st.2.2 (Array.getElem?_eq_none (by simp; omega)) hE }
    exact wpAny_pyNext_enum_endD D he ⟨rfl, hit, tp⟩ fun h' eb => ⟨rfl, I.turned (t' := s.toks) (fun b o hb q => eb b o hb q) f0 f1 f3 f4 f5⟩
  self := fun A i s Q E st h => by
    obtain ⟨⟨_, he⟩, _⟩ := st
    exact wpAny_pyIter_enum he h
def iEnumT (K : PySem.W.Frag) (ta : TA) : TI := fun σ H R => ta σ H fun vs H1 => ∃ a xs, vs = [.ref a] ∧ SqT K H1 a xs ∧ R (IeT K a) H1
theorem pi_enumT {X : Cx} {e : Expr} {ta : TA} {p pos tpos : Pos} {elts : List Expr} {kk : Nat} (hg : Gl X "enumerate") (hm : X.mg "enumerate" = none) (ha : PA X [e] ta) (hs : starEach [e] X.env = [(false, eval e X.env)] := by rfl) :
    PI X (.Tuple elts kk tpos) (.Call (.Name "enumerate" p) [e] [] pos) (iEnumT X.K ta) := by
  refine ⟨fun pins s σ H R I h => ?_⟩
  refine Call_ (ld_blt I hg hm boot_enumerate (PyProof.Rows.callWith_type1 (thn (ha.run pos pins s σ H _ I h) fun us s1 ⟨vs, H1, I1, r1, q1⟩ => ?_) hs rfl))
  obtain ⟨a, xs, ex, hq, q⟩ := q1
  subst ex
  obtain ⟨u, rfl, ru⟩ := r1.one
  cases (show u = Value.ref a from ru)
  obtain ⟨its, rv, tp, hz⟩ := I1.tuple hq
  refine enumT_call (its := its.toArray) tp fun h' en it kept => wpAny_pyIter_enum en ?_
  refine ⟨s1.heap.objs.size + 1, [s1.heap.objs.size + 1, s1.heap.objs.size], _, _, H1, rfl, I1.kept (t' := s1.toks) kept, turn_enumT a (s1.heap.objs.size + 1) s1.heap.objs.size, ⟨⟨.none, en⟩, ⟨_, it, rfl, rfl⟩, Nat.succ_ne_self _⟩, fun b hb => ?_, q⟩
  have two : b = s1.heap.objs.size + 1 ∨ b = s1.heap.objs.size := by simpa using hb
  have le : s1.heap.objs.size ≤ b := by
    rcases two with z | z
    · rw [z]
      exact Nat.le_succ _
    · rw [z]
      exact Nat.le_refl _
  exact I1.fpOk le (I1.hok.fresh le)
theorem walk_enumT {K : PySem.W.Frag} {a : Addr} {xs : List V} : Walk (IeT K a) xs.length (fun H => SqT K H a xs) (YPair (fun i => some (.int (i : Nat))) (fun i => xs[i]?)) := by
  refine ⟨fun i _ hi q => ⟨xs, xs[i], q, by simp [hi]⟩, fun _ q => ⟨xs, q, Nat.le_refl _⟩, fun i H v H' _ q y => ?_⟩
  obtain ⟨T, x, y1, y2, y3, y4⟩ := y
  exact ⟨T, .int (i : Nat), x, y1, y2, y3, rfl, y4 xs q⟩
end NA
namespace NA
open PySem PySem.Spec PyProof.Rows L2

/-! ### built-in names that no text here takes -/
structure Blt (mg : Str → Option Value) : Prop where
  len : mg "len" = none
  int : mg "int" = none
  max : mg "max" = none
  min : mg "min" = none
  tuple : mg "tuple" = none
  list : mg "list" = none
  range : mg "range" = none
  any : mg "any" = none
  all : mg "all" = none
  repr : mg "repr" = none
  enumerate : mg "enumerate" = none
  isinstance : mg "isinstance" = none
  bool : mg "bool" = none
/-! ### the pot that is drawn from -/
def Pt (H : Hp) (p q : Addr) : Prop := ∃ (cs : List Int) (a b n : Int), H p = some (.lst [.ref q, .int a, .int b, .int n]) ∧ H q = some (.lst (cs.map V.int)) ∧ cs.length ≤ 60 ∧ 0 ≤ a ∧ a < 4294967296 ∧ 0 ≤ b ∧ b < 4294967296
theorem Pt.lp {H : Hp} {p q : Addr} (h : Pt H p q) : ∃ xs, H p = some (.lst xs) := by
  obtain ⟨cs, a, b, n, h1, _⟩ := h
  exact ⟨_, h1⟩
theorem Pt.lq {H : Hp} {p q : Addr} (h : Pt H p q) : ∃ xs, H q = some (.lst xs) := by
  obtain ⟨cs, a, b, n, _, h1, _⟩ := h
  exact ⟨_, h1⟩
theorem pq_ne {H : Hp} {p q : Addr} {cs : List Int} {a b n : Int} (h1 : H p = some (.lst [.ref q, .int a, .int b, .int n])) (h2 : H q = some (.lst (cs.map V.int))) : p ≠ q := fun e => by
  subst e
  rw [h1] at h2
  cases cs with
  | nil => cases h2
  | cons c cs => cases h2
theorem Pt.ne {H : Hp} {p q : Addr} (h : Pt H p q) : p ≠ q := by
  obtain ⟨cs, a, b, n, h1, h2, _⟩ := h
  exact pq_ne h1 h2
/-- all else stays -/
def Kp (p q : Addr) (H H' : Hp) : Prop := ∀ b o, b ≠ p → b ≠ q → H b = some o → H' b = some o
theorem Kp.refl (p q : Addr) (H : Hp) : Kp p q H H := fun _ _ _ _ h => h
theorem Kp.trans {p q : Addr} {H H1 H2 : Hp} (a : Kp p q H H1) (b : Kp p q H1 H2) : Kp p q H H2 := fun c o n1 n2 h => b c o n1 n2 (a c o n1 n2 h)
theorem Kp.new {p q c : Addr} {o : HO} {H H' : Hp} (e : Kp p q H H') (h : H' c = none) : Kp p q H (upd H' c o) := fun b u n1 n2 z => by
  have z' := e b u n1 n2 z
  rw [upd_ne (ne_of_none z' h)]
  exact z'
theorem Kp.same {p q : Addr} {H H' : Hp} (e : Same H H') : Kp p q H H' := fun b o _ _ z => e b o z
/-- a change of what was not there at the beginning -/
theorem Kp.put {p q c : Addr} {o : HO} {H H' : Hp} (e : Kp p q H H') (h : H c = none) : Kp p q H (upd H' c o) := fun b u n1 n2 z => by
  rw [upd_ne (ne_of_none z h)]
  exact e b u n1 n2 z
theorem Kp.fresh {p q c : Addr} {H H' : Hp} (e : Kp p q H H') (n1 : c ≠ p) (n2 : c ≠ q) (h : H' c = none) : H c = none := by
  cases z : H c with
  | none => rfl
  | some o =>
    rw [e c o n1 n2 z] at h
    cases h
theorem Kp.tk {p q : Addr} {H H' : Hp} (e : Kp p q H H') (P : Pt H p q) : Tk H H' := fun b xs z => by
  obtain ⟨ys, h1⟩ := P.lp
  obtain ⟨zs, h2⟩ := P.lq
  exact e b _ (ne_of z h1 (by intro k; cases k)) (ne_of z h2 (by intro k; cases k)) z
theorem Pt.new {H : Hp} {p q c : Addr} {o : HO} (P : Pt H p q) (h : H c = none) : Pt (upd H c o) p q := by
  obtain ⟨cs, a, b, n, h1, h2, r⟩ := P
  exact ⟨cs, a, b, n, by rw [upd_ne (ne_of_none h1 h)]; exact h1, by rw [upd_ne (ne_of_none h2 h)]; exact h2, r⟩
theorem Pt.put {H : Hp} {p q c : Addr} {o : HO} (P : Pt H p q) (n1 : c ≠ p) (n2 : c ≠ q) : Pt (upd H c o) p q := by
  obtain ⟨cs, a, b, n, h1, h2, r⟩ := P
  exact ⟨cs, a, b, n, by rw [upd_ne (Ne.symm n1)]; exact h1, by rw [upd_ne (Ne.symm n2)]; exact h2, r⟩
theorem Pt.same {H H' : Hp} {p q : Addr} (P : Pt H p q) (e : Same H H') : Pt H' p q := by
  obtain ⟨cs, a, b, n, h1, h2, r⟩ := P
  exact ⟨cs, a, b, n, e _ _ h1, e _ _ h2, r⟩
theorem Pt.np {H : Hp} {p q c : Addr} (P : Pt H p q) (h : H c = none) : c ≠ p ∧ c ≠ q := by
  obtain ⟨xs, h1⟩ := P.lp
  obtain ⟨ys, h2⟩ := P.lq
  refine ⟨fun e => ?_, fun e => ?_⟩
  · rw [e, h1] at h
    cases h
  · rw [e, h2] at h
    cases h
theorem Same.new {H H' : Hp} {c : Addr} {o : HO} (e : Same H H') (h : H' c = none) : Same H (upd H' c o) := fun b u z => by
  have z' := e b u z
  rw [upd_ne (ne_of_none z' h)]
  exact z'
/-- data all of whose items are ints -/
theorem DpAll.ints (K : PySem.W.Frag) (H : Hp) : ∀ ns : List Int, DpAll K H (ns.map V.int) (ns.map PyData.int)
  | [] => .nil
  | n :: ns => .cons (.int n) (DpAll.ints K H ns)
theorem canLay_ints : ∀ ns : List Int, PyData.canLayAll0 (ns.map PyData.int) = true
  | [] => rfl
  | n :: ns => by
    rw [List.map_cons]
    simp only [PyData.canLayAll0, PyData.canLay0, canLay_ints ns, Bool.and_self]
theorem depth_ints : ∀ ns : List Int, PyData.depthAll (ns.map PyData.int) = 0
  | [] => rfl
  | n :: ns => by
    rw [List.map_cons]
    simp only [PyData.depthAll, PyData.depth, depth_ints ns, Nat.max_self]
theorem shaped_ints (ns : List Int) : SeqAt.shaped (.list (ns.map PyData.int)) = true := by
  unfold SeqAt.shaped
  simp only [PyData.canLay0, PyData.depth, canLay_ints, depth_ints, Bool.true_and]
  decide
theorem Im.int0 {H : Hp} (n : Nat) : Im H (.int (0 + (n : Int))) (.int n) := by
  rw [Int.zero_add]
  exact .int _
/-! ### the promises of what draws -/
def spDip : Sp := fun vs H Q _ => ∃ (p q : Addr) (n : Int), vs = [.ref p, .int n] ∧ Pt H p q ∧ 0 < n ∧ n < 1073741824 ∧ ∀ (r : Int) (H' : Hp), 0 ≤ r → r < n → Pt H' p q → Kp p q H H' → Q (.int r) H'
def spPick : Sp := fun vs H Q _ => ∃ (p q a : Addr) (xs : List V), vs = [.ref p, .ref a] ∧ Pt H p q ∧ H a = some (.lst xs) ∧ a ≠ p ∧ a ≠ q ∧ xs ≠ [] ∧ xs.length < 1000 ∧
  ∀ (v : V) (H' : Hp), v ∈ xs → Pt H' p q → Kp p q H H' → Q v H'
def PR : List Int := [2, 3, 5, 7, 11, 13, 17, 19, 23, 29, 31, 37, 41, 43, 47, 53, 59, 61, 67, 71, 73, 79, 83, 89, 97]
def spPrimes : Sp := fun vs H Q _ => vs = [] ∧ ∀ a, H a = none → Q (.ref a) (upd H a (.lst (PR.map V.int)))
def spGreat : Sp := fun vs H Q _ => ∃ (p q : Addr), vs = [.ref p] ∧ Pt H p q ∧ ∀ (n : Int) (H' : Hp), SizeOk n → Pt H' p q → Kp p q H H' → Q (.int n) H'
def sD (ss : List Int) : PyData := .tuple (ss.map .int)
def wD (w : Nat × Nat) : PyData := .tuple [.int w.1, .int w.2]
def mD (ss : List Int) (ws : List (Nat × Nat)) : PyData := .tuple [sD ss, .tuple (ws.map wD)]
def spSizes : Sp := fun vs H Q _ => ∃ (p q : Addr) (g : Bool), vs = [.ref p, .bl g] ∧ Pt H p q ∧
  ∀ (v : V) (ss : List Int) (H' : Hp), Im H' v (sD ss) → 1 ≤ ss.length → ss.length ≤ 6 → (∀ s ∈ ss, SizeOk s) → Pt H' p q → Kp p q H H' → Q v H'
def spWires : Sp := fun vs H Q _ => ∃ (p q : Addr) (m : Nat), vs = [.ref p, .int m] ∧ m ≤ 6 ∧ Pt H p q ∧
  ∀ (v : V) (ws : List (Nat × Nat)) (H' : Hp), Im H' v (.tuple (ws.map wD)) → WOk m ws → Pt H' p q → Kp p q H H' → Q v H'
def spMachine : Sp := fun vs H Q _ => ∃ (p q : Addr) (g : Bool), vs = [.ref p, .bl g] ∧ Pt H p q ∧
  ∀ (v : V) (ss : List Int) (ws : List (Nat × Nat)) (H' : Hp), Im H' v (mD ss ws) → MOk ss ws → Pt H' p q → Kp p q H H' → Q v H'
/-- a list at c of great numbers, all of them ints that may be a size but for 1 -/
def okV (v : V) : Bool := match v with
  | .int i => decide (1 ≤ i) && decide (i ≤ 10 ^ 30) && smoB i.toNat
  | _ => false
theorem okV_of {v : V} (h : okV v = true) : ∃ m : Nat, v = .int m ∧ 1 ≤ m ∧ m ≤ 10 ^ 30 ∧ Smo m := by
  cases v with
  | int i =>
    have h' : (decide (1 ≤ i) && decide (i ≤ 10 ^ 30) && smoB i.toNat) = true := h
    rw [Bool.and_eq_true, Bool.and_eq_true] at h'
    have h1 : 1 ≤ i := of_decide_eq_true h'.1.1
    have h2 : i ≤ 10 ^ 30 := of_decide_eq_true h'.1.2
    exact ⟨i.toNat, by rw [Int.toNat_of_nonneg (by omega)], by omega, by omega, smo_of h'.2⟩
  | _ => cases h
def fewV : List V := [.int 2, .int 3, .int 4, .int 5, .int 6, .int 8, .int 9, .int 12, .int 16, .int 18, .int 27, .int 97, .int 36]
def spCommon : Sp := fun vs H Q _ => ∃ a b : Nat, vs = [.int a, .int b] ∧ b < 2 ^ 4000 ∧ Q (.int (Nat.gcd a b : Nat)) H
end NA
namespace NA
open PySem PySem.Spec PyProof.Rows L2
theorem Same.put {H H' : Hp} {c : Addr} {o : HO} (e : Same H H') (h : H c = none) : Same H (upd H' c o) := fun b u z => by
  rw [upd_ne (ne_of_none z h)]
  exact e b u z
theorem take_filter {α : Type} {l : List α} {i : Nat} {x : α} (f : α → Bool) (h : l[i]? = some x) : (l.take (i + 1)).filter f = (l.take i).filter f ++ (if f x = true then [x] else []) := by
  rw [List.take_add_one, h, List.filter_append]
  simp only [Option.toList, List.filter_cons, List.filter_nil]
theorem take_map {α β : Type} {l : List α} {i : Nat} {x : α} (f : α → β) (h : l[i]? = some x) : (l.take (i + 1)).map f = (l.take i).map f ++ [f x] := by
  rw [List.take_add_one, h, List.map_append]
  rfl
theorem map_get {α β : Type} {l : List α} {f : α → β} {i : Nat} {y : β} (h : (l.map f)[i]? = some y) : ∃ x, l[i]? = some x ∧ y = f x := by
  rw [List.getElem?_map] at h
  cases e : l[i]? with
  | none =>
    rw [e] at h
    cases h
  | some x =>
    rw [e] at h
    exact ⟨x, rfl, (Option.some.inj h).symm⟩
theorem dec_int0 (x y : Int) : decide (V.int x = V.int y) = decide (x = y) := by
  by_cases h : x = y
  · subst h
    rw [decide_eq_true rfl, decide_eq_true rfl]
  · rw [decide_eq_false h, decide_eq_false fun z => h (V.int.inj z)]
/-- primes that divide some of these -/
def dv (ss : List Int) (p : Int) : Bool := ss.any fun s => decide (s % p = 0)
def dueP (ss : List Int) : List Int := PR.filter (dv ss)
def spDepth : Sp := fun vs H Q _ => ∃ (v : V) (ss : List Int) (d : PyData) (p i s : Nat), vs = [v, .int p, .int i] ∧ Im H v (.tuple [sD ss, d]) ∧ 2 ≤ p ∧ p ≤ 1000 ∧ ss[i]? = some (s : Int) ∧ 0 < s ∧ s < 2 ^ 4000 ∧ Q (.int (val p s : Nat)) H
def spStep : Sp := fun vs H Q _ => ∃ (v : V) (ss : List Int) (d : PyData) (j i a b : Nat), vs = [v, .int j, .int i] ∧ Im H v (.tuple [sD ss, d]) ∧ ss[j]? = some (a : Int) ∧ ss[i]? = some (b : Int) ∧ 0 < b ∧ b < 2 ^ 4000 ∧ Q (.int (stp a b : Nat)) H
def spPrimesOf : Sp := fun vs H Q _ => ∃ (v : V) (ss : List Int) (d : PyData), vs = [v] ∧ Im H v (.tuple [sD ss, d]) ∧ ss.length ≤ 100 ∧ ∀ (u : V) (H' : Hp), Im H' u (.tuple ((dueP ss).map .int)) → Same H H' → Q u H'
def spLStep : Sp := fun vs H Q _ => ∃ (v : V) (ss : List Int) (j i a b : Nat), vs = [v, .int j, .int i] ∧ Im H v (sD ss) ∧ ss[j]? = some (a : Int) ∧ ss[i]? = some (b : Int) ∧ 0 < b ∧ b < 2 ^ 4000 ∧ Q (.int (stp a b : Nat)) H
def spOften : Sp := fun vs H Q _ => ∃ (s p : Nat), vs = [.int s, .int p] ∧ 2 ≤ p ∧ p ≤ 1000 ∧ 0 < s ∧ s < 2 ^ 4000 ∧ Q (.int (val p s : Nat)) H
def spPot (K : PySem.W.Frag) : Sp := fun vs H Q _ => ∃ (a : Addr) (ns : List Int), vs = [.ref a] ∧ SqL K H a (ns.map V.int) ∧ ns.length ≤ 63 ∧ ∀ (p q : Addr) (H' : Hp), Pt H' p q → Same H H' → H p = none → H q = none → Q (.ref p) H'
theorem pl_pos {p s : Nat} (hp : 2 ≤ p) (h : 0 < s) (e : s % p = 0) : 0 < s / p := Nat.div_pos (Nat.le_of_dvd h (Nat.dvd_of_mod_eq_zero e)) (by omega)
theorem Cal.of {P : Program} {w : World} {K : PySem.W.Frag} {mg : Str → Option Value} {base : Heap} {x : Str} {st : Stmt} {f : Addr} {fd : FuncData} {ps : List Str} {k : Nat} {sp : Sp} (D : DefAt K mg x st ps f fd) (F : FnOk P w K mg base CX0 k f fd ps sp) : Cal P w K mg base k x sp :=
  ⟨f, fd, ps, F, D.mgf, D.fn.kp, D.bd⟩
theorem CalK.of {P : Program} {w : World} {K : PySem.W.Frag} {mg : Str → Option Value} {base : Heap} {x : Str} {st : Stmt} {f : Addr} {fd : FuncData} {ps ks : List Str} {k : Nat} {sp : Sp} {g : List Value → List Value → List Value} {gV : List V → List V → List V} (D : DefAt K mg x st ps f fd)
    (F : FnOk P w K mg base CX0 k f fd ps sp) (b : KBinds K fd ps ks g gV) : CalK P w K mg base k x sp ks gV :=
  ⟨f, fd, ps, g, F, D.mgf, D.fn.kp, b⟩
/-- keywords alone, put in order by o -/
def kg1 {α : Type} : List α → List α → List α
  | [], [a] => [a]
  | _, _ => []
def kg321 {α : Type} : List α → List α → List α
  | [], [a, b, c] => [c, b, a]
  | _, _ => []
theorem kg1_rel {vs zs : List V} {us ws : List Value} (h1 : Vals vs us) (h2 : Vals zs ws) : Vals (kg1 vs zs) (kg1 us ws) := by
  cases h1 with
  | cons _ _ => exact .nil
  | nil =>
    cases h2 with
    | nil => exact .nil
    | cons a h2 =>
      cases h2 with
      | nil => exact .cons a .nil
      | cons _ _ => exact .nil
theorem kg321_rel {vs zs : List V} {us ws : List Value} (h1 : Vals vs us) (h2 : Vals zs ws) : Vals (kg321 vs zs) (kg321 us ws) := by
  cases h1 with
  | cons _ _ => exact .nil
  | nil =>
    cases h2 with
    | nil => exact .nil
    | cons a h2 =>
      cases h2 with
      | nil => exact .nil
      | cons b h2 =>
        cases h2 with
        | nil => exact .nil
        | cons c h2 =>
          cases h2 with
          | nil => exact .cons c (.cons b (.cons a .nil))
          | cons _ _ => exact .nil
section
variable {X : Cx}
/-! rules over a written part that is named -/
theorem pi_listK (K : PySem.W.Frag) (hK : X.K = K) {tg l : Expr} {tl : TE} (hl : PE X l tl) : PI X tg l (iList K tl) := hK ▸ pi_list hl
theorem pi_tupK (K : PySem.W.Frag) (hK : X.K = K) {tg l : Expr} {tl : TE} (hl : PE X l tl) : PI X tg l (iTup K tl) := hK ▸ pi_tup hl
theorem ix_listK (K : PySem.W.Frag) (hK : X.K = K) : IxR X (rIxL K) := hK ▸ ix_list
theorem ix_tupK (K : PySem.W.Frag) (hK : X.K = K) : IxR X (rIxT K) := hK ▸ ix_tup
theorem sl_listK (K : PySem.W.Frag) (hK : X.K = K) : SlR X (rSlL K) := hK ▸ sl_list
theorem cr_anyK (K : PySem.W.Frag) (hK : X.K = K) (hc : X.calm = true) : CallR X (.builtin "any") (rAny K) := hK ▸ cr_any hc
theorem cr_allK (K : PySem.W.Frag) (hK : X.K = K) (hc : X.calm = true) : CallR X (.builtin "all") (rAll K) := hK ▸ cr_all hc
def rLenQ (K : PySem.W.Frag) : List V → Hp → VK → Prop := fun xs H Q => ∃ p ys, xs = [.ref p] ∧ (SqL K H p ys ∨ SqT K H p ys) ∧ Q (.int ys.length) H
theorem call_lenK (K : PySem.W.Frag) (hK : X.K = K) : CallR X (.builtin "len") (rLenQ K) := hK ▸ call_len_seq
def rTupQ (K : PySem.W.Frag) : List V → Hp → VK → Prop := fun xs H Q => ∃ p ys, xs = [.ref p] ∧ ((SqL K H p ys ∧ ∀ l, H l = none → Q (.ref l) (upd H l (.tup ys))) ∨ (SqT K H p ys ∧ Q (.ref p) H))
theorem call_tupleK (K : PySem.W.Frag) (hK : X.K = K) : CallR X (.type "tuple") (rTupQ K) := hK ▸ call_tuple_of
def rLstQ (K : PySem.W.Frag) : List V → Hp → VK → Prop := fun xs H Q => ∃ p ys, xs = [.ref p] ∧ (SqL K H p ys ∨ SqT K H p ys) ∧ ∀ l, H l = none → Q (.ref l) (upd H l (.lst ys))
theorem call_listK (K : PySem.W.Frag) (hK : X.K = K) : CallR X (.type "list") (rLstQ K) := hK ▸ call_list_of
theorem op_neDK (K : PySem.W.Frag) (hK : X.K = K) (hu : X.A.units + 64 < cLine) : OpR X (compareOp .NotEq) (rNeD K) := hK ▸ op_neD hu
theorem op_eqDK (K : PySem.W.Frag) (hK : X.K = K) (hu : X.A.units + 64 < cLine) : OpR X (compareOp .Eq) (rEqD K) := hK ▸ op_eqD hu
def rReprQ (K : PySem.W.Frag) : List V → Hp → VK → Prop := fun xs H Q => ∃ v d, xs = [v] ∧ Dp K H v d ∧ Sh d ∧ Q (.str d.shown) H
theorem call_reprK (K : PySem.W.Frag) (hK : X.K = K) {k : Nat} (hg : Bare X.A) (hr : Room k X.A) : CallR X (.builtin "repr") (rReprQ K) := hK ▸ call_reprD hg hr
theorem call_isiK' (K : PySem.W.Frag) (hK : X.K = K) : CallR X (.builtin "isinstance") (rIsi K) := hK ▸ call_isi
/-- an operator in place, by its rule -/
theorem ip_of {op : Operator} {r : R2} (h : OpR X (inplaceOp op) r) : PIp X op r := fun pins s σ H x y v u Q I rx ry z => h pins s σ H x y v u Q I rx ry z
/-- expressions one behind another, none starred -/
inductive PEL (X : Cx) : List Expr → TA → Prop
  | nil : PEL X [] tNil
  | cons {e : Expr} {es : List Expr} {te : TE} {t : TA} : PE X e te → PEL X es t → PySem.W.kdsPlain e = true → PEL X (e :: es) (tCons te t)
theorem PEL.plain {es : List Expr} {t : TA} (h : PEL X es t) : es.all PySem.W.kdsPlain = true := by
  induction h with
  | nil => rfl
  | cons _ _ h3 ih => rw [List.all_cons, h3, ih] <;> rfl
theorem PEL.run {es : List Expr} {t : TA} (h : PEL X es t) : ∀ (pins : List (Addr × Obj)) (s : Shared) (σ : L2.St) (H : Hp) (R : List V → Hp → Prop) (Q : List Value → Shared → Prop), Inv X pins σ H s → t σ H R →
    (∀ us s' vs H', Inv X pins σ H' s' → Vals vs us → R vs H' → Q us s') → PySem.W.KdsAll (model X.prog X.w) X.A X.xe X.env es Q s := by
  induction h with
  | nil => intro pins s σ H R Q I h q; exact q [] s [] H I .nil h
  | cons he _ _ ih =>
    intro pins s σ H R Q I h q
    refine thn (he.run pins s σ H _ I h) fun u s1 ⟨v, H1, I1, rv, h1⟩ => ?_
    exact ih pins s1 σ H1 _ _ I1 h1 fun us s' vs H' I' rel r => q (u :: us) s' (v :: vs) H' I' (.cons rv rel) r
theorem Vals.toInts : ∀ {ns : List Int} {us : List Value}, Vals (ns.map V.int) us → IntsAre us ns
  | [], _, h => by cases h; exact .nil
  | n :: ns, _, h => by
    cases h with
    | cons a b =>
      obtain ⟨t, rfl⟩ := a
      exact .cons n t (Vals.toInts b)
/-- how many unlike ones -/
def unlike : List Int → List Int → Nat
  | _, [] => 0
  | seen, n :: ns => if n ∈ seen then unlike seen ns else unlike (n :: seen) ns + 1
section
variable {P : Program} {w : World} {A : Around} {E : Value → Shared → Prop} {s : Shared} {D : Addr}
theorem unledI {S : Int → Bool} {n : Nat} {Q : Unit → Shared → Prop} (hS : s.heap.SetOf (intKind P w) D S n) (h : ∀ h', h'.SetOf (intKind P w) D S n → (∀ b o, b ≠ D → s.heap.get? b = some o → h'.get? b = some o) → Q () { s with heap := h' }) :
    wpAny (model P w) A (setUnled D) Q E s := by
  obtain ⟨o, es, ep, tb, get, exact', data, elems, mem, bound, fit, cnt⟩ := hS
  have fit' : ({ tb with led := false } : SetTable).fits es.size = true := by cases tb; exact fit
  unfold setUnled
  refine wpAny_bind (wpAny_setState_of get data fit ?_)
  dsimp only
  refine wpAny_storeSet_of get data ?_ (fits_of_scanBound bound)
  obtain ⟨_, hS2⟩ := SetOf_store (knd := intKind P w) get exact' data elems mem bound fit'
  rw [cnt] at hS2
  have but := Heap.SameBut.update s.heap D (Obj.putSet es { tb with led := false })
  exact h _ hS2 fun b ob hb z => (but.2 b hb).trans z
theorem fillI {u : Bool} {h₀ : Heap} {us : List Value} {ns : List Int} (r : IntsAre us ns) : ∀ (h : Heap) (k : Nat) (S : Int → Bool) (seen : List Int) (n : Nat) (Q : Value → Shared → Prop), h.SetOf (intKind P w) D S n → (∀ z, S z = true ↔ z ∈ seen) →
    (∀ b o, b ≠ D → h₀.get? b = some o → h.get? b = some o) → n + ns.length < 4000 →
    (∀ h' k' S', h'.SetOf (intKind P w) D S' (n + unlike seen ns) → (∀ b o, b ≠ D → h₀.get? b = some o → h'.get? b = some o) → PySem.W.KdsFill (model P w) A E u D Q [] { s with heap := h', toks := k' }) →
    PySem.W.KdsFill (model P w) A E u D Q us { s with heap := h, toks := k } := by
  induction r with
  | nil =>
    intro h k S seen n Q hS _ hk _ q
    exact q h k S hS hk
  | cons y t r ih =>
    rename_i us2 ns2
    intro h k S seen n Q hS hmem hk hn q
    rw [List.length_cons] at hn
    refine PySem.W.kds_fill_cons ?_
    unfold setAdd
    refine wpAny_holding (wpAny_bind ((intKind P w).pyHash (k := y) (intKind_is _ _ _ _) ?_))
    refine wpAny_setAddHashed_of (knd := intKind P w) (s := { s with heap := h, toks := k + 1 }) (intKind_is _ _ _ _) rfl hS (by unfold scanBound; omega) fun h' sb hS' => ?_
    refine ih h' (k + 1) _ (if y ∈ seen then seen else y :: seen) _ Q hS' (fun z => ?_) (fun b o hb e => (sb.2 b hb).trans (hk b o hb e)) (by split <;> omega) fun h2 k2 S2 a b => q h2 k2 S2 ?_ b
    · by_cases hy : y ∈ seen
      · rw [if_pos hy]
        simp only [Bool.or_eq_true, decide_eq_true_eq, hmem]
        exact ⟨fun z => z.elim id fun e => e ▸ hy, Or.inl⟩
      · rw [if_neg hy]
        simp only [Bool.or_eq_true, decide_eq_true_eq, hmem, List.mem_cons]
        exact Or.comm
    · have e : n + unlike seen (y :: ns2) = (if S y = true then n else n + 1) + unlike (if y ∈ seen then seen else y :: seen) ns2 := by
        by_cases hy : y ∈ seen
        · rw [if_pos ((hmem y).mpr hy), if_pos hy]
          show n + (if y ∈ seen then unlike seen ns2 else unlike (y :: seen) ns2 + 1) = _
          rw [if_pos hy]
        · rw [if_neg (fun z => hy ((hmem y).mp z)), if_neg hy]
          show n + (if y ∈ seen then unlike seen ns2 else unlike (y :: seen) ns2 + 1) = _
          rw [if_neg hy]
          omega
      rw [e]
      exact a
end
/-- len({e, ..}), all of them ints -/
def tLenSet (t : TA) : TE := fun σ H Q => t σ H fun vs H1 => ∃ ns : List Int, vs = ns.map V.int ∧ ns.length ≤ 30 ∧ Q (.int (unlike [] ns : Nat)) H1
theorem pe_lenSetI {es : List Expr} {t : TA} {p p2 pos : Pos} (hgl : Gl X "len") (hm : X.mg "len" = none) (hs : PEL X es t) (hl : es.length ≤ 30) (hcd : PySem.W.kdsCode X.K X.env.code = true) :
    PE X (.Call (.Name "len" p) [.Set es 0 p2] [] pos) (tLenSet t) := by
  refine ⟨fun pins s σ H Q I h => wpAny_Call_Name_kw (ld_blt I hgl hm PySem.boot_len ?_ (by decide) (by decide))⟩
  refine PyProof.Rows.callWith_builtin1 (Calls.spliced_cons ?_) (by rfl) (by rfl)
  rw [arm_eval_Set]
  refine wpAny_bind (wpAny_standAt ?_)
  refine wpAny_bind (PySem.W.kds_main I.kIn hcd fun b => ?_)
  rw [PySem.W.kds_star es hs.plain, List.map_map]
  refine PySem.W.kds_core (ts := (evalEach es X.env).map fun t => do let v ← t; standAt p2; pure v) (road0 es) ?_ ?_ ?_ fun led => ?_
  · refine List.findIdx?_eq_none_iff.mpr fun x hx => ?_
    obtain ⟨t, _, rfl⟩ := List.mem_map.mp hx
    rfl
  · rw [List.length_map, PySem.W.kds_len]
    exact hl
  · rw [List.map_map]
    try rfl
  · -- the set's object stands behind the items' evaluation
    have I1 : Inv X pins σ H { s with heap := s.heap.push { cls := .type "set", dict := none, data := .set #[] 0 (.fresh 0 0 led) } } := I.kept (t' := s.toks) fun b u e => Heap.get?_push_of_some _ e
    have hget : (s.heap.push { cls := .type "set", dict := none, data := .set #[] 0 (.fresh 0 0 led) }).get? s.heap.objs.size = some { cls := .type "set", dict := none, data := .set #[] 0 (.fresh 0 0 led) } := Heap.get?_push_size _ rfl
    have I2 := I1.pinned (fp := [s.heap.objs.size]) (fun b hb => by
      rw [List.mem_singleton.mp hb]
      exact I.fpOk (Nat.le_refl _) (I.hok.fresh (Nat.le_refl _))) (fun b hb => by
      rw [List.mem_singleton.mp hb]
      exact ⟨_, hget, fun v z => nomatch z⟩)
    refine PySem.W.kds_all p2 es _ _ (hs.run _ _ σ H (fun vs H1 => ∃ ns : List Int, vs = ns.map V.int ∧ ns.length ≤ 30 ∧ Q (.int (unlike [] ns : Nat)) H1) _ I2 h fun us s' vs H' I' rel hq => ?_)
    obtain ⟨ns, rfl, hl2, q⟩ := hq
    have hpin : s'.heap.get? s.heap.objs.size = some { cls := .type "set", dict := none, data := .set #[] 0 (.fresh 0 0 led) } :=
      (I'.pin _ (List.mem_append_right _ (List.mem_append_right _ (mem_pinsAt (List.mem_singleton.mpr rfl) hget)))).1
    have free : H' s.heap.objs.size = none := (I'.pin _ (List.mem_append_right _ (List.mem_append_right _ (mem_pinsAt (List.mem_singleton.mpr rfl) hget)))).2.1
    have I3 := I'.unpinned
    have hS0 : s'.heap.SetOf (intKind X.prog X.w) s.heap.objs.size (fun _ => false) 0 := (setObjOf_fresh (knd := intKind X.prog X.w) led).setOf hpin (by decide)
    obtain ⟨f0, f1, f2, f3, f4, f5⟩ := I.fpOk (H' := H') (Nat.le_refl s.heap.objs.size) free
    have last : ∀ (h' : Heap) (k' : Nat) (S' : Int → Bool), h'.SetOf (intKind X.prog X.w) s.heap.objs.size S' (0 + unlike [] ns) → (∀ b o, b ≠ s.heap.objs.size → s'.heap.get? b = some o → h'.get? b = some o) →
        wpAny (model X.prog X.w) X.A (spliced []) (fun vs s2 => wpAny (model X.prog X.w) X.A (call (.builtin "len") (.ref s.heap.objs.size :: vs)) (EP X pins σ Q) X.xe s2) X.xe { s' with heap := h', toks := k' } := fun h' k' S' hS hk => by
      refine Calls.spliced_nil ?_
      obtain ⟨o, el, ep, tb, get, exact', data, elems, mem, bound, fit, cnt⟩ := hS
      have fz : (el.size : Int) < 2 ^ 63 := by
        have : el.size < 4096 := bound
        omega
      refine call_len_set (s := { s' with heap := h', toks := k' }) get exact' data fit fz ⟨.int (unlike [] ns : Nat), H', I3.turned (fun b ob hb e => hk b ob hb e) f0 f1 f3 f4 f5, ⟨k' + 1, ?_⟩, q⟩
      rw [cnt, Nat.zero_add]
    refine fillI (s := s') (h₀ := s'.heap) (Vals.toInts rel) s'.heap s'.toks (fun _ => false) [] 0 _ hS0 (fun z => ⟨fun e => Bool.noConfusion e, fun e => absurd e List.not_mem_nil⟩) (fun _ _ _ e => e) (by omega) fun h' k' S' hS hk => ?_
    cases hu : (displayRoad 0 es == DisplayRoad.unsure) with
    | false => exact PySem.W.kds_fill_nil rfl (last h' k' S' hS hk)
    | true => exact PySem.W.kds_fill_unled rfl (unledI (s := { s' with heap := h', toks := k' }) hS fun h2 hS2 sb => last h2 k' S' hS2 fun b o hb e => sb b o hb (hk b o hb e))
end
end NA
namespace NA
open PySem PySem.Spec PyProof.Rows L2
theorem small_log {i : Int} (h : i.natAbs < 2 ^ 1900) : i.natAbs.log2 < 1920 := Nat.lt_of_lt_of_le (PySem.Flt.log2_lt_of (by decide) h) (by decide)
theorem okAll_ints : ∀ ns : List Int, (∀ n ∈ ns, n.natAbs < 2 ^ 1900) → okAll (ns.map PyData.int) = true
  | [], _ => rfl
  | n :: ns, h => by
    rw [List.map_cons]
    simp only [okAll, okD, okAll_ints ns fun m hm => h m (List.mem_cons_of_mem _ hm), Bool.and_true]
    exact decide_eq_true (small_log (h n List.mem_cons_self))
theorem costAll_ints : ∀ ns : List Int, costAll (ns.map PyData.int) = 1923 * ns.length
  | [] => rfl
  | n :: ns => by
    rw [List.map_cons]
    simp only [costAll, cost, costAll_ints ns, List.length_cons]
    omega
theorem Sh.ints {ns : List Int} (h : ∀ n ∈ ns, n.natAbs < 2 ^ 1900) (l : ns.length ≤ 1000) : Sh (.tuple (ns.map .int)) := by
  refine ⟨by simpa only [okD] using okAll_ints ns h, ?_, ?_⟩
  · simp only [NA.cost, costAll_ints]
    omega
  · simp only [PyData.depth, depth_ints]
    decide
theorem Sh.pair {d e : PyData} (a : Sh d) (b : Sh e) (ca : NA.cost d ≤ 4000000) (cb : NA.cost e ≤ 4000000) (da : d.depth ≤ 50) (db : e.depth ≤ 50) : Sh (.list [d, e]) := by
  refine ⟨?_, ?_, ?_⟩
  · simp only [okD, okAll, a.ok, b.ok, Bool.and_self]
  · simp only [NA.cost, costAll]
    omega
  · simp only [PyData.depth, PyData.depthAll]
    omega
theorem Sh.int {i : Int} (h : i.natAbs < 2 ^ 1900) : Sh (.int i) := ⟨by simp only [okD]; exact decide_eq_true (small_log h), by simp only [NA.cost]; decide, by simp only [PyData.depth]; decide⟩
theorem asc_len (N : Nat) : ∀ (l : List Nat) (lo : Nat), l.Pairwise (· < ·) → (∀ x ∈ l, lo ≤ x ∧ x < N) → l.length ≤ N - lo
  | [], _, _, _ => Nat.zero_le _
  | x :: l, lo, h, hb => by
    obtain ⟨h1, h2⟩ := List.pairwise_cons.mp h
    obtain ⟨b1, b2⟩ := hb x List.mem_cons_self
    have ih := asc_len N l (x + 1) h2 fun y hy => ⟨h1 y hy, (hb y (List.mem_cons_of_mem _ hy)).2⟩
    rw [List.length_cons]
    omega
theorem WOk.len {m : Nat} {ws : List (Nat × Nat)} (h : WOk m ws) (hm : m ≤ 6) : ws.length ≤ 36 := by
  have z := asc_len 36 (ws.map fun w => 6 * w.1 + w.2) 0 ?_ ?_
  · rw [List.length_map] at z
    omega
  · rw [List.pairwise_map]
    refine List.Pairwise.imp_of_mem (fun {a b} ha hb e => ?_) h.asc
    obtain ⟨a1, a2, _⟩ := h.low a ha
    obtain ⟨b1, b2, _⟩ := h.low b hb
    rcases e with e | ⟨e1, e2⟩ <;> omega
  · intro x hx
    obtain ⟨w, hw, rfl⟩ := List.mem_map.mp hx
    obtain ⟨b1, b2, _⟩ := h.low w hw
    omega
theorem okAll_wires : ∀ ws : List (Nat × Nat), (∀ w ∈ ws, w.1 < 1000 ∧ w.2 < 1000) → okAll (ws.map wD) = true
  | [], _ => rfl
  | w :: ws, h => by
    obtain ⟨a, b⟩ := h w List.mem_cons_self
    have s : ∀ n : Nat, n < 1000 → (n : Int).natAbs < 2 ^ 1900 := fun n hn => by
      rw [Int.natAbs_natCast]
      exact Nat.lt_trans hn (by decide)
    rw [List.map_cons]
    simp only [okAll, wD, okD, decide_eq_true (small_log (s _ a)), decide_eq_true (small_log (s _ b)), Bool.and_self, Bool.true_and]
    exact okAll_wires ws fun x hx => h x (List.mem_cons_of_mem _ hx)
theorem costAll_wires : ∀ ws : List (Nat × Nat), costAll (ws.map wD) = 3851 * ws.length
  | [] => rfl
  | w :: ws => by
    rw [List.map_cons]
    simp only [costAll, wD, cost, costAll_wires ws, List.length_cons]
    omega
theorem depth_wires : ∀ ws : List (Nat × Nat), PyData.depthAll (ws.map wD) ≤ 1
  | [] => by simp [PyData.depthAll]
  | w :: ws => by
    have := depth_wires ws
    rw [List.map_cons]
    simp only [PyData.depthAll, wD, PyData.depth]
    omega
theorem SizeOk.small {n : Int} (h : SizeOk n) : n.natAbs < 2 ^ 100 := by
  obtain ⟨m, rfl, _, h2, _⟩ := h
  rw [Int.natAbs_natCast]
  exact Nat.lt_of_le_of_lt h2 (by decide)
theorem Sh.mach {ss : List Int} {ws : List (Nat × Nat)} (h : MOk ss ws) : Sh (mD ss ws) := by
  have l1 := h.six
  have l2 := h.wires.len l1
  refine ⟨?_, ?_, ?_⟩
  · have a := okAll_ints ss fun n hn => Nat.lt_trans (h.size n hn).small (by decide)
    have b := okAll_wires ws fun w hw => by
      obtain ⟨x, y, _⟩ := h.wires.low w hw
      omega
    simp only [mD, sD, okD, okAll, a, b, Bool.and_self]
  · simp only [mD, sD, NA.cost, costAll, costAll_ints, costAll_wires]
    omega
  · have := depth_wires ws
    simp only [mD, sD, PyData.depth, PyData.depthAll, depth_ints]
    omega
theorem eqv_nil (ns : List Int) : PyData.eqv (.list (ns.map .int)) (.list []) = ns.isEmpty := by
  cases ns with
  | nil => rfl
  | cons n ns => rfl
/-- the primes of sizes, as numbers from 0 on -/
def dueN (ss : List Int) : List Nat := PRn.filter fun p => dv ss p
theorem dueP_eq (ss : List Int) : dueP ss = (dueN ss).map (fun n : Nat => (n : Int)) := by
  unfold dueP dueN
  rw [show PR = PRn.map (fun n : Nat => (n : Int)) by decide +kernel, List.filter_map]
  rfl
theorem dueN_mem {ss : List Int} {p : Nat} (h : p ∈ dueN ss) : p ∈ PRn := (List.mem_filter.mp h).1
theorem dueN_len (ss : List Int) : (dueN ss).length ≤ 25 := List.length_filter_le _ _
theorem dueP_len (ss : List Int) : (dueP ss).length ≤ 25 := List.length_filter_le _ _
theorem dueP_small {ss : List Int} : ∀ n ∈ dueP ss, n.natAbs < 2 ^ 1900 := fun n hn => by
  rw [dueP_eq] at hn
  obtain ⟨p, hp, rfl⟩ := List.mem_map.mp hn
  rw [Int.natAbs_natCast]
  exact Nat.lt_of_le_of_lt (PRn_le (dueN_mem hp)) (by decide)
theorem dueN_made {ss : List Int} {s : Nat} (h : (s : Int) ∈ ss) (hs : Smo s) : made (dueN ss) 1 s = s := by
  unfold dueN
  rw [made_filter, made_smo hs]
  intro p hp e
  refine val_no fun z => ?_
  have : dv ss (p : Int) = true := List.any_eq_true.mpr ⟨s, h, decide_eq_true (by
    show ((s % p : Nat) : Int) = 0
    rw [z]
    rfl)⟩
  rw [this] at e
  cases e
theorem made_pos {s : Nat} : ∀ (l : List Nat), (∀ p ∈ l, 0 < p) → 0 < made l 1 s
  | [], _ => Nat.one_pos
  | p :: l, h => by
    show 0 < made l (1 * p ^ val p s) s
    rw [made_acc]
    exact Nat.mul_pos (Nat.mul_pos Nat.one_pos (Nat.pow_pos (h p List.mem_cons_self))) (made_pos l fun q hq => h q (List.mem_cons_of_mem _ hq))
theorem made_app (l r : List Nat) (s : Nat) : made (l ++ r) 1 s = made l 1 s * made r 1 s := by
  have : made (l ++ r) 1 s = made r (made l 1 s) s := List.foldl_append
  rw [this, made_acc]
theorem made_take {l : List Nat} {s : Nat} (h : ∀ p ∈ l, 0 < p) (n : Nat) : made (l.take n) 1 s ≤ made l 1 s := by
  have e := made_app (l.take n) (l.drop n) s
  rw [List.take_append_drop] at e
  rw [e]
  exact Nat.le_mul_of_pos_right _ (made_pos _ fun p hp => h p (List.mem_of_mem_drop hp))
theorem made_next {l : List Nat} {s n p : Nat} (h : l[n]? = some p) : made (l.take (n + 1)) 1 s = made (l.take n) 1 s * p ^ val p s := by
  rw [List.take_add_one, h, made_app]
  show made (l.take n) 1 s * (1 * p ^ val p s) = _
  rw [Nat.one_mul]
def spDivided : Sp := fun vs H Q _ => ∃ (v : V) (ss : List Int) (ws : List (Nat × Nat)), vs = [v] ∧ Im H v (mD ss ws) ∧ MOk ss ws ∧ ∀ H', Same H H' → Q (.bl true) H'
def spLeast : Sp := fun vs H Q _ => ∃ (v : V) (ss : List Int) (ws : List (Nat × Nat)) (j i : Nat), vs = [v, .int j, .int i] ∧ Im H v (mD ss ws) ∧ MOk ss ws ∧ j < ss.length ∧ i < ss.length ∧ ∀ H', Same H H' → Q (.bl true) H'
def spLaw (K : PySem.W.Frag) : Sp := fun vs H Q _ => ∃ (a : Addr) (ns : List Int), vs = [.ref a] ∧ SqL K H a (ns.map V.int) ∧ ns.length ≤ 63 ∧ ∀ H', Q (.bl true) H'
theorem Same.k {H H' : Hp} {v : V} {d : PyData} (e : Same H H') (h : Im H v d) : Im H' v d := h.k (Tk.same e)
end NA
namespace NA
open PySem PySem.Spec PyProof.Rows L2
/-! ### data with lists in it; N: where lists may stand -/
mutual
inductive Dg (N : Addr → Prop) (H : Hp) : V → PyData → Prop
  | non : Dg N H .non .none
  | bl (b : Bool) : Dg N H (.bl b) (.bool b)
  | int (i : Int) : Dg N H (.int i) (.int i)
  | str (x : Str) : Dg N H (.str x) (.str x)
  | lst {a : Addr} {xs : List V} {ds : List PyData} : N a → H a = some (.lst xs) → DgAll N H xs ds → Dg N H (.ref a) (.list ds)
  | tup {a : Addr} {xs : List V} {ds : List PyData} : H a = some (.tup xs) → DgAll N H xs ds → Dg N H (.ref a) (.tuple ds)
inductive DgAll (N : Addr → Prop) (H : Hp) : List V → List PyData → Prop
  | nil : DgAll N H [] []
  | cons {v : V} {vs : List V} {d : PyData} {ds : List PyData} : Dg N H v d → DgAll N H vs ds → DgAll N H (v :: vs) (d :: ds)
end
/-- tuples stay, lists where they may stand, the empty dicts -/
structure Ks (N : Addr → Prop) (H H' : Hp) : Prop where
  tup : Tk H H'
  lst : ∀ b xs, N b → H b = some (.lst xs) → H' b = some (.lst xs)
  dic : ∀ b kvs, H b = some (.dK kvs) → H' b = some (.dK kvs)
theorem Ks.same {N : Addr → Prop} {H H' : Hp} (e : Same H H') : Ks N H H' := ⟨Tk.same e, fun b _ _ h => e b _ h, fun b _ h => e b _ h⟩
theorem Ks.kp {p q : Addr} {H H' : Hp} (e : Kp p q H H') (P : Pt H p q) : Ks (fun a => a ≠ p ∧ a ≠ q) H H' := by
  refine ⟨e.tk P, fun b xs n h => e b _ n.1 n.2 h, fun b kvs h => ?_⟩
  obtain ⟨ys, h1⟩ := P.lp
  obtain ⟨zs, h2⟩ := P.lq
  exact e b _ (ne_of h h1 (by intro k; cases k)) (ne_of h h2 (by intro k; cases k)) h
theorem Ks.refl (N : Addr → Prop) (H : Hp) : Ks N H H := ⟨Tk.refl H, fun _ _ _ h => h, fun _ _ h => h⟩
theorem Ks.trans {N : Addr → Prop} {H H1 H2 : Hp} (a : Ks N H H1) (b : Ks N H1 H2) : Ks N H H2 := ⟨a.tup.trans b.tup, fun c x n h => b.lst c x n (a.lst c x n h), fun c x h => b.dic c x (a.dic c x h)⟩
mutual
theorem Dg.keep {N N' : Addr → Prop} {H H' : Hp} (e : Ks N H H') (m : ∀ a, N a → N' a) : ∀ (d : PyData) (v : V), Dg N H v d → Dg N' H' v d
  | .none, _, h => by cases h; exact .non
  | .bool _, _, h => by cases h; exact .bl _
  | .int _, _, h => by cases h; exact .int _
  | .str _, _, h => by cases h; exact .str _
  | .tuple ds, _, h => by
    cases h with
    | tup a b => exact .tup (e.tup _ _ a) (DgAll.keep e m ds _ b)
  | .list ds, _, h => by
    cases h with
    | lst n a b => exact .lst (m _ n) (e.lst _ _ n a) (DgAll.keep e m ds _ b)
  | .dict _, _, h => by cases h
theorem DgAll.keep {N N' : Addr → Prop} {H H' : Hp} (e : Ks N H H') (m : ∀ a, N a → N' a) : ∀ (ds : List PyData) (vs : List V), DgAll N H vs ds → DgAll N' H' vs ds
  | [], _, h => by cases h; exact .nil
  | d :: ds, _, h => by
    cases h with
    | cons a b => exact .cons (Dg.keep e m d _ a) (DgAll.keep e m ds _ b)
end
mutual
theorem Dg.toDp {N : Addr → Prop} {K : PySem.W.Frag} {H : Hp} : ∀ (d : PyData) (v : V), Dg N H v d → Dp K H v d
  | .none, _, h => by cases h; exact .non
  | .bool _, _, h => by cases h; exact .bl _
  | .int _, _, h => by cases h; exact .int _
  | .str _, _, h => by cases h; exact .str _
  | .tuple ds, _, h => by
    cases h with
    | tup a b => exact .tup (SqT.of a) (DgAll.toDp ds _ b)
  | .list ds, _, h => by
    cases h with
    | lst n a b => exact .lst (SqL.of a) (DgAll.toDp ds _ b)
  | .dict _, _, h => by cases h
theorem DgAll.toDp {N : Addr → Prop} {K : PySem.W.Frag} {H : Hp} : ∀ (ds : List PyData) (vs : List V), DgAll N H vs ds → DpAll K H vs ds
  | [], _, h => by cases h; exact .nil
  | d :: ds, _, h => by
    cases h with
    | cons a b => exact .cons (Dg.toDp d _ a) (DgAll.toDp ds _ b)
end
mutual
theorem Im.toDg {N : Addr → Prop} {H : Hp} : ∀ (d : PyData) (v : V), Im H v d → Dg N H v d
  | .none, _, h => by cases h; exact .non
  | .bool _, _, h => by cases h; exact .bl _
  | .int _, _, h => by cases h; exact .int _
  | .str _, _, h => by cases h; exact .str _
  | .tuple ds, _, h => by
    cases h with
    | tup a b => exact .tup a (ImAll.toDg ds _ b)
  | .list _, _, h => by cases h
  | .dict _, _, h => by cases h
theorem ImAll.toDg {N : Addr → Prop} {H : Hp} : ∀ (ds : List PyData) (vs : List V), ImAll H vs ds → DgAll N H vs ds
  | [], _, h => by cases h; exact .nil
  | d :: ds, _, h => by
    cases h with
    | cons a b => exact .cons (Im.toDg d _ a) (ImAll.toDg ds _ b)
end
theorem Im.dg {N : Addr → Prop} {H : Hp} {v : V} {d : PyData} (h : Im H v d) : Dg N H v d := Im.toDg d v h
/-- such data, or an empty dict -/
def Dv (N : Addr → Prop) (H : Hp) (v : V) (d : PyData) : Prop := Dg N H v d ∨ ∃ a, v = .ref a ∧ H a = some (.dK []) ∧ d = .dict []
theorem Dg.k {N : Addr → Prop} {H H' : Hp} {v : V} {d : PyData} (h : Dg N H v d) (e : Ks N H H') : Dg N H' v d := Dg.keep e (fun _ z => z) d v h
theorem DgAll.k {N : Addr → Prop} {H H' : Hp} {v : List V} {d : List PyData} (h : DgAll N H v d) (e : Ks N H H') : DgAll N H' v d := DgAll.keep e (fun _ z => z) d v h
theorem Dg.any {N : Addr → Prop} {H : Hp} {v : V} {d : PyData} (h : Dg N H v d) : Dg (fun _ => True) H v d := Dg.keep (Ks.refl N H) (fun _ _ => trivial) d v h
theorem Dv.k {N : Addr → Prop} {H H' : Hp} {v : V} {d : PyData} (h : Dv N H v d) (e : Ks N H H') : Dv N H' v d := by
  rcases h with h | ⟨a, h1, h2, h3⟩
  · exact .inl (h.k e)
  · exact .inr ⟨a, h1, e.dic _ _ h2, h3⟩
theorem Dv.any {N : Addr → Prop} {H : Hp} {v : V} {d : PyData} (h : Dv N H v d) : Dv (fun _ => True) H v d := by
  rcases h with h | h
  · exact .inl h.any
  · exact .inr h
theorem DgAll.length {N : Addr → Prop} {H : Hp} : ∀ {vs : List V} {ds : List PyData}, DgAll N H vs ds → vs.length = ds.length
  | _, _, .nil => rfl
  | _, _, .cons _ b => by rw [List.length_cons, List.length_cons, DgAll.length b]
theorem DgAll.get {N : Addr → Prop} {H : Hp} : ∀ {vs : List V} {ds : List PyData} {i : Nat} {v : V}, DgAll N H vs ds → vs[i]? = some v → ∃ d, ds[i]? = some d ∧ Dg N H v d
  | _, _, _, _, .nil, e => by simp at e
  | _, _, 0, _, .cons a _, e => by
    simp at e
    subst e
    exact ⟨_, rfl, a⟩
  | _, _, i + 1, v, .cons _ b, e => by
    obtain ⟨d, h1, h2⟩ := DgAll.get (i := i) (v := v) b (by simpa using e)
    exact ⟨d, by simpa using h1, h2⟩
theorem DgAll.append {N : Addr → Prop} {H : Hp} : ∀ {vs ws : List V} {ds es : List PyData}, DgAll N H vs ds → DgAll N H ws es → DgAll N H (vs ++ ws) (ds ++ es)
  | _, _, _, _, .nil, h => h
  | _, _, _, _, .cons a b, h => .cons a (DgAll.append b h)
theorem DgAll.take {N : Addr → Prop} {H : Hp} : ∀ (n : Nat) {vs : List V} {ds : List PyData}, DgAll N H vs ds → DgAll N H (vs.take n) (ds.take n)
  | 0, _, _, _ => .nil
  | _ + 1, _, _, .nil => .nil
  | n + 1, _, _, .cons a b => .cons a (DgAll.take n b)
theorem DgAll.drop {N : Addr → Prop} {H : Hp} : ∀ (n : Nat) {vs : List V} {ds : List PyData}, DgAll N H vs ds → DgAll N H (vs.drop n) (ds.drop n)
  | 0, _, _, h => h
  | _ + 1, _, _, .nil => .nil
  | n + 1, _, _, .cons a b => DgAll.drop n b
/-! ### types -/
def tyD : PyData → String
  | .none => "NoneType"
  | .bool _ => "bool"
  | .int _ => "int"
  | .str _ => "str"
  | .list _ => "list"
  | .tuple _ => "tuple"
  | .dict _ => "dict"
theorem Dv.ty {N : Addr → Prop} {K : PySem.W.Frag} {H : Hp} {v : V} {d : PyData} (h : Dv N H v d) : TyX K H v (.type (tyD d)) := by
  rcases h with h | ⟨a, rfl, h2, rfl⟩
  · cases h with
    | non => exact .base .non
    | bl b => exact .base (.bl b)
    | int i => exact .base (.int i)
    | str x => exact .base (.str x)
    | lst _ a _ => exact .base (.lst a)
    | tup a _ => exact .base (.tup a)
  · exact .base (.dK h2)
def isT : PyData → Bool
  | .tuple _ => true
  | _ => false
def isIB : PyData → Bool
  | .int _ => true
  | .bool _ => true
  | _ => false
def isB : PyData → Bool
  | .bool _ => true
  | _ => false
def isI : PyData → Bool
  | .int _ => true
  | _ => false
theorem kit_tup (K : PySem.W.Frag) (d : PyData) : PySem.W.kitOne K (.type (tyD d)) (.type "tuple") = some (isT d) := by
  cases d with
  | none => exact kit_ty (show kitB "NoneType" "tuple" = some false by decide +kernel)
  | bool _ => exact kit_ty (show kitB "bool" "tuple" = some false by decide +kernel)
  | int _ => exact kit_ty (show kitB "int" "tuple" = some false by decide +kernel)
  | str _ => exact kit_ty (show kitB "str" "tuple" = some false by decide +kernel)
  | list _ => exact kit_ty (show kitB "list" "tuple" = some false by decide +kernel)
  | tuple _ => exact kit_ty (show kitB "tuple" "tuple" = some true by decide +kernel)
  | dict _ => exact kit_ty (show kitB "dict" "tuple" = some false by decide +kernel)
theorem kit_int (K : PySem.W.Frag) (d : PyData) : PySem.W.kitOne K (.type (tyD d)) (.type "int") = some (isIB d) := by
  cases d with
  | none => exact kit_ty (show kitB "NoneType" "int" = some false by decide +kernel)
  | bool _ => exact kit_ty (show kitB "bool" "int" = some true by decide +kernel)
  | int _ => exact kit_ty (show kitB "int" "int" = some true by decide +kernel)
  | str _ => exact kit_ty (show kitB "str" "int" = some false by decide +kernel)
  | list _ => exact kit_ty (show kitB "list" "int" = some false by decide +kernel)
  | tuple _ => exact kit_ty (show kitB "tuple" "int" = some false by decide +kernel)
  | dict _ => exact kit_ty (show kitB "dict" "int" = some false by decide +kernel)
theorem kit_bool (K : PySem.W.Frag) (d : PyData) : PySem.W.kitOne K (.type (tyD d)) (.type "bool") = some (isB d) := by
  cases d with
  | none => exact kit_ty (show kitB "NoneType" "bool" = some false by decide +kernel)
  | bool _ => exact kit_ty (show kitB "bool" "bool" = some true by decide +kernel)
  | int _ => exact kit_ty (show kitB "int" "bool" = some false by decide +kernel)
  | str _ => exact kit_ty (show kitB "str" "bool" = some false by decide +kernel)
  | list _ => exact kit_ty (show kitB "list" "bool" = some false by decide +kernel)
  | tuple _ => exact kit_ty (show kitB "tuple" "bool" = some false by decide +kernel)
  | dict _ => exact kit_ty (show kitB "dict" "bool" = some false by decide +kernel)
theorem Dv.tuple {N : Addr → Prop} {H : Hp} {v : V} {d : PyData} (h : Dv N H v d) (e : isT d = true) : ∃ a xs ds, v = .ref a ∧ d = .tuple ds ∧ H a = some (.tup xs) ∧ DgAll N H xs ds := by
  rcases h with h | ⟨a, rfl, h2, rfl⟩
  · cases h with
    | tup a b => exact ⟨_, _, _, rfl, rfl, a, b⟩
    | non => cases e
    | bl _ => cases e
    | int _ => cases e
    | str _ => cases e
    | lst _ _ _ => cases e
  · cases e
theorem Dv.int {N : Addr → Prop} {H : Hp} {v : V} {d : PyData} (h : Dv N H v d) (e : isI d = true) : ∃ i, v = .int i ∧ d = .int i := by
  rcases h with h | ⟨a, rfl, h2, rfl⟩
  · cases h with
    | int i => exact ⟨i, rfl, rfl⟩
    | non => cases e
    | bl _ => cases e
    | tup _ _ => cases e
    | str _ => cases e
    | lst _ _ _ => cases e
  · cases e
/-! ### repr -/
structure ShV (d : PyData) : Prop where
  ok : Sh d ∨ d = .dict []
def rReprV (N : Addr → Prop) : List V → Hp → VK → Prop := fun xs H Q => ∃ v d, xs = [v] ∧ Dv N H v d ∧ ShV d ∧ Q (.str d.shown) H
theorem call_reprV {X : Cx} (N : Addr → Prop) {k : Nat} (hg : Bare X.A) (hr : Room k X.A) : CallR X (.builtin "repr") (rReprV N) := by
  intro pins s σ H xs us Q I r h
  obtain ⟨v, d, rfl, hd, sh, q⟩ := h
  rcases hd with hd | ⟨a, rfl, h2, rfl⟩
  · rcases sh.ok with s1 | e
    · exact call_reprD hg hr pins s σ H [v] us Q I r ⟨v, d, rfl, Dg.toDp d v hd, s1, q⟩
    · subst e
      cases hd
  · obtain ⟨u, rfl, ru⟩ := r.one
    cases (show u = Value.ref a from ru)
    have ok : ObjOk X.prog X.w H s.heap a (.dK []) := I.hok a _ h2
    obtain ⟨_, ns, vs, kv, o, es, ep, g1, g2, g3, g4, g5⟩ := ok
    have hu := hr.un
    have vs0 : vs = [] := by cases kv; rfl
    subst vs0
    have es0 : es.toList = [] := by
      have z := g5.1
      cases h : es.toList with
      | nil => rfl
      | cons x l =>
        rw [h] at z
        cases z
    have rd : Reads s.heap (.ref a) (.dict []) (a :: [] ++ []) := .dict g1 g2.1 g3 (by rw [es0]; exact .nil) (by rw [es0]; exact .nil)
    have nsm : sysModules ≠ a := fun z => by
      rw [z, beq_self_eq_true] at ns
      cases ns
    refine repr_of_reads' rd (by decide) (fun _ => by simpa using nsm) hg (by show X.A.units + (1 + 1) < cLine; omega) (fun _ _ z => z) (fun h' u tk hk => ⟨.str _, H, I.kept (t' := tk) hk, ⟨_, rfl⟩, q⟩) (by decide +kernel)
end NA
namespace NA
open PySem PySem.Spec PyProof.Rows L2
/-! ### what is wrong with a machine, over data -/
def strp (p n : Nat) : Nat := n / p ^ val p n
theorem strp_yes {p n : Nat} (hp : 2 ≤ p) (hn : 0 < n) (h : n % p = 0) : strp p n = strp p (n / p) := by
  unfold strp
  rw [val_yes hp hn h, Nat.pow_succ, Nat.mul_comm, Nat.div_div_eq_div_mul]
theorem strp_no {p n : Nat} (h : n % p ≠ 0) : strp p n = n := by
  unfold strp
  rw [val_no h, Nat.pow_zero, Nat.div_one]
theorem strp_pos {p n : Nat} (hp : 2 ≤ p) (hn : 0 < n) : 0 < strp p n := by
  have d := (pow_dvd_val hp (val p n) n hn).mpr (Nat.le_refl _)
  exact Nat.div_pos (Nat.le_of_dvd hn d) (Nat.pow_pos (by omega))
theorem strp_le (p n : Nat) : strp p n ≤ n := Nat.div_le_self _ _
def strA (l : List Nat) (n : Nat) : Nat := l.foldl (fun r p => strp p r) n
theorem strA_next {l : List Nat} {n i p : Nat} (h : l[i]? = some p) : strA (l.take (i + 1)) n = strp p (strA (l.take i) n) := by
  unfold strA
  rw [List.take_add_one, h, List.foldl_append]
  rfl
def isSz : PyData → Bool
  | .int n => decide (2 ≤ n) && decide (n ≤ 10 ^ 30) && (strA PRn n.toNat == 1)
  | _ => false
def isBl (m : Nat) : PyData → Bool
  | .int n => decide (0 ≤ n) && decide (n < (m : Int))
  | _ => false
def isWr (m : Nat) : PyData → Bool
  | .tuple [.int a, .int b] => isBl m (.int a) && isBl m (.int b) && !decide (a = b)
  | _ => false
def leP : PyData → PyData → Bool
  | .tuple [.int a, .int b], .tuple [.int c, .int d] => if a = c then (if b = d then true else decide (b ≤ d)) else decide (a ≤ c)
  | _, _ => false
def bd (f : Nat → Bool) (n : Nat) : List Nat := (List.range n).filter f
theorem bd_zero (f : Nat → Bool) : bd f 0 = [] := rfl
theorem bd_succ (f : Nat → Bool) (n : Nat) : bd f (n + 1) = bd f n ++ (if f n = true then [n] else []) := by
  unfold bd
  rw [List.range_succ, List.filter_append, List.filter_cons, List.filter_nil]
theorem bd_none {f : Nat → Bool} {n : Nat} (h : bd f n = []) : ∀ i, i < n → f i = false := fun i hi => by
  cases e : f i with
  | false => rfl
  | true =>
    have : i ∈ bd f n := List.mem_filter.mpr ⟨List.mem_range.mpr hi, e⟩
    rw [h] at this
    cases this
theorem bd_first {f : Nat → Bool} {i : Nat} (h : bd f i = []) (e : f i = true) : ∀ n, i < n → ∃ l, bd f n = i :: l := by
  intro n hn
  induction n with
  | zero => omega
  | succ n ih =>
    rw [bd_succ]
    by_cases z : i = n
    · subst z
      rw [h, if_pos e]
      exact ⟨[], rfl⟩
    · obtain ⟨l, hl⟩ := ih (by omega)
      rw [hl]
      exact ⟨_, rfl⟩
theorem bd_lt {f : Nat → Bool} {n i : Nat} (h : i ∈ bd f n) : i < n := List.mem_range.mp (List.mem_filter.mp h).1
theorem bd_len (f : Nat → Bool) (n : Nat) : (bd f n).length ≤ n := by
  have := List.length_filter_le f (List.range n)
  rwa [List.length_range] at this
def szBad (S : List PyData) (i : Nat) : Bool := !isSz (S.getD i .none)
def wrBad (m : Nat) (W : List PyData) (i : Nat) : Bool := !isWr m (W.getD i .none)
def orBad (W : List PyData) (k : Nat) : Bool := leP (W.getD (k + 1) .none) (W.getD k .none)
def eT (x : Str) (i : Nat) : PyData := .tuple [.str x, .int i]
def merr3 (W : List PyData) : PyData := match bd (orBad W) (W.length - 1) with
  | k :: _ => eT "order" (k + 1)
  | [] => .none
def merrW (m : Nat) (W : List PyData) : PyData := match bd (wrBad m W) W.length with
  | i :: _ => eT "wire" i
  | [] => merr3 W
def merr2 (S W : List PyData) : PyData := match bd (szBad S) S.length with
  | i :: _ => eT "size" i
  | [] => merrW S.length W
def formD : PyData → Option (List PyData × List PyData)
  | .tuple [.tuple S, .tuple W] => if 1 ≤ S.length ∧ S.length ≤ 6 then some (S, W) else none
  | _ => none
def merr (d : PyData) : PyData := match formD d with
  | some (S, W) => merr2 S W
  | none => .str "form"
theorem formD_some {d : PyData} {S W : List PyData} (h : formD d = some (S, W)) : d = .tuple [.tuple S, .tuple W] ∧ 1 ≤ S.length ∧ S.length ≤ 6 := by
  unfold formD at h
  split at h
  · split at h
    · rename_i S' W' z
      cases h
      exact ⟨rfl, z⟩
    · cases h
  · cases h
theorem get_getD {l : List PyData} {i : Nat} {d : PyData} (h : l[i]? = some d) : l.getD i .none = d := by
  rw [List.getD_eq_getElem?_getD, h]
  rfl
theorem merr_form {d : PyData} (h : formD d = none) : merr d = .str "form" := by unfold merr; rw [h]
theorem merr_some {d : PyData} {S W : List PyData} (h : formD d = some (S, W)) : merr d = merr2 S W := by unfold merr; rw [h]
theorem merr2_size {S W : List PyData} {i : Nat} {l : List Nat} (h : bd (szBad S) S.length = i :: l) : merr2 S W = eT "size" i := by unfold merr2; rw [h]
theorem merr2_ok {S W : List PyData} (h : bd (szBad S) S.length = []) : merr2 S W = merrW S.length W := by unfold merr2; rw [h]
theorem merrW_wire {m : Nat} {W : List PyData} {i : Nat} {l : List Nat} (h : bd (wrBad m W) W.length = i :: l) : merrW m W = eT "wire" i := by unfold merrW; rw [h]
theorem merrW_ok {m : Nat} {W : List PyData} (h : bd (wrBad m W) W.length = []) : merrW m W = merr3 W := by unfold merrW; rw [h]
theorem merr3_ord {W : List PyData} {k : Nat} {l : List Nat} (h : bd (orBad W) (W.length - 1) = k :: l) : merr3 W = eT "order" (k + 1) := by unfold merr3; rw [h]
theorem merr3_ok {W : List PyData} (h : bd (orBad W) (W.length - 1) = []) : merr3 W = .none := by unfold merr3; rw [h]
theorem bd_all {f : PyData → Bool} {l : List PyData} (h : bd (fun i => !f (l.getD i .none)) l.length = []) : ∀ x ∈ l, f x = true := fun x hx => by
  obtain ⟨i, hi, rfl⟩ := List.getElem_of_mem hx
  have z := bd_none h i hi
  rw [get_getD (List.getElem?_eq_getElem hi)] at z
  simpa using z
/-- all but the order -/
structure Almost (d : PyData) (S W : List PyData) : Prop where
  eq : d = .tuple [.tuple S, .tuple W]
  one : 1 ≤ S.length
  six : S.length ≤ 6
  sz : ∀ x ∈ S, isSz x = true
  wr : ∀ x ∈ W, isWr S.length x = true
theorem isWr_shape {m : Nat} {d : PyData} (h : isWr m d = true) : ∃ a b : Nat, d = .tuple [.int a, .int b] ∧ a < m ∧ b < m := by
  unfold isWr at h
  split at h
  · rename_i a b
    simp only [isBl, Bool.and_eq_true, decide_eq_true_eq] at h
    exact ⟨a.toNat, b.toNat, by rw [Int.toNat_of_nonneg h.1.1.1, Int.toNat_of_nonneg h.1.2.1], by omega, by omega⟩
  · cases h
def wn (d : PyData) : Nat := match d with
  | .tuple [.int a, .int b] => 6 * a.toNat + b.toNat
  | _ => 0
theorem wn_lt {d e : PyData} (hd : isWr 6 d = true) (he : isWr 6 e = true) (h : leP e d = false) : wn d < wn e := by
  obtain ⟨a, b, rfl, a1, b1⟩ := isWr_shape hd
  obtain ⟨c, f, rfl, c1, f1⟩ := isWr_shape he
  simp only [leP] at h
  simp only [wn, Int.toNat_natCast]
  split at h
  · split at h
    · cases h
    · have := of_decide_eq_false h
      omega
  · have := of_decide_eq_false h
    omega
theorem isWr_mono {m : Nat} (hm : m ≤ 6) {d : PyData} (h : isWr m d = true) : isWr 6 d = true := by
  unfold isWr at h ⊢
  split at h
  · simp only [isBl, Bool.and_eq_true, decide_eq_true_eq] at h ⊢
    exact ⟨⟨⟨h.1.1.1, by omega⟩, ⟨h.1.2.1, by omega⟩⟩, h.2⟩
  · cases h
theorem asc_of {W : List PyData} (h6 : ∀ x ∈ W, isWr 6 x = true) (ho : ∀ k, k < W.length - 1 → orBad W k = false) : W.length ≤ 36 := by
  have step : ∀ n, n < W.length → n ≤ wn (W.getD n .none) := by
    intro n
    induction n with
    | zero => intro _; exact Nat.zero_le _
    | succ n ih =>
      intro hn
      have a := ih (by omega)
      have m1 := get_getD (List.getElem?_eq_getElem (show n < W.length by omega))
      have m2 := get_getD (List.getElem?_eq_getElem hn)
      have z := ho n (by omega)
      unfold orBad at z
      rw [m1] at a
      rw [m1, m2] at z
      rw [m2]
      have := wn_lt (h6 _ (List.getElem_mem (by omega))) (h6 _ (List.getElem_mem hn)) z
      omega
  by_cases e : W.length = 0
  · omega
  · have hn : W.length - 1 < W.length := by omega
    have s := step _ hn
    rw [get_getD (List.getElem?_eq_getElem hn)] at s
    obtain ⟨a, b, z, a1, b1⟩ := isWr_shape (h6 _ (List.getElem_mem hn))
    rw [z] at s
    simp only [wn, Int.toNat_natCast] at s
    omega
theorem merr_almost {d : PyData} (h : merr d = .none ∨ ∃ k, merr d = eT "order" k) : ∃ S W, Almost d S W ∧ (merr d = .none → W.length ≤ 36) := by
  cases hf : formD d with
  | none =>
    rw [merr_form hf] at h
    rcases h with h | ⟨k, h⟩ <;> cases h
  | some SW =>
    obtain ⟨S, W⟩ := SW
    obtain ⟨e, o, x⟩ := formD_some hf
    rw [merr_some hf] at h ⊢
    cases hs : bd (szBad S) S.length with
    | cons i l =>
      rw [merr2_size hs] at h
      rcases h with h | ⟨k, h⟩
      · cases h
      · exact absurd (by injection h with h; injection h with h _; injection h : ("size" : Str) = "order") (by decide +kernel)
    | nil =>
      rw [merr2_ok hs] at h ⊢
      cases hw : bd (wrBad S.length W) W.length with
      | cons i l =>
        rw [merrW_wire hw] at h
        rcases h with h | ⟨k, h⟩
        · cases h
        · exact absurd (by injection h with h; injection h with h _; injection h : ("wire" : Str) = "order") (by decide +kernel)
      | nil =>
        rw [merrW_ok hw]
        have wr : ∀ y ∈ W, isWr S.length y = true := bd_all hw
        refine ⟨S, W, ⟨e, o, x, bd_all hs, wr⟩, fun hn => ?_⟩
        cases ho : bd (orBad W) (W.length - 1) with
        | cons k l =>
          rw [merr3_ord ho] at hn
          cases hn
        | nil => exact asc_of (fun y hy => isWr_mono x (wr y hy)) (bd_none ho)
/-! ### how great such data is -/
def okG (c dp : Nat) (d : PyData) : Bool := okD d && decide (cost d ≤ c) && decide (d.depth ≤ dp)
theorem okG_iff {c dp : Nat} {d : PyData} : okG c dp d = true ↔ okD d = true ∧ cost d ≤ c ∧ d.depth ≤ dp := by
  unfold okG
  simp only [Bool.and_eq_true, decide_eq_true_eq, and_assoc]
theorem okG_mono {c dp c' dp' : Nat} {d : PyData} (h : okG c dp d = true) (a : c ≤ c') (b : dp ≤ dp') : okG c' dp' d = true := by
  rw [okG_iff] at h ⊢
  exact ⟨h.1, by omega, by omega⟩
theorem okG_all {c dp : Nat} : ∀ {l : List PyData}, (∀ x ∈ l, okG c dp x = true) → okAll l = true ∧ costAll l ≤ (c + 2) * l.length ∧ PyData.depthAll l ≤ dp
  | [], _ => ⟨rfl, Nat.le_refl _, Nat.zero_le _⟩
  | x :: l, h => by
    obtain ⟨a, b, e⟩ := okG_all fun y hy => h y (List.mem_cons_of_mem _ hy)
    obtain ⟨a1, b1, e1⟩ := okG_iff.mp (h x List.mem_cons_self)
    refine ⟨by simp only [okAll, a, a1, Bool.and_self], ?_, ?_⟩
    · simp only [costAll, List.length_cons, Nat.mul_succ]
      omega
    · simp only [PyData.depthAll]
      omega
theorem okG_tup {c dp c' dp' : Nat} {l : List PyData} (h : ∀ x ∈ l, okG c dp x = true) (a : (c + 2) * l.length + 3 ≤ c') (b : dp + 1 ≤ dp') : okG c' dp' (.tuple l) = true := by
  obtain ⟨h1, h2, h3⟩ := okG_all h
  refine okG_iff.mpr ⟨by simpa only [okD] using h1, ?_, ?_⟩
  · simp only [cost]
    omega
  · simp only [PyData.depth]
    omega
theorem okG_lst {c dp c' dp' : Nat} {l : List PyData} (h : ∀ x ∈ l, okG c dp x = true) (a : (c + 2) * l.length + 3 ≤ c') (b : dp + 1 ≤ dp') : okG c' dp' (.list l) = true := by
  obtain ⟨h1, h2, h3⟩ := okG_all h
  refine okG_iff.mpr ⟨by simpa only [okD] using h1, ?_, ?_⟩
  · simp only [cost]
    omega
  · simp only [PyData.depth]
    omega
theorem okG_sh {c dp : Nat} {d : PyData} (h : okG c dp d = true) (a : c ≤ 16000000) (b : dp ≤ 60) : ShV d := by
  obtain ⟨h1, h2, h3⟩ := okG_iff.mp h
  exact ⟨.inl ⟨h1, by omega, by omega⟩⟩
/-- things in the place of a size or a wire -/
def okI (d : PyData) : Bool := okG 10000 3 d
theorem isSz_ok {d : PyData} (h : isSz d = true) : okI d = true := by
  unfold isSz at h
  split at h
  · rename_i n
    simp only [Bool.and_eq_true, decide_eq_true_eq] at h
    refine okG_iff.mpr ⟨?_, by simp only [cost]; decide, by simp only [PyData.depth]; decide⟩
    simp only [okD]
    refine decide_eq_true (small_log ?_)
    have a := h.1.1
    have b := h.1.2
    have : n.natAbs ≤ 10 ^ 30 := by omega
    exact Nat.lt_of_le_of_lt this (by decide)
  · cases h
theorem isWr_ok {m : Nat} (hm : m ≤ 6) {d : PyData} (h : isWr m d = true) : okI d = true := by
  obtain ⟨a, b, rfl, a1, b1⟩ := isWr_shape h
  have s : ∀ k : Nat, k < 6 → okG 2000 1 (.int (k : Int)) = true := fun k hk => by
    refine okG_iff.mpr ⟨?_, by simp only [cost]; decide, by simp only [PyData.depth]; decide⟩
    simp only [okD]
    refine decide_eq_true (small_log ?_)
    rw [Int.natAbs_natCast]
    exact Nat.lt_trans hk (by decide)
  refine okG_tup (c := 2000) (dp := 1) (fun x hx => ?_) (by show (2000 + 2) * 2 + 3 ≤ 10000; decide) (by decide)
  rcases List.mem_cons.mp hx with e | hx
  · rw [e]
    exact s a (by omega)
  · rw [List.mem_singleton.mp hx]
    exact s b (by omega)
theorem ShV.len {l : List PyData} (h : ShV (.tuple l)) : 2 * l.length ≤ 16000000 := by
  rcases h.ok with h | h
  · have z := h.cost
    simp only [cost] at z
    have : ∀ l : List PyData, 2 * l.length ≤ costAll l := by
      intro l
      induction l with
      | nil => exact Nat.le_refl _
      | cons x l ih =>
        simp only [costAll, List.length_cons]
        omega
    have := this l
    omega
  · cases h
theorem ShV.sub {l : List PyData} (h : ShV (.tuple l)) {x : PyData} (hx : x ∈ l) : ShV x := by
  rcases h.ok with h | h
  · have z1 := h.ok
    have z2 := h.cost
    have z3 := h.depth
    simp only [okD] at z1
    simp only [cost] at z2
    simp only [PyData.depth] at z3
    have : ∀ l : List PyData, okAll l = true → x ∈ l → okD x = true ∧ cost x ≤ costAll l ∧ x.depth ≤ PyData.depthAll l := by
      intro l
      induction l with
      | nil => intro _ m; cases m
      | cons y l ih =>
        intro o m
        simp only [okAll, Bool.and_eq_true] at o
        simp only [costAll, PyData.depthAll]
        rcases List.mem_cons.mp m with e | m
        · subst e
          exact ⟨o.1, by omega, by omega⟩
        · obtain ⟨a, b, c⟩ := ih o.2 m
          exact ⟨a, by omega, by omega⟩
    obtain ⟨a, b, c⟩ := this l z1 hx
    exact ⟨.inl ⟨a, by omega, by omega⟩⟩
  · cases h
theorem pi_enumTK {X : Cx} (K : PySem.W.Frag) (hK : X.K = K) {e : Expr} {ta : TA} {p pos tpos : Pos} {elts : List Expr} {kk : Nat} (hg : Gl X "enumerate") (hm : X.mg "enumerate" = none) (ha : PA X [e] ta) (hs : starEach [e] X.env = [(false, eval e X.env)] := by rfl) :
    PI X (.Tuple elts kk tpos) (.Call (.Name "enumerate" p) [e] [] pos) (iEnumT K ta) := hK ▸ pi_enumT hg hm ha hs
theorem op_leTK {X : Cx} (K : PySem.W.Frag) (hK : X.K = K) (hu : X.A.units < cLine) : OpR X (compareOp CmpOp.LtE) (rLeT K) := hK ▸ op_leT hu
theorem pg_tupK {X : Cx} (K : PySem.W.Frag) (hK : X.K = K) {pos : Pos} {es : List Expr} {k : Nat} {t : TGs} {n : Nat} (hc : X.calm = true) (h : PGs X es t) (h1 : (assignEach es X.env).length = n := by rfl) (h2 : List.findIdx? (fun x => x.fst) (assignEach es X.env) = none := by rfl) :
    PG X (.Tuple es k pos) (gTup K n t) := hK ▸ pg_tup hc h h1 h2
theorem keepN {H : Hp} {a c : Addr} {o o' : HO} (h : H a = some o) (n : H c = none) : (upd H c o') a = some o := by
  rw [upd_ne (ne_of_none h n)]
  exact h
/-! ### promises -/
theorem room_lt {k : Nat} {A : Around} (hr : Room k A) : A.units < cLine := by
  have := hr.units
  omega
abbrev An : Addr → Prop := fun _ => True
def Np (p q : Addr) : Addr → Prop := fun a => a ≠ p ∧ a ≠ q
def spB (f : PyData → Bool) : Sp := fun vs H Q _ => ∃ (v : V) (d : PyData), vs = [v] ∧ Dv An H v d ∧ ShV d ∧ ∀ H', Same H H' → Q (.bl (f d)) H'
def isInt0 : PyData → Bool
  | .int _ => true
  | _ => false
def isPr : PyData → Bool
  | .tuple [_, _] => true
  | _ => false
def spBelow : Sp := fun vs H Q _ => ∃ (v : V) (d : PyData) (m : Nat), vs = [v, .int m] ∧ Dv An H v d ∧ ∀ H', Same H H' → Q (.bl (isBl m d)) H'
def spWireB : Sp := fun vs H Q _ => ∃ (v : V) (d : PyData) (m : Nat), vs = [v, .int m] ∧ Dv An H v d ∧ ShV d ∧ ∀ H', Same H H' → Q (.bl (isWr m d)) H'
def spMerr : Sp := fun vs H Q _ => ∃ (v : V) (d : PyData), vs = [v] ∧ Dv An H v d ∧ ShV d ∧ ∀ (u : V) (H' : Hp), Im H' u (merr d) → Same H H' → Q u H'
def spOddS : Sp := fun vs H Q _ => ∃ (p q : Addr), vs = [.ref p] ∧ Pt H p q ∧ ∀ (v : V) (d : PyData) (H' : Hp), Dg (Np p q) H' v d → okI d = true → Pt H' p q → Kp p q H H' → Q v H'
def spOddW : Sp := fun vs H Q _ => ∃ (p q : Addr) (m : Nat), vs = [.ref p, .int m] ∧ m ≤ 6 ∧ Pt H p q ∧ ∀ (v : V) (d : PyData) (H' : Hp), Dg (Np p q) H' v d → okI d = true → Pt H' p q → Kp p q H H' → Q v H'
def loB : PyData → Bool
  | .tuple [.tuple _, .tuple W] => decide (W.length ≤ 100)
  | _ => true
theorem lo_ok {S W : List PyData} (h : loB (.tuple [.tuple S, .tuple W]) = true) : W.length ≤ 100 := of_decide_eq_true h
theorem lo_no {S : List PyData} (h : ∀ x ∈ S, isT x = false) : loB (.tuple S) = true := by
  unfold loB
  split
  · rename_i e
    injection e with e
    have := h _ (e ▸ List.mem_cons_self)
    cases this
  · rfl
theorem sz_isT {d : PyData} (h : isSz d = true) : isT d = false := by cases d <;> first | rfl | cases h
def Fit (d : PyData) : Prop := ShV d ∧ loB d = true
def spSpoilt : Sp := fun vs H Q _ => ∃ (p q : Addr) (v : V) (d : PyData) (S W : List PyData), vs = [.ref p, v] ∧ Pt H p q ∧ Dg (Np p q) H v d ∧ Almost d S W ∧ W.length ≤ 36 ∧
  ∀ (v : V) (d : PyData) (H' : Hp), Dv (Np p q) H' v d → Fit d → Pt H' p q → Kp p q H H' → Q v H'
end NA
namespace NA
open PySem PySem.Spec PyProof.Rows L2
def topS (i : Nat) : Stmt := PySem.Challenge.pw_narrowadds_k01_what_is_a_machine.main.body.getD i (.Pass ⟨0, 0, 0, 0⟩)
abbrev s_is_an_integer : Stmt := topS 3
abbrev s_is_below : Stmt := topS 4
abbrev s_is_pair : Stmt := topS 5
abbrev s_machine_error : Stmt := topS 8
abbrev s_has_machine_form : Stmt := topS 9
abbrev s_is_size : Stmt := topS 10
abbrev s_is_wire : Stmt := topS 11
abbrev s_l_pot : Stmt := topS 13
abbrev s_l_dip : Stmt := topS 14
abbrev s_l_pick : Stmt := topS 15
abbrev s_l_primes : Stmt := topS 16
abbrev s_l_common : Stmt := topS 17
abbrev s_l_step : Stmt := topS 18
abbrev s_l_great : Stmt := topS 19
abbrev s_l_sizes : Stmt := topS 20
abbrev s_l_wires : Stmt := topS 21
abbrev s_l_machine : Stmt := topS 22
abbrev s_l_is_size : Stmt := topS 23
abbrev s_l_is_wire : Stmt := topS 24
abbrev s_l_due : Stmt := topS 25
abbrev s_l_odd_size : Stmt := topS 26
abbrev s_l_odd_wire : Stmt := topS 27
abbrev s_l_spoilt : Stmt := topS 28
abbrev s_law : Stmt := topS 29
section
variable {P : Program} {w : World} {K : PySem.W.Frag} {mg : Str → Option Value} {base : Heap}

/-! ### _law_dip, _law_pick, _law_primes, _law_common -/
abbrev sc_l_dipN : List Str := ["pot", "size", "cell", "mixed"]
theorem sc_l_dip : FnScope sc_l_dipN ["pot", "size"] (defScope s_l_dip) := ⟨rfl, rfl, rfl, by decide +kernel, rfl, by decide +kernel, by decide +kernel⟩
theorem ok_dip {f : Addr} {fd : FuncData} (D : DefAt K mg "_law_dip" s_l_dip ["pot", "size"] f fd) (T : Blt mg) : Cal P w K mg base 1 "_law_dip" spDip := by
  refine cal_of D sc_l_dip (fun vs H Q E h => ?_) (fun cdv A outer s H vs Q E hr h => ?_)
  · obtain ⟨p, q, n, rfl, _⟩ := h
    rfl
  · obtain ⟨p, q, n, rfl, hP, n0, n1, k⟩ := h
    obtain ⟨cs, a, b, m, hp, hq, hc, a0, a1, b0, b1⟩ := hP
    have npq : p ≠ q := pq_ne hp hq
    refine ⟨_, (pss_cons (ps_if (pt_cmpR (op_neDK K rfl hr.units) (pe_ix (ix_listK K rfl) (pv 0) pe_int (fun _ _ => rfl)) (pe_lst pa_nil) (nomark _)) (pss_cons (ps_set (i := 2) sc_l_dip.nd rfl (.inl rfl) (pe_bm0 PySem.F.plainAttrs_list PySem.F.slot_list_pop PySem.F.type_list_pop mt_pop (pe_ix (ix_listK K rfl) (pv 0) pe_int (fun _ _ => rfl))))
      (pss_cons (ps_if (pt_cmpR op_ge (pv 2) (pv 1) (nomark _)) (pss_one (ps_expr (pe_bm PySem.F.plainAttrs_list PySem.F.slot_list_append PySem.F.type_list_append mt_append (pe_ix (ix_listK K rfl) (pv 0) pe_int (fun _ _ => rfl)) (pa_cons (pe_op op_fdiv (pv 2) (pv 1)) pa_nil)))) pss_nil)
      (pss_one (ps_ret (pe_op op_mod (pe_callTy call_int1 (by rfl) T.int (by decide +kernel) (pa_cons (pv 2) pa_nil)) (pv 1)))))) pss_nil)
      (pss_cons (ps_asg (pe_op op_add (pe_ix (ix_listK K rfl) (pv 0) pe_int (fun _ _ => rfl)) pe_int) (pg_sub (pv 0) pe_int set_list))
      (pss_cons (ps_set (i := 3) sc_l_dip.nd rfl (.inl rfl) (pe_op op_mod (pe_op op_add (pe_ix (ix_listK K rfl) (pv 0) pe_int (fun _ _ => rfl)) (pe_op op_mul (pe_ix (ix_listK K rfl) (pv 0) pe_int (fun _ _ => rfl)) pe_int)) pe_int))
      (pss_cons (ps_set (i := 3) sc_l_dip.nd rfl (.inl rfl) (pe_op op_mod (pe_op op_add (pe_op op_add (pe_op op_mul (pv 3) (pv 3)) (pe_op op_mul (pe_ix (ix_listK K rfl) (pv 0) pe_int (fun _ _ => rfl)) (pe_ix (ix_listK K rfl) (pv 0) pe_int (fun _ _ => rfl)))) pe_int) pe_int))
      (pss_one (ps_ret (pe_op op_mod (pe_op op_fdiv (pe_op op_mod (pe_op op_mul (pv 3) pe_int) pe_int) pe_int) (pv 1)))))))), ?_⟩
    refine ⟨_, rfl, p, _, 0, _, rfl, rfl, SqL.of hp, atI_nat (j := 0) rfl, Nat.zero_le _, fun l nl => ?_⟩
    have nlp : p ≠ l := ne_of_none hp nl
    have nlq : q ≠ l := ne_of_none hq nl
    have hp1 : (upd H l (.lst [])) p = some (.lst [.ref q, .int a, .int b, .int m]) := by rw [upd_ne nlp]; exact hp
    have hq1 : (upd H l (.lst [])) q = some (.lst (cs.map V.int)) := by rw [upd_ne nlq]; exact hq
    have kp1 : Kp p q H (upd H l (.lst [])) := (Kp.refl p q H).new nl
    refine ⟨.list (cs.map PyData.int), .list [], .lst (SqL.of hq1) (DpAll.ints K _ cs), .lst (SqL.of upd_same) .nil, shaped_ints cs, rfl, _, rfl, ?_⟩
    have keep : ∀ (H' H'' : Hp) (c : Addr) (o : HO), Kp p q H H' → (c = p ∨ c = q) → Kp p q H (upd H' c o) := fun H' _ c o e hcq b u n1 n2 z => by
      have nb : b ≠ c := fun e => by
        rcases hcq with h | h
        · exact n1 (e.trans h)
        · exact n2 (e.trans h)
      rw [upd_ne nb]
      exact e b u n1 n2 z
    cases cs with
    | nil =>
      refine iteF ?_
      refine ⟨_, rfl, p, _, 3, _, rfl, rfl, SqL.of hp1, atI_nat (j := 3) rfl, m, 1, rfl, rfl, _, rfl, p, _, 3, 3, rfl, rfl, hp1, rfl, ?_⟩
      have hp2 : (upd (upd H l (.lst [])) p (.lst [.ref q, .int a, .int b, .int (m + 1)])) p = some (.lst [.ref q, .int a, .int b, .int (m + 1)]) := upd_same
      have hq2 : (upd (upd H l (.lst [])) p (.lst [.ref q, .int a, .int b, .int (m + 1)])) q = some (.lst []) := by rw [upd_ne npq.symm]; exact hq1
      have kp2 : Kp p q H (upd (upd H l (.lst [])) p (.lst [.ref q, .int a, .int b, .int (m + 1)])) := keep _ H _ _ kp1 (.inl rfl)
      refine ⟨_, rfl, p, _, 1, _, rfl, rfl, SqL.of hp2, atI_nat (j := 1) rfl, _, rfl, p, _, 3, _, rfl, rfl, SqL.of hp2, atI_nat (j := 3) rfl, _, _, rfl, rfl, .inr ⟨by decide, by decide⟩, _, _, rfl, rfl, _, _, rfl, rfl, (by decide : (0 : Int) < 4294967291), ?_⟩
      have m1 := Int.emod_nonneg (a + (m + 1) * 2654435761) (show (4294967291 : Int) ≠ 0 by decide)
      have m2 := Int.emod_lt_of_pos (a + (m + 1) * 2654435761) (show (0 : Int) < 4294967291 by decide)
      refine ⟨_, rfl, _, rfl, _, _, rfl, rfl, .inl ⟨by omega, by omega⟩, _, rfl, p, _, 2, _, rfl, rfl, SqL.of hp2, atI_nat (j := 2) rfl, _, rfl, p, _, 3, _, rfl, rfl, SqL.of hp2, atI_nat (j := 3) rfl, _, _, rfl, rfl, .inl ⟨by omega, by omega⟩, _, _, rfl, rfl, _, _, rfl, rfl, _, _, rfl, rfl, (by decide : (0 : Int) < 4294967279), ?_⟩
      refine ⟨_, rfl, _, _, rfl, rfl, .inl ⟨Int.lt_of_lt_of_le (by decide) (Int.emod_nonneg _ (by decide)), Int.lt_trans (Int.emod_lt_of_pos _ (by decide)) (by decide)⟩, _, _, rfl, rfl, (by decide : (0 : Int) < 4294967231), _, _, rfl, rfl, ⟨by decide, by decide⟩, _, rfl, _, _, rfl, rfl, n0, ?_⟩
      refine k _ _ (Int.emod_nonneg _ (by omega)) (Int.emod_lt_of_pos _ n0) ⟨[], a, b, m + 1, hp2, hq2, by decide, a0, a1, b0, b1⟩ kp2
    | cons c0 cs0 =>
      refine iteT ?_
      generalize hcs : c0 :: cs0 = cs at *
      have ne : cs ≠ [] := by rw [← hcs]; exact List.cons_ne_nil _ _
      obtain ⟨ini, z, rfl⟩ : ∃ (ini : List Int) (z : Int), cs = ini ++ [z] := ⟨cs.dropLast, cs.getLast ne, (List.dropLast_concat_getLast ne).symm⟩
      have hq1' : (upd H l (.lst [])) q = some (.lst (ini.map V.int ++ [V.int z])) := by rw [hq1, List.map_append]; rfl
      have hlast : (ini.map V.int ++ [V.int z])[(ini.map V.int ++ [V.int z]).length - 1]? = some (V.int z) := by simp
      have hdrop : (ini.map V.int ++ [V.int z]).dropLast = ini.map V.int := by simp
      refine ⟨_, rfl, p, _, 0, _, rfl, rfl, SqL.of hp1, atI_nat (j := 0) rfl, .inl ⟨rfl, _, SqL.of hq1'⟩, q, _, _, rfl, rfl, hq1', hlast, ?_⟩
      rw [hdrop]
      have hp2 : (upd (upd H l (.lst [])) q (.lst (ini.map V.int))) p = some (.lst [.ref q, .int a, .int b, .int m]) := by rw [upd_ne npq]; exact hp1
      have hq2 : (upd (upd H l (.lst [])) q (.lst (ini.map V.int))) q = some (.lst (ini.map V.int)) := upd_same
      have kp2 : Kp p q H (upd (upd H l (.lst [])) q (.lst (ini.map V.int))) := keep _ H _ _ kp1 (.inr rfl)
      have li : ini.length + 1 ≤ 60 := by simpa using hc
      refine ⟨_, rfl, _, rfl, _, _, rfl, rfl, _, rfl, ?_⟩
      refine ite2 (fun _ => ?_) (fun _ => ?_)
      · refine ⟨_, rfl, p, _, 0, _, rfl, rfl, SqL.of hp2, atI_nat (j := 0) rfl, .inl ⟨rfl, _, SqL.of hq2⟩, _, rfl, _, rfl, _, _, rfl, rfl, ⟨n0, n1⟩, q, _, _, rfl, rfl, hq2, small1000 (by rw [List.length_map]; omega), ?_⟩
        have hp3 : ∀ o, (upd (upd (upd H l (.lst [])) q (.lst (ini.map V.int))) q o) p = some (.lst [.ref q, .int a, .int b, .int m]) := fun o => by rw [upd_ne npq]; exact hp2
        refine ⟨_, rfl, .inl ⟨_, rfl, _, rfl, _, _, rfl, rfl, n0, ?_⟩⟩
        refine k _ _ (Int.emod_nonneg _ (by omega)) (Int.emod_lt_of_pos _ n0) ⟨ini ++ [z / n], a, b, m, hp3 _, by rw [upd_same, List.map_append]; rfl, by rw [List.length_append, List.length_singleton]; omega, a0, a1, b0, b1⟩ (keep _ H _ _ kp2 (.inr rfl))
      · refine ⟨_, rfl, .inl ⟨_, rfl, _, rfl, _, _, rfl, rfl, n0, ?_⟩⟩
        refine k _ _ (Int.emod_nonneg _ (by omega)) (Int.emod_lt_of_pos _ n0) ⟨ini, a, b, m, hp2, hq2, by omega, a0, a1, b0, b1⟩ kp2
abbrev sc_l_pickN : List Str := ["pot", "items"]
theorem sc_l_pick : FnScope sc_l_pickN ["pot", "items"] (defScope s_l_pick) := ⟨rfl, rfl, rfl, by decide +kernel, rfl, by decide +kernel, by decide +kernel⟩
theorem ok_pick {f : Addr} {fd : FuncData} (D : DefAt K mg "_law_pick" s_l_pick ["pot", "items"] f fd) (T : Blt mg) (c_l_dip : Cal P w K mg base 1 "_law_dip" spDip) : Cal P w K mg base 2 "_law_pick" spPick := by
  refine cal_of D sc_l_pick (fun vs H Q E h => ?_) (fun cdv A outer s H vs Q E hr h => ?_)
  · obtain ⟨p, q, a, xs, rfl, _⟩ := h
    rfl
  · obtain ⟨p, q, a, xs, rfl, hP, ha, n1, n2, ne, lt, k⟩ := h
    refine ⟨_, (pss_one (ps_ret (pe_ix (ix_listK K rfl) (pv 1) (pe_c c_l_dip hr (by decide) rfl (pa_cons (pv 0) (pa_cons (pe_callB (call_lenK K rfl) (by rfl) T.len PySem.boot_len (pa_cons (pv 1) pa_nil)) pa_nil))) (fun _ _ => rfl)))), ?_⟩
    have l0 : 0 < xs.length := List.length_pos_iff.mpr ne
    refine ⟨_, rfl, _, rfl, _, rfl, a, xs, rfl, .inl (SqL.of ha), p, q, _, rfl, hP, by omega, by omega, fun r H' r0 r1 hP' hk => ?_⟩
    have ha' : H' a = some (.lst xs) := hk a _ n1 n2 ha
    obtain ⟨j, rfl⟩ : ∃ j : Nat, r = (j : Int) := ⟨r.toNat, by omega⟩
    have hj : j < xs.length := by omega
    exact ⟨a, xs, j, _, rfl, rfl, SqL.of ha', atI_nat (List.getElem?_eq_getElem hj), k _ _ (List.getElem_mem hj) hP' hk⟩
abbrev sc_l_primesN : List Str := []
theorem sc_l_primes : FnScope sc_l_primesN [] (defScope s_l_primes) := ⟨rfl, rfl, rfl, by decide +kernel, rfl, by decide +kernel, by decide +kernel⟩
theorem ok_primes {f : Addr} {fd : FuncData} (D : DefAt K mg "_law_primes" s_l_primes [] f fd) : Cal P w K mg base 1 "_law_primes" spPrimes := by
  refine cal_of D sc_l_primes (fun vs H Q E h => ?_) (fun cdv A outer s H vs Q E hr h => ?_)
  · obtain ⟨rfl, _⟩ := h
    rfl
  · obtain ⟨rfl, k⟩ := h
    refine ⟨_, (pss_one (ps_ret (pe_lst (pa_cons pe_int (pa_cons pe_int (pa_cons pe_int (pa_cons pe_int (pa_cons pe_int (pa_cons pe_int (pa_cons pe_int (pa_cons pe_int (pa_cons pe_int (pa_cons pe_int (pa_cons pe_int (pa_cons pe_int (pa_cons pe_int (pa_cons pe_int (pa_cons pe_int (pa_cons pe_int (pa_cons pe_int (pa_cons pe_int (pa_cons pe_int (pa_cons pe_int (pa_cons pe_int (pa_cons pe_int (pa_cons pe_int (pa_cons pe_int (pa_cons pe_int pa_nil)))))))))))))))))))))))))))), ?_⟩
    exact ⟨by show 25 ≤ sizeLine; decide, fun a na => k a na⟩
abbrev sc_l_commonN : List Str := ["one", "other"]
theorem sc_l_common : FnScope sc_l_commonN ["one", "other"] (defScope s_l_common) := ⟨rfl, rfl, rfl, by decide +kernel, rfl, by decide +kernel, by decide +kernel⟩
theorem ok_common {f : Addr} {fd : FuncData} (D : DefAt K mg "_law_common" s_l_common ["one", "other"] f fd) : Cal P w K mg base 1 "_law_common" spCommon := by
  refine cal_of D sc_l_common (fun vs H Q E h => ?_) (fun cdv A outer s H vs Q E hr h => ?_)
  · obtain ⟨a, b, rfl, _⟩ := h
    rfl
  · obtain ⟨a, b, rfl, hb, k⟩ := h
    refine ⟨_, (pss_cons (ps_while PassesOwn.never (pt_cmpR op_gt (pv 1) pe_int (nomark _)) (pss_one (ps_par (i := 0) (j := 1) rfl sc_l_common.nd rfl rfl (by decide) rfl rfl (pa_cons (pv 1) (pa_cons (pe_op op_mod (pv 0) (pv 1)) pa_nil)) (by rfl))))
      (pss_one (ps_ret (pv 0)))), ?_⟩
    refine ⟨fun m σ H' => ∃ x y : Nat, σ = [some (.int x), some (.int y)] ∧ Nat.gcd x y = Nat.gcd a b ∧ m = y ∧ H' = H, ⟨b, a, b, rfl, rfl, rfl, rfl⟩, ?_⟩
    rintro m σ H' ⟨x, y, rfl, hg, rfl, rfl⟩
    refine ⟨_, rfl, _, _, rfl, rfl, _, rfl, ?_⟩
    refine ite2 (fun hy => ?_) (fun hy => ?_)
    · have hy' : (0 : Int) < (m : Int) := of_decide_eq_true hy
      refine ⟨fun σ' H'' => ∃ x' y' : Nat, σ' = [some (.int x'), some (.int y')] ∧ Nat.gcd x' y' = Nat.gcd a b ∧ y' < m ∧ H'' = H', fun σ' H'' ⟨x', y', e1, e2, e3, e4⟩ => ⟨y', e3, x', y', e1, e2, rfl, e4⟩, ?_⟩
      refine ⟨_, rfl, _, rfl, _, rfl, _, _, rfl, rfl, hy', _, _, rfl, m, x % m, rfl, ?_, Nat.mod_lt _ (by omega), rfl⟩
      rw [Nat.gcd_comm, ← Nat.gcd_rec, Nat.gcd_comm, hg]
    · have hy' : ¬ (0 : Int) < (m : Int) := of_decide_eq_false (by simpa using hy)
      have m0 : m = 0 := by omega
      subst m0
      refine ⟨_, rfl, ?_⟩
      rw [Nat.gcd_zero_right] at hg
      rw [hg]
      exact k

/-! ### _law_great, _law_sizes, _law_wires, _law_machine -/
abbrev sc_l_greatN : List Str := ["pot", "some", "found", "turn", "prime"]
theorem sc_l_great : FnScope sc_l_greatN ["pot"] (defScope s_l_great) := ⟨rfl, rfl, rfl, by decide +kernel, rfl, by decide +kernel, by decide +kernel⟩
theorem ok_great {f : Addr} {fd : FuncData} (D : DefAt K mg "_law_great" s_l_great ["pot"] f fd) (T : Blt mg) (c_l_dip : Cal P w K mg base 1 "_law_dip" spDip) (c_l_pick : Cal P w K mg base 2 "_law_pick" spPick) (c_l_primes : Cal P w K mg base 1 "_law_primes" spPrimes) :
    Cal P w K mg base 3 "_law_great" spGreat := by
  refine cal_of D sc_l_great (fun vs H Q E h => ?_) (fun cdv A outer s H vs Q E hr h => ?_)
  · obtain ⟨p, q, rfl, _⟩ := h
    rfl
  · obtain ⟨p, q, rfl, hP, k⟩ := h
    refine ⟨_, (pss_cons (ps_set (i := 1) sc_l_great.nd rfl (.inl rfl) (pe_lst (pa_cons (pe_op op_pow pe_int pe_int) (pa_cons (pe_op op_pow pe_int pe_int) (pa_cons (pe_op op_pow pe_int pe_int) (pa_cons (pe_op op_pow pe_int pe_int) (pa_cons (pe_op op_pow pe_int pe_int) (pa_cons (pe_op op_pow pe_int pe_int) (pa_cons (pe_op op_pow (pe_op op_pow pe_int pe_int) pe_int) (pa_cons (pe_op op_pow pe_int pe_int) (pa_cons (pe_op op_pow pe_int pe_int) (pa_cons pe_int (pa_cons pe_int pa_nil)))))))))))))
      (pss_cons (ps_set (i := 2) sc_l_great.nd rfl (.inl rfl) (pe_c c_l_pick hr (by decide) rfl (pa_cons (pv 0) (pa_cons (pv 1) pa_nil))))
      (pss_cons (ps_for PassesOwn.never rfl (pi_range1 (by rfl) T.range (pa_cons (pe_c c_l_dip hr (by decide) rfl (pa_cons (pv 0) (pa_cons pe_int pa_nil))) pa_nil)) (pg_name (i := 3) sc_l_great.nd rfl (.inl rfl)) (pss_cons (ps_set (i := 4) sc_l_great.nd rfl (.inl rfl) (pe_c c_l_pick hr (by decide) rfl (pa_cons (pv 0) (pa_cons (pe_lst (pa_cons pe_int (pa_cons pe_int (pa_cons pe_int (pa_cons pe_int (pa_cons (pe_c c_l_pick hr (by decide) rfl (pa_cons (pv 0) (pa_cons (pe_c0 c_l_primes hr (by decide) rfl) pa_nil))) pa_nil)))))) pa_nil))))
      (pss_one (ps_set (i := 2) sc_l_great.nd rfl (.inl rfl) (pe_ifExp (pt_cmpR op_le (pe_op op_mulW (pv 2) (pv 4)) (pe_op op_pow pe_int pe_int) (nomark _)) (pe_op op_mulW (pv 2) (pv 4)) (pv 2))))))
      (pss_one (ps_ret (pe_callB (call_max2 rfl) (by rfl) T.max boot_max (pa_cons (pv 2) (pa_cons pe_int pa_nil)))))))), ?_⟩
    refine ⟨_, _, rfl, rfl, ⟨by decide, by decide, by decide⟩, _, _, rfl, rfl, ⟨by decide, by decide, by decide⟩, _, _, rfl, rfl, ⟨by decide, by decide, by decide⟩, _, _, rfl, rfl, ⟨by decide, by decide, by decide⟩, _, _, rfl, rfl, ⟨by decide, by decide, by decide⟩, _, _, rfl, rfl, ⟨by decide, by decide, by decide⟩,
      _, _, rfl, rfl, ⟨by decide, by decide, by decide⟩, _, _, rfl, rfl, ⟨by decide, by decide, by decide⟩, _, _, rfl, rfl, ⟨by decide, by decide, by decide⟩, _, _, rfl, rfl, ⟨by decide, by decide, by decide⟩, by show 11 ≤ sizeLine; decide, fun c nc => ?_⟩
    refine ⟨_, rfl, _, rfl, p, q, c, _, rfl, hP.new nc, upd_same, (hP.np nc).1, (hP.np nc).2, List.cons_ne_nil _ _, by show 11 < 1000; decide, fun v H2 hv P2 k2 => ?_⟩
    have kp2 : Kp p q H H2 := ((Kp.refl p q H).new nc).trans k2
    have ov : okV v = true := by
      have all : ∀ l : List V, l.all okV = true → v ∈ l → okV v = true := fun l h => List.all_eq_true.mp h v
      exact all _ (by decide +kernel) hv
    obtain ⟨m, rfl, m1, m2, m3⟩ := okV_of ov
    refine ⟨_, rfl, p, q, _, rfl, P2, by decide, by decide, fun r H3 r0 r1 P3 k3 => ⟨r, rfl, by omega, by omega, for_range (lo := 0) (n := r.toNat) (fun i σ H' => ∃ (x : Nat) (v3 v4 : Option V), σ = [some (.ref p), some (.ref c), some (.int x), v3, v4] ∧ 1 ≤ x ∧ x ≤ 10 ^ 30 ∧ Smo x ∧ Pt H' p q ∧ Kp p q H H')
      ⟨m, none, none, rfl, m1, m2, m3, P3, kp2.trans k3⟩ ?_ ?_⟩⟩
    · rintro i σ H' hi ⟨x, v3, v4, rfl, x1, x2, x3, P4, k4⟩
      refine ⟨_, rfl, _, rfl, rfl, fun a na => ⟨p, q, a, _, rfl, P4.new na, upd_same, (P4.np na).1, (P4.np na).2, by decide, by decide, fun v H5 hv P5 k5 => ⟨by show 5 ≤ sizeLine; decide, fun b nb => ?_⟩⟩⟩
      refine ⟨p, q, b, _, rfl, P5.new nb, upd_same, (P5.np nb).1, (P5.np nb).2, List.cons_ne_nil _ _, by show 5 < 1000; decide, fun u H6 hu P6 k6 => ?_⟩
      have k06 : Kp p q H H6 := ((((k4.new na).trans k5).new nb)).trans k6
      obtain ⟨pr, rfl, hpr⟩ : ∃ pr : Nat, u = .int pr ∧ pr ∈ PRn := by
        have fromPR : ∀ y : V, y ∈ PR.map V.int → ∃ pr : Nat, y = .int pr ∧ pr ∈ PRn := fun y hy => by
          obtain ⟨z, hz, rfl⟩ := List.mem_map.mp hy
          have e : PR = PRn.map (fun n : Nat => (n : Int)) := by decide +kernel
          rw [e] at hz
          obtain ⟨n, hn, rfl⟩ := List.mem_map.mp hz
          exact ⟨n, rfl, hn⟩
        rcases List.mem_cons.mp hu with e | hu
        · exact ⟨2, e, by decide⟩
        rcases List.mem_cons.mp hu with e | hu
        · exact ⟨2, e, by decide⟩
        rcases List.mem_cons.mp hu with e | hu
        · exact ⟨3, e, by decide⟩
        rcases List.mem_cons.mp hu with e | hu
        · exact ⟨5, e, by decide⟩
        rcases List.mem_cons.mp hu with e | hu
        · exact fromPR _ (e ▸ hv)
        · cases hu
      have wide : CMulW (x : Int) (pr : Int) := wide_mul (a := 100) (b := 10) (by
        have : (10 : Nat) ^ 30 < 2 ^ 100 := by decide
        omega) (by
        have := PRn_le hpr
        omega) (by decide) (by decide) (by decide)
      refine ⟨_, rfl, _, rfl, _, _, rfl, rfl, wide, _, _, rfl, rfl, ⟨by decide, by decide, by decide⟩, _, _, rfl, rfl, _, rfl, ?_⟩
      refine ite2 (fun le => ?_) (fun _ => ?_)
      · have le' : (x : Int) * (pr : Int) ≤ 10 ^ 30 := of_decide_eq_true le
        have le2 : x * pr ≤ 10 ^ 30 := by
          have z : ((x * pr : Nat) : Int) ≤ 10 ^ 30 := by rw [Int.natCast_mul]; exact le'
          omega
        refine ⟨_, rfl, _, rfl, _, _, rfl, rfl, wide, x * pr, some (.int (0 + (i : Int))), some (.int pr), ?_, ?_, le2, x3.mulr hpr, P6, k06⟩
        · rw [Int.natCast_mul]
          rfl
        · exact Nat.mul_pos x1 (Nat.lt_of_lt_of_le (by decide) (PRn_two hpr))
      · exact ⟨_, rfl, x, _, _, rfl, x1, x2, x3, P6, k06⟩
    · rintro σ H' ⟨x, v3, v4, rfl, x1, x2, x3, P4, k4⟩
      refine ⟨_, rfl, _, _, rfl, ?_⟩
      have so : SizeOk (if (2 : Int) > (x : Int) then 2 else (x : Int)) := by
        by_cases h2 : (2 : Int) > (x : Int)
        · rw [if_pos h2]
          exact ⟨2, rfl, by decide, by decide, smo_of (by decide +kernel)⟩
        · rw [if_neg h2]
          exact ⟨x, rfl, by omega, x2, x3⟩
      exact k _ _ so P4 k4
abbrev sc_l_sizesN : List Str := ["pot", "is_great", "few", "base", "turn"]
theorem sc_l_sizes : FnScope sc_l_sizesN ["pot", "is_great"] (defScope s_l_sizes) := ⟨rfl, rfl, rfl, by decide +kernel, rfl, by decide +kernel, by decide +kernel⟩
theorem ok_sizes {f : Addr} {fd : FuncData} (D : DefAt K mg "_law_sizes" s_l_sizes ["pot", "is_great"] f fd) (T : Blt mg) (c_l_dip : Cal P w K mg base 1 "_law_dip" spDip) (c_l_pick : Cal P w K mg base 2 "_law_pick" spPick) (c_l_great : Cal P w K mg base 3 "_law_great" spGreat) :
    Cal P w K mg base 4 "_law_sizes" spSizes := by
  refine cal_of D sc_l_sizes (fun vs H Q E h => ?_) (fun cdv A outer s H vs Q E hr h => ?_)
  · obtain ⟨p, q, g, rfl, _⟩ := h
    rfl
  · obtain ⟨p, q, g, rfl, hP, k⟩ := h
    refine ⟨_, (pss_cons (ps_set (i := 2) sc_l_sizes.nd rfl (.inr rfl) (pe_lst (pa_cons pe_int (pa_cons pe_int (pa_cons pe_int (pa_cons pe_int (pa_cons pe_int (pa_cons pe_int (pa_cons pe_int (pa_cons pe_int (pa_cons pe_int (pa_cons pe_int (pa_cons pe_int (pa_cons pe_int (pa_cons pe_int pa_nil)))))))))))))))
      (pss_cons (ps_set (i := 3) sc_l_sizes.nd rfl (.inr rfl) (pe_lc (own := [("turn", 4)]) rfl sc_l_sizes.nd (pi_range1 (by rfl) T.range (pa_cons pe_int pa_nil)) (blkOk_by (N := sc_l_sizesN) (sc := defScope s_l_sizes) (by decide +kernel)) (fun _ _ _ _ _ => (pg_name (i := 4) sc_l_sizes.nd rfl (by first | exact .inl rfl | exact .inr rfl))) (fun _ _ _ _ _ => pts_nil) (fun _ _ _ _ _ => (pe_ifExp (pt_val (pv 1)) (pe_c c_l_great hr (by decide) rfl (pa_cons (pv 0) pa_nil)) (pe_c c_l_pick hr (by decide) rfl (pa_cons (pv 0) (pa_cons (pv 2) pa_nil)))))))
      (pss_one (ps_ret (pe_callTy (call_tupleK K rfl) (by rfl) T.tuple (by decide +kernel) (pa_cons (pe_lc (own := [("turn", 4)]) rfl sc_l_sizes.nd (pi_range1 (by rfl) T.range (pa_cons (pe_op op_add pe_int (pe_c c_l_dip hr (by decide) rfl (pa_cons (pv 0) (pa_cons pe_int pa_nil)))) pa_nil)) (blkOk_by (N := sc_l_sizesN) (sc := defScope s_l_sizes) (by decide +kernel)) (fun _ _ _ _ _ => (pg_name (i := 4) sc_l_sizes.nd rfl (by first | exact .inl rfl | exact .inr rfl))) (fun _ _ _ _ _ => pts_nil) (fun _ _ _ _ _ => (pe_c c_l_pick hr (by decide) rfl (pa_cons (pv 0) (pa_cons (pv 3) pa_nil))))) pa_nil)))))), ?_⟩
    refine ⟨by show 13 ≤ sizeLine; decide, fun c nc => ?_⟩
    have P1 : Pt (upd H c (.lst fewV)) p q := hP.new nc
    have k1 : Kp p q H (upd H c (.lst fewV)) := (Kp.refl p q H).new nc
    obtain ⟨nc1, nc2⟩ := hP.np nc
    refine ⟨3, rfl, by decide, by decide, fun b nb => ?_⟩
    have nbH : H b = none := by
      by_cases e : b = c
      · rw [e, upd_same] at nb
        cases nb
      · rw [upd_ne e] at nb
        exact nb
    obtain ⟨nb1, nb2⟩ := hP.np nbH
    have ncb : c ≠ b := ne_of_none upd_same nb
    refine lc_range (lo := 0) (n := 3) (fun i H' => Pt H' p q ∧ Kp p q H H' ∧ H' c = some (.lst fewV) ∧ ∃ acc : List Int, H' b = some (.lst (acc.map V.int)) ∧ acc.length = i ∧ ∀ s ∈ acc, SizeOk s)
      ⟨P1.new nb, k1.new nb, by rw [upd_ne ncb]; exact upd_same, [], upd_same, rfl, fun s hs => by cases hs⟩ ?_ ?_
    · rintro i H' hi ⟨P2, k2, hc, acc, hb, hl, ok⟩
      have fin : ∀ (n : Int) (H3 : Hp), SizeOk n → Pt H3 p q → Kp p q H' H3 → ∃ acc' : List V, H3 b = some (.lst acc') ∧ acc'.length < sizeLine ∧ (Pt (upd H3 b (.lst (acc' ++ [V.int n]))) p q ∧ Kp p q H (upd H3 b (.lst (acc' ++ [V.int n]))) ∧ (upd H3 b (.lst (acc' ++ [V.int n]))) c = H' c ∧ ∃ acc : List Int, (upd H3 b (.lst (acc' ++ [V.int n]))) b = some (.lst (acc.map V.int)) ∧ acc.length = i + 1 ∧ ∀ s ∈ acc, SizeOk s) := fun n H3 hn P3 k3 => by
        refine ⟨acc.map V.int, k3 _ _ nb1 nb2 hb, small1000 (by rw [List.length_map]; omega), P3.put nb1 nb2, (k2.trans k3).put nbH, ?_, acc ++ [n], by rw [upd_same, List.map_append]; rfl, by rw [List.length_append, List.length_singleton, hl], fun s hs => ?_⟩
        · rw [upd_ne ncb, hc]
          exact k3 _ _ nc1 nc2 hc
        · rcases List.mem_append.mp hs with h | h
          · exact ok s h
          · rw [List.mem_singleton.mp h]
            exact hn
      refine ⟨rfl, ⟨_, rfl, _, rfl, ?_⟩⟩
      cases g with
      | true =>
        refine iteT ⟨_, rfl, p, q, rfl, P2, fun n H3 hn P3 k3 => ?_⟩
        obtain ⟨acc', a1, a2, a3, a4, a5, a6⟩ := fin n H3 hn P3 k3
        exact ⟨acc', a1, a2, a3, a4, a5.trans hc, a6⟩
      | false =>
        refine iteF ⟨_, rfl, _, rfl, p, q, c, _, rfl, P2, hc, nc1, nc2, List.cons_ne_nil _ _, by show 13 < 1000; decide, fun v H3 hv P3 k3 => ?_⟩
        have ov : okV v = true := by
          have all : ∀ l : List V, l.all okV = true → v ∈ l → okV v = true := fun l h => List.all_eq_true.mp h v
          exact all _ (by decide +kernel) hv
        have big : ∀ l : List V, l.all (fun v => match v with | .int i => decide (2 ≤ i) | _ => false) = true → v ∈ l → ∀ i, v = V.int i → 2 ≤ i := fun l h m i e => by
          have z := List.all_eq_true.mp h v m
          rw [e] at z
          exact of_decide_eq_true z
        obtain ⟨n, rfl, n1, n2, n3⟩ := okV_of ov
        have n4 := big _ (by decide +kernel) hv _ rfl
        obtain ⟨acc', a1, a2, a3, a4, a5, a6⟩ := fin n H3 ⟨n, rfl, by omega, n2, n3⟩ P3 k3
        exact ⟨acc', a1, a2, a3, a4, a5.trans hc, a6⟩
    · rintro H' ⟨P2, k2, hc, acc, hb, hl, ok⟩
      refine ⟨_, rfl, p, q, _, rfl, P2, by decide, by decide, fun r H3 r0 r1 P3 k3 => ⟨1, r, rfl, rfl, _, rfl, by omega, by omega, fun d nd => ?_⟩⟩
      have hb3 : H3 b = some (.lst (acc.map V.int)) := k3 _ _ nb1 nb2 hb
      obtain ⟨nd1, nd2⟩ := P3.np nd
      have nbd : b ≠ d := ne_of_none hb3 nd
      have ndH : H d = none := (k2.trans k3).fresh nd1 nd2 nd
      refine lc_range (lo := 0) (n := (1 + r).toNat) (fun i H' => Pt H' p q ∧ Kp p q H H' ∧ H' b = some (.lst (acc.map V.int)) ∧ ∃ ac : List Int, H' d = some (.lst (ac.map V.int)) ∧ ac.length = i ∧ ∀ s ∈ ac, SizeOk s)
        ⟨P3.new nd, (k2.trans k3).new nd, by rw [upd_ne nbd]; exact hb3, [], upd_same, rfl, fun s hs => by cases hs⟩ ?_ ?_
      · rintro i H4 hi ⟨P4, k4, hb4, ac, hd, hl4, ok4⟩
        refine ⟨rfl, ⟨_, rfl, _, rfl, p, q, b, _, rfl, P4, hb4, nb1, nb2, ?_, ?_, fun v H5 hv P5 k5 => ?_⟩⟩
        · intro z
          have z' := congrArg List.length z
          rw [List.length_map, hl] at z'
          cases z'
        · rw [List.length_map, hl]
          decide
        · obtain ⟨n, hn, rfl⟩ := List.mem_map.mp hv
          refine ⟨ac.map V.int, k5 _ _ nd1 nd2 hd, small1000 (by rw [List.length_map]; omega), P5.put nd1 nd2, (k4.trans k5).put ndH, ?_, ac ++ [n], by rw [upd_same, List.map_append]; rfl, by rw [List.length_append, List.length_singleton, hl4], fun s hs => ?_⟩
          · rw [upd_ne nbd]
            exact k5 _ _ nb1 nb2 hb4
          · rcases List.mem_append.mp hs with h | h
            · exact ok4 s h
            · rw [List.mem_singleton.mp h]
              exact ok n hn
      · rintro H4 ⟨P4, k4, hb4, ac, hd, hl4, ok4⟩
        refine ⟨d, _, rfl, .inl ⟨SqL.of hd, fun t nt => ?_⟩⟩
        refine k _ ac _ (.tup upd_same ?_) (by omega) (by omega) ok4 (P4.new nt) (k4.new nt)
        exact ImAll.of_ints _ ac

abbrev sc_l_wiresN : List Str := ["pot", "many", "chance", "found", "j", "i"]
theorem sc_l_wires : FnScope sc_l_wiresN ["pot", "many"] (defScope s_l_wires) := ⟨rfl, rfl, rfl, by decide +kernel, rfl, by decide +kernel, by decide +kernel⟩
theorem wlt_low {ws : List (Nat × Nat)} {j i : Nat} {acc : List (Nat × Nat)} (h1 : ws.Pairwise wlt) (h2 : ∀ w ∈ ws, w.1 < j) (h3 : acc.Pairwise wlt) (h4 : ∀ w ∈ acc, w.1 = j) : (ws ++ acc).Pairwise wlt :=
  List.pairwise_append.mpr ⟨h1, h3, fun a ha b hb => .inl (by rw [h4 b hb]; exact h2 a ha)⟩
theorem ok_wires {f : Addr} {fd : FuncData} (D : DefAt K mg "_law_wires" s_l_wires ["pot", "many"] f fd) (T : Blt mg) (c_l_dip : Cal P w K mg base 1 "_law_dip" spDip) (c_l_pick : Cal P w K mg base 2 "_law_pick" spPick) :
    Cal P w K mg base 3 "_law_wires" spWires := by
  refine cal_of D sc_l_wires (fun vs H Q E h => ?_) (fun cdv A outer s H vs Q E hr h => ?_)
  · obtain ⟨p, q, m, rfl, _⟩ := h
    rfl
  · obtain ⟨p, q, m, rfl, hm, hP, k⟩ := h
    refine ⟨_, (pss_cons (ps_asg (pe_tup (pa_cons (pe_c c_l_pick hr (by decide) rfl (pa_cons (pv 0) (pa_cons (pe_lst (pa_cons pe_int (pa_cons pe_int (pa_cons pe_int (pa_cons pe_int (pa_cons pe_int (pa_cons pe_int pa_nil))))))) pa_nil))) (pa_cons (pe_lst pa_nil) pa_nil))) (pg_tup rfl (pgs_cons (pg_name (i := 2) sc_l_wires.nd rfl (.inr rfl)) (pgs_cons (pg_name (i := 3) sc_l_wires.nd rfl (.inl rfl)) pgs_nil))))
      (pss_cons (ps_for PassesOwn.never rfl (pi_range1 (by rfl) T.range (pa_cons (pv 1) pa_nil)) (pg_name (i := 4) sc_l_wires.nd rfl (.inr rfl)) (pss_one (ps_expr (pe_bm PySem.F.plainAttrs_list PySem.F.slot_list_extend PySem.F.type_list_extend mt_extend (pv 3) (pa_cons (pe_lc (own := [("i", 5)]) rfl sc_l_wires.nd (pi_range1 (by rfl) T.range (pa_cons (pv 1) pa_nil)) (blkOk_by (N := sc_l_wiresN) (sc := defScope s_l_wires) (by decide +kernel)) (fun _ _ _ _ _ => (pg_name (i := 5) sc_l_wires.nd rfl (by first | exact .inl rfl | exact .inr rfl))) (fun _ _ _ _ _ => (pts_one (PW.pt (pw_and (pt_cmpR op_ne (pv 5) (pv 4) (nomark _)) (pw_and1 (pt_cmpR op_lt (pe_c c_l_dip hr (by decide) rfl (pa_cons (pv 0) (pa_cons pe_int pa_nil))) (pv 2) (nomark _))))))) (fun _ _ _ _ _ => (pe_tup (pa_cons (pv 4) (pa_cons (pv 5) pa_nil))))) pa_nil)))))
      (pss_one (ps_ret (pe_callTy (call_tupleK K rfl) (by rfl) T.tuple (by decide +kernel) (pa_cons (pv 3) pa_nil)))))), ?_⟩
    refine ⟨_, rfl, by show 6 ≤ sizeLine; decide, fun a na => ⟨p, q, a, _, rfl, hP.new na, upd_same, (hP.np na).1, (hP.np na).2, List.cons_ne_nil _ _, by show 6 < 1000; decide, fun v H1 hv P1 k1 => ?_⟩⟩
    have k01 : Kp p q H H1 := ((Kp.refl p q H).new na).trans k1
    obtain ⟨ch, rfl⟩ : ∃ ch : Int, v = .int ch := by
      have all : ∀ l : List V, l.all (fun v => match v with | .int _ => true | _ => false) = true → v ∈ l → ∃ ch : Int, v = .int ch := fun l h m => by
        have z := List.all_eq_true.mp h v m
        cases v with
        | int c => exact ⟨c, rfl⟩
        | _ => cases z
      exact all _ (by decide +kernel) hv
    refine ⟨Nat.zero_le _, fun fo nfo => ⟨by show 2 ≤ sizeLine; decide, fun t nt => ?_⟩⟩
    obtain ⟨nf1, nf2⟩ := P1.np nfo
    have nfoH : H fo = none := k01.fresh nf1 nf2 nfo
    have nft : fo ≠ t := ne_of_none upd_same nt
    refine ⟨t, _, rfl, .inl (.inl upd_same), rfl, _, _, rfl, _, _, rfl, rfl, ?_⟩
    refine ⟨_, rfl, m, rfl, by omega, by omega, for_range (lo := 0) (n := (m : Int).toNat) (fun j σ H' => ∃ (v4 v5 : Option V) (ws : List (Nat × Nat)) (rs : List V), σ = [some (.ref p), some (.int m), some (.int ch), some (.ref fo), v4, v5] ∧
        Pt H' p q ∧ Kp p q H H' ∧ H' fo = some (.lst rs) ∧ ImAll H' rs (ws.map wD) ∧ ws.length ≤ 6 * j ∧ WOk m ws ∧ ∀ w ∈ ws, w.1 < j)
      ⟨none, none, [], [], rfl, (P1.new nfo).new nt, (k01.new nfo).new nt, by rw [upd_ne nft]; exact upd_same, .nil, by decide, ⟨.nil, fun w hw => by cases hw⟩, fun w hw => by cases hw⟩ ?_ ?_⟩
    · rintro j σ H2 hj ⟨v4, v5, ws, rs, rfl, P2, k2, hf, im, hlen, wok, low⟩
      have hj' : j < m := by omega
      have hrs : rs.length = ws.length := by rw [im.length, List.length_map]
      refine ⟨_, rfl, .inl ⟨rfl, _, SqL.of hf⟩, _, rfl, m, rfl, by omega, by omega, fun d nd => ?_⟩
      obtain ⟨nd1, nd2⟩ := P2.np nd
      have nfd : fo ≠ d := ne_of_none hf nd
      have ndH : H d = none := k2.fresh nd1 nd2 nd
      refine lc_range (lo := 0) (n := (m : Int).toNat) (fun i H' => ∃ (ac : List (Nat × Nat)) (rc : List V), Pt H' p q ∧ Kp p q H H' ∧ H' fo = some (.lst rs) ∧ ImAll H' rs (ws.map wD) ∧ H' d = some (.lst rc) ∧ ImAll H' rc (ac.map wD) ∧ ac.length ≤ i ∧ WOk m ac ∧ (∀ w ∈ ac, w.1 = j ∧ w.2 < i))
        ⟨[], [], P2.new nd, k2.new nd, by rw [upd_ne nfd]; exact hf, im.k ((Tk.refl H2).new nd), upd_same, .nil, Nat.le_refl _, ⟨.nil, fun w hw => by cases hw⟩, fun w hw => by cases hw⟩ ?_ ?_
      · rintro i H3 hi ⟨ac, rc, P3, k3, hf3, im3, hd, imc, hac, wac, lac⟩
        have hi' : i < m := by omega
        have hrc : rc.length = ac.length := by rw [imc.length, List.length_map]
        refine ⟨rfl, ?_⟩
        refine ⟨_, rfl, _, rfl, rfl, _, rfl, ?_⟩
        refine ite2 (fun ne => ?_) (fun _ => ?_)
        · have nij : i ≠ j := fun e => by
            subst e
            have z : (!decide (V.int (0 + (i : Int)) = V.int (0 + (i : Int)))) = true := ne
            rw [decide_eq_true rfl] at z
            cases z
          refine ⟨_, rfl, p, q, _, rfl, P3, by decide, by decide, fun r H4 r0 r1 P4 k4 => ⟨_, rfl, _, _, rfl, rfl, _, rfl, ?_⟩⟩
          have hf4 : H4 fo = some (.lst rs) := k4 _ _ nf1 nf2 hf3
          have hd4 : H4 d = some (.lst rc) := k4 _ _ nd1 nd2 hd
          have tk4 : Tk H3 H4 := k4.tk P3
          refine ite2 (fun _ => ?_) (fun _ => ?_)
          · refine ⟨_, rfl, _, rfl, by show 2 ≤ sizeLine; decide, fun t2 nt2 => ?_⟩
            obtain ⟨nt21, nt22⟩ := P4.np nt2
            have nft2 : fo ≠ t2 := ne_of_none hf4 nt2
            have ndt2 : d ≠ t2 := ne_of_none hd4 nt2
            have hdn : (upd H4 t2 (.tup [V.int (0 + (j : Int)), V.int (0 + (i : Int))])) d = some (.lst rc) := by rw [upd_ne ndt2]; exact hd4
            have tk5 : Tk H4 (upd (upd H4 t2 (.tup [V.int (0 + (j : Int)), V.int (0 + (i : Int))])) d (.lst (rc ++ [V.ref t2]))) := ((Tk.refl H4).new nt2).put hdn
            refine ⟨rc, hdn, small1000 (by omega), ac ++ [(j, i)], rc ++ [V.ref t2], (P4.new nt2).put nd1 nd2, ((k3.trans k4).new nt2).put ndH, ?_, (im3.k tk4).k tk5, upd_same, ?_, by rw [List.length_append, List.length_singleton]; omega, ⟨?_, fun w hw => ?_⟩, fun w hw => ?_⟩
            · rw [upd_ne nfd, upd_ne nft2]
              exact hf4
            · rw [List.map_append]
              refine ((imc.k tk4).k tk5).append (.cons (.tup (xs := [V.int (0 + (j : Int)), V.int (0 + (i : Int))]) ?_ (.cons ?_ (.cons ?_ .nil))) .nil)
              · rw [upd_ne ndt2.symm, upd_same]
              · exact Im.int0 j
              · exact Im.int0 i
            · refine List.pairwise_append.mpr ⟨wac.asc, List.pairwise_singleton _ _, fun a ha b hb => ?_⟩
              rw [List.mem_singleton.mp hb]
              obtain ⟨z1, z2⟩ := lac a ha
              exact .inr ⟨z1, z2⟩
            · rcases List.mem_append.mp hw with h | h
              · exact wac.low w h
              · rw [List.mem_singleton.mp h]
                exact ⟨hj', hi', Ne.symm nij⟩
            · rcases List.mem_append.mp hw with h | h
              · obtain ⟨z1, z2⟩ := lac w h
                exact ⟨z1, by omega⟩
              · rw [List.mem_singleton.mp h]
                exact ⟨rfl, Nat.lt_succ_self _⟩
          · exact ⟨ac, rc, P4, k3.trans k4, hf4, im3.k tk4, hd4, imc.k tk4, by omega, wac, fun w hw => ⟨(lac w hw).1, Nat.lt_succ_of_lt (lac w hw).2⟩⟩
        · exact ⟨ac, rc, P3, k3, hf3, im3, hd, imc, by omega, wac, fun w hw => ⟨(lac w hw).1, Nat.lt_succ_of_lt (lac w hw).2⟩⟩
      · rintro H3 ⟨ac, rc, P3, k3, hf3, im3, hd, imc, hac, wac, lac⟩
        have hrc : rc.length = ac.length := by rw [imc.length, List.length_map]
        refine ⟨fo, d, rs, rc, rfl, rfl, hf3, hd, Nat.le_of_lt (small1000 (by omega)), ?_⟩
        have tk : Tk H3 (upd H3 fo (.lst (rs ++ rc))) := (Tk.refl H3).put hf3
        refine ⟨_, _, ws ++ ac, rs ++ rc, rfl, P3.put nf1 nf2, k3.put nfoH, upd_same, by rw [List.map_append]; exact (im3.k tk).append (imc.k tk), by rw [List.length_append]; omega, ⟨?_, fun w hw => ?_⟩, fun w hw => ?_⟩
        · exact wlt_low (i := 0) wok.asc low wac.asc fun w hw => (lac w hw).1
        · rcases List.mem_append.mp hw with h | h
          · exact wok.low w h
          · exact wac.low w h
        · rcases List.mem_append.mp hw with h | h
          · have := low w h
            omega
          · have := (lac w h).1
            omega
    · rintro σ H2 ⟨v4, v5, ws, rs, rfl, P2, k2, hf, im, hlen, wok, low⟩
      refine ⟨_, rfl, fo, rs, rfl, .inl ⟨SqL.of hf, fun t2 nt2 => ?_⟩⟩
      exact k _ ws _ (.tup upd_same (im.k ((Tk.refl H2).new nt2))) wok (P2.new nt2) (k2.new nt2)
abbrev sc_l_machineN : List Str := ["pot", "is_great", "sizes"]
theorem sc_l_machine : FnScope sc_l_machineN ["pot", "is_great"] (defScope s_l_machine) := ⟨rfl, rfl, rfl, by decide +kernel, rfl, by decide +kernel, by decide +kernel⟩
theorem ok_machine {f : Addr} {fd : FuncData} (D : DefAt K mg "_law_machine" s_l_machine ["pot", "is_great"] f fd) (T : Blt mg) (c_l_sizes : Cal P w K mg base 4 "_law_sizes" spSizes) (c_l_wires : Cal P w K mg base 3 "_law_wires" spWires) :
    Cal P w K mg base 5 "_law_machine" spMachine := by
  refine cal_of D sc_l_machine (fun vs H Q E h => ?_) (fun cdv A outer s H vs Q E hr h => ?_)
  · obtain ⟨p, q, g, rfl, _⟩ := h
    rfl
  · obtain ⟨p, q, g, rfl, hP, k⟩ := h
    refine ⟨_, (pss_cons (ps_set (i := 2) sc_l_machine.nd rfl (.inl rfl) (pe_c c_l_sizes hr (by decide) rfl (pa_cons (pv 0) (pa_cons (pv 1) pa_nil))))
      (pss_one (ps_ret (pe_tup (pa_cons (pv 2) (pa_cons (pe_c c_l_wires hr (by decide) rfl (pa_cons (pv 0) (pa_cons (pe_callB (call_lenK K rfl) (by rfl) T.len PySem.boot_len (pa_cons (pv 2) pa_nil)) pa_nil))) pa_nil)))))), ?_⟩
    refine ⟨_, rfl, _, rfl, p, q, g, rfl, hP, fun v ss H1 im l1 l6 ok P1 k1 => ?_⟩
    obtain ⟨a, xs, rfl, ha, ia⟩ := im.tuple
    have hx : xs.length = ss.length := by rw [ia.length, List.length_map]
    refine ⟨_, rfl, _, rfl, _, rfl, a, xs, rfl, .inr (SqT.of ha), p, q, ss.length, by rw [hx]; rfl, l6, P1, fun v ws H2 iw wok P2 k2 => ⟨by show 2 ≤ sizeLine; decide, fun t nt => ?_⟩⟩
    have tk : Tk H1 (upd H2 t (.tup [V.ref a, v])) := (k2.tk P1).new nt
    refine k _ ss ws _ (.tup upd_same (.cons (im.k tk) (.cons (iw.k ((Tk.refl H2).new nt)) .nil))) ⟨l1, l6, ok, wok⟩ (P2.new nt) ((k1.trans k2).new nt)

/-! ### _law_pot -/
abbrev sc_l_potN : List Str := ["script", "cell", "cells", "first", "last"]
theorem sc_l_pot : FnScope sc_l_potN ["script"] (defScope s_l_pot) := ⟨rfl, rfl, rfl, by decide +kernel, rfl, by decide +kernel, by decide +kernel⟩
theorem pot_le {xs : List V} (h : xs.length ≤ 63) : (cutV xs none (some 60)).length ≤ 60 := by
  unfold cutV
  rw [HT.sIx_none, show HT.sIx xs.length xs.length (some 60) = min 60 xs.length from HT.sIx_nat xs.length xs.length 60]
  rw [List.drop_zero, List.length_take]
  omega
theorem cut_ints (ns : List Int) (a b : Option Int) : ∃ ms : List Int, cutV (ns.map V.int) a b = ms.map V.int := by
  unfold cutV
  exact ⟨_, by rw [← List.map_drop, ← List.map_take]⟩
theorem ok_pot {f : Addr} {fd : FuncData} (D : DefAt K mg "_law_pot" s_l_pot ["script"] f fd) (T : Blt mg) : Cal P w K mg base 1 "_law_pot" (spPot K) := by
  refine cal_of D sc_l_pot (fun vs H Q E h => ?_) (fun cdv A outer s H vs Q E hr h => ?_)
  · obtain ⟨a, ns, rfl, _⟩ := h
    rfl
  · obtain ⟨a, ns, rfl, hS, len, k⟩ := h
    refine ⟨_, (pss_cons (ps_setLc (i := 2) (own := [("cell", 1)]) rfl sc_l_pot.nd rfl rfl (sw_true rfl rfl rfl (by decide +kernel)) (pi_listK K rfl (pe_slice (sl_listK K rfl) (pv 0) po_none (po_some pe_int))) (blkOk_by (N := sc_l_potN) (sc := defScope s_l_pot) (by decide +kernel)) (fun _ _ _ _ _ => (pg_name (i := 1) sc_l_pot.nd rfl (by first | exact .inl rfl | exact .inr rfl))) (fun _ _ _ _ _ => pts_nil) (fun _ _ _ _ _ => (pe_ifExp (pt_cmpR op_ge (pv 1) pe_int (nomark _)) (pe_op op_mul pe_int (pv 1)) (pe_op op_sub (pe_un un_neg pe_int) (pe_op op_mul pe_int (pv 1))))))
      (pss_cons (ps_par (i := 3) (j := 4) rfl sc_l_pot.nd rfl rfl (by decide) rfl rfl (pa_cons pe_int (pa_cons (pe_op op_add pe_int (pe_callB (call_lenK K rfl) (by rfl) T.len PySem.boot_len (pa_cons (pv 2) pa_nil))) pa_nil)) (by rfl))
      (pss_cons (ps_for PassesOwn.never rfl (pi_listK K rfl (pv 2)) (pg_name (i := 1) sc_l_pot.nd rfl (.inl rfl)) (pss_one (ps_par (i := 3) (j := 4) rfl sc_l_pot.nd rfl rfl (by decide) rfl rfl (pa_cons (pe_op op_mod (pe_callTy call_int1 (by rfl) T.int (by decide +kernel) (pa_cons (pe_op op_add (pe_op op_add (pe_op op_mul (pv 3) pe_int) (pv 1)) pe_int) pa_nil)) pe_int) (pa_cons (pe_op op_mod (pe_callTy call_int1 (by rfl) T.int (by decide +kernel) (pa_cons (pe_op op_add (pe_op op_add (pe_op op_mul (pv 4) pe_int) (pe_op op_mul pe_int (pv 1))) pe_int) pa_nil)) pe_int) pa_nil)) (by rfl))))
      (pss_one (ps_ret (pe_lst (pa_cons (pe_lc (own := [("cell", 1)]) rfl sc_l_pot.nd (pi_listK K rfl (pv 2)) (blkOk_by (N := sc_l_potN) (sc := defScope s_l_pot) (by decide +kernel)) (fun _ _ _ _ _ => (pg_name (i := 1) sc_l_pot.nd rfl (by first | exact .inl rfl | exact .inr rfl))) (fun _ _ _ _ _ => (pts_one (pt_cmpR op_gt (pv 1) (pe_op op_pow pe_int pe_int) (nomark _)))) (fun _ _ _ _ _ => (pv 1))) (pa_cons (pv 3) (pa_cons (pv 4) (pa_cons pe_int pa_nil)))))))))), ?_⟩
    obtain ⟨ms, em⟩ := cut_ints ns none (some 60)
    have ml : ms.length ≤ 60 := by
      have z := pot_le (xs := ns.map V.int) (by rw [List.length_map]; exact len)
      rw [em, List.length_map] at z
      exact z
    refine ⟨_, rfl, 60, rfl, a, ns.map V.int, rfl, hS, fun c nc => ?_⟩
    rw [em]
    refine ⟨c, rfl, ⟨_, SqL.of upd_same⟩, fun D nD => ?_⟩
    have ncD : c ≠ D := ne_of_none upd_same nD
    have nDH : H D = none := by
      rw [upd_ne (Ne.symm ncD)] at nD
      exact nD
    refine lc_list (K := K) (a := c) (xs := ms.map V.int) (fun i H' => Same H H' ∧ H' c = some (.lst (ms.map V.int)) ∧ ∃ cs : List Int, H' D = some (.lst (cs.map V.int)) ∧ cs.length = i) ⟨Same.new (Same.new (Same.refl H) nc) nD, by rw [upd_ne ncD]; exact upd_same, [], upd_same, rfl⟩ (fun i H' _ z => SqL.of z.2.1) ?_ ?_
    · rintro i x H' hx ⟨sm, hc, cs, hD, hl⟩
      obtain ⟨z, hz, rfl⟩ := map_get hx
      have il : i < ms.length := (List.getElem?_eq_some_iff.mp hz).1
      have next : ∀ y : Int, ∃ acc : List V, H' D = some (.lst acc) ∧ acc.length < sizeLine ∧ (Same H (upd H' D (.lst (acc ++ [V.int y]))) ∧ (upd H' D (.lst (acc ++ [V.int y]))) c = some (.lst (ms.map V.int)) ∧ ∃ cs : List Int, (upd H' D (.lst (acc ++ [V.int y]))) D = some (.lst (cs.map V.int)) ∧ cs.length = i + 1) := fun y =>
        ⟨cs.map V.int, hD, small1000 (by rw [List.length_map]; omega), Same.put sm nDH, by rw [upd_ne ncD]; exact hc, cs ++ [y], by rw [upd_same, List.map_append]; rfl, by rw [List.length_append, List.length_singleton, hl]⟩
      refine ⟨rfl, ⟨_, rfl, _, _, rfl, rfl, _, rfl, ?_⟩⟩
      refine ite2 (fun _ => ?_) (fun _ => ?_)
      · exact ⟨_, rfl, _, _, rfl, rfl, .inl ⟨by decide, by decide⟩, next _⟩
      · exact ⟨_, rfl, _, rfl, _, _, rfl, rfl, .inl ⟨by decide, by decide⟩, _, _, rfl, rfl, next _⟩
    rintro H1 ⟨sm, hc, cs, hD, hl⟩
    rw [List.length_map] at hl
    have cl : cs.length ≤ 60 := by omega
    refine ⟨_, rfl, D, _, rfl, .inl (SqL.of hD), _, _, rfl, rfl, _, _, rfl, ?_⟩
    refine ⟨_, rfl, D, rfl, ⟨_, SqL.of hD⟩, for_list (K := K) (a := D) (xs := cs.map V.int) (fun i σ H' => ∃ (v1 : Option V) (x y : Int), σ = [some (.ref a), v1, some (.ref D), some (.int x), some (.int y)] ∧ H' = H1 ∧ 0 ≤ x ∧ x < 4294967296 ∧ 0 ≤ y ∧ y < 4294967296)
      ⟨none, _, _, rfl, rfl, by decide, by decide, by rw [List.length_map]; omega, by rw [List.length_map]; omega⟩ (fun i σ H' _ z => by obtain ⟨_, _, _, _, e, _⟩ := z; rw [e]; exact SqL.of hD) ?_ ?_⟩
    · rintro i v σ H' hv ⟨v1, x, y, rfl, rfl, x0, x1, y0, y1⟩
      obtain ⟨z, hz, rfl⟩ := map_get hv
      refine ⟨_, rfl, _, _, rfl, rfl, .inl ⟨by omega, by omega⟩, _, rfl, _, _, rfl, rfl, _, _, rfl, rfl, .inl ⟨_, rfl, _, _, rfl, rfl, (by decide : (0 : Int) < 4294967291), ?_⟩⟩
      refine ⟨_, rfl, _, _, rfl, rfl, .inl ⟨by omega, by omega⟩, _, rfl, _, _, rfl, rfl, .inl ⟨by decide, by decide⟩, _, _, rfl, rfl, _, _, rfl, rfl, .inl ⟨_, rfl, _, _, rfl, rfl, (by decide : (0 : Int) < 4294967279), ?_⟩⟩
      refine ⟨_, _, rfl, some (V.int z), _, _, rfl, rfl, Int.emod_nonneg _ (by decide), Int.lt_trans (Int.emod_lt_of_pos _ (by decide)) (by decide), Int.emod_nonneg _ (by decide), Int.lt_trans (Int.emod_lt_of_pos _ (by decide)) (by decide)⟩
    · rintro σ H' ⟨v1, x, y, rfl, rfl, x0, x1, y0, y1⟩
      refine ⟨_, rfl, D, rfl, ⟨_, SqL.of hD⟩, fun q nq => ?_⟩
      have nDq : D ≠ q := ne_of_none hD nq
      have nqH : H q = none := Same.free sm nq
      refine lc_list (K := K) (a := D) (xs := cs.map V.int) (fun i H2 => Same H H2 ∧ H2 D = some (.lst (cs.map V.int)) ∧ ∃ gs : List Int, H2 q = some (.lst (gs.map V.int)) ∧ gs.length ≤ i) ⟨Same.new sm nq, by rw [upd_ne nDq]; exact hD, [], upd_same, Nat.le_refl _⟩ (fun i H2 _ z => SqL.of z.2.1) ?_ ?_
      · rintro i v H2 hv ⟨sm2, hD2, gs, hq, gl⟩
        obtain ⟨z, hz, rfl⟩ := map_get hv
        have il : i < cs.length := (List.getElem?_eq_some_iff.mp hz).1
        refine ⟨rfl, ⟨_, rfl, _, _, rfl, rfl, ⟨by decide, by decide, by decide⟩, _, _, rfl, rfl, _, rfl, ?_⟩⟩
        refine ite2 (fun _ => ?_) (fun _ => ?_)
        · exact ⟨_, rfl, gs.map V.int, hq, small1000 (by rw [List.length_map]; omega), Same.put sm2 nqH, by rw [upd_ne nDq]; exact hD2, gs ++ [z], by rw [upd_same, List.map_append]; rfl, by rw [List.length_append, List.length_singleton]; omega⟩
        · exact ⟨sm2, hD2, gs, hq, by omega⟩
      · rintro H2 ⟨sm2, hD2, gs, hq, gl⟩
        rw [List.length_map] at gl
        refine ⟨_, rfl, _, rfl, by show 4 ≤ sizeLine; decide, fun p np => ?_⟩
        have npq : q ≠ p := ne_of_none hq np
        exact k p q _ ⟨gs, x, y, 0, upd_same, by rw [upd_ne npq]; exact hq, by omega, x0, x1, y0, y1⟩ (Same.new sm2 np) (Same.free sm2 np) nqH

/-! ### the program's kinds and machine_error -/
theorem tyI : ClsV (V.ty "int") (.type "int") := .ty _
theorem tyB : ClsV (V.ty "bool") (.type "bool") := .ty _
theorem tyT : ClsV (V.ty "tuple") (.type "tuple") := .ty _
theorem isI_eq (d : PyData) : (isIB d && !isB d) = isI d := by cases d <;> rfl
abbrev sc_is_an_integerN : List Str := ["value"]
theorem sc_is_an_integer : FnScope sc_is_an_integerN ["value"] (defScope s_is_an_integer) := ⟨rfl, rfl, rfl, by decide +kernel, rfl, by decide +kernel, by decide +kernel⟩
def spInt : Sp := fun vs H Q _ => ∃ (v : V) (d : PyData), vs = [v] ∧ Dv An H v d ∧ Q (.bl (isI d)) H
theorem ok_isint {f : Addr} {fd : FuncData} (D : DefAt K mg "is_an_integer" s_is_an_integer ["value"] f fd) (T : Blt mg) : Cal P w K mg base 1 "is_an_integer" spInt := by
  refine cal_of D sc_is_an_integer (fun vs H Q E h => ?_) (fun cdv A outer s H vs Q E hr h => ?_)
  · obtain ⟨v, d, rfl, _⟩ := h
    rfl
  · obtain ⟨v, d, rfl, hd, k⟩ := h
    refine ⟨_, (pss_one (ps_ret (pe_and (pe_callB (call_isiK' K rfl) (by rfl) T.isinstance (by decide +kernel) (pa_cons (pv 0) (pa_cons (pe_bltn (v := .ty "int") (u := .type "int") (by rfl) T.int (by decide +kernel) rfl) pa_nil))) (pe_one (pe_not (pe_callB (call_isiK' K rfl) (by rfl) T.isinstance (by decide +kernel) (pa_cons (pv 0) (pa_cons (pe_bltn (v := .ty "bool") (u := .type "bool") (by rfl) T.bool (by decide +kernel) rfl) pa_nil)))))))), ?_⟩
    rw [← isI_eq] at k
    refine ⟨_, rfl, _, _, _, _, _, rfl, tyI, hd.ty, kit_int K d, _, rfl, ?_⟩
    cases h1 : isIB d with
    | false =>
      rw [h1] at k
      exact iteF k
    | true =>
      rw [h1] at k
      exact iteT ⟨_, rfl, _, _, _, _, _, rfl, tyB, hd.ty, kit_bool K d, _, rfl, k⟩
abbrev sc_is_belowN : List Str := ["value", "bound"]
theorem sc_is_below : FnScope sc_is_belowN ["value", "bound"] (defScope s_is_below) := ⟨rfl, rfl, rfl, by decide +kernel, rfl, by decide +kernel, by decide +kernel⟩
def spBel : Sp := fun vs H Q _ => ∃ (v : V) (d : PyData) (m : Nat), vs = [v, .int m] ∧ Dv An H v d ∧ Q (.bl (isBl m d)) H
theorem isBl_no {d : PyData} (m : Nat) (h : isI d = false) : isBl m d = false := by cases d <;> first | rfl | cases h
theorem ok_isbelow {f : Addr} {fd : FuncData} (D : DefAt K mg "is_below" s_is_below ["value", "bound"] f fd) (c_is_an_integer : Cal P w K mg base 1 "is_an_integer" spInt) : Cal P w K mg base 2 "is_below" spBel := by
  refine cal_of D sc_is_below (fun vs H Q E h => ?_) (fun cdv A outer s H vs Q E hr h => ?_)
  · obtain ⟨v, d, m, rfl, _⟩ := h
    rfl
  · obtain ⟨v, d, m, rfl, hd, k⟩ := h
    refine ⟨_, (pss_one (ps_ret (pe_and (pe_c c_is_an_integer hr (by decide) rfl (pa_cons (pv 0) pa_nil)) (pe_one (pe_chain op_le op_lt pe_int (pv 0) (pv 1)))))), ?_⟩
    refine ⟨_, rfl, v, d, rfl, hd, _, rfl, ?_⟩
    cases h1 : isI d with
    | false =>
      rw [isBl_no m h1] at k
      exact iteF k
    | true =>
      refine iteT ?_
      obtain ⟨i, rfl, rfl⟩ := hd.int h1
      simp only [isBl] at k
      refine ⟨_, rfl, _, _, rfl, rfl, _, rfl, ?_⟩
      refine ite2 (fun h2 => ⟨_, rfl, _, _, rfl, rfl, ?_⟩) (fun h2 => ?_)
      · rw [h2] at k
        exact k
      · rw [show decide ((0 : Int) ≤ i) = false by simpa using h2] at k
        exact k
abbrev sc_is_pairN : List Str := ["value"]
theorem sc_is_pair : FnScope sc_is_pairN ["value"] (defScope s_is_pair) := ⟨rfl, rfl, rfl, by decide +kernel, rfl, by decide +kernel, by decide +kernel⟩
def spPair : Sp := fun vs H Q _ => ∃ (v : V) (d : PyData), vs = [v] ∧ Dv An H v d ∧ Q (.bl (isPr d)) H
theorem isPr_no {d : PyData} (h : isT d = false) : isPr d = false := by cases d <;> first | rfl | cases h
theorem isPr_len (ds : List PyData) : isPr (.tuple ds) = decide ((ds.length : Int) = 2) := by
  match ds with
  | [] => rfl
  | [_] => rfl
  | [_, _] => rfl
  | _ :: _ :: _ :: ds =>
    symm
    refine decide_eq_false ?_
    simp only [List.length_cons]
    omega
theorem ok_ispair {f : Addr} {fd : FuncData} (D : DefAt K mg "is_pair" s_is_pair ["value"] f fd) (T : Blt mg) : Cal P w K mg base 1 "is_pair" spPair := by
  refine cal_of D sc_is_pair (fun vs H Q E h => ?_) (fun cdv A outer s H vs Q E hr h => ?_)
  · obtain ⟨v, d, rfl, _⟩ := h
    rfl
  · obtain ⟨v, d, rfl, hd, k⟩ := h
    refine ⟨_, (pss_one (ps_ret (pe_and (pe_callB (call_isiK' K rfl) (by rfl) T.isinstance (by decide +kernel) (pa_cons (pv 0) (pa_cons (pe_bltn (v := .ty "tuple") (u := .type "tuple") (by rfl) T.tuple (by decide +kernel) rfl) pa_nil))) (pe_one (pe_cmpR op_eq (pe_callB (call_lenK K rfl) (by rfl) T.len PySem.boot_len (pa_cons (pv 0) pa_nil)) pe_int (nomark _)))))), ?_⟩
    refine ⟨_, rfl, _, _, _, _, _, rfl, tyT, hd.ty, kit_tup K d, _, rfl, ?_⟩
    cases h1 : isT d with
    | false =>
      rw [isPr_no h1] at k
      exact iteF k
    | true =>
      refine iteT ?_
      obtain ⟨a, xs, ds, rfl, rfl, ha, hs⟩ := hd.tuple h1
      rw [isPr_len] at k
      refine ⟨_, rfl, a, xs, rfl, .inr (SqT.of ha), rfl, ?_⟩
      rw [dec_int0, hs.length]
      exact k
theorem Dg.dv {N : Addr → Prop} {H : Hp} {v : V} {d : PyData} (h : Dg N H v d) : Dv N H v d := .inl h
/-- a tuple of two -/
theorem Dv.pair {N : Addr → Prop} {H : Hp} {v : V} {d : PyData} (h : Dv N H v d) (e : isPr d = true) : ∃ a x y dx dy, v = .ref a ∧ d = .tuple [dx, dy] ∧ H a = some (.tup [x, y]) ∧ Dg N H x dx ∧ Dg N H y dy := by
  cases h1 : isT d with
  | false =>
    rw [isPr_no h1] at e
    cases e
  | true =>
    obtain ⟨a, xs, ds, rfl, rfl, ha, hs⟩ := h.tuple h1
    match ds, hs, e with
    | [dx, dy], .cons hx (.cons hy .nil), _ => exact ⟨a, _, _, dx, dy, rfl, rfl, ha, hx, hy⟩
theorem Dg.tuple {N : Addr → Prop} {H : Hp} {v : V} {ds : List PyData} (h : Dg N H v (.tuple ds)) : ∃ a xs, v = .ref a ∧ H a = some (.tup xs) ∧ DgAll N H xs ds := by
  cases h with
  | tup a b => exact ⟨_, _, rfl, a, b⟩
theorem isT_ex {d : PyData} (h : isT d = true) : ∃ ds, d = .tuple ds := by
  cases d with
  | tuple ds => exact ⟨ds, rfl⟩
  | _ => cases h
abbrev sc_has_machine_formN : List Str := ["value", "sizes", "wires"]
theorem sc_has_machine_form : FnScope sc_has_machine_formN ["value"] (defScope s_has_machine_form) := ⟨rfl, rfl, rfl, by decide +kernel, rfl, by decide +kernel, by decide +kernel⟩
def spForm : Sp := fun vs H Q _ => ∃ (v : V) (d : PyData), vs = [v] ∧ Dv An H v d ∧ Q (.bl (formD d).isSome) H
theorem formD_pr {d : PyData} (h : isPr d = false) : formD d = none := by
  unfold formD
  split
  · cases h
  · rfl
theorem formD_l {x y : PyData} (h : isT x = false) : formD (.tuple [x, y]) = none := by
  unfold formD
  split
  · rename_i e
    injection e with e
    injection e with e1 _
    rw [e1] at h
    cases h
  · rfl
theorem formD_r {x y : PyData} (h : isT y = false) : formD (.tuple [x, y]) = none := by
  unfold formD
  split
  · rename_i e
    injection e with e
    injection e with _ e
    injection e with e1 _
    rw [e1] at h
    cases h
  · rfl
theorem ok_form {tR : Tok} {f : Addr} {fd : FuncData} (D : DefAt K mg "has_machine_form" s_has_machine_form ["value"] f fd) (T : Blt mg) (g_R : mg "MAX_REGISTERS" = some (.int 6 tR)) (c_is_pair : Cal P w K mg base 1 "is_pair" spPair) : Cal P w K mg base 2 "has_machine_form" spForm := by
  refine cal_of D sc_has_machine_form (fun vs H Q E h => ?_) (fun cdv A outer s H vs Q E hr h => ?_)
  · obtain ⟨v, d, rfl, _⟩ := h
    rfl
  · obtain ⟨v, d, rfl, hd, k⟩ := h
    refine ⟨_, (pss_cons (ps_if (pt_not (pt_val (pe_c c_is_pair hr (by decide) rfl (pa_cons (pv 0) pa_nil)))) (pss_one (ps_ret pe_bl)) pss_nil)
      (pss_cons (ps_asg (pv 0) (pg_tup rfl (pgs_cons (pg_name (i := 1) sc_has_machine_form.nd rfl (.inl rfl)) (pgs_cons (pg_name (i := 2) sc_has_machine_form.nd rfl (.inl rfl)) pgs_nil))))
      (pss_cons (ps_if (PW.pt (pw_or (pt_not (pt_val (pe_callB (call_isiK' K rfl) (by rfl) T.isinstance (by decide +kernel) (pa_cons (pv 1) (pa_cons (pe_bltn (v := .ty "tuple") (u := .type "tuple") (by rfl) T.tuple (by decide +kernel) rfl) pa_nil))))) (pw_or1 (pt_not (pt_val (pe_callB (call_isiK' K rfl) (by rfl) T.isinstance (by decide +kernel) (pa_cons (pv 2) (pa_cons (pe_bltn (v := .ty "tuple") (u := .type "tuple") (by rfl) T.tuple (by decide +kernel) rfl) pa_nil)))))))) (pss_one (ps_ret pe_bl)) pss_nil)
      (pss_one (ps_ret (pe_chain op_le op_le pe_int (pe_callB (call_lenK K rfl) (by rfl) T.len PySem.boot_len (pa_cons (pv 1) pa_nil)) (pe_glob rfl g_R (show RelV (.int 6) _ from ⟨_, rfl⟩)))))))), ?_⟩
    refine ⟨_, rfl, v, d, rfl, hd, _, rfl, ?_⟩
    cases h1 : isPr d with
    | false =>
      rw [formD_pr h1] at k
      exact iteT k
    | true =>
      refine iteF ?_
      obtain ⟨a, x, y, dx, dy, rfl, rfl, ha, hx, hy⟩ := hd.pair h1
      refine ⟨_, rfl, a, _, rfl, SqT.of ha, rfl, x, _, rfl, y, _, rfl, rfl, ?_⟩
      refine ⟨_, rfl, _, _, _, _, _, rfl, tyT, hx.dv.ty, kit_tup K dx, _, rfl, ?_⟩
      cases h2 : isT dx with
      | false =>
        rw [formD_l h2] at k
        exact iteT (iteT k)
      | true =>
        refine iteF ⟨_, rfl, _, _, _, _, _, rfl, tyT, hy.dv.ty, kit_tup K dy, _, rfl, ?_⟩
        cases h3 : isT dy with
        | false =>
          rw [formD_r h3] at k
          exact iteT k
        | true =>
          obtain ⟨S, rfl⟩ := isT_ex h2
          obtain ⟨W, rfl⟩ := isT_ex h3
          obtain ⟨b, ys, rfl, hb, hS⟩ := hx.tuple
          refine iteF ⟨_, rfl, b, ys, rfl, .inr (SqT.of hb), _, _, rfl, rfl, _, rfl, ?_⟩
          rw [hS.length]
          simp only [formD] at k
          refine ite2 (fun h4 => ⟨_, _, rfl, rfl, ?_⟩) (fun h4 => ?_)
          · have h5 : (1 : Int) ≤ (S.length : Int) := of_decide_eq_true h4
            by_cases h6 : S.length ≤ 6
            · rw [if_pos ⟨by omega, h6⟩] at k
              show Q (V.bl (decide ((S.length : Int) ≤ 6))) H
              rw [decide_eq_true (show (S.length : Int) ≤ 6 by omega)]
              exact k
            · rw [if_neg (fun z => h6 z.2)] at k
              show Q (V.bl (decide ((S.length : Int) ≤ 6))) H
              rw [decide_eq_false (show ¬ (S.length : Int) ≤ 6 by omega)]
              exact k
          · have h5 : ¬ (1 : Int) ≤ (S.length : Int) := of_decide_eq_false (by simpa using h4)
            rw [if_neg (fun z => h5 (by omega))] at k
            exact k
/-! is_size: both strip the primes off -/
theorem sz_not {d : PyData} (h : isI d = false) : isSz d = false := by cases d <;> first | rfl | cases h
theorem sz_low {n : Int} (h : n < 2) : isSz (.int n) = false := by
  simp only [isSz]
  rw [decide_eq_false (by omega)]
  rfl
theorem sz_big {n : Int} (h : n > 10 ^ 30) : isSz (.int n) = false := by
  simp only [isSz]
  rw [decide_eq_false (show ¬ n ≤ 10 ^ 30 by omega)]
  simp
theorem sz_mid {n : Nat} (h : 2 ≤ n) (h2 : n ≤ 10 ^ 30) : isSz (.int (n : Int)) = (strA PRn n == 1) := by
  simp only [isSz]
  rw [decide_eq_true (show (2 : Int) ≤ (n : Int) by omega), decide_eq_true (show (n : Int) ≤ 10 ^ 30 by omega)]
  rfl
theorem PR_get {i : Nat} {x : V} (h : (PR.map V.int)[i]? = some x) : ∃ p : Nat, x = .int (p : Int) ∧ PRn[i]? = some p ∧ p ∈ PRn := by
  obtain ⟨z, hz, rfl⟩ := map_get h
  have e : PR = PRn.map (fun n : Nat => (n : Int)) := by decide +kernel
  rw [e] at hz
  obtain ⟨p, hp, rfl⟩ := map_get hz
  exact ⟨p, rfl, hp, List.mem_of_getElem? hp⟩
theorem strA_pos {n : Nat} (hn : 0 < n) : ∀ (l : List Nat), (∀ p ∈ l, p ∈ PRn) → 0 < strA l n ∧ strA l n ≤ n := by
  intro l
  unfold strA
  induction l generalizing n with
  | nil => exact fun _ => ⟨hn, Nat.le_refl _⟩
  | cons p l ih =>
    intro h
    have a := ih (strp_pos (PRn_two (h p List.mem_cons_self)) hn) fun q hq => h q (List.mem_cons_of_mem _ hq)
    exact ⟨a.1, Nat.le_trans a.2 (strp_le p n)⟩
theorem take_PRn {i : Nat} : ∀ p ∈ PRn.take i, p ∈ PRn := fun p h => List.mem_of_mem_take h
theorem one_eq {n : Nat} : decide (V.int (n : Int) = V.int 1) = (n == 1) := by
  by_cases h : n = 1
  · subst h
    rfl
  · rw [show (n == 1) = false by simpa using h]
    exact decide_eq_false fun z => h (Int.ofNat.inj (V.int.inj z))
abbrev sc_is_sizeN : List Str := ["value", "rest", "p"]
theorem sc_is_size : FnScope sc_is_sizeN ["value"] (defScope s_is_size) := ⟨rfl, rfl, rfl, by decide +kernel, rfl, by decide +kernel, by decide +kernel⟩
def spSz : Sp := fun vs H Q _ => ∃ (v : V) (d : PyData), vs = [v] ∧ Dv An H v d ∧ ∀ H', Same H H' → Q (.bl (isSz d)) H'
theorem ok_issize {tS : Tok} {aP : Addr} {f : Addr} {fd : FuncData} (D : DefAt K mg "is_size" s_is_size ["value"] f fd) (g_S : mg "MAX_SIZE" = some (.int (10 ^ 30) tS)) (g_P : mg "PRIMES" = some (.ref aP)) (q_P : ∀ H : Hp, SqT K H aP (PR.map V.int)) (c_is_an_integer : Cal P w K mg base 1 "is_an_integer" spInt) : Cal P w K mg base 2 "is_size" spSz := by
  refine cal_of D sc_is_size (fun vs H Q E h => ?_) (fun cdv A outer s H vs Q E hr h => ?_)
  · obtain ⟨v, d, rfl, _⟩ := h
    rfl
  · obtain ⟨v, d, rfl, hd, k⟩ := h
    refine ⟨_, (pss_cons (ps_if (PW.pt (pw_or (pt_not (pt_val (pe_c c_is_an_integer hr (by decide) rfl (pa_cons (pv 0) pa_nil)))) (pw_or (pt_cmpR op_lt (pv 0) pe_int (nomark _)) (pw_or1 (pt_cmpR op_gt (pv 0) (pe_glob rfl g_S (show RelV (.int (10 ^ 30)) _ from ⟨_, rfl⟩)) (nomark _)))))) (pss_one (ps_ret pe_bl)) pss_nil)
      (pss_cons (ps_set (i := 1) sc_is_size.nd rfl (.inl rfl) (pv 0))
      (pss_cons (ps_for PassesOwn.never rfl (pi_tupK K rfl (pe_glob rfl g_P (show RelV (.ref aP) (.ref aP) from rfl))) (pg_name (i := 2) sc_is_size.nd rfl (.inl rfl)) (pss_one (ps_while PassesOwn.never (pt_cmpR op_eq (pe_op op_mod (pv 1) (pv 2)) pe_int (nomark _)) (pss_one (ps_aug (i := 1) sc_is_size.nd rfl (.inl rfl) (pv 2) (ip_of iop_fdivW))))))
      (pss_one (ps_ret (pe_cmpR op_eq (pv 1) pe_int (nomark _))))))), ?_⟩
    refine ⟨_, rfl, v, d, rfl, hd, _, rfl, ?_⟩
    cases h1 : isI d with
    | false =>
      rw [sz_not h1] at k
      exact iteT (iteT (k _ (Same.refl H)))
    | true =>
      obtain ⟨i, rfl, rfl⟩ := hd.int h1
      refine iteF ⟨_, rfl, _, _, rfl, rfl, _, rfl, ?_⟩
      refine ite2 (fun h2 => ?_) (fun h2 => ?_)
      · rw [sz_low (of_decide_eq_true h2)] at k
        exact iteT (k _ (Same.refl H))
      refine ⟨_, rfl, _, _, rfl, rfl, _, rfl, ?_⟩
      have h2' : ¬ i < 2 := of_decide_eq_false (by simpa using h2)
      refine ite2 (fun h3 => ?_) (fun h3 => ?_)
      · rw [sz_big (of_decide_eq_true h3)] at k
        exact k _ (Same.refl H)
      have h3' : ¬ i > 10 ^ 30 := of_decide_eq_false (by simpa using h3)
      obtain ⟨n, rfl⟩ : ∃ n : Nat, i = (n : Int) := ⟨i.toNat, by omega⟩
      have n2 : 2 ≤ n := by omega
      have n3 : n ≤ 10 ^ 30 := by omega
      rw [sz_mid n2 n3] at k
      refine ⟨_, rfl, ?_⟩
      refine ⟨aP, rfl, ⟨_, q_P H⟩, for_tup (K := K) (a := aP) (xs := PR.map V.int) (fun j σ H' => ∃ (v2 : Option V), σ = [some (.int n), some (.int ((strA (PRn.take j) n : Nat) : Int)), v2] ∧ Same H H') ⟨none, rfl, Same.refl H⟩ (fun j σ H' _ ⟨_, _, z⟩ => q_P H') ?_ ?_⟩
      · rintro j y σ H1 hy ⟨v2, rfl, sm⟩
        obtain ⟨p, rfl, hp, pm⟩ := PR_get hy
        have p2 := PRn_two pm
        have p97 := PRn_le pm
        obtain ⟨a0, a1⟩ := strA_pos (show 0 < n by omega) (PRn.take j) take_PRn
        have nx := strA_next (n := n) hp
        generalize strA (PRn.take j) n = c at *
        refine ⟨fun m σ H' => ∃ r : Nat, σ = [some (.int n), some (.int (r : Int)), some (.int (p : Int))] ∧ 0 < r ∧ r ≤ 10 ^ 30 ∧ strp p r = strp p c ∧ m = r ∧ Same H H', ⟨c, c, rfl, a0, by omega, rfl, rfl, sm⟩, ?_⟩
        rintro m σ H2 ⟨r, rfl, r0, r1, hv, rfl, sm2⟩
        refine ⟨_, rfl, _, rfl, _, _, rfl, rfl, (show (0 : Int) < (p : Int) by omega), rfl, _, rfl, ?_⟩
        have em : (m : Int) % (p : Int) = ((m % p : Nat) : Int) := rfl
        refine ite2 (fun h => ?_) (fun h => ?_)
        · have h0 : m % p = 0 := by
            have z := V.int.inj (of_decide_eq_true h)
            rw [em] at z
            exact Int.ofNat.inj z
          refine ⟨fun σ' H'' => ∃ r' : Nat, σ' = [some (.int n), some (.int (r' : Int)), some (.int (p : Int))] ∧ 0 < r' ∧ r' ≤ 10 ^ 30 ∧ strp p r' = strp p c ∧ r' < m ∧ Same H H'', fun σ' H'' ⟨r', e1, e2, e3, e4, e5, e6⟩ => ⟨r', e5, r', e1, e2, e3, e4, rfl, e6⟩, ?_⟩
          refine ⟨_, rfl, _, rfl, _, _, rfl, rfl, wide_div (b := 20) (by omega) (by omega) (by decide) (by decide), m / p, rfl, pl_pos p2 r0 h0, Nat.le_trans (Nat.div_le_self m p) r1, by rw [← hv, strp_yes p2 r0 h0], Nat.div_lt_self r0 p2, sm2⟩
        · have h0 : m % p ≠ 0 := fun z => h (decide_eq_true (show V.int ((m : Int) % (p : Int)) = V.int 0 from by rw [em, z]; rfl))
          rw [strp_no h0] at hv
          refine ⟨some (.int (p : Int)), ?_, sm2⟩
          rw [nx, ← hv]
      · rintro σ H1 ⟨v2, rfl, sm⟩
        have full : PRn.take (PR.map V.int).length = PRn := by decide +kernel
        rw [full]
        refine ⟨_, rfl, rfl, ?_⟩
        rw [one_eq]
        exact k _ sm
theorem isBl_int {m : Nat} {d : PyData} (h : isBl m d = true) : isI d = true := by cases d <;> first | rfl | cases h
theorem isWr_pr {m : Nat} {d : PyData} (h : isPr d = false) : isWr m d = false := by
  unfold isWr
  split
  · cases h
  · rfl
theorem isWr_l {m : Nat} {x y : PyData} (h : isBl m x = false) : isWr m (.tuple [x, y]) = false := by
  unfold isWr
  split
  · rename_i e
    injection e with e
    injection e with e1 _
    rw [← e1, h]
    rfl
  · rfl
theorem isWr_r {m : Nat} {x y : PyData} (h : isBl m y = false) : isWr m (.tuple [x, y]) = false := by
  unfold isWr
  split
  · rename_i e
    injection e with e
    injection e with _ e
    injection e with e1 _
    rw [← e1, h, Bool.and_false]
    rfl
  · rfl
theorem isWr_ii {m : Nat} {a b : Int} (h1 : isBl m (.int a) = true) (h2 : isBl m (.int b) = true) : isWr m (.tuple [.int a, .int b]) = !decide (a = b) := by
  simp only [isWr, h1, h2, Bool.true_and]
abbrev sc_is_wireN : List Str := ["value", "many", "j", "i"]
theorem sc_is_wire : FnScope sc_is_wireN ["value", "many"] (defScope s_is_wire) := ⟨rfl, rfl, rfl, by decide +kernel, rfl, by decide +kernel, by decide +kernel⟩
def spWr : Sp := fun vs H Q _ => ∃ (v : V) (d : PyData) (m : Nat), vs = [v, .int m] ∧ Dv An H v d ∧ Q (.bl (isWr m d)) H
theorem ok_iswire {f : Addr} {fd : FuncData} (D : DefAt K mg "is_wire" s_is_wire ["value", "many"] f fd) (c_is_pair : Cal P w K mg base 1 "is_pair" spPair) (c_is_below : Cal P w K mg base 2 "is_below" spBel) : Cal P w K mg base 3 "is_wire" spWr := by
  refine cal_of D sc_is_wire (fun vs H Q E h => ?_) (fun cdv A outer s H vs Q E hr h => ?_)
  · obtain ⟨v, d, m, rfl, _⟩ := h
    rfl
  · obtain ⟨v, d, m, rfl, hd, k⟩ := h
    refine ⟨_, (pss_cons (ps_if (pt_not (pt_val (pe_c c_is_pair hr (by decide) rfl (pa_cons (pv 0) pa_nil)))) (pss_one (ps_ret pe_bl)) pss_nil)
      (pss_cons (ps_asg (pv 0) (pg_tup rfl (pgs_cons (pg_name (i := 2) sc_is_wire.nd rfl (.inl rfl)) (pgs_cons (pg_name (i := 3) sc_is_wire.nd rfl (.inl rfl)) pgs_nil))))
      (pss_one (ps_ret (pe_and (pe_c c_is_below hr (by decide) rfl (pa_cons (pv 2) (pa_cons (pv 1) pa_nil))) (pe_and (pe_c c_is_below hr (by decide) rfl (pa_cons (pv 3) (pa_cons (pv 1) pa_nil))) (pe_one (pe_cmpR op_ne (pv 2) (pv 3) (nomark _))))))))), ?_⟩
    refine ⟨_, rfl, v, d, rfl, hd, _, rfl, ?_⟩
    cases h1 : isPr d with
    | false =>
      rw [isWr_pr h1] at k
      exact iteT k
    | true =>
      refine iteF ?_
      obtain ⟨a, x, y, dx, dy, rfl, rfl, ha, hx, hy⟩ := hd.pair h1
      refine ⟨_, rfl, a, _, rfl, SqT.of ha, rfl, x, _, rfl, y, _, rfl, rfl, ?_⟩
      refine ⟨_, rfl, _, rfl, x, dx, m, rfl, hx.dv, _, rfl, ?_⟩
      cases h2 : isBl m dx with
      | false =>
        rw [isWr_l h2] at k
        exact iteF k
      | true =>
        refine iteT ⟨_, rfl, _, rfl, y, dy, m, rfl, hy.dv, _, rfl, ?_⟩
        cases h3 : isBl m dy with
        | false =>
          rw [isWr_r h3] at k
          exact iteF k
        | true =>
          obtain ⟨i, rfl, rfl⟩ := hx.dv.int (isBl_int h2)
          obtain ⟨j, rfl, rfl⟩ := hy.dv.int (isBl_int h3)
          rw [isWr_ii h2 h3] at k
          refine iteT ⟨_, rfl, _, rfl, rfl, ?_⟩
          rw [dec_int0]
          exact k

/-! ### the program's machine_error -/
theorem lex_two (a b c e : Int) : Ob.lexAt (fun j => decide (([a, b] : List Int).getD j 0 = ([c, e] : List Int).getD j 0)) (fun j => decide (([a, b] : List Int).getD j 0 ≤ ([c, e] : List Int).getD j 0)) (decide (([a, b] : List Int).length ≤ ([c, e] : List Int).length)) 0 (min ([a, b] : List Int).length ([c, e] : List Int).length) = leP (.tuple [.int a, .int b]) (.tuple [.int c, .int e]) := by
  show Ob.lexAt _ _ _ 0 2 = _
  simp only [Ob.lexAt, leP, List.getD_cons_zero, List.getD_cons_succ, List.length_cons, List.length_nil]
  by_cases h : a = c
  · subst h
    by_cases h2 : b = e
    · subst h2
      simp
    · simp [h2]
  · simp [h]
theorem Dg.wire {N : Addr → Prop} {H : Hp} {v : V} {d : PyData} {m : Nat} (h : Dg N H v d) (e : isWr m d = true) : ∃ (a : Addr) (x y : Int), v = .ref a ∧ d = .tuple [.int x, .int y] ∧ H a = some (.tup [.int x, .int y]) := by
  obtain ⟨x, y, rfl, _⟩ := isWr_shape e
  obtain ⟨a, xs, rfl, ha, hs⟩ := h.tuple
  match xs, hs with
  | _, .cons (.int _) (.cons (.int _) .nil) => exact ⟨a, _, _, rfl, rfl, ha⟩
theorem DgAll.at {N : Addr → Prop} {H : Hp} {vs : List V} {ds : List PyData} {i : Nat} (h : DgAll N H vs ds) (hi : i < ds.length) : ∃ v, vs[i]? = some v ∧ Dg N H v (ds.getD i .none) := by
  have hv : i < vs.length := by rw [h.length]; exact hi
  obtain ⟨d, h1, h2⟩ := h.get (List.getElem?_eq_getElem hv)
  exact ⟨_, List.getElem?_eq_getElem hv, by rw [get_getD h1]; exact h2⟩
abbrev sc_machine_errorN : List Str := ["value", "sizes", "wires", "i", "size", "place", "wire"]
theorem sc_machine_error : FnScope sc_machine_errorN ["value"] (defScope s_machine_error) := ⟨rfl, rfl, rfl, by decide +kernel, rfl, by decide +kernel, by decide +kernel⟩
theorem fn_merr {f : Addr} {fd : FuncData} (D : DefAt K mg "machine_error" s_machine_error ["value"] f fd) (T : Blt mg) (c_has_machine_form : Cal P w K mg base 2 "has_machine_form" spForm) (c_is_size : Cal P w K mg base 2 "is_size" spSz) (c_is_wire : Cal P w K mg base 3 "is_wire" spWr) : FnOk P w K mg base CX0 4 f fd ["value"] spMerr := by
  refine D.fn.ok sc_machine_error (fun vs H Q E h => ?_) (fun cdv A outer s H vs Q E hr h => ?_)
  · obtain ⟨v, d, rfl, _⟩ := h
    rfl
  · obtain ⟨v, d, rfl, hd, sh, k⟩ := h
    refine ⟨_, (pss_cons (ps_if (pt_not (pt_val (pe_c c_has_machine_form hr (by decide) rfl (pa_cons (pv 0) pa_nil)))) (pss_one (ps_ret pe_str)) pss_nil)
      (pss_cons (ps_asg (pv 0) (pg_tup rfl (pgs_cons (pg_name (i := 1) sc_machine_error.nd rfl (.inl rfl)) (pgs_cons (pg_name (i := 2) sc_machine_error.nd rfl (.inl rfl)) pgs_nil))))
      (pss_cons (ps_for PassesOwn.never rfl (pi_enumTK K rfl (by rfl) T.enumerate (pa_cons (pv 1) pa_nil)) (pg_tup rfl (pgs_cons (pg_name (i := 3) sc_machine_error.nd rfl (.inl rfl)) (pgs_cons (pg_name (i := 4) sc_machine_error.nd rfl (.inl rfl)) pgs_nil))) (pss_one (ps_if (pt_not (pt_val (pe_c c_is_size hr (by decide) rfl (pa_cons (pv 4) pa_nil)))) (pss_one (ps_ret (pe_tup (pa_cons pe_str (pa_cons (pv 3) pa_nil))))) pss_nil)))
      (pss_cons (ps_for PassesOwn.never rfl (pi_enumTK K rfl (by rfl) T.enumerate (pa_cons (pv 2) pa_nil)) (pg_tup rfl (pgs_cons (pg_name (i := 5) sc_machine_error.nd rfl (.inl rfl)) (pgs_cons (pg_name (i := 6) sc_machine_error.nd rfl (.inl rfl)) pgs_nil))) (pss_one (ps_if (pt_not (pt_val (pe_c c_is_wire hr (by decide) rfl (pa_cons (pv 6) (pa_cons (pe_callB (call_lenK K rfl) (by rfl) T.len PySem.boot_len (pa_cons (pv 1) pa_nil)) pa_nil))))) (pss_one (ps_ret (pe_tup (pa_cons pe_str (pa_cons (pv 5) pa_nil))))) pss_nil)))
      (pss_cons (ps_for PassesOwn.never rfl (pi_range2 (by rfl) T.range (pa_cons pe_int (pa_cons (pe_callB (call_lenK K rfl) (by rfl) T.len PySem.boot_len (pa_cons (pv 2) pa_nil)) pa_nil))) (pg_name (i := 5) sc_machine_error.nd rfl (.inl rfl)) (pss_one (ps_if (pt_cmpR (op_leTK K rfl (room_lt hr)) (pe_ix (ix_tupK K rfl) (pv 2) (pv 5) (fun _ _ => rfl)) (pe_ix (ix_tupK K rfl) (pv 2) (pe_op op_sub (pv 5) pe_int) (fun _ _ => rfl)) (nomark _)) (pss_one (ps_ret (pe_tup (pa_cons pe_str (pa_cons (pv 5) pa_nil))))) pss_nil)))
      (pss_one (ps_ret pe_non))))))), ?_⟩
    refine ⟨_, rfl, v, d, rfl, hd, _, rfl, ?_⟩
    cases hf : formD d with
    | none =>
      rw [merr_form hf] at k
      exact iteT (k _ _ (.str _) (Same.refl H))
    | some SW =>
      obtain ⟨S, W⟩ := SW
      obtain ⟨rfl, l1, l6⟩ := formD_some hf
      rw [merr_some hf] at k
      refine iteF ?_
      obtain ⟨a, x, y, dx, dy, rfl, e, ha, hx, hy⟩ := hd.pair rfl
      cases e
      obtain ⟨b, ys, rfl, hb, hS⟩ := hx.tuple
      obtain ⟨c, zs, rfl, hc, hW⟩ := hy.tuple
      have lW : W.length ≤ 8000000 := by
        have := (sh.sub (x := .tuple W) (by simp)).len
        omega
      refine ⟨_, rfl, a, _, rfl, SqT.of ha, rfl, _, _, rfl, _, _, rfl, rfl, ?_⟩
      refine ⟨_, rfl, b, _, rfl, SqT.of hb, for_it walk_enumT (fun i σ H' => ∃ v3 v4 : Option V, σ = [some (.ref a), some (.ref b), some (.ref c), v3, v4, none, none] ∧ Same H H' ∧ bd (szBad S) i = [])
        ⟨none, none, rfl, Same.refl H, rfl⟩ (fun i σ H' _ ⟨_, _, _, z, _⟩ => SqT.of (z _ _ hb)) ?_ ?_⟩
      · rintro i x σ H6 H7 hi ⟨v3, v4, rfl, sm, nb⟩ ⟨T1, x1, x2, rfl, nT, rfl, e1, e2⟩
        cases e1
        have hi' : i < S.length := by rw [← hS.length]; exact hi
        have sm7 : Same H (upd H6 T1 (.tup [.int (i : Nat), x2])) := Same.new sm nT
        obtain ⟨x3, g1, dg⟩ := (hS.k (Ks.same sm7)).at hi'
        rw [show ys[i]? = some x2 from e2] at g1
        cases g1
        refine ⟨T1, _, rfl, SqT.of upd_same, rfl, _, _, rfl, _, _, rfl, rfl, ?_⟩
        refine ⟨_, rfl, x2, _, rfl, dg.dv, fun H8 sm8 => ⟨_, rfl, ?_⟩⟩
        cases hz : isSz (S.getD i .none) with
        | true =>
          refine iteF ⟨_, _, rfl, sm7.trans sm8, ?_⟩
          rw [bd_succ, nb, if_neg (by unfold szBad; rw [hz]; decide)]
          rfl
        | false =>
          obtain ⟨l, hl⟩ := bd_first nb (show szBad S i = true by unfold szBad; rw [hz]; rfl) S.length hi'
          rw [merr2_size hl] at k
          refine iteT ⟨_, rfl, by show 2 ≤ sizeLine; decide, fun t nt => ?_⟩
          exact k _ _ (.tup upd_same (.cons (.str _) (.cons (.int _) .nil))) (Same.new (sm7.trans sm8) nt)
      · rintro σ H2 ⟨v3, v4, rfl, sm, nb⟩
        rw [hS.length] at nb
        rw [merr2_ok nb] at k
        refine ⟨_, rfl, c, _, rfl, SqT.of (sm _ _ hc), for_it walk_enumT (fun i σ H' => ∃ v5 v6 : Option V, σ = [some (.ref a), some (.ref b), some (.ref c), v3, v4, v5, v6] ∧ Same H H' ∧ bd (wrBad S.length W) i = [])
          ⟨none, none, rfl, sm, rfl⟩ (fun i σ H' _ ⟨_, _, _, z, _⟩ => SqT.of (z _ _ hc)) ?_ ?_⟩
        · rintro i x σ H6 H7 hi ⟨v5, v6, rfl, sm, nw⟩ ⟨T1, x1, x2, rfl, nT, rfl, e1, e2⟩
          cases e1
          have hi' : i < W.length := by rw [← hW.length]; exact hi
          have sm7 : Same H (upd H6 T1 (.tup [.int (i : Nat), x2])) := Same.new sm nT
          obtain ⟨x3, g1, dg⟩ := (hW.k (Ks.same sm7)).at hi'
          rw [show zs[i]? = some x2 from e2] at g1
          cases g1
          refine ⟨T1, _, rfl, SqT.of upd_same, rfl, _, _, rfl, _, _, rfl, rfl, ?_⟩
          refine ⟨_, rfl, _, rfl, b, ys, rfl, .inr (SqT.of (sm7 _ _ hb)), x2, _, ys.length, rfl, dg.dv, _, rfl, ?_⟩
          rw [hS.length]
          cases hz : isWr S.length (W.getD i .none) with
          | true =>
            refine iteF ⟨_, _, rfl, sm7, ?_⟩
            rw [bd_succ, nw, if_neg (by unfold wrBad; rw [hz]; decide)]
            rfl
          | false =>
            obtain ⟨l, hl⟩ := bd_first nw (show wrBad S.length W i = true by unfold wrBad; rw [hz]; rfl) W.length hi'
            rw [merrW_wire hl] at k
            refine iteT ⟨_, rfl, by show 2 ≤ sizeLine; decide, fun t nt => ?_⟩
            exact k _ _ (.tup upd_same (.cons (.str _) (.cons (.int _) .nil))) (Same.new sm7 nt)
        · rintro σ H3 ⟨v5, v6, rfl, sm3, nw⟩
          rw [hW.length] at nw
          rw [merrW_ok nw] at k
          have allw := bd_all nw
          have lz : zs.length = W.length := hW.length
          refine ⟨_, rfl, c, zs, rfl, .inr (SqT.of (sm3 _ _ hc)), 1, _, rfl, ⟨by decide, by decide, by omega, by omega⟩, for_range (lo := 1) (n := ((zs.length : Nat) - 1 : Int).toNat) (fun i σ H' => ∃ v5 : Option V, σ = [some (.ref a), some (.ref b), some (.ref c), v3, v4, v5, v6] ∧ Same H H' ∧ bd (orBad W) i = [])
            ⟨_, rfl, sm3, rfl⟩ ?_ ?_⟩
          · rintro i σ H4 hi ⟨v5, rfl, sm4, no⟩
            have hi1 : i + 1 < W.length := by omega
            obtain ⟨x1, g1, d1⟩ := hW.at hi1
            obtain ⟨x0, g0, d0⟩ := hW.at (show i < W.length by omega)
            obtain ⟨a1, p, q, rfl, z1, ha1⟩ := d1.wire (allw _ (by rw [List.getD_eq_getElem?_getD, List.getElem?_eq_getElem hi1]; exact List.getElem_mem hi1))
            obtain ⟨a0, r, t, rfl, z0, ha0⟩ := d0.wire (allw _ (by rw [List.getD_eq_getElem?_getD, List.getElem?_eq_getElem (show i < W.length by omega)]; exact List.getElem_mem _))
            have c4 : SqT K H4 c zs := SqT.of (sm4 _ _ hc)
            have ei : (1 : Int) + (i : Int) = ((i + 1 : Nat) : Int) := by omega
            rw [ei]
            have ej : ((i + 1 : Nat) : Int) - 1 = (i : Int) := by omega
            refine ⟨_, rfl, _, rfl, c, zs, _, _, rfl, rfl, c4, atI_nat g1, _, rfl, _, rfl, _, _, rfl, rfl, c, zs, _, _, rfl, rfl, c4, by rw [ej]; exact atI_nat g0, ?_⟩
            refine ⟨a1, a0, [p, q], [r, t], rfl, rfl, SqT.of (sm4 _ _ ha1), SqT.of (sm4 _ _ ha0), _, rfl, ?_⟩
            show (if Ob.lexAt _ _ _ _ _ = true then _ else _)
            rw [lex_two, ← z1, ← z0]
            cases hz : orBad W i with
            | true =>
              obtain ⟨l, hl⟩ := bd_first no hz (W.length - 1) (by omega)
              rw [merr3_ord hl] at k
              rw [show leP (W.getD (i + 1) .none) (W.getD i .none) = true from hz]
              refine iteT ⟨_, rfl, by show 2 ≤ sizeLine; decide, fun t nt => ?_⟩
              exact k _ _ (.tup upd_same (.cons (.str _) (.cons (.int _) .nil))) (Same.new sm4 nt)
            | false =>
              rw [show leP (W.getD (i + 1) .none) (W.getD i .none) = false from hz]
              refine iteF ⟨_, rfl, sm4, ?_⟩
              rw [bd_succ, no, if_neg (by rw [hz]; decide)]
              rfl
          · rintro σ H4 ⟨v5, rfl, sm4, no⟩
            rw [show ((zs.length : Nat) - 1 : Int).toNat = W.length - 1 by omega] at no
            rw [merr3_ok no] at k
            exact k _ _ .non sm4
theorem k_merr {f : Addr} {fd : FuncData} (F : Fun K "machine_error" "machine_error" s_machine_error f fd) : KBinds K fd ["value"] ["value"] kg1 kg1 := by
  obtain ⟨oc, od, kV, doc, pm, an, cdv, ct, osl, rfl, lk, hcd⟩ := F.ex
  refine ⟨fun s us ws _ hl => ?_, kg1_rel⟩
  match us, ws, hl with
  | [], [a], _ => exact .of_eq rfl

/-! ### the law's own look -/
abbrev sc_l_is_sizeN : List Str := ["value", "prime"]
theorem sc_l_is_size : FnScope sc_l_is_sizeN ["value"] (defScope s_l_is_size) := ⟨rfl, rfl, rfl, by decide +kernel, rfl, by decide +kernel, by decide +kernel⟩
theorem ok_lsize {f : Addr} {fd : FuncData} (D : DefAt K mg "_law_is_size" s_l_is_size ["value"] f fd) (T : Blt mg) (c_l_primes : Cal P w K mg base 1 "_law_primes" spPrimes) : Cal P w K mg base 2 "_law_is_size" spSz := by
  refine cal_of D sc_l_is_size (fun vs H Q E h => ?_) (fun cdv A outer s H vs Q E hr h => ?_)
  · obtain ⟨v, d, rfl, _⟩ := h
    rfl
  · obtain ⟨v, d, rfl, hd, k⟩ := h
    refine ⟨_, (pss_cons (ps_if (PW.pt (pw_or (pt_not (pt_val (pe_callB (call_isiK' K rfl) (by rfl) T.isinstance (by decide +kernel) (pa_cons (pv 0) (pa_cons (pe_bltn (v := .ty "int") (u := .type "int") (by rfl) T.int (by decide +kernel) rfl) pa_nil))))) (pw_or (pt_val (pe_callB (call_isiK' K rfl) (by rfl) T.isinstance (by decide +kernel) (pa_cons (pv 0) (pa_cons (pe_bltn (v := .ty "bool") (u := .type "bool") (by rfl) T.bool (by decide +kernel) rfl) pa_nil)))) (pw_or1 (pt_not (pt_chain op_le op_le pe_int (pv 0) (pe_op op_pow pe_int pe_int))))))) (pss_one (ps_ret pe_bl)) pss_nil)
      (pss_cons (ps_for PassesOwn.never rfl (pi_listK K rfl (pe_c0 c_l_primes hr (by decide) rfl)) (pg_name (i := 1) sc_l_is_size.nd rfl (.inl rfl)) (pss_one (ps_while PassesOwn.never (pt_cmpR op_eq (pe_op op_mod (pv 0) (pv 1)) pe_int (nomark _)) (pss_one (ps_set (i := 0) sc_l_is_size.nd rfl (.inl rfl) (pe_op op_fdivW (pv 0) (pv 1)))))))
      (pss_one (ps_ret (pe_cmpR op_eq (pv 0) pe_int (nomark _)))))), ?_⟩
    have ie := isI_eq d
    refine ⟨_, rfl, _, _, _, _, _, rfl, tyI, hd.ty, kit_int K d, _, rfl, ?_⟩
    cases h1 : isIB d with
    | false =>
      rw [h1] at ie
      rw [sz_not ie.symm] at k
      exact iteT (iteT (k _ (Same.refl H)))
    | true =>
    rw [h1] at ie
    refine iteF ⟨_, rfl, _, _, _, _, _, rfl, tyB, hd.ty, kit_bool K d, _, rfl, ?_⟩
    cases h2 : isB d with
    | true =>
      rw [h2] at ie
      rw [sz_not ie.symm] at k
      exact iteT (iteT (k _ (Same.refl H)))
    | false =>
      rw [h2] at ie
      obtain ⟨i, rfl, rfl⟩ := hd.int ie.symm
      refine iteF ⟨_, rfl, _, _, rfl, rfl, _, rfl, ?_⟩
      refine ite2 (fun h2 => ?_) (fun h2 => ?_)
      rotate_left 1
      · have h2' : ¬ (2 : Int) ≤ i := of_decide_eq_false (by simpa using h2)
        rw [sz_low (by omega)] at k
        exact ⟨_, rfl, k _ (Same.refl H)⟩
      have h2' : (2 : Int) ≤ i := of_decide_eq_true h2
      refine ⟨_, _, rfl, rfl, ⟨by decide, by decide, by decide⟩, _, _, rfl, rfl, ?_⟩
      cases h3 : decide (i ≤ 10 ^ 30) with
      | false =>
        have h3' : ¬ i ≤ 10 ^ 30 := of_decide_eq_false h3
        rw [sz_big (by omega)] at k
        show ∃ c, V.bl (decide (i ≤ 10 ^ 30)) = _ ∧ _
        rw [h3]
        exact ⟨_, rfl, k _ (Same.refl H)⟩
      | true =>
      have h3' : i ≤ 10 ^ 30 := of_decide_eq_true h3
      show ∃ c, V.bl (decide (i ≤ 10 ^ 30)) = _ ∧ _
      rw [h3]
      refine ⟨_, rfl, ?_⟩
      obtain ⟨n, rfl⟩ : ∃ n : Nat, i = (n : Int) := ⟨i.toNat, by omega⟩
      have n2 : 2 ≤ n := by omega
      have n3 : n ≤ 10 ^ 30 := by omega
      rw [sz_mid n2 n3] at k
      refine ⟨rfl, fun l nl => ⟨l, rfl, ⟨_, SqL.of upd_same⟩, ?_⟩⟩
      have sl : Same H (upd H l (.lst (PR.map V.int))) := Same.new (Same.refl H) nl
      have hl : (upd H l (.lst (PR.map V.int))) l = some (.lst (PR.map V.int)) := upd_same
      generalize upd H l (.lst (PR.map V.int)) = H0 at *
      refine for_list (K := K) (a := l) (xs := PR.map V.int) (fun j σ H' => ∃ (v1 : Option V), σ = [some (.int ((strA (PRn.take j) n : Nat) : Int)), v1] ∧ Same H0 H') ⟨none, rfl, Same.refl H0⟩ (fun j σ H' _ ⟨_, _, z⟩ => SqL.of (z _ _ hl)) ?_ ?_
      · rintro j y σ H1 hy ⟨v2, rfl, sm⟩
        obtain ⟨p, rfl, hp, pm⟩ := PR_get hy
        have p2 := PRn_two pm
        have p97 := PRn_le pm
        obtain ⟨a0, a1⟩ := strA_pos (show 0 < n by omega) (PRn.take j) take_PRn
        have nx := strA_next (n := n) hp
        generalize strA (PRn.take j) n = c at *
        refine ⟨fun m σ H' => ∃ r : Nat, σ = [some (.int (r : Int)), some (.int (p : Int))] ∧ 0 < r ∧ r ≤ 10 ^ 30 ∧ strp p r = strp p c ∧ m = r ∧ Same H0 H', ⟨c, c, rfl, a0, by omega, rfl, rfl, sm⟩, ?_⟩
        rintro m σ H2 ⟨r, rfl, r0, r1, hv, rfl, sm2⟩
        refine ⟨_, rfl, _, rfl, _, _, rfl, rfl, (show (0 : Int) < (p : Int) by omega), rfl, _, rfl, ?_⟩
        have em : (m : Int) % (p : Int) = ((m % p : Nat) : Int) := rfl
        refine ite2 (fun h => ?_) (fun h => ?_)
        · have h0 : m % p = 0 := by
            have z := V.int.inj (of_decide_eq_true h)
            rw [em] at z
            exact Int.ofNat.inj z
          refine ⟨fun σ' H'' => ∃ r' : Nat, σ' = [some (.int (r' : Int)), some (.int (p : Int))] ∧ 0 < r' ∧ r' ≤ 10 ^ 30 ∧ strp p r' = strp p c ∧ r' < m ∧ Same H0 H'', fun σ' H'' ⟨r', e1, e2, e3, e4, e5, e6⟩ => ⟨r', e5, r', e1, e2, e3, e4, rfl, e6⟩, ?_⟩
          refine ⟨_, rfl, _, rfl, _, _, rfl, rfl, wide_div (b := 20) (by omega) (by omega) (by decide) (by decide), m / p, rfl, pl_pos p2 r0 h0, Nat.le_trans (Nat.div_le_self m p) r1, by rw [← hv, strp_yes p2 r0 h0], Nat.div_lt_self r0 p2, sm2⟩
        · have h0 : m % p ≠ 0 := fun z => h (decide_eq_true (show V.int ((m : Int) % (p : Int)) = V.int 0 from by rw [em, z]; rfl))
          rw [strp_no h0] at hv
          refine ⟨some (.int (p : Int)), ?_, sm2⟩
          rw [nx, ← hv]
      · rintro σ H1 ⟨v2, rfl, sm⟩
        have full : PRn.take (PR.map V.int).length = PRn := by decide +kernel
        rw [full]
        refine ⟨_, rfl, rfl, ?_⟩
        rw [one_eq]
        exact k _ (sl.trans sm)
/-! _law_is_wire -/
def nbl (m : Nat) (ds : List PyData) : List Int := (ds.filter fun d => !isBl m d).map fun _ => 1
theorem nbl_next {m : Nat} {ds : List PyData} {i : Nat} {d : PyData} (h : ds[i]? = some d) : nbl m (ds.take (i + 1)) = nbl m (ds.take i) ++ (if isBl m d = true then [] else [1]) := by
  unfold nbl
  rw [take_filter _ h, List.map_append]
  cases isBl m d <;> rfl
theorem nbl_len (m : Nat) (ds : List PyData) : (nbl m ds).length ≤ ds.length := by
  unfold nbl
  rw [List.length_map]
  exact List.length_filter_le _ _
abbrev sc_l_is_wireN : List Str := ["value", "many", "item"]
theorem sc_l_is_wire : FnScope sc_l_is_wireN ["value", "many"] (defScope s_l_is_wire) := ⟨rfl, rfl, rfl, by decide +kernel, rfl, by decide +kernel, by decide +kernel⟩
def spWrS : Sp := fun vs H Q _ => ∃ (v : V) (d : PyData) (m : Nat), vs = [v, .int m] ∧ Dv An H v d ∧ ∀ H', Same H H' → Q (.bl (isWr m d)) H'
theorem ok_lwire {f : Addr} {fd : FuncData} (D : DefAt K mg "_law_is_wire" s_l_is_wire ["value", "many"] f fd) (T : Blt mg) : Cal P w K mg base 1 "_law_is_wire" spWrS := by
  refine cal_of D sc_l_is_wire (fun vs H Q E h => ?_) (fun cdv A outer s H vs Q E hr h => ?_)
  · obtain ⟨v, d, m, rfl, _⟩ := h
    rfl
  · obtain ⟨v, d, m, rfl, hd, k⟩ := h
    refine ⟨_, (pss_cons (ps_if (PW.pt (pw_or (pt_not (pt_val (pe_callB (call_isiK' K rfl) (by rfl) T.isinstance (by decide +kernel) (pa_cons (pv 0) (pa_cons (pe_bltn (v := .ty "tuple") (u := .type "tuple") (by rfl) T.tuple (by decide +kernel) rfl) pa_nil))))) (pw_or1 (pt_cmpR op_ne (pe_callB (call_lenK K rfl) (by rfl) T.len PySem.boot_len (pa_cons (pv 0) pa_nil)) pe_int (nomark _))))) (pss_one (ps_ret pe_bl)) pss_nil)
      (pss_cons (ps_if (pt_cmpR (op_neDK K rfl hr.units) (pe_lc (own := [("item", 2)]) rfl sc_l_is_wire.nd (pi_tupK K rfl (pv 0)) (blkOk_by (N := sc_l_is_wireN) (sc := defScope s_l_is_wire) (by decide +kernel)) (fun _ _ _ _ _ => (pg_name (i := 2) sc_l_is_wire.nd rfl (by first | exact .inl rfl | exact .inr rfl))) (fun _ _ _ _ _ => (pts_one (PW.pt (pw_or (pt_not (pt_val (pe_callB (call_isiK' K rfl) (by rfl) T.isinstance (by decide +kernel) (pa_cons (pv 2) (pa_cons (pe_bltn (v := .ty "int") (u := .type "int") (by rfl) T.int (by decide +kernel) rfl) pa_nil))))) (pw_or (pt_val (pe_callB (call_isiK' K rfl) (by rfl) T.isinstance (by decide +kernel) (pa_cons (pv 2) (pa_cons (pe_bltn (v := .ty "bool") (u := .type "bool") (by rfl) T.bool (by decide +kernel) rfl) pa_nil)))) (pw_or1 (pt_not (pt_chain op_le op_lt pe_int (pv 2) (pv 1))))))))) (fun _ _ _ _ _ => pe_int)) (pe_lst pa_nil) (nomark _)) (pss_one (ps_ret pe_bl)) pss_nil)
      (pss_one (ps_ret (pe_cmpR op_ne (pe_ix (ix_tupK K rfl) (pv 0) pe_int (fun _ _ => rfl)) (pe_ix (ix_tupK K rfl) (pv 0) pe_int (fun _ _ => rfl)) (nomark _)))))), ?_⟩
    refine ⟨_, rfl, _, _, _, _, _, rfl, tyT, hd.ty, kit_tup K d, _, rfl, ?_⟩
    cases h1 : isT d with
    | false =>
      rw [isWr_pr (isPr_no h1)] at k
      exact iteT (iteT (k _ (Same.refl H)))
    | true =>
    obtain ⟨a, xs, ds, rfl, rfl, ha, hs⟩ := hd.tuple h1
    refine iteF ⟨_, rfl, a, xs, rfl, .inr (SqT.of ha), rfl, _, rfl, ?_⟩
    rw [hs.length]
    have pl := isPr_len ds
    cases h2 : isPr (.tuple ds) with
    | false =>
      rw [h2] at pl
      rw [isWr_pr h2] at k
      rw [dec_int0, ← pl]
      exact iteT (k _ (Same.refl H))
    | true =>
      rw [h2] at pl
      rw [dec_int0, ← pl]
      refine iteF ?_
      obtain ⟨a', x, y, dx, dy, e, e2, ha', hx, hy⟩ := hd.pair h2
      cases e
      cases e2
      rw [ha] at ha'
      cases ha'
      refine ⟨_, rfl, a, rfl, ⟨_, SqT.of ha⟩, fun l nl => ?_⟩
      have sl : Same H (upd H l (.lst [])) := Same.new (Same.refl H) nl
      refine lc_tup (K := K) (a := a) (xs := [x, y]) (fun j H' => Same H H' ∧ H' l = some (.lst ((nbl m ([dx, dy].take j)).map V.int))) ⟨sl, upd_same⟩ (fun j H' _ z => SqT.of (z.1 _ _ ha)) ?_ ?_
      · rintro j z H1 hz ⟨sm, hl⟩
        obtain ⟨dz, g1, dg⟩ := (hs.k (Ks.same sm)).get hz
        have nx := nbl_next (m := m) g1
        have ll := nbl_len m ([dx, dy].take j)
        have l2 : ([dx, dy].take j).length ≤ 2 := by
          rw [List.length_take]
          exact Nat.min_le_right _ _
        have ie := isI_eq dz
        have bad : isBl m dz = false → ∃ acc : List V, H1 l = some (.lst acc) ∧ acc.length < sizeLine ∧ (Same H (upd H1 l (.lst (acc ++ [V.int 1]))) ∧ (upd H1 l (.lst (acc ++ [V.int 1]))) l = some (.lst ((nbl m ([dx, dy].take (j + 1))).map V.int))) := fun hb =>
          ⟨_, hl, small1000 (by rw [List.length_map]; omega), Same.put sm nl, by rw [upd_same, nx, hb, if_neg (by decide), List.map_append]; rfl⟩
        refine ⟨rfl, ⟨_, rfl, _, _, _, _, _, rfl, tyI, dg.dv.ty, kit_int K dz, _, rfl, ?_⟩⟩
        cases i1 : isIB dz with
        | false =>
          rw [i1] at ie
          exact iteT (iteT (bad (isBl_no m ie.symm)))
        | true =>
        rw [i1] at ie
        refine iteF ⟨_, rfl, _, _, _, _, _, rfl, tyB, dg.dv.ty, kit_bool K dz, _, rfl, ?_⟩
        cases i2 : isB dz with
        | true =>
          rw [i2] at ie
          exact iteT (iteT (bad (isBl_no m ie.symm)))
        | false =>
        rw [i2] at ie
        obtain ⟨i, rfl, rfl⟩ := dg.dv.int ie.symm
        refine iteF ⟨_, rfl, _, _, rfl, rfl, _, rfl, ?_⟩
        refine ite2 (fun h3 => ?_) (fun h3 => ?_)
        · refine ⟨_, rfl, _, _, rfl, rfl, ?_⟩
          cases h4 : decide (i < (m : Int)) with
          | true =>
            show ∃ c, V.bl (decide (i < (m : Int))) = _ ∧ _
            rw [h4]
            refine ⟨_, rfl, iteF ⟨sm, ?_⟩⟩
            rw [nx, if_pos (by simp only [isBl, h3, h4, Bool.and_self]), List.append_nil]
            exact hl
          | false =>
            show ∃ c, V.bl (decide (i < (m : Int))) = _ ∧ _
            rw [h4]
            exact ⟨_, rfl, iteT (bad (by simp only [isBl, h4, Bool.and_false]))⟩
        · refine ⟨_, rfl, iteT (bad ?_)⟩
          simp only [isBl]
          rw [show decide ((0 : Int) ≤ i) = false by simpa using h3]
          rfl
      · rintro H1 ⟨sm, hl⟩
        refine ⟨by show 0 ≤ sizeLine; decide, fun c nc => ?_⟩
        have sm2 : Same H (upd H1 c (.lst [])) := Same.new sm nc
        have hl2 : (upd H1 c (.lst [])) l = some (.lst ((nbl m [dx, dy]).map V.int)) := by
          rw [upd_ne (ne_of_none hl nc)]
          exact hl
        refine ⟨.list ((nbl m [dx, dy]).map PyData.int), .list [], .lst (SqL.of hl2) (DpAll.ints K _ _), .lst (SqL.of upd_same) .nil, shaped_ints _, rfl, _, rfl, ?_⟩
        rw [eqv_nil]
        cases b1 : isBl m dx with
        | false =>
          rw [isWr_l b1] at k
          rw [show (nbl m [dx, dy]).isEmpty = false by unfold nbl; rw [List.filter_cons, b1]; rfl]
          exact iteT (k _ sm2)
        | true =>
        cases b2 : isBl m dy with
        | false =>
          rw [isWr_r b2] at k
          rw [show (nbl m [dx, dy]).isEmpty = false by unfold nbl; rw [List.filter_cons, b1, List.filter_cons, b2]; rfl]
          exact iteT (k _ sm2)
        | true =>
          rw [show (nbl m [dx, dy]).isEmpty = true by unfold nbl; rw [List.filter_cons, b1, List.filter_cons, b2]; rfl]
          refine iteF ?_
          obtain ⟨i, rfl, rfl⟩ := hx.dv.int (isBl_int b1)
          obtain ⟨j, rfl, rfl⟩ := hy.dv.int (isBl_int b2)
          rw [isWr_ii b1 b2] at k
          refine ⟨_, rfl, a, _, 0, _, rfl, rfl, SqT.of (sm2 _ _ ha), atI_nat (j := 0) rfl, _, rfl, a, _, 1, _, rfl, rfl, SqT.of (sm2 _ _ ha), atI_nat (j := 1) rfl, rfl, ?_⟩
          rw [dec_int0]
          exact k _ sm2

/-! ### _law_due -/
def bI (f : Nat → Bool) (n : Nat) : List Int := (bd f n).map fun i : Nat => (i : Int)
theorem bI_succ (f : Nat → Bool) (n : Nat) : bI f (n + 1) = bI f n ++ (if f n = true then [(n : Int)] else []) := by
  unfold bI
  rw [bd_succ, List.map_append]
  cases f n <;> rfl
theorem bI_len (f : Nat → Bool) (n : Nat) : (bI f n).length ≤ n := by
  unfold bI
  rw [List.length_map]
  exact bd_len f n
theorem bI_nil {f : Nat → Bool} {n : Nat} (h : bd f n = []) : bI f n = [] := by unfold bI; rw [h]; rfl
theorem bI_cons {f : Nat → Bool} {n i : Nat} {l : List Nat} (h : bd f n = i :: l) : ∃ r, bI f n = (i : Int) :: r := by unfold bI; rw [h]; exact ⟨_, rfl⟩
/-- one more item of a filtered list -/
theorem bI_put {f : Nat → Bool} {n i : Nat} {H H1 : Hp} {l : Addr} (hn : i < n) (h8 : n ≤ 8000000) (h : f i = true) (sm : Same H H1) (nl : H l = none) (hl : H1 l = some (.lst ((bI f i).map V.int))) :
    ∃ acc : List V, H1 l = some (.lst acc) ∧ acc.length < sizeLine ∧ (Same H (upd H1 l (.lst (acc ++ [V.int i]))) ∧ (upd H1 l (.lst (acc ++ [V.int i]))) l = some (.lst ((bI f (i + 1)).map V.int))) := by
  have := bI_len f i
  refine ⟨_, hl, ?_, Same.put sm nl, by rw [upd_same, bI_succ, if_pos h, List.map_append]; rfl⟩
  rw [List.length_map]
  exact Nat.lt_of_lt_of_le (show (bI f i).length < 8000001 by omega) (by decide)
def oI (W : List PyData) (n : Nat) : List Int := (bI (orBad W) n).map fun k => k + 1
theorem oI_succ (W : List PyData) (n : Nat) : oI W (n + 1) = oI W n ++ (if orBad W n = true then [((n + 1 : Nat) : Int)] else []) := by
  unfold oI
  rw [bI_succ, List.map_append]
  cases orBad W n <;> rfl
theorem oI_cons {W : List PyData} {n i : Nat} {l : List Nat} (h : bd (orBad W) n = i :: l) : ∃ r, oI W n = ((i + 1 : Nat) : Int) :: r := by
  obtain ⟨r, hr⟩ := bI_cons h
  unfold oI
  rw [hr]
  exact ⟨_, rfl⟩
abbrev sc_l_dueN : List Str := ["value", "sizes", "wires", "bad", "i", "size", "place", "wire"]
theorem sc_l_due : FnScope sc_l_dueN ["value"] (defScope s_l_due) := ⟨rfl, rfl, rfl, by decide +kernel, rfl, by decide +kernel, by decide +kernel⟩
theorem ok_due {f : Addr} {fd : FuncData} (D : DefAt K mg "_law_due" s_l_due ["value"] f fd) (T : Blt mg) (c_l_is_size : Cal P w K mg base 2 "_law_is_size" spSz) (c_l_is_wire : Cal P w K mg base 1 "_law_is_wire" spWrS) : Cal P w K mg base 4 "_law_due" spMerr := by
  refine cal_of D sc_l_due (fun vs H Q E h => ?_) (fun cdv A outer s H vs Q E hr h => ?_)
  · obtain ⟨v, d, rfl, _⟩ := h
    rfl
  · obtain ⟨v, d, rfl, hd, sh, k⟩ := h
    refine ⟨_, (pss_cons (ps_if (PW.pt (pw_or (pt_not (pt_val (pe_callB (call_isiK' K rfl) (by rfl) T.isinstance (by decide +kernel) (pa_cons (pv 0) (pa_cons (pe_bltn (v := .ty "tuple") (u := .type "tuple") (by rfl) T.tuple (by decide +kernel) rfl) pa_nil))))) (pw_or (pt_cmpR op_ne (pe_callB (call_lenK K rfl) (by rfl) T.len PySem.boot_len (pa_cons (pv 0) pa_nil)) pe_int (nomark _)) (pw_or1 (pt_not (pt_val (pe_callB (call_isiK' K rfl) (by rfl) T.isinstance (by decide +kernel) (pa_cons (pe_ix (ix_tupK K rfl) (pv 0) pe_int (fun _ _ => rfl)) (pa_cons (pe_bltn (v := .ty "tuple") (u := .type "tuple") (by rfl) T.tuple (by decide +kernel) rfl) pa_nil))))))))) (pss_one (ps_ret pe_str)) pss_nil)
      (pss_cons (ps_asg (pv 0) (pg_tup rfl (pgs_cons (pg_name (i := 1) sc_l_due.nd rfl (.inr rfl)) (pgs_cons (pg_name (i := 2) sc_l_due.nd rfl (.inr rfl)) pgs_nil))))
      (pss_cons (ps_if (PW.pt (pw_or (pt_not (pt_chain op_le op_le pe_int (pe_callB (call_lenK K rfl) (by rfl) T.len PySem.boot_len (pa_cons (pv 1) pa_nil)) pe_int)) (pw_or1 (pt_not (pt_val (pe_callB (call_isiK' K rfl) (by rfl) T.isinstance (by decide +kernel) (pa_cons (pv 2) (pa_cons (pe_bltn (v := .ty "tuple") (u := .type "tuple") (by rfl) T.tuple (by decide +kernel) rfl) pa_nil)))))))) (pss_one (ps_ret pe_str)) pss_nil)
      (pss_cons (ps_setLc (i := 3) (own := [("i", 4), ("size", 5)]) rfl sc_l_due.nd rfl rfl (sw_true rfl rfl rfl (by decide +kernel)) (pi_enumTK K rfl (by rfl) T.enumerate (pa_cons (pv 1) pa_nil)) (blkOk_by (N := sc_l_dueN) (sc := defScope s_l_due) (by decide +kernel)) (fun _ _ _ _ _ => (pg_tupK (n := 2) K rfl rfl (pgs_cons (pg_name (i := 4) sc_l_due.nd rfl (by first | exact .inl rfl | exact .inr rfl)) (pgs_cons (pg_name (i := 5) sc_l_due.nd rfl (by first | exact .inl rfl | exact .inr rfl)) pgs_nil)))) (fun _ _ _ _ _ => (pts_one (pt_not (pt_val (pe_c c_l_is_size hr (by decide) rfl (pa_cons (pv 5) pa_nil)))))) (fun _ _ _ _ _ => (pv 4)))
      (pss_cons (ps_if (pt_cmpR (op_neDK K rfl hr.units) (pv 3) (pe_lst pa_nil) (nomark _)) (pss_one (ps_ret (pe_tup (pa_cons pe_str (pa_cons (pe_ix (ix_listK K rfl) (pv 3) pe_int (fun _ _ => rfl)) pa_nil))))) pss_nil)
      (pss_cons (ps_setLc (i := 3) (own := [("place", 6), ("wire", 7)]) rfl sc_l_due.nd rfl rfl (sw_true rfl rfl rfl (by decide +kernel)) (pi_enumTK K rfl (by rfl) T.enumerate (pa_cons (pv 2) pa_nil)) (blkOk_by (N := sc_l_dueN) (sc := defScope s_l_due) (by decide +kernel)) (fun _ _ _ _ _ => (pg_tupK (n := 2) K rfl rfl (pgs_cons (pg_name (i := 6) sc_l_due.nd rfl (by first | exact .inl rfl | exact .inr rfl)) (pgs_cons (pg_name (i := 7) sc_l_due.nd rfl (by first | exact .inl rfl | exact .inr rfl)) pgs_nil)))) (fun _ _ _ _ _ => (pts_one (pt_not (pt_val (pe_c c_l_is_wire hr (by decide) rfl (pa_cons (pv 7) (pa_cons (pe_callB (call_lenK K rfl) (by rfl) T.len PySem.boot_len (pa_cons (pv 1) pa_nil)) pa_nil))))))) (fun _ _ _ _ _ => (pv 6)))
      (pss_cons (ps_if (pt_cmpR (op_neDK K rfl hr.units) (pv 3) (pe_lst pa_nil) (nomark _)) (pss_one (ps_ret (pe_tup (pa_cons pe_str (pa_cons (pe_ix (ix_listK K rfl) (pv 3) pe_int (fun _ _ => rfl)) pa_nil))))) pss_nil)
      (pss_cons (ps_setLc (i := 3) (own := [("place", 6)]) rfl sc_l_due.nd rfl rfl (sw_true rfl rfl rfl (by decide +kernel)) (pi_range2 (by rfl) T.range (pa_cons pe_int (pa_cons (pe_callB (call_lenK K rfl) (by rfl) T.len PySem.boot_len (pa_cons (pv 2) pa_nil)) pa_nil))) (blkOk_by (N := sc_l_dueN) (sc := defScope s_l_due) (by decide +kernel)) (fun _ _ _ _ _ => (pg_name (i := 6) sc_l_due.nd rfl (by first | exact .inl rfl | exact .inr rfl))) (fun _ _ _ _ _ => (pts_one (pt_cmpR (op_leTK K rfl (room_lt hr)) (pe_ix (ix_tupK K rfl) (pv 2) (pv 6) (fun _ _ => rfl)) (pe_ix (ix_tupK K rfl) (pv 2) (pe_op op_sub (pv 6) pe_int) (fun _ _ => rfl)) (nomark _)))) (fun _ _ _ _ _ => (pv 6)))
      (pss_one (ps_ret (pe_ifExp (pt_cmpR (op_neDK K rfl hr.units) (pv 3) (pe_lst pa_nil) (nomark _)) (pe_tup (pa_cons pe_str (pa_cons (pe_ix (ix_listK K rfl) (pv 3) pe_int (fun _ _ => rfl)) pa_nil))) pe_non))))))))))), ?_⟩
    refine ⟨_, rfl, _, _, _, _, _, rfl, tyT, hd.ty, kit_tup K d, _, rfl, ?_⟩
    cases h1 : isT d with
    | false =>
      rw [merr_form (formD_pr (isPr_no h1))] at k
      exact iteT (iteT (k _ _ (.str _) (Same.refl H)))
    | true =>
    obtain ⟨a, xs, ds, rfl, rfl, ha, hs⟩ := hd.tuple h1
    refine iteF ⟨_, rfl, a, xs, rfl, .inr (SqT.of ha), rfl, _, rfl, ?_⟩
    rw [hs.length]
    have pl := isPr_len ds
    rw [dec_int0, ← pl]
    cases h2 : isPr (.tuple ds) with
    | false =>
      rw [merr_form (formD_pr h2)] at k
      exact iteT (iteT (k _ _ (.str _) (Same.refl H)))
    | true =>
    refine iteF ?_
    obtain ⟨a', x, y, dx, dy, e, e2, ha', hx, hy⟩ := hd.pair h2
    cases e
    cases e2
    rw [ha] at ha'
    cases ha'
    refine ⟨_, rfl, a, _, 0, _, rfl, rfl, SqT.of ha, atI_nat (j := 0) rfl, _, _, _, _, _, rfl, tyT, hx.dv.ty, kit_tup K dx, _, rfl, ?_⟩
    cases h3 : isT dx with
    | false =>
      rw [merr_form (formD_l h3)] at k
      exact iteT (k _ _ (.str _) (Same.refl H))
    | true =>
    obtain ⟨S, rfl⟩ := isT_ex h3
    obtain ⟨b, ys, rfl, hb, hS⟩ := hx.tuple
    refine iteF ?_
    refine ⟨_, rfl, a, _, rfl, SqT.of ha, rfl, _, _, rfl, _, _, rfl, rfl, ?_⟩
    refine ⟨_, rfl, b, ys, rfl, .inr (SqT.of hb), _, _, rfl, rfl, _, rfl, ?_⟩
    rw [hS.length]
    have nof : ¬ (1 ≤ S.length ∧ S.length ≤ 6) → formD (.tuple [.tuple S, dy]) = none := fun h => by
      unfold formD
      split
      · rename_i e
        injection e with e
        injection e with e1 _
        injection e1 with e1
        subst e1
        rw [if_neg h]
      · rfl
    refine ite2 (fun h4 => ?_) (fun h4 => ?_)
    rotate_left 1
    · have h5 : ¬ (1 : Int) ≤ (S.length : Int) := of_decide_eq_false (by simpa using h4)
      rw [merr_form (nof fun z => h5 (by omega))] at k
      exact ⟨_, rfl, iteT (iteT (k _ _ (.str _) (Same.refl H)))⟩
    have h5 : (1 : Int) ≤ (S.length : Int) := of_decide_eq_true h4
    refine ⟨_, _, rfl, rfl, ?_⟩
    cases h6 : decide ((S.length : Int) ≤ 6) with
    | false =>
      have h6' : ¬ (S.length : Int) ≤ 6 := of_decide_eq_false h6
      rw [merr_form (nof fun z => h6' (by omega))] at k
      show ∃ c, V.bl (decide ((S.length : Int) ≤ 6)) = _ ∧ _
      rw [h6]
      exact ⟨_, rfl, iteT (iteT (k _ _ (.str _) (Same.refl H)))⟩
    | true =>
    have h6' : (S.length : Int) ≤ 6 := of_decide_eq_true h6
    show ∃ c, V.bl (decide ((S.length : Int) ≤ 6)) = _ ∧ _
    rw [h6]
    refine ⟨_, rfl, iteF ⟨_, rfl, _, _, _, _, _, rfl, tyT, hy.dv.ty, kit_tup K dy, _, rfl, ?_⟩⟩
    cases h7 : isT dy with
    | false =>
      rw [merr_form (formD_r h7)] at k
      exact iteT (k _ _ (.str _) (Same.refl H))
    | true =>
    obtain ⟨W, rfl⟩ := isT_ex h7
    obtain ⟨c, zs, rfl, hc, hW⟩ := hy.tuple
    have lW : W.length ≤ 8000000 := by
      have := (sh.sub (x := .tuple W) (by simp)).len
      omega
    have l16 : 1 ≤ S.length ∧ S.length ≤ 6 := ⟨by omega, by omega⟩
    rw [merr_some (show formD (.tuple [.tuple S, .tuple W]) = some (S, W) by simp only [formD]; rw [if_pos l16])] at k
    refine iteF ?_
    refine ⟨_, rfl, b, _, rfl, SqT.of hb, fun l nl => ?_⟩
    have sl : Same H (upd H l (.lst [])) := Same.new (Same.refl H) nl
    refine lc_it walk_enumT (fun i H' => Same H H' ∧ H' l = some (.lst ((bI (szBad S) i).map V.int))) ⟨sl, upd_same⟩ (fun i H' _ z => SqT.of (z.1 _ _ hb)) ?_ ?_
    · rintro i x H6 H7 hi ⟨sm, hl⟩ ⟨T1, x1, x2, rfl, nT, rfl, e1, e2⟩
      cases e1
      have hi' : i < S.length := by rw [← hS.length]; exact hi
      have sm7 : Same H (upd H6 T1 (.tup [.int (i : Nat), x2])) := Same.new sm nT
      have hl7 : (upd H6 T1 (.tup [.int (i : Nat), x2])) l = some (.lst ((bI (szBad S) i).map V.int)) := by
        rw [upd_ne (ne_of_none hl nT)]
        exact hl
      obtain ⟨x3, g1, dg⟩ := (hS.k (Ks.same sm7)).at hi'
      rw [show ys[i]? = some x2 from e2] at g1
      cases g1
      refine ⟨T1, _, rfl, SqT.of upd_same, rfl, _, _, rfl, _, _, rfl, rfl, rfl, ?_⟩
      refine ⟨_, rfl, x2, _, rfl, dg.dv, fun H8 sm8 => ⟨_, rfl, ?_⟩⟩
      cases hz : isSz (S.getD i .none) with
      | true =>
        refine iteF ⟨sm7.trans sm8, ?_⟩
        rw [bI_succ, if_neg (by unfold szBad; rw [hz]; decide), List.append_nil]
        exact sm8 _ _ hl7
      | false => exact iteT ⟨_, rfl, bI_put hi' (by omega) (by unfold szBad; rw [hz]; rfl) (sm7.trans sm8) nl (sm8 _ _ hl7)⟩
    rintro H1 ⟨sm1, hl1⟩
    rw [hS.length] at hl1
    refine ⟨_, rfl, by show 0 ≤ sizeLine; decide, fun l2 nl2 => ?_⟩
    have sm2 : Same H (upd H1 l2 (.lst [])) := Same.new sm1 nl2
    have hl2 : (upd H1 l2 (.lst [])) l = some (.lst ((bI (szBad S) S.length).map V.int)) := by
      rw [upd_ne (ne_of_none hl1 nl2)]
      exact hl1
    refine ⟨.list ((bI (szBad S) S.length).map PyData.int), .list [], .lst (SqL.of hl2) (DpAll.ints K _ _), .lst (SqL.of upd_same) .nil, shaped_ints _, rfl, _, rfl, ?_⟩
    rw [eqv_nil]
    generalize upd H1 l2 (.lst []) = H2 at *
    cases hbs : bd (szBad S) S.length with
    | cons i r =>
      obtain ⟨r2, er⟩ := bI_cons hbs
      rw [merr2_size hbs] at k
      rw [er] at hl2 ⊢
      refine iteT ⟨_, rfl, l, _, 0, _, rfl, rfl, SqL.of hl2, atI_nat (j := 0) rfl, by show 2 ≤ sizeLine; decide, fun t nt => ?_⟩
      exact k _ _ (.tup upd_same (.cons (.str _) (.cons (.int _) .nil))) (Same.new sm2 nt)
    | nil =>
    rw [bI_nil hbs]
    rw [merr2_ok hbs] at k
    refine iteF ?_
    refine ⟨_, rfl, c, _, rfl, SqT.of (sm2 _ _ hc), fun l3 nl3 => ?_⟩
    have nl3H : H l3 = none := Same.free sm2 nl3
    have sl3 : Same H (upd H2 l3 (.lst [])) := Same.new sm2 nl3
    refine lc_it walk_enumT (fun i H' => Same H H' ∧ H' l3 = some (.lst ((bI (wrBad S.length W) i).map V.int))) ⟨sl3, upd_same⟩ (fun i H' _ z => SqT.of (z.1 _ _ hc)) ?_ ?_
    · rintro i x H6 H7 hi ⟨sm, hl⟩ ⟨T1, x1, x2, rfl, nT, rfl, e1, e2⟩
      cases e1
      have hi' : i < W.length := by rw [← hW.length]; exact hi
      have sm7 : Same H (upd H6 T1 (.tup [.int (i : Nat), x2])) := Same.new sm nT
      have hl7 : (upd H6 T1 (.tup [.int (i : Nat), x2])) l3 = some (.lst ((bI (wrBad S.length W) i).map V.int)) := by
        rw [upd_ne (ne_of_none hl nT)]
        exact hl
      obtain ⟨x3, g1, dg⟩ := (hW.k (Ks.same sm7)).at hi'
      rw [show zs[i]? = some x2 from e2] at g1
      cases g1
      refine ⟨T1, _, rfl, SqT.of upd_same, rfl, _, _, rfl, _, _, rfl, rfl, rfl, ?_⟩
      refine ⟨_, rfl, _, rfl, b, ys, rfl, .inr (SqT.of (sm7 _ _ hb)), x2, _, ys.length, rfl, dg.dv, fun H8 sm8 => ⟨_, rfl, ?_⟩⟩
      rw [hS.length]
      cases hz : isWr S.length (W.getD i .none) with
      | true =>
        refine iteF ⟨sm7.trans sm8, ?_⟩
        rw [bI_succ, if_neg (by unfold wrBad; rw [hz]; decide), List.append_nil]
        exact sm8 _ _ hl7
      | false => exact iteT ⟨_, rfl, bI_put hi' lW (by unfold wrBad; rw [hz]; rfl) (sm7.trans sm8) nl3H (sm8 _ _ hl7)⟩
    rintro H3 ⟨sm3, hl3⟩
    rw [hW.length] at hl3
    refine ⟨_, rfl, by show 0 ≤ sizeLine; decide, fun l4 nl4 => ?_⟩
    have sm4 : Same H (upd H3 l4 (.lst [])) := Same.new sm3 nl4
    have hl4 : (upd H3 l4 (.lst [])) l3 = some (.lst ((bI (wrBad S.length W) W.length).map V.int)) := by
      rw [upd_ne (ne_of_none hl3 nl4)]
      exact hl3
    refine ⟨.list ((bI (wrBad S.length W) W.length).map PyData.int), .list [], .lst (SqL.of hl4) (DpAll.ints K _ _), .lst (SqL.of upd_same) .nil, shaped_ints _, rfl, _, rfl, ?_⟩
    rw [eqv_nil]
    generalize upd H3 l4 (.lst []) = H4 at *
    cases hbw : bd (wrBad S.length W) W.length with
    | cons i r =>
      obtain ⟨r2, er⟩ := bI_cons hbw
      rw [merrW_wire hbw] at k
      rw [er] at hl4 ⊢
      refine iteT ⟨_, rfl, l3, _, 0, _, rfl, rfl, SqL.of hl4, atI_nat (j := 0) rfl, by show 2 ≤ sizeLine; decide, fun t nt => ?_⟩
      exact k _ _ (.tup upd_same (.cons (.str _) (.cons (.int _) .nil))) (Same.new sm4 nt)
    | nil =>
    rw [bI_nil hbw]
    rw [merrW_ok hbw] at k
    have allw := bd_all hbw
    refine iteF ?_
    have lz : zs.length = W.length := hW.length
    refine ⟨_, rfl, c, zs, rfl, .inr (SqT.of (sm4 _ _ hc)), 1, _, rfl, ⟨by decide, by decide, by omega, by omega⟩, fun l5 nl5 => ?_⟩
    have nl5H : H l5 = none := Same.free sm4 nl5
    have sl5 : Same H (upd H4 l5 (.lst [])) := Same.new sm4 nl5
    refine lc_range (lo := 1) (n := ((zs.length : Nat) - 1 : Int).toNat) (fun i H' => Same H H' ∧ H' l5 = some (.lst ((oI W i).map V.int))) ⟨sl5, upd_same⟩ ?_ ?_
    · rintro i H6 hi ⟨sm, hl⟩
      have hi1 : i + 1 < W.length := by omega
      obtain ⟨x1, g1, d1⟩ := hW.at hi1
      obtain ⟨x0, g0, d0⟩ := hW.at (show i < W.length by omega)
      obtain ⟨a1, p, q, rfl, z1, ha1⟩ := d1.wire (allw _ (by rw [List.getD_eq_getElem?_getD, List.getElem?_eq_getElem hi1]; exact List.getElem_mem hi1))
      obtain ⟨a0, r, t, rfl, z0, ha0⟩ := d0.wire (allw _ (by rw [List.getD_eq_getElem?_getD, List.getElem?_eq_getElem (show i < W.length by omega)]; exact List.getElem_mem _))
      have c4 : SqT K H6 c zs := SqT.of (sm _ _ hc)
      have ei : (1 : Int) + (i : Int) = ((i + 1 : Nat) : Int) := by omega
      have ej : ((i + 1 : Nat) : Int) - 1 = (i : Int) := by omega
      rw [ei]
      refine ⟨rfl, _, rfl, _, rfl, c, zs, _, _, rfl, rfl, c4, atI_nat g1, _, rfl, _, rfl, _, _, rfl, rfl, c, zs, _, _, rfl, rfl, c4, by rw [ej]; exact atI_nat g0, ?_⟩
      refine ⟨a1, a0, [p, q], [r, t], rfl, rfl, SqT.of (sm _ _ ha1), SqT.of (sm _ _ ha0), _, rfl, ?_⟩
      show (if Ob.lexAt _ _ _ _ _ = true then _ else _)
      rw [lex_two, ← z1, ← z0]
      cases hz : orBad W i with
      | true =>
        rw [show leP (W.getD (i + 1) .none) (W.getD i .none) = true from hz]
        refine iteT ⟨_, rfl, _, hl, ?_, Same.put sm nl5H, ?_⟩
        · have := bI_len (orBad W) i
          unfold oI
          rw [List.length_map, List.length_map]
          exact Nat.lt_of_lt_of_le (show (bI (orBad W) i).length < 8000001 by omega) (by decide)
        · rw [upd_same, oI_succ, if_pos hz, List.map_append]
          rfl
      | false =>
        rw [show leP (W.getD (i + 1) .none) (W.getD i .none) = false from hz]
        refine iteF ⟨sm, ?_⟩
        rw [oI_succ, if_neg (by rw [hz]; decide), List.append_nil]
        exact hl
    rintro H5 ⟨sm5, hl5⟩
    rw [show ((zs.length : Nat) - 1 : Int).toNat = W.length - 1 by omega] at hl5
    refine ⟨_, rfl, by show 0 ≤ sizeLine; decide, fun l6 nl6 => ?_⟩
    have sm6 : Same H (upd H5 l6 (.lst [])) := Same.new sm5 nl6
    have hl6 : (upd H5 l6 (.lst [])) l5 = some (.lst ((oI W (W.length - 1)).map V.int)) := by
      rw [upd_ne (ne_of_none hl5 nl6)]
      exact hl5
    refine ⟨.list ((oI W (W.length - 1)).map PyData.int), .list [], .lst (SqL.of hl6) (DpAll.ints K _ _), .lst (SqL.of upd_same) .nil, shaped_ints _, rfl, _, rfl, ?_⟩
    rw [eqv_nil]
    generalize upd H5 l6 (.lst []) = H6 at *
    cases hbo : bd (orBad W) (W.length - 1) with
    | cons i r =>
      obtain ⟨r2, er⟩ := oI_cons hbo
      rw [merr3_ord hbo] at k
      rw [er] at hl6 ⊢
      refine iteT ⟨_, rfl, l5, _, 0, _, rfl, rfl, SqL.of hl6, atI_nat (j := 0) rfl, by show 2 ≤ sizeLine; decide, fun t nt => ?_⟩
      exact k _ _ (.tup upd_same (.cons (.str _) (.cons (.int _) .nil))) (Same.new sm6 nt)
    | nil =>
      rw [merr3_ok hbo] at k
      rw [show oI W (W.length - 1) = [] by unfold oI; rw [bI_nil hbo]; rfl]
      exact iteF (k _ _ .non sm6)

/-! ### what stands in the place of a size or a wire -/
theorem op_powB {X : Cx} : OpR X (binaryOp .Pow) (rI (fun i j => 0 ≤ j ∧ (Builtin.Int.intBits i : Int) * j ≤ 2 ^ 27) fun i j => V.int (i ^ j.toNat)) := by
  intro pins s σ H x y v u Q I rx ry h
  obtain ⟨i, j, rfl, rfl, ⟨h1, h2⟩, q⟩ := h
  obtain ⟨t, rfl⟩ := (show ∃ t, v = Value.int i t from rx)
  obtain ⟨t2, rfl⟩ := (show ∃ t, u = Value.int j t from ry)
  exact pow_int h1 h2 ⟨V.int (i ^ j.toNat), H, I.tok _, ⟨_, rfl⟩, q⟩
theorem DgAll.new {N : Addr → Prop} {H : Hp} {xs : List V} {ds : List PyData} {c : Addr} {o : HO} (D : DgAll N H xs ds) (h : H c = none) : DgAll N (upd H c o) xs ds := D.k (Ks.same (Same.new (Same.refl H) h))
theorem DgAll.add {N : Addr → Prop} {H : Hp} {xs : List V} {ds : List PyData} {v : V} {d : PyData} (D : DgAll N H xs ds) (h : Dg N H v d) : DgAll N H (xs ++ [v]) (ds ++ [d]) := D.append (.cons h .nil)
theorem DgAll.addT {N : Addr → Prop} {H : Hp} {xs ys : List V} {ds es : List PyData} {c : Addr} (D : DgAll N H xs ds) (h : H c = none) (e : DgAll N H ys es) : DgAll N (upd H c (.tup ys)) (xs ++ [.ref c]) (ds ++ [.tuple es]) := (D.new h).add (.tup upd_same (e.new h))
theorem DgAll.addL {N : Addr → Prop} {H : Hp} {xs ys : List V} {ds es : List PyData} {c : Addr} (D : DgAll N H xs ds) (h : H c = none) (n : N c) (e : DgAll N H ys es) : DgAll N (upd H c (.lst ys)) (xs ++ [.ref c]) (ds ++ [.list es]) := (D.new h).add (.lst n upd_same (e.new h))
theorem pick_dg {N : Addr → Prop} {H : Hp} {v : V} : ∀ {xs : List V} {ds : List PyData}, DgAll N H xs ds → ds.all okI = true → v ∈ xs → ∃ d, Dg N H v d ∧ okI d = true
  | _, _, .nil, _, h => by cases h
  | _, _, .cons a b, o, h => by
    rw [List.all_cons, Bool.and_eq_true] at o
    rcases List.mem_cons.mp h with e | h
    · exact ⟨_, e ▸ a, o.1⟩
    · exact pick_dg b o.2 h
theorem dg_lit {N : Addr → Prop} {H : Hp} {c c' : Addr} {zs : List V} {es : List PyData} (_ : (upd H c (.lst zs)) c' = none) (D : DgAll N (upd H c (.lst zs)) zs es) : DgAll N (upd H c (.lst zs)) zs es := D
theorem dg_fin {p q : Addr} {H H' : Hp} {v : V} {xs : List V} {ds : List PyData} (k : Kp p q H H') (P : Pt H p q) (hv : v ∈ xs) (D : DgAll (Np p q) H xs ds) (ok : ds.all okI = true) : ∃ d, Dg (Np p q) H' v d ∧ okI d = true := by
  obtain ⟨d, a, b⟩ := pick_dg D ok hv
  exact ⟨d, a.k (Ks.kp k P), b⟩
abbrev dI (n : Int) : PyData := .int n
theorem I2 {N : Addr → Prop} {H : Hp} (a b : Int) : DgAll N H [.int a, .int b] [.int a, .int b] := .cons (.int _) (.cons (.int _) .nil)
abbrev sc_l_odd_sizeN : List Str := ["pot", "some"]
theorem sc_l_odd_size : FnScope sc_l_odd_sizeN ["pot"] (defScope s_l_odd_size) := ⟨rfl, rfl, rfl, by decide +kernel, rfl, by decide +kernel, by decide +kernel⟩
theorem ok_odds {f : Addr} {fd : FuncData} (D : DefAt K mg "_law_odd_size" s_l_odd_size ["pot"] f fd) (c_l_pick : Cal P w K mg base 2 "_law_pick" spPick) : Cal P w K mg base 3 "_law_odd_size" spOddS := by
  refine cal_of D sc_l_odd_size (fun vs H Q E h => ?_) (fun cdv A outer s H vs Q E hr h => ?_)
  · obtain ⟨p, q, rfl, _⟩ := h
    rfl
  · obtain ⟨p, q, rfl, hP, k⟩ := h
    refine ⟨_, (pss_cons (ps_set (i := 1) sc_l_odd_size.nd rfl (.inl rfl) (pe_lst (pa_cons pe_int (pa_cons pe_int (pa_cons (pe_un un_neg pe_int) (pa_cons pe_bl (pa_cons pe_bl (pa_cons pe_int (pa_cons pe_int (pa_cons (pe_op op_mulW pe_int pe_int) (pa_cons (pe_op op_mulW pe_int pe_int) (pa_cons (pe_op op_pow pe_int pe_int) (pa_cons (pe_op op_add (pe_op op_pow pe_int pe_int) pe_int) (pa_cons (pe_op op_powB (pe_op op_pow pe_int pe_int) pe_int) (pa_cons (pe_op op_powB (pe_op op_pow pe_int pe_int) pe_int) pa_nil)))))))))))))))
      (pss_cons (ps_set (i := 1) sc_l_odd_size.nd rfl (.inl rfl) (pe_op op_cat (pv 1) (pe_lst (pa_cons (pe_op op_mulW (pe_op op_mulW (pe_op op_mulW (pe_op op_mulW (pe_op op_pow pe_int pe_int) (pe_op op_pow pe_int pe_int)) pe_int) (pe_op op_pow pe_int pe_int)) pe_int) (pa_cons (pe_op op_mulW (pe_op op_mulW (pe_op op_mulW (pe_op op_mulW (pe_op op_pow pe_int pe_int) (pe_op op_pow pe_int pe_int)) pe_int) (pe_op op_pow pe_int pe_int)) pe_int) pa_nil)))))
      (pss_cons (ps_set (i := 1) sc_l_odd_size.nd rfl (.inl rfl) (pe_op op_cat (pv 1) (pe_lst (pa_cons (pe_op op_pow pe_int pe_int) (pa_cons (pe_op op_pow pe_int pe_int) (pa_cons (pe_op op_pow pe_int pe_int) (pa_cons (pe_op op_pow pe_int pe_int) (pa_cons pe_str (pa_cons pe_non (pa_cons (pe_lst (pa_cons pe_int pa_nil)) (pa_cons (pe_tup (pa_cons pe_int pa_nil)) (pa_cons (pe_op op_powB (pe_op op_pow pe_int pe_int) pe_int) (pa_cons (pe_un un_neg (pe_op op_powB (pe_op op_pow pe_int pe_int) pe_int)) pa_nil)))))))))))))
      (pss_one (ps_ret (pe_c c_l_pick hr (by decide) rfl (pa_cons (pv 0) (pa_cons (pe_op op_cat (pv 1) (pe_lst (pa_cons pe_int (pa_cons (pe_op op_pow pe_int pe_int) (pa_cons (pe_op op_mulW pe_int pe_int) (pa_cons pe_int pa_nil)))))) pa_nil)))))))), ?_⟩
    refine ⟨_, rfl, _, _, rfl, rfl, wide_mul (a := 10) (b := 10) (by decide) (by decide) (by decide) (by decide) (by decide), _, _, rfl, rfl, wide_mul (a := 10) (b := 10) (by decide) (by decide) (by decide) (by decide) (by decide), _, _, rfl, rfl, ⟨by decide, by decide, by decide⟩, _, _, rfl, rfl, ⟨by decide, by decide, by decide⟩, _, _, rfl, rfl, _, _, rfl, rfl, ⟨by decide, by decide, by decide⟩, _, _, rfl, rfl, by decide +kernel, _, _, rfl, rfl, ⟨by decide, by decide, by decide⟩, _, _, rfl, rfl, by decide +kernel, by show 13 ≤ sizeLine; decide, fun c1 n1 => ?_⟩
    refine ⟨_, rfl, _, _, rfl, rfl, ⟨by decide, by decide, by decide⟩, _, _, rfl, rfl, ⟨by decide, by decide, by decide⟩, _, _, rfl, rfl, (by unfold CMulW; decide +kernel), _, _, rfl, rfl, (by unfold CMulW; decide +kernel), _, _, rfl, rfl, ⟨by decide, by decide, by decide⟩, _, _, rfl, rfl, (by unfold CMulW; decide +kernel), _, _, rfl, rfl, (by unfold CMulW; decide +kernel), _, _, rfl, rfl, ⟨by decide, by decide, by decide⟩, _, _, rfl, rfl, ⟨by decide, by decide, by decide⟩, _, _, rfl, rfl, (by unfold CMulW; decide +kernel), _, _, rfl, rfl, (by unfold CMulW; decide +kernel), _, _, rfl, rfl, ⟨by decide, by decide, by decide⟩, _, _, rfl, rfl, (by unfold CMulW; decide +kernel), _, _, rfl, rfl, (by unfold CMulW; decide +kernel), by show 2 ≤ sizeLine; decide, fun c2 n2 => ⟨c1, c2, _, _, rfl, rfl, keepN upd_same n2, upd_same, by show 13 + 2 ≤ sizeLine; decide, fun c3 n3 => ?_⟩⟩
    have D1 := dg_lit (N := Np p q) n2 (.cons (.int _) (.cons (.int _) (.cons (.int _) (.cons (.bl _) (.cons (.bl _) (.cons (.int _) (.cons (.int _) (.cons (.int _) (.cons (.int _) (.cons (.int _) (.cons (.int _) (.cons (.int _) (.cons (.int _) .nil)))))))))))))
    have E2 := dg_lit (N := Np p q) n3 (.cons (.int _) (.cons (.int _) .nil))
    have D2 := (D1.new n2).append E2
    refine ⟨_, rfl, _, _, rfl, rfl, ⟨by decide, by decide, by decide⟩, _, _, rfl, rfl, ⟨by decide, by decide, by decide⟩, _, _, rfl, rfl, ⟨by decide, by decide, by decide⟩, _, _, rfl, rfl, ⟨by decide, by decide, by decide⟩, by show 1 ≤ sizeLine; decide, fun l8 m8 => ⟨by show 1 ≤ sizeLine; decide, fun t8 n8 => ⟨_, _, rfl, rfl, ⟨by decide, by decide, by decide⟩, _, _, rfl, rfl, by decide +kernel, _, _, rfl, rfl, ⟨by decide, by decide, by decide⟩, _, _, rfl, rfl, by decide +kernel, _, rfl, by show 10 ≤ sizeLine; decide, fun c4 n4 => ⟨c3, c4, _, _, rfl, rfl, keepN (keepN (keepN upd_same m8) n8) n4, upd_same, by show 15 + 10 ≤ sizeLine; decide, fun c5 n5 => ?_⟩⟩⟩⟩
    have np8 : Np p q l8 := Pt.np (h := m8) (by exact ((hP.new n1).new n2).new n3)
    have E4 := dg_lit (N := Np p q) n5 (.cons (.int _) (.cons (.int _) (.cons (.int _) (.cons (.int _) (.cons (.str _) (.cons .non (.cons (.lst np8 (keepN (keepN upd_same n8) n4) (.cons (.int _) .nil)) (.cons (.tup (keepN upd_same n4) (.cons (.int _) .nil)) (.cons (.int _) (.cons (.int _) .nil))))))))))
    have D4 := ((((D2.new n3).new m8).new n8).new n4).append E4
    refine ⟨_, rfl, _, rfl, _, _, rfl, rfl, ⟨by decide, by decide, by decide⟩, _, _, rfl, rfl, (by unfold CMulW; decide +kernel), by show 4 ≤ sizeLine; decide, fun c6 n6 => ⟨c5, c6, _, _, rfl, rfl, keepN upd_same n6, upd_same, by show 25 + 4 ≤ sizeLine; decide, fun c7 n7 => ?_⟩⟩
    have E6 := dg_lit (N := Np p q) n7 (.cons (.int _) (.cons (.int _) (.cons (.int _) (.cons (.int _) .nil))))
    have D6 := ((D4.new n5).new n6).append E6
    obtain ⟨q1, q2⟩ := Pt.np (p := p) (q := q) (h := n7) (by exact ((((((((hP.new n1).new n2).new n3).new m8).new n8).new n4).new n5).new n6))
    refine ⟨p, q, c7, _, rfl, (((((((((hP.new n1).new n2).new n3).new m8).new n8).new n4).new n5).new n6).new n7), upd_same, q1, q2, List.cons_ne_nil _ _, by show 29 < 1000; decide, fun v H9 hv P9 k9 => ?_⟩
    obtain ⟨d, h1, h2⟩ := dg_fin k9 (((((((((hP.new n1).new n2).new n3).new m8).new n8).new n4).new n5).new n6).new n7) hv (D6.new n7) (by decide +kernel)
    exact k v d H9 h1 h2 P9 ((((((((((Kp.refl p q H).new n1).new n2).new n3).new m8).new n8).new n4).new n5).new n6).new n7 |>.trans k9)

abbrev sc_l_odd_wireN : List Str := ["pot", "many", "some"]
theorem sc_l_odd_wire : FnScope sc_l_odd_wireN ["pot", "many"] (defScope s_l_odd_wire) := ⟨rfl, rfl, rfl, by decide +kernel, rfl, by decide +kernel, by decide +kernel⟩
def oddWD (m : Int) : List PyData := [.tuple [.int 0, .int 0], .tuple [.int 0, .int m], .tuple [.int m, .int 0], .tuple [.int (-1), .int 0], .tuple [.bool false, .bool true], .tuple [.int 0, .bool true], .list [.int 0, .int 1], .tuple [.int 0, .int 1, .int 2], .tuple [.int 0], .tuple [], .none, .int 1] ++
  [.str "0>1", .tuple [.int 1, .int 0], .tuple [.int 0, .int 1], .tuple [.int (m - 1), .int 0], .tuple [.str "0", .str "1"], .tuple [.tuple [.int 0], .int 1], .tuple [.int 0, .list [.int 1]], .tuple [.int 0, .none]]
theorem oddW_ok {m : Nat} (h : m ≤ 6) : (oddWD (m : Int)).all okI = true := by
  have e : ∀ i : Fin 7, (oddWD ((i.val : Nat) : Int)).all okI = true := by decide +kernel
  exact e ⟨m, by omega⟩
theorem ok_oddw {f : Addr} {fd : FuncData} (D : DefAt K mg "_law_odd_wire" s_l_odd_wire ["pot", "many"] f fd) (c_l_pick : Cal P w K mg base 2 "_law_pick" spPick) : Cal P w K mg base 3 "_law_odd_wire" spOddW := by
  refine cal_of D sc_l_odd_wire (fun vs H Q E h => ?_) (fun cdv A outer s H vs Q E hr h => ?_)
  · obtain ⟨p, q, m, rfl, _⟩ := h
    rfl
  · obtain ⟨p, q, m, rfl, hm, hP, k⟩ := h
    refine ⟨_, (pss_cons (ps_set (i := 2) sc_l_odd_wire.nd rfl (.inl rfl) (pe_lst (pa_cons (pe_tup (pa_cons pe_int (pa_cons pe_int pa_nil))) (pa_cons (pe_tup (pa_cons pe_int (pa_cons (pv 1) pa_nil))) (pa_cons (pe_tup (pa_cons (pv 1) (pa_cons pe_int pa_nil))) (pa_cons (pe_tup (pa_cons (pe_un un_neg pe_int) (pa_cons pe_int pa_nil))) (pa_cons (pe_tup (pa_cons pe_bl (pa_cons pe_bl pa_nil))) (pa_cons (pe_tup (pa_cons pe_int (pa_cons pe_bl pa_nil))) (pa_cons (pe_lst (pa_cons pe_int (pa_cons pe_int pa_nil))) (pa_cons (pe_tup (pa_cons pe_int (pa_cons pe_int (pa_cons pe_int pa_nil)))) (pa_cons (pe_tup (pa_cons pe_int pa_nil)) (pa_cons (pe_tup pa_nil) (pa_cons pe_non (pa_cons pe_int pa_nil))))))))))))))
      (pss_one (ps_ret (pe_c c_l_pick hr (by decide) rfl (pa_cons (pv 0) (pa_cons (pe_op op_cat (pv 2) (pe_lst (pa_cons pe_str (pa_cons (pe_tup (pa_cons pe_int (pa_cons pe_int pa_nil))) (pa_cons (pe_tup (pa_cons pe_int (pa_cons pe_int pa_nil))) (pa_cons (pe_tup (pa_cons (pe_op op_sub (pv 1) pe_int) (pa_cons pe_int pa_nil))) (pa_cons (pe_tup (pa_cons pe_str (pa_cons pe_str pa_nil))) (pa_cons (pe_tup (pa_cons (pe_tup (pa_cons pe_int pa_nil)) (pa_cons pe_int pa_nil))) (pa_cons (pe_tup (pa_cons pe_int (pa_cons (pe_lst (pa_cons pe_int pa_nil)) pa_nil))) (pa_cons (pe_tup (pa_cons pe_int (pa_cons pe_non pa_nil))) pa_nil)))))))))) pa_nil)))))), ?_⟩
    refine ⟨by show 2 ≤ sizeLine; decide, fun t1 n1 => ⟨_, rfl, by show 2 ≤ sizeLine; decide, fun t2 n2 => ⟨_, rfl, by show 2 ≤ sizeLine; decide, fun t3 n3 => ⟨_, rfl, by show 2 ≤ sizeLine; decide, fun t4 n4 => ⟨by show 2 ≤ sizeLine; decide, fun t5 n5 => ⟨by show 2 ≤ sizeLine; decide, fun t6 n6 => ⟨by show 2 ≤ sizeLine; decide, fun t7 n7 => ⟨by show 3 ≤ sizeLine; decide, fun t8 n8 => ⟨by show 1 ≤ sizeLine; decide, fun t9 n9 => ⟨by show 0 ≤ sizeLine; decide, fun t10 n10 => ⟨by show 12 ≤ sizeLine; decide, fun c1 m1 => ?_⟩⟩⟩⟩⟩⟩⟩⟩⟩⟩⟩
    have np7 : Np p q t7 := Pt.np (h := n7) (by exact (((((hP.new n1).new n2).new n3).new n4).new n5).new n6)
    refine ⟨_, rfl, _, rfl, by show 2 ≤ sizeLine; decide, fun u1 w1 => ⟨by show 2 ≤ sizeLine; decide, fun u2 w2 => ⟨_, rfl, _, _, rfl, rfl, by show 2 ≤ sizeLine; decide, fun u3 w3 => ⟨by show 2 ≤ sizeLine; decide, fun u4 w4 => ⟨by show 1 ≤ sizeLine; decide, fun u5 w5 => ⟨by show 2 ≤ sizeLine; decide, fun u6 w6 => ⟨by show 1 ≤ sizeLine; decide, fun u7 w7 => ⟨by show 2 ≤ sizeLine; decide, fun u8 w8 => ⟨by show 2 ≤ sizeLine; decide, fun u9 w9 => ⟨by show 8 ≤ sizeLine; decide, fun c2 m2 => ⟨c1, c2, _, _, rfl, rfl, (keepN (keepN (keepN (keepN (keepN (keepN (keepN (keepN (keepN (keepN upd_same w1) w2) w3) w4) w5) w6) w7) w8) w9) m2), upd_same, by show 12 + 8 ≤ sizeLine; decide, fun c3 m3 => ?_⟩⟩⟩⟩⟩⟩⟩⟩⟩⟩⟩
    have npu : Np p q u7 := Pt.np (h := w7) (by exact (((((((((((((((((hP.new n1).new n2).new n3).new n4).new n5).new n6).new n7).new n8).new n9).new n10).new m1).new w1).new w2).new w3).new w4).new w5).new w6))
    have D1 := dg_lit (N := Np p q) w1 (.cons (.tup (keepN (keepN (keepN (keepN (keepN (keepN (keepN (keepN (keepN (keepN upd_same n2) n3) n4) n5) n6) n7) n8) n9) n10) m1) (.cons (.int _) (.cons (.int _) .nil))) (.cons (.tup (keepN (keepN (keepN (keepN (keepN (keepN (keepN (keepN (keepN upd_same n3) n4) n5) n6) n7) n8) n9) n10) m1) (.cons (.int _) (.cons (.int _) .nil))) (.cons (.tup (keepN (keepN (keepN (keepN (keepN (keepN (keepN (keepN upd_same n4) n5) n6) n7) n8) n9) n10) m1) (.cons (.int _) (.cons (.int _) .nil))) (.cons (.tup (keepN (keepN (keepN (keepN (keepN (keepN (keepN upd_same n5) n6) n7) n8) n9) n10) m1) (.cons (.int _) (.cons (.int _) .nil))) (.cons (.tup (keepN (keepN (keepN (keepN (keepN (keepN upd_same n6) n7) n8) n9) n10) m1) (.cons (.bl _) (.cons (.bl _) .nil))) (.cons (.tup (keepN (keepN (keepN (keepN (keepN upd_same n7) n8) n9) n10) m1) (.cons (.int _) (.cons (.bl _) .nil))) (.cons (.lst np7 (keepN (keepN (keepN (keepN upd_same n8) n9) n10) m1) (.cons (.int _) (.cons (.int _) .nil))) (.cons (.tup (keepN (keepN (keepN upd_same n9) n10) m1) (.cons (.int _) (.cons (.int _) (.cons (.int _) .nil)))) (.cons (.tup (keepN (keepN upd_same n10) m1) (.cons (.int _) .nil)) (.cons (.tup (keepN upd_same m1) .nil) (.cons .non (.cons (.int _) .nil))))))))))))
    have E2 := dg_lit (N := Np p q) m3 (.cons (.str _) (.cons (.tup (keepN (keepN (keepN (keepN (keepN (keepN (keepN (keepN (keepN upd_same w2) w3) w4) w5) w6) w7) w8) w9) m2) (.cons (.int _) (.cons (.int _) .nil))) (.cons (.tup (keepN (keepN (keepN (keepN (keepN (keepN (keepN (keepN upd_same w3) w4) w5) w6) w7) w8) w9) m2) (.cons (.int _) (.cons (.int _) .nil))) (.cons (.tup (keepN (keepN (keepN (keepN (keepN (keepN (keepN upd_same w4) w5) w6) w7) w8) w9) m2) (.cons (.int _) (.cons (.int _) .nil))) (.cons (.tup (keepN (keepN (keepN (keepN (keepN (keepN upd_same w5) w6) w7) w8) w9) m2) (.cons (.str _) (.cons (.str _) .nil))) (.cons (.tup (keepN (keepN (keepN (keepN upd_same w7) w8) w9) m2) (.cons (.tup (keepN (keepN (keepN (keepN (keepN upd_same w6) w7) w8) w9) m2) (.cons (.int _) .nil)) (.cons (.int _) .nil))) (.cons (.tup (keepN (keepN upd_same w9) m2) (.cons (.int _) (.cons (.lst npu (keepN (keepN (keepN upd_same w8) w9) m2) (.cons (.int _) .nil)) .nil))) (.cons (.tup (keepN upd_same m2) (.cons (.int _) (.cons .non .nil))) .nil))))))))
    have D2 := ((((((((((D1.new w1).new w2).new w3).new w4).new w5).new w6).new w7).new w8).new w9).new m2).append E2
    obtain ⟨q1, q2⟩ := Pt.np (p := p) (q := q) (h := m3) (by exact (((((((((((((((((((((hP.new n1).new n2).new n3).new n4).new n5).new n6).new n7).new n8).new n9).new n10).new m1).new w1).new w2).new w3).new w4).new w5).new w6).new w7).new w8).new w9).new m2))
    refine ⟨p, q, c3, _, rfl, ((((((((((((((((((((((hP.new n1).new n2).new n3).new n4).new n5).new n6).new n7).new n8).new n9).new n10).new m1).new w1).new w2).new w3).new w4).new w5).new w6).new w7).new w8).new w9).new m2).new m3), upd_same, q1, q2, List.cons_ne_nil _ _, by show 20 < 1000; decide, fun v H9 hv P9 k9 => ?_⟩
    obtain ⟨d, h1, h2⟩ := dg_fin k9 ((((((((((((((((((((((hP.new n1).new n2).new n3).new n4).new n5).new n6).new n7).new n8).new n9).new n10).new m1).new w1).new w2).new w3).new w4).new w5).new w6).new w7).new w8).new w9).new m2).new m3) hv (D2.new m3) (oddW_ok hm)
    exact k v d H9 h1 h2 P9 ((((((((((((((((((((((((Kp.refl p q H).new n1).new n2).new n3).new n4).new n5).new n6).new n7).new n8).new n9).new n10).new m1).new w1).new w2).new w3).new w4).new w5).new w6).new w7).new w8).new w9).new m2).new m3).trans k9)

/-! ### _law_spoilt -/
theorem cut_all {xs : List V} {lo hi : Option Int} (h : HT.sIx xs.length 0 lo = 0 ∧ HT.sIx xs.length xs.length hi = xs.length) : cutV xs lo hi = xs := by
  unfold cutV
  rw [h.1, h.2, List.drop_zero, Nat.sub_zero, List.take_length]
theorem sl_any {K : PySem.W.Frag} {a : Addr} {xs : List V} {lo hi : Option Int} {H : Hp} {Q : VK} (h : H a = some (.tup xs)) (k : ∀ c H', Same H H' → H' c = some (.tup (cutV xs lo hi)) → Q (.ref c) H') : rSlA K (.ref a) lo hi H Q :=
  ⟨a, xs, rfl, SqT.of h, fun e => k a H (Same.refl H) (by rw [cut_all e]; exact h), fun _ p n => k p _ (Same.new (Same.refl H) n) upd_same⟩
theorem cat_any {K : PySem.W.Frag} {a b : Addr} {xs ys : List V} {H : Hp} {Q : VK} (h : H a = some (.tup xs)) (h2 : H b = some (.tup ys)) (l : xs.length + ys.length ≤ sizeLine) (k : ∀ c H', Same H H' → H' c = some (.tup (xs ++ ys)) → Q (.ref c) H') : rCatA K (.ref a) (.ref b) H Q :=
  ⟨a, b, xs, ys, rfl, rfl, SqT.of h, SqT.of h2, l, fun e => k b H (Same.refl H) (by rw [e, List.nil_append]; exact h2), fun _ e => k a H (Same.refl H) (by rw [e, List.append_nil]; exact h), fun _ _ p n => k p _ (Same.new (Same.refl H) n) upd_same⟩
theorem DgAll.cut {N : Addr → Prop} {H : Hp} {xs : List V} {ds : List PyData} (lo hi : Option Int) (h : DgAll N H xs ds) : ∃ es, DgAll N H (cutV xs lo hi) es ∧ es.length ≤ ds.length ∧ ∀ x ∈ es, x ∈ ds := by
  unfold cutV
  refine ⟨_, (h.drop _).take _, ?_, fun x hx => List.mem_of_mem_drop (List.mem_of_mem_take hx)⟩
  rw [List.length_take, List.length_drop]
  omega
theorem DgAll.s {N : Addr → Prop} {H H' : Hp} {xs : List V} {ds : List PyData} (h : DgAll N H xs ds) (e : Same H H') : DgAll N H' xs ds := h.k (Ks.same e)
theorem DgAll.fst {N : Addr → Prop} {H : Hp} {x y : V} {a b : PyData} (h : DgAll N H [x, y] [a, b]) : Dg N H x a := by cases h with | cons h _ => exact h
theorem DgAll.snd {N : Addr → Prop} {H : Hp} {x y : V} {a b : PyData} (h : DgAll N H [x, y] [a, b]) : Dg N H y b := by cases h with | cons _ h => cases h with | cons h _ => exact h
theorem Kp.sm {p q : Addr} {H H1 H' : Hp} (k : Kp p q H H1) (e : Same H1 H') : Kp p q H H' := fun b u n1 n2 z => e b u (k b u n1 n2 z)
theorem noPart {σ : L2.St} {H : Hp} {Q : Option Int → Hp → Prop} (h : Q none H) : tNoPart σ H Q := h
theorem tupG {l : List PyData} (h : ∀ x ∈ l, okI x = true) (n : l.length ≤ 100) : okG 1000203 4 (.tuple l) = true := okG_tup h (by omega) (by decide)
theorem lstG {l : List PyData} (h : ∀ x ∈ l, okI x = true) (n : l.length ≤ 100) : okG 1000203 4 (.list l) = true := okG_lst h (by omega) (by decide)
theorem shT {l : List PyData} (h : ∀ x ∈ l, okG 1000203 4 x = true) (n : l.length ≤ 4) : ShV (.tuple l) := okG_sh (c := 5000000) (dp := 5) (okG_tup h (by omega) (by decide)) (by decide) (by decide)
theorem shL {l : List PyData} (h : ∀ x ∈ l, okG 1000203 4 x = true) (n : l.length ≤ 4) : ShV (.list l) := okG_sh (c := 5000000) (dp := 5) (okG_lst h (by omega) (by decide)) (by decide) (by decide)
theorem mem2 {f : PyData → Bool} {a b : PyData} (h1 : f a = true) (h2 : f b = true) : ∀ x ∈ [a, b], f x = true := fun x hx => by
  rcases List.mem_cons.mp hx with e | hx
  · rw [e]; exact h1
  · rw [List.mem_singleton.mp hx]; exact h2
theorem mem3 {f : PyData → Bool} {a b c : PyData} (h1 : f a = true) (h2 : f b = true) (h3 : f c = true) : ∀ x ∈ [a, b, c], f x = true := fun x hx => by
  rcases List.mem_cons.mp hx with e | hx
  · rw [e]; exact h1
  · exact mem2 h2 h3 x hx
theorem mem1 {f : PyData → Bool} {a : PyData} (h1 : f a = true) : ∀ x ∈ [a], f x = true := fun x hx => by rw [List.mem_singleton.mp hx]; exact h1
/-- a pair of tuples is told -/
theorem fin2 {p q b c : Addr} {H0 H1 : Hp} {Q : VK} {xs ys : List V} {S W : List PyData} (k : ∀ (v : V) (d : PyData) (H' : Hp), Dv (Np p q) H' v d → Fit d → Pt H' p q → Kp p q H0 H' → Q v H') (hb : H1 b = some (.tup xs)) (hS : DgAll (Np p q) H1 xs S) (hc : H1 c = some (.tup ys)) (hW : DgAll (Np p q) H1 ys W)
    (oS : ∀ x ∈ S, okI x = true) (lS : S.length ≤ 100) (oW : ∀ x ∈ W, okI x = true) (lW : W.length ≤ 100) (P : Pt H1 p q) (kp : Kp p q H0 H1) : ∀ t, H1 t = none → Q (.ref t) (upd H1 t (.tup [.ref b, .ref c])) := fun t nt =>
  k _ (.tuple [.tuple S, .tuple W]) _ (.inl (.tup upd_same (DgAll.new (.cons (.tup hb hS) (.cons (.tup hc hW) .nil)) nt))) ⟨shT (mem2 (tupG oS lS) (tupG oW lW)) (by show 2 ≤ 4; decide), decide_eq_true lW⟩ (P.new nt) (kp.new nt)
def Men (N : Addr → Prop) (H : Hp) (xs : List V) : Prop := ∀ v ∈ xs, ∃ d, Dv N H v d ∧ Fit d
theorem Men.nil {N : Addr → Prop} {H : Hp} : Men N H [] := fun v h => by cases h
theorem Men.cons {N : Addr → Prop} {H : Hp} {v : V} {xs : List V} {d : PyData} (h : Dv N H v d) (s : Fit d) (m : Men N H xs) : Men N H (v :: xs) := fun u hu => by
  rcases List.mem_cons.mp hu with e | hu
  · exact ⟨d, e ▸ h, s⟩
  · exact m u hu
theorem Men.append {N : Addr → Prop} {H : Hp} {xs ys : List V} (a : Men N H xs) (b : Men N H ys) : Men N H (xs ++ ys) := fun u hu => by
  rcases List.mem_append.mp hu with h | h
  · exact a u h
  · exact b u h
theorem Men.new {N : Addr → Prop} {H : Hp} {xs : List V} {c : Addr} {o : HO} (m : Men N H xs) (h : H c = none) : Men N (upd H c o) xs := fun v hv => by
  obtain ⟨d, a, b⟩ := m v hv
  exact ⟨d, a.k (Ks.same (Same.new (Same.refl H) h)), b⟩
theorem men_lit {N : Addr → Prop} {H : Hp} {c c' : Addr} {zs : List V} (_ : (upd H c (.lst zs)) c' = none) (D : Men N (upd H c (.lst zs)) zs) : Men N (upd H c (.lst zs)) zs := D
theorem sh_small {d : PyData} (h : okI d = true) : ShV d := okG_sh h (by decide) (by decide)
theorem len1 (r : Int) (h : 0 ≤ r) : ∃ n : Nat, r = (n : Int) := ⟨r.toNat, by omega⟩
abbrev sc_l_spoiltN : List Str := ["pot", "machine", "sizes", "wires", "kind", "at", "spot", "odd"]
theorem sc_l_spoilt : FnScope sc_l_spoiltN ["pot", "machine"] (defScope s_l_spoilt) := ⟨rfl, rfl, rfl, by decide +kernel, rfl, by decide +kernel, by decide +kernel⟩
theorem ok_spoilt {f : Addr} {fd : FuncData} (D : DefAt K mg "_law_spoilt" s_l_spoilt ["pot", "machine"] f fd) (T : Blt mg) (c_l_dip : Cal P w K mg base 1 "_law_dip" spDip) (c_l_pick : Cal P w K mg base 2 "_law_pick" spPick) (c_l_odd_size : Cal P w K mg base 3 "_law_odd_size" spOddS) (c_l_odd_wire : Cal P w K mg base 3 "_law_odd_wire" spOddW) : Cal P w K mg base 4 "_law_spoilt" spSpoilt := by
  refine cal_of D sc_l_spoilt (fun vs H Q E h => ?_) (fun cdv A outer s H vs Q E hr h => ?_)
  · obtain ⟨p, q, v, d, S, W, rfl, _⟩ := h
    rfl
  · obtain ⟨p, q, v, d, S, W, rfl, hP, hd, al, lW, k⟩ := h
    refine ⟨_, (pss_cons (ps_asg (pv 1) (pg_tup rfl (pgs_cons (pg_name (i := 2) sc_l_spoilt.nd rfl (.inl rfl)) (pgs_cons (pg_name (i := 3) sc_l_spoilt.nd rfl (.inl rfl)) pgs_nil))))
      (pss_cons (ps_par (i := 4) (j := 5) rfl sc_l_spoilt.nd rfl rfl (by decide) rfl rfl (pa_cons (pe_c c_l_dip hr (by decide) rfl (pa_cons (pv 0) (pa_cons pe_int pa_nil))) (pa_cons (pe_c c_l_dip hr (by decide) rfl (pa_cons (pv 0) (pa_cons (pe_callB (call_lenK K rfl) (by rfl) T.len PySem.boot_len (pa_cons (pv 2) pa_nil)) pa_nil))) pa_nil)) (by rfl))
      (pss_cons (ps_set (i := 6) sc_l_spoilt.nd rfl (.inl rfl) (pe_c c_l_dip hr (by decide) rfl (pa_cons (pv 0) (pa_cons (pe_op op_add (pe_callB (call_lenK K rfl) (by rfl) T.len PySem.boot_len (pa_cons (pv 3) pa_nil)) pe_int) pa_nil))))
      (pss_cons (ps_if (pt_cmpR op_lt (pv 4) pe_int (nomark _)) (pss_one (ps_ret (pe_tup (pa_cons (pe_op op_catA (pe_op op_catA (pe_slice sl_tupA (pv 2) po_none (po_some (pv 5))) (pe_tup (pa_cons (pe_c c_l_odd_size hr (by decide) rfl (pa_cons (pv 0) pa_nil)) pa_nil))) (pe_slice sl_tupA (pv 2) (po_some (pe_op op_add (pv 5) pe_int)) po_none)) (pa_cons (pv 3) pa_nil))))) pss_nil)
      (pss_cons (ps_if (pt_cmpR op_lt (pv 4) pe_int (nomark _)) (pss_one (ps_ret (pe_tup (pa_cons (pv 2) (pa_cons (pe_op op_catA (pe_op op_catA (pe_slice sl_tupA (pv 3) po_none (po_some (pv 6))) (pe_tup (pa_cons (pe_c c_l_odd_wire hr (by decide) rfl (pa_cons (pv 0) (pa_cons (pe_callB (call_lenK K rfl) (by rfl) T.len PySem.boot_len (pa_cons (pv 2) pa_nil)) pa_nil))) pa_nil))) (pe_slice sl_tupA (pv 3) (po_some (pe_op op_add (pv 6) (pe_c c_l_dip hr (by decide) rfl (pa_cons (pv 0) (pa_cons pe_int pa_nil))))) po_none)) pa_nil))))) pss_nil)
      (pss_cons (ps_if (pt_cmpR op_eq (pv 4) pe_int (nomark _)) (pss_one (ps_ret (pe_tup (pa_cons (pv 2) (pa_cons (pe_op op_catA (pe_slice sl_tupA (pv 3) (po_some (pv 6)) po_none) (pe_slice sl_tupA (pv 3) po_none (po_some (pv 6)))) pa_nil))))) pss_nil)
      (pss_cons (ps_if (pt_cmpR op_eq (pv 4) pe_int (nomark _)) (pss_one (ps_ret (pe_ifExp (pt_cmpR op_eq (pe_c c_l_dip hr (by decide) rfl (pa_cons (pv 0) (pa_cons pe_int pa_nil))) pe_int (nomark _)) (pe_tup (pa_cons (pe_slice sl_tupA (pv 2) po_none (po_some (pv 5))) (pa_cons (pv 3) pa_nil))) (pe_tup (pa_cons (pe_op op_catA (pv 2) (pv 2)) (pa_cons (pv 3) pa_nil)))))) pss_nil)
      (pss_cons (ps_if (pt_cmpR op_eq (pv 4) pe_int (nomark _)) (pss_one (ps_ret (pe_tup (pa_cons (pv 2) (pa_cons (pe_op op_catA (pe_slice sl_tupA (pv 3) po_none (po_some (pv 6))) (pe_slice sl_tupA (pv 3) (po_some (pe_callB (call_max2 rfl) (by rfl) T.max boot_max (pa_cons (pe_op op_sub (pv 6) pe_int) (pa_cons pe_int pa_nil)))) po_none)) pa_nil))))) pss_nil)
      (pss_cons (ps_set (i := 7) sc_l_spoilt.nd rfl (.inl rfl) (pe_lst (pa_cons (pe_tup (pa_cons (pe_callTy (call_listK K rfl) (by rfl) T.list (by decide +kernel) (pa_cons (pv 2) pa_nil)) (pa_cons (pv 3) pa_nil))) (pa_cons (pe_tup (pa_cons (pv 2) (pa_cons (pe_callTy (call_listK K rfl) (by rfl) T.list (by decide +kernel) (pa_cons (pv 3) pa_nil)) pa_nil))) (pa_cons (pe_lst (pa_cons (pv 2) (pa_cons (pv 3) pa_nil))) (pa_cons (pe_tup (pa_cons (pv 2) (pa_cons (pv 3) (pa_cons (pe_tup pa_nil) pa_nil)))) (pa_cons (pe_tup (pa_cons (pv 2) pa_nil)) (pa_cons (pv 2) pa_nil))))))))
      (pss_cons (ps_set (i := 7) sc_l_spoilt.nd rfl (.inl rfl) (pe_op op_cat (pv 7) (pe_lst (pa_cons (pe_tup (pa_cons (pv 3) (pa_cons (pv 2) pa_nil))) (pa_cons (pe_tup (pa_cons (pv 2) (pa_cons pe_non pa_nil))) (pa_cons (pe_tup (pa_cons pe_non (pa_cons (pv 3) pa_nil))) (pa_cons (pe_tup (pa_cons (pe_tup pa_nil) (pa_cons (pe_tup pa_nil) pa_nil))) (pa_cons pe_dnewK (pa_cons pe_non (pa_cons pe_str (pa_cons pe_int (pa_cons pe_bl (pa_cons (pe_tup pa_nil) pa_nil)))))))))))))
      (pss_one (ps_ret (pe_c c_l_pick hr (by decide) rfl (pa_cons (pv 0) (pa_cons (pe_op op_cat (pv 7) (pe_lst (pa_cons (pe_tup (pa_cons (pe_op op_repT (pe_tup (pa_cons pe_int pa_nil)) pe_int) (pa_cons (pe_tup pa_nil) pa_nil))) pa_nil))) pa_nil))))))))))))))), ?_⟩
    obtain ⟨rfl, l1, l6, sz, wr⟩ := al
    obtain ⟨a, zs, rfl, ha, hz⟩ := hd.tuple
    obtain ⟨b, xs, c, ys, rfl, hb0, hS0, hc0, hW0⟩ : ∃ b xs c ys, zs = [.ref b, .ref c] ∧ H b = some (.tup xs) ∧ DgAll (Np p q) H xs S ∧ H c = some (.tup ys) ∧ DgAll (Np p q) H ys W := by
      match zs, hz with
      | _, .cons hx (.cons hy .nil) =>
        obtain ⟨b, xs, rfl, hb, hS⟩ := hx.tuple
        obtain ⟨c, ys, rfl, hc, hW⟩ := hy.tuple
        exact ⟨b, xs, c, ys, rfl, hb, hS, hc, hW⟩
    have oS : ∀ x ∈ S, okI x = true := fun x hx => isSz_ok (sz x hx)
    have oW : ∀ x ∈ W, okI x = true := fun x hx => isWr_ok l6 (wr x hx)
    have lx : xs.length = S.length := hS0.length
    have ly : ys.length = W.length := hW0.length
    refine ⟨_, rfl, a, _, rfl, SqT.of ha, rfl, _, _, rfl, _, _, rfl, rfl, ?_⟩
    refine ⟨_, rfl, p, q, _, rfl, hP, by decide, by decide, fun r1 H1 a1 b1 P1 k1 => ?_⟩
    have hb1 := (k1.tk hP) _ _ hb0
    refine ⟨_, rfl, _, rfl, b, xs, rfl, .inr (SqT.of hb1), p, q, _, rfl, P1, by omega, by omega, fun r2 H2 a2 b2 P2 k2 => ⟨_, _, rfl, ?_⟩⟩
    have hc2 := (k2.tk P1) _ _ ((k1.tk hP) _ _ hc0)
    refine ⟨_, rfl, _, rfl, c, ys, rfl, .inr (SqT.of hc2), _, _, rfl, rfl, p, q, _, rfl, P2, by omega, by omega, fun r3 H3 a3 b3 P3 k3 => ?_⟩
    have kp : Kp p q H H3 := (k1.trans k2).trans k3
    have hb : H3 b = some (.tup xs) := (kp.tk hP) _ _ hb0
    have hc : H3 c = some (.tup ys) := (kp.tk hP) _ _ hc0
    have hS : DgAll (Np p q) H3 xs S := hS0.k (Ks.kp kp hP)
    have hW : DgAll (Np p q) H3 ys W := hW0.k (Ks.kp kp hP)
    clear hb0 hc0 hS0 hW0 hb1 hc2 k1 k2 k3 P1 P2
    refine ⟨_, rfl, _, _, rfl, rfl, _, rfl, ?_⟩
    refine ite2 (fun _ => ?_) (fun _ => ?_)
    · refine ⟨_, rfl, _, rfl, _, rfl, sl_any hb fun c1 H4 sm4 h1 => ?_⟩
      have P4 := P3.same sm4
      obtain ⟨e1, g1, le1, me1⟩ := hS.cut none (some r2)
      have lc1 := g1.length
      refine ⟨_, rfl, p, q, rfl, P4, fun v dv H5 g5 o5 P5 k5 => ⟨by show 1 ≤ sizeLine; decide, fun c2 n2 => ?_⟩⟩
      refine cat_any (keepN ((k5.tk P4) _ _ h1) n2) upd_same (by rw [lc1]; exact Nat.le_trans (show e1.length + 1 ≤ 7 by omega) (by decide)) fun c3 H6 sm6 h3 => ?_
      have s36 : Ks (Np p q) H3 H6 := (((Ks.same sm4).trans (Ks.kp k5 P4)).trans (Ks.same (Same.new (Same.refl H5) n2))).trans (Ks.same sm6)
      have P6 := (P5.new (o := .tup [v]) n2).same sm6
      have kp6 : Kp p q H3 H6 := Kp.sm (((Kp.sm (Kp.refl p q H3) sm4).trans k5).new n2) sm6
      have d3 : DgAll (Np p q) H6 _ (e1 ++ [dv]) := ((g1.k (((Ks.same sm4).trans (Ks.kp k5 P4)).trans (Ks.same (Same.new (o := .tup [v]) (Same.refl H5) n2)))).append (.cons (g5.k (Ks.same (Same.new (Same.refl H5) n2))) .nil)).s sm6
      refine ⟨_, rfl, _, rfl, _, _, rfl, rfl, _, rfl, noPart (sl_any (s36.tup _ _ hb) fun c4 H7 sm7 h4 => ?_)⟩
      obtain ⟨e2, g2, le2, me2⟩ := (hS.k s36).cut (some (r2 + 1)) none
      have lc2 := g2.length
      have lc3 := d3.length
      refine cat_any (sm7 _ _ h3) h4 (by rw [lc2, lc3, List.length_append, List.length_singleton]; exact Nat.le_trans (show e1.length + 1 + e2.length ≤ 13 by omega) (by decide)) fun c5 H8 sm8 h5 => ?_
      refine ⟨_, rfl, by show 2 ≤ sizeLine; decide, fin2 k h5 ((d3.s sm7).append (g2.s sm7) |>.s sm8) (sm8 _ _ (sm7 _ _ (s36.tup _ _ hc))) (((hW.k s36).s sm7).s sm8) ?_ ?_ oW (by omega) ((P6.same sm7).same sm8) (kp.trans (Kp.sm (Kp.sm kp6 sm7) sm8))⟩
      · intro x hx
        rcases List.mem_append.mp hx with hx | hx
        · rcases List.mem_append.mp hx with hx | hx
          · exact oS x (me1 x hx)
          · rw [List.mem_singleton.mp hx]
            exact o5
        · exact oS x (me2 x hx)
      · rw [List.length_append, List.length_append, List.length_singleton]
        omega
    refine ⟨_, rfl, _, _, rfl, rfl, _, rfl, ?_⟩
    refine ite2 (fun _ => ?_) (fun _ => ?_)
    · refine ⟨_, rfl, _, rfl, _, rfl, _, rfl, sl_any hc fun c1 H4 sm4 h1 => ?_⟩
      have P4 := P3.same sm4
      obtain ⟨e1, g1, le1, me1⟩ := hW.cut none (some r3)
      have lc1 := g1.length
      refine ⟨_, rfl, _, rfl, b, xs, rfl, .inr (SqT.of (sm4 _ _ hb)), p, q, xs.length, rfl, by omega, P4, fun v dv H5 g5 o5 P5 k5 => ⟨by show 1 ≤ sizeLine; decide, fun c2 n2 => ?_⟩⟩
      refine cat_any (keepN ((k5.tk P4) _ _ h1) n2) upd_same (by rw [lc1]; exact Nat.le_trans (show e1.length + 1 ≤ 37 by omega) (by decide)) fun c3 H6 sm6 h3 => ?_
      have s36 : Ks (Np p q) H3 H6 := (((Ks.same sm4).trans (Ks.kp k5 P4)).trans (Ks.same (Same.new (Same.refl H5) n2))).trans (Ks.same sm6)
      have P6 := (P5.new (o := .tup [v]) n2).same sm6
      have kp6 : Kp p q H3 H6 := Kp.sm (((Kp.sm (Kp.refl p q H3) sm4).trans k5).new n2) sm6
      have d3 : DgAll (Np p q) H6 _ (e1 ++ [dv]) := ((g1.k (((Ks.same sm4).trans (Ks.kp k5 P4)).trans (Ks.same (Same.new (o := .tup [v]) (Same.refl H5) n2)))).append (.cons (g5.k (Ks.same (Same.new (Same.refl H5) n2))) .nil)).s sm6
      refine ⟨_, rfl, _, rfl, _, rfl, p, q, _, rfl, P6, by decide, by decide, fun r4 H7 a4 b4 P7 k7 => ⟨_, _, rfl, rfl, _, rfl, ?_⟩⟩
      refine noPart (sl_any ((k7.tk P6) _ _ (s36.tup _ _ hc)) fun c4 H8 sm8 h4 => ?_)
      obtain ⟨e2, g2, le2, me2⟩ := ((hW.k s36).k (Ks.kp k7 P6)).cut (some (r3 + r4)) none
      have lc2 := g2.length
      have lc3 := d3.length
      refine cat_any (sm8 _ _ ((k7.tk P6) _ _ h3)) h4 (by rw [lc2, lc3, List.length_append, List.length_singleton]; exact Nat.le_trans (show e1.length + 1 + e2.length ≤ 73 by omega) (by decide)) fun c5 H9 sm9 h5 => ?_
      refine ⟨by show 2 ≤ sizeLine; decide, fin2 k (sm9 _ _ (sm8 _ _ ((k7.tk P6) _ _ (s36.tup _ _ hb)))) (((((hS.k s36).k (Ks.kp k7 P6))).s sm8).s sm9) h5 ((((d3.k (Ks.kp k7 P6)).s sm8).append (g2.s sm8)).s sm9) oS (by omega) ?_ ?_ ((P7.same sm8).same sm9) (kp.trans (Kp.sm (Kp.sm (kp6.trans k7) sm8) sm9))⟩
      · intro x hx
        rcases List.mem_append.mp hx with hx | hx
        · rcases List.mem_append.mp hx with hx | hx
          · exact oW x (me1 x hx)
          · rw [List.mem_singleton.mp hx]
            exact o5
        · exact oW x (me2 x hx)
      · rw [List.length_append, List.length_append, List.length_singleton]
        omega
    refine ⟨_, rfl, rfl, _, rfl, ?_⟩
    refine ite2 (fun _ => ?_) (fun _ => ?_)
    · refine ⟨_, rfl, _, rfl, _, rfl, _, rfl, noPart (sl_any hc fun c1 H4 sm4 h1 => ?_)⟩
      obtain ⟨e1, g1, le1, me1⟩ := hW.cut (some r3) none
      have lc1 := g1.length
      refine ⟨_, rfl, _, rfl, _, rfl, sl_any (sm4 _ _ hc) fun c2 H5 sm5 h2 => ?_⟩
      obtain ⟨e2, g2, le2, me2⟩ := (hW.s sm4).cut none (some r3)
      have lc2 := g2.length
      refine cat_any (sm5 _ _ h1) h2 (by rw [lc1, lc2]; exact Nat.le_trans (show e1.length + e2.length ≤ 72 by omega) (by decide)) fun c3 H6 sm6 h3 => ?_
      refine ⟨by show 2 ≤ sizeLine; decide, fin2 k (sm6 _ _ (sm5 _ _ (sm4 _ _ hb))) (((hS.s sm4).s sm5).s sm6) h3 ((((g1.s sm4).s sm5).append (g2.s sm5)).s sm6) oS (by omega) ?_ ?_ (((P3.same sm4).same sm5).same sm6) (Kp.sm (Kp.sm (Kp.sm kp sm4) sm5) sm6)⟩
      · intro x hx
        rcases List.mem_append.mp hx with hx | hx
        · exact oW x (me1 x hx)
        · exact oW x (me2 x hx)
      · rw [List.length_append]
        omega
    refine ⟨_, rfl, rfl, _, rfl, ?_⟩
    refine ite2 (fun _ => ?_) (fun _ => ?_)
    · refine ⟨_, rfl, p, q, _, rfl, P3, by decide, by decide, fun r4 H4 a4 b4 P4 k4 => ⟨rfl, _, rfl, ?_⟩⟩
      have s34 : Ks (Np p q) H3 H4 := Ks.kp k4 P3
      refine ite2 (fun _ => ?_) (fun _ => ?_)
      · refine ⟨_, rfl, _, rfl, _, rfl, sl_any (s34.tup _ _ hb) fun c1 H5 sm5 h1 => ?_⟩
        obtain ⟨e1, g1, le1, me1⟩ := (hS.k s34).cut none (some r2)
        exact ⟨_, rfl, by show 2 ≤ sizeLine; decide, fin2 k h1 (g1.s sm5) (sm5 _ _ (s34.tup _ _ hc)) ((hW.k s34).s sm5) (fun x hx => oS x (me1 x hx)) (by omega) oW (by omega) (P4.same sm5) (Kp.sm (kp.trans k4) sm5)⟩
      · refine ⟨_, rfl, _, rfl, cat_any (s34.tup _ _ hb) (s34.tup _ _ hb) (by rw [lx]; exact Nat.le_trans (show S.length + S.length ≤ 12 by omega) (by decide)) fun c1 H5 sm5 h1 => ?_⟩
        refine ⟨_, rfl, by show 2 ≤ sizeLine; decide, fin2 k h1 (((hS.k s34).append (hS.k s34)).s sm5) (sm5 _ _ (s34.tup _ _ hc)) ((hW.k s34).s sm5) (fun x hx => ?_) (by rw [List.length_append]; omega) oW (by omega) (P4.same sm5) (Kp.sm (kp.trans k4) sm5)⟩
        rcases List.mem_append.mp hx with hx | hx <;> exact oS x hx
    refine ⟨_, rfl, rfl, _, rfl, ?_⟩
    refine ite2 (fun _ => ?_) (fun _ => ?_)
    · refine ⟨_, rfl, _, rfl, _, rfl, _, rfl, sl_any hc fun c1 H4 sm4 h1 => ?_⟩
      obtain ⟨e1, g1, le1, me1⟩ := hW.cut none (some r3)
      have lc1 := g1.length
      refine ⟨_, rfl, _, rfl, _, _, rfl, rfl, _, _, rfl, _, rfl, noPart (sl_any (sm4 _ _ hc) fun c2 H5 sm5 h2 => ?_)⟩
      obtain ⟨e2, g2, le2, me2⟩ := (hW.s sm4).cut (some (if (0 : Int) > r3 - 1 then 0 else r3 - 1)) none
      have lc2 := g2.length
      refine cat_any (sm5 _ _ h1) h2 (by rw [lc1, lc2]; exact Nat.le_trans (show e1.length + e2.length ≤ 72 by omega) (by decide)) fun c3 H6 sm6 h3 => ?_
      refine ⟨by show 2 ≤ sizeLine; decide, fin2 k (sm6 _ _ (sm5 _ _ (sm4 _ _ hb))) (((hS.s sm4).s sm5).s sm6) h3 ((((g1.s sm4).s sm5).append (g2.s sm5)).s sm6) oS (by omega) ?_ ?_ (((P3.same sm4).same sm5).same sm6) (Kp.sm (Kp.sm (Kp.sm kp sm4) sm5) sm6)⟩
      · intro x hx
        rcases List.mem_append.mp hx with hx | hx
        · exact oW x (me1 x hx)
        · exact oW x (me2 x hx)
      · rw [List.length_append]
        omega
    have BC : DgAll (Np p q) H3 [.ref b, .ref c] [.tuple S, .tuple W] := .cons (.tup hb hS) (.cons (.tup hc hW) .nil)
    have gS := tupG oS (show S.length ≤ 100 by omega)
    have gW := tupG oW (show W.length ≤ 100 by omega)
    have gS' := lstG oS (show S.length ≤ 100 by omega)
    have gW' := lstG oW (show W.length ≤ 100 by omega)
    have g0 : okG 1000203 4 (.tuple []) = true := by decide +kernel
    have gN : okG 1000203 4 .none = true := by decide +kernel
    have npL : ∀ {H' : Hp} {x : Addr}, Pt H' p q → H' x = none → Np p q x := fun P h => P.np h
    refine ⟨_, rfl, b, xs, rfl, .inr (SqT.of hb), fun l1 nl1 => ⟨_, rfl, by show 2 ≤ sizeLine; decide, fun t1 nt1 => ⟨_, rfl, _, rfl, c, ys, rfl, .inr (SqT.of (keepN (keepN hc nl1) nt1)), fun l2 nl2 => ⟨by show 2 ≤ sizeLine; decide, fun t2 nt2 => ⟨_, rfl, _, rfl, by show 2 ≤ sizeLine; decide, fun t3 nt3 => ⟨_, rfl, _, rfl, by show 0 ≤ sizeLine; decide, fun t4 nt4 => ⟨by show 3 ≤ sizeLine; decide, fun t5 nt5 => ⟨_, rfl, by show 1 ≤ sizeLine; decide, fun t6 nt6 => ⟨_, rfl, by show 6 ≤ sizeLine; decide, fun c1 nc1 => ?_⟩⟩⟩⟩⟩⟩⟩⟩⟩
    have np1 : Np p q l1 := P3.np nl1
    have np2 : Np p q l2 := Pt.np (h := nl2) (by exact ((P3.new nl1).new nt1))
    have np3 : Np p q t3 := Pt.np (h := nt3) (by exact ((((P3.new nl1).new nt1).new nl2).new nt2))
    refine ⟨_, rfl, _, rfl, _, rfl, by show 2 ≤ sizeLine; decide, fun s1 ns1 => ⟨_, rfl, by show 2 ≤ sizeLine; decide, fun s2 ns2 => ⟨_, rfl, by show 2 ≤ sizeLine; decide, fun s3 ns3 => ⟨by show 0 ≤ sizeLine; decide, fun s4 ns4 => ⟨by show 0 ≤ sizeLine; decide, fun s5 ns5 => ⟨by show 2 ≤ sizeLine; decide, fun s6 ns6 => fun s7 ns7 => ⟨by show 0 ≤ sizeLine; decide, fun s8 ns8 => ⟨by show 10 ≤ sizeLine; decide, fun c2 nc2 => ⟨c1, c2, _, _, rfl, rfl, (keepN (keepN (keepN (keepN (keepN (keepN (keepN (keepN (keepN upd_same ns1) ns2) ns3) ns4) ns5) ns6) ns7) ns8) nc2), upd_same, by show 6 + 10 ≤ sizeLine; decide, fun c3 nc3 => ?_⟩⟩⟩⟩⟩⟩⟩⟩⟩
    have M1 := men_lit (N := Np p q) ns1 (.cons (d := .tuple [.list S, .tuple W]) (.inl (.tup (keepN (keepN (keepN (keepN (keepN (keepN (keepN upd_same nl2) nt2) nt3) nt4) nt5) nt6) nc1) (.cons (.lst np1 (keepN (keepN (keepN (keepN (keepN (keepN (keepN (keepN upd_same nt1) nl2) nt2) nt3) nt4) nt5) nt6) nc1) (((((((((hS.new nl1).new nt1).new nl2).new nt2).new nt3).new nt4).new nt5).new nt6).new nc1)) (.cons (DgAll.snd (((((((((BC.new nl1).new nt1).new nl2).new nt2).new nt3).new nt4).new nt5).new nt6).new nc1)) .nil)))) ⟨shT (mem2 gS' gW) (by show 2 ≤ 4; decide), rfl⟩ (.cons (d := .tuple [.tuple S, .list W]) (.inl (.tup (keepN (keepN (keepN (keepN (keepN upd_same nt3) nt4) nt5) nt6) nc1) (.cons (DgAll.fst (((((((((BC.new nl1).new nt1).new nl2).new nt2).new nt3).new nt4).new nt5).new nt6).new nc1)) (.cons (.lst np2 (keepN (keepN (keepN (keepN (keepN (keepN upd_same nt2) nt3) nt4) nt5) nt6) nc1) (((((((((hW.new nl1).new nt1).new nl2).new nt2).new nt3).new nt4).new nt5).new nt6).new nc1)) .nil)))) ⟨shT (mem2 gS gW') (by show 2 ≤ 4; decide), rfl⟩ (.cons (d := .list [.tuple S, .tuple W]) (.inl (.lst np3 (keepN (keepN (keepN (keepN upd_same nt4) nt5) nt6) nc1) (.cons (DgAll.fst (((((((((BC.new nl1).new nt1).new nl2).new nt2).new nt3).new nt4).new nt5).new nt6).new nc1)) (.cons (DgAll.snd (((((((((BC.new nl1).new nt1).new nl2).new nt2).new nt3).new nt4).new nt5).new nt6).new nc1)) .nil)))) ⟨shL (mem2 gS gW) (by show 2 ≤ 4; decide), rfl⟩ (.cons (d := .tuple [.tuple S, .tuple W, .tuple []]) (.inl (.tup (keepN (keepN upd_same nt6) nc1) (.cons (DgAll.fst (((((((((BC.new nl1).new nt1).new nl2).new nt2).new nt3).new nt4).new nt5).new nt6).new nc1)) (.cons (DgAll.snd (((((((((BC.new nl1).new nt1).new nl2).new nt2).new nt3).new nt4).new nt5).new nt6).new nc1)) (.cons (.tup (keepN (keepN (keepN upd_same nt5) nt6) nc1) .nil) .nil))))) ⟨shT (mem3 gS gW g0) (by show 3 ≤ 4; decide), rfl⟩ (.cons (d := .tuple [.tuple S]) (.inl (.tup (keepN upd_same nc1) (.cons (DgAll.fst (((((((((BC.new nl1).new nt1).new nl2).new nt2).new nt3).new nt4).new nt5).new nt6).new nc1)) .nil))) ⟨shT (mem1 gS) (by show 1 ≤ 4; decide), rfl⟩ (.cons (d := .tuple S) (.inl (DgAll.fst (((((((((BC.new nl1).new nt1).new nl2).new nt2).new nt3).new nt4).new nt5).new nt6).new nc1))) ⟨okG_sh gS (by decide) (by decide), lo_no fun x hx => sz_isT (sz x hx)⟩ .nil))))))
    have M2 := men_lit (N := Np p q) nc3 (.cons (d := .tuple [.tuple W, .tuple S]) (.inl (.tup (keepN (keepN (keepN (keepN (keepN (keepN (keepN (keepN upd_same ns2) ns3) ns4) ns5) ns6) ns7) ns8) nc2) (.cons (DgAll.snd ((((((((((((((((((BC.new nl1).new nt1).new nl2).new nt2).new nt3).new nt4).new nt5).new nt6).new nc1).new ns1).new ns2).new ns3).new ns4).new ns5).new ns6).new ns7).new ns8).new nc2)) (.cons (DgAll.fst ((((((((((((((((((BC.new nl1).new nt1).new nl2).new nt2).new nt3).new nt4).new nt5).new nt6).new nc1).new ns1).new ns2).new ns3).new ns4).new ns5).new ns6).new ns7).new ns8).new nc2)) .nil)))) ⟨shT (mem2 gW gS) (by show 2 ≤ 4; decide), decide_eq_true (show S.length ≤ 100 by omega)⟩ (.cons (d := .tuple [.tuple S, .none]) (.inl (.tup (keepN (keepN (keepN (keepN (keepN (keepN (keepN upd_same ns3) ns4) ns5) ns6) ns7) ns8) nc2) (.cons (DgAll.fst ((((((((((((((((((BC.new nl1).new nt1).new nl2).new nt2).new nt3).new nt4).new nt5).new nt6).new nc1).new ns1).new ns2).new ns3).new ns4).new ns5).new ns6).new ns7).new ns8).new nc2)) (.cons .non .nil)))) ⟨shT (mem2 gS gN) (by show 2 ≤ 4; decide), rfl⟩ (.cons (d := .tuple [.none, .tuple W]) (.inl (.tup (keepN (keepN (keepN (keepN (keepN (keepN upd_same ns4) ns5) ns6) ns7) ns8) nc2) (.cons .non (.cons (DgAll.snd ((((((((((((((((((BC.new nl1).new nt1).new nl2).new nt2).new nt3).new nt4).new nt5).new nt6).new nc1).new ns1).new ns2).new ns3).new ns4).new ns5).new ns6).new ns7).new ns8).new nc2)) .nil)))) ⟨shT (mem2 gN gW) (by show 2 ≤ 4; decide), rfl⟩ (.cons (d := .tuple [.tuple [], .tuple []]) (.inl (.tup (keepN (keepN (keepN upd_same ns7) ns8) nc2) (.cons (.tup (keepN (keepN (keepN (keepN (keepN upd_same ns5) ns6) ns7) ns8) nc2) .nil) (.cons (.tup (keepN (keepN (keepN (keepN upd_same ns6) ns7) ns8) nc2) .nil) .nil)))) ⟨shT (mem2 g0 g0) (by show 2 ≤ 4; decide), rfl⟩ (.cons (d := .dict []) (.inr ⟨s7, rfl, (keepN (keepN upd_same ns8) nc2), rfl⟩) ⟨⟨.inr rfl⟩, rfl⟩ (.cons (d := .none) (.inl .non) ⟨sh_small (by decide +kernel), rfl⟩ (.cons (d := .str "8 4:") (.inl (.str _)) ⟨sh_small (by decide +kernel), rfl⟩ (.cons (d := .int 8) (.inl (.int _)) ⟨sh_small (by decide +kernel), rfl⟩ (.cons (d := .bool true) (.inl (.bl _)) ⟨sh_small (by decide +kernel), rfl⟩ (.cons (d := .tuple []) (.inl (.tup (keepN upd_same nc2) .nil)) ⟨sh_small (by decide +kernel), rfl⟩ .nil))))))))))
    have M3 := Men.append (((((((((M1.new ns1).new ns2).new ns3).new ns4).new ns5).new ns6).new ns7).new ns8).new nc2) M2
    refine ⟨_, rfl, _, rfl, by show 1 ≤ sizeLine; decide, fun r1 nr1 => ⟨r1, 7, _, rfl, rfl, SqT.of upd_same, List.cons_ne_nil _ _, by decide, by decide, by show 1 ≤ 1000; decide, fun r2 nr2 => ⟨by show 0 ≤ sizeLine; decide, fun r3 nr3 => ⟨by show 2 ≤ sizeLine; decide, fun r4 nr4 => ⟨by show 1 ≤ sizeLine; decide, fun c4 nc4 => ⟨c3, c4, _, _, rfl, rfl, (keepN (keepN (keepN (keepN (keepN upd_same nr1) nr2) nr3) nr4) nc4), upd_same, by show 16 + 1 ≤ sizeLine; decide, fun c5 nc5 => ?_⟩⟩⟩⟩⟩⟩
    have M4 := men_lit (N := Np p q) nc5 (.cons (d := .tuple [.tuple [.int 2, .int 2, .int 2, .int 2, .int 2, .int 2, .int 2], .tuple []]) (.inl (.tup (keepN upd_same nc4) (.cons (.tup (keepN (keepN (keepN upd_same nr3) nr4) nc4) (.cons (.int _) (.cons (.int _) (.cons (.int _) (.cons (.int _) (.cons (.int _) (.cons (.int _) (.cons (.int _) .nil)))))))) (.cons (.tup (keepN (keepN upd_same nr4) nc4) .nil) .nil)))) ⟨okG_sh (c := 100000) (dp := 5) (by decide +kernel) (by decide) (by decide), rfl⟩ .nil)
    have M5 := Men.append ((((((M3.new nc3).new nr1).new nr2).new nr3).new nr4).new nc4) M4
    obtain ⟨q1, q2⟩ : c5 ≠ p ∧ c5 ≠ q := Pt.np (h := nc5) (by exact ((((((((((((((((((((((((P3.new nl1).new nt1).new nl2).new nt2).new nt3).new nt4).new nt5).new nt6).new nc1).new ns1).new ns2).new ns3).new ns4).new ns5).new ns6).new ns7).new ns8).new nc2).new nc3).new nr1).new nr2).new nr3).new nr4).new nc4))
    refine ⟨p, q, c5, _, rfl, (((((((((((((((((((((((((P3.new nl1).new nt1).new nl2).new nt2).new nt3).new nt4).new nt5).new nt6).new nc1).new ns1).new ns2).new ns3).new ns4).new ns5).new ns6).new ns7).new ns8).new nc2).new nc3).new nr1).new nr2).new nr3).new nr4).new nc4).new nc5), upd_same, q1, q2, List.cons_ne_nil _ _, by show 17 < 1000; decide, fun v H9 hv P9 k9 => ?_⟩
    obtain ⟨d, h1, h2⟩ := (M5.new nc5) v hv
    exact k v d H9 (h1.k (Ks.kp k9 (((((((((((((((((((((((((P3.new nl1).new nt1).new nl2).new nt2).new nt3).new nt4).new nt5).new nt6).new nc1).new ns1).new ns2).new ns3).new ns4).new ns5).new ns6).new ns7).new ns8).new nc2).new nc3).new nr1).new nr2).new nr3).new nr4).new nc4).new nc5))) h2 P9 ((((((((((((((((((((((((((kp.new nl1).new nt1).new nl2).new nt2).new nt3).new nt4).new nt5).new nt6).new nc1).new ns1).new ns2).new ns3).new ns4).new ns5).new ns6).new ns7).new ns8).new nc2).new nc3).new nr1).new nr2).new nr3).new nr4).new nc4).new nc5).trans k9)

/-! ### law -/
def rInD (K : PySem.W.Frag) : R2 := fun x y H Q => ∃ d xs, Dp K H x d ∧ Dp K H y (.tuple xs) ∧ SeqAt.shaped (.tuple xs) = true ∧ SeqAt.shaped d = true ∧ (∀ z ∈ xs, SeqAt.noMix z d = true) ∧ Q (.bl (decide (countIn d xs ≠ 0))) H
theorem op_inD {X : Cx} (K : PySem.W.Frag) (hK : X.K = K) (hu : X.A.units + 65 < cLine) : OpR X (compareOp .In) (rInD K) := by
  subst hK
  intro pins s σ H x y v u Q I rx ry h
  obtain ⟨d, xs, h1, h2, h3, h4, h5, q⟩ := h
  obtain ⟨as, r1⟩ := Dp.reads I d x v h1 rx
  obtain ⟨bs, r2⟩ := Dp.reads I _ y u h2 ry
  exact in_tuple_dataH r2 r1 h3 h4 hu h5 ⟨.bl _, H, I, rfl, q⟩
theorem room65 {k : Nat} {A : Around} (hr : Room k A) : A.units + 65 < cLine := by
  have := hr.un
  omega
def errs : List PyData := [.none, .str "form"] ++ (List.range 102).flatMap fun i => [eT "size" i, eT "wire" i, eT "order" i]
theorem err_mem {x : Str} {i : Nat} (hx : x = "size" ∨ x = "wire" ∨ x = "order") (hi : i < 102) : eT x i ∈ errs := by
  refine List.mem_append_right _ (List.mem_flatMap.mpr ⟨i, List.mem_range.mpr hi, ?_⟩)
  rcases hx with rfl | rfl | rfl
  · exact List.mem_cons_self
  · exact List.mem_cons_of_mem _ List.mem_cons_self
  · exact List.mem_cons_of_mem _ (List.mem_cons_of_mem _ List.mem_cons_self)
theorem merr_mem {d : PyData} (h : loB d = true) : merr d ∈ errs := by
  cases hf : formD d with
  | none =>
    rw [merr_form hf]
    exact List.mem_cons_of_mem _ List.mem_cons_self
  | some SW =>
    obtain ⟨S, W⟩ := SW
    obtain ⟨rfl, l1, l6⟩ := formD_some hf
    have lW := lo_ok h
    rw [merr_some hf]
    cases hs : bd (szBad S) S.length with
    | cons i l =>
      rw [merr2_size hs]
      have := bd_lt (hs ▸ List.mem_cons_self : i ∈ bd (szBad S) S.length)
      exact err_mem (.inl rfl) (by omega)
    | nil =>
      rw [merr2_ok hs]
      cases hw : bd (wrBad S.length W) W.length with
      | cons i l =>
        rw [merrW_wire hw]
        have := bd_lt (hw ▸ List.mem_cons_self : i ∈ bd (wrBad S.length W) W.length)
        exact err_mem (.inr (.inl rfl)) (by omega)
      | nil =>
        rw [merrW_ok hw]
        cases ho : bd (orBad W) (W.length - 1) with
        | cons i l =>
          rw [merr3_ord ho]
          have := bd_lt (ho ▸ List.mem_cons_self : i ∈ bd (orBad W) (W.length - 1))
          exact err_mem (.inr (.inr rfl)) (by omega)
        | nil =>
          rw [merr3_ok ho]
          exact List.mem_cons_self
def inX : List PyData := [.none, .tuple [.str "order", .int 0], .tuple [.str "order", .int 1]]
def isOr : PyData → Bool
  | .tuple [.str x, .int i] => decide (x = "order") && decide (0 ≤ i)
  | .none => true
  | _ => false
def errP (e : PyData) : Bool := okD e && decide (cost e ≤ 3000) && decide (e.depth ≤ 3) && SeqAt.shaped e && PyData.strOk e.shown && (inX.all fun z => SeqAt.noMix z e) && (decide (countIn e inX = 0) || isOr e)
theorem errs_P : errs.all errP = true := by decide +kernel
theorem isOr_of {e : PyData} (h : isOr e = true) : e = .none ∨ ∃ k, e = eT "order" k := by
  unfold isOr at h
  split at h
  · rename_i x i
    simp only [Bool.and_eq_true, decide_eq_true_eq] at h
    refine .inr ⟨i.toNat, ?_⟩
    unfold eT
    rw [h.1, Int.toNat_of_nonneg h.2]
  · exact .inl rfl
  · cases h
structure ErrOk (e : PyData) : Prop where
  sh : Sh e
  shaped : SeqAt.shaped e = true
  str : PyData.strOk e.shown = true
  mix : ∀ z ∈ inX, SeqAt.noMix z e = true
  hit : countIn e inX ≠ 0 → e = .none ∨ ∃ k, e = eT "order" k
theorem err_ok {e : PyData} (h : e ∈ errs) : ErrOk e := by
  have z := List.all_eq_true.mp errs_P e h
  unfold errP at z
  simp only [Bool.and_eq_true, Bool.or_eq_true, decide_eq_true_eq] at z
  obtain ⟨⟨⟨⟨⟨⟨a, b⟩, c⟩, e1⟩, f⟩, g⟩, i⟩ := z
  exact ⟨⟨a, by omega, by omega⟩, e1, f, List.all_eq_true.mp g, fun n => i.elim (fun e => absurd e n) isOr_of⟩
theorem two_eq (s : Str) : PyData.eqv (.list [.str s, .str s]) (.list [.str s, .str s]) = true := by
  simp only [PyData.eqv, PyData.eqvAll, Bool.and_self, Bool.and_true, beq_self_eq_true, decide_true]
theorem two_shaped {s : Str} (h : PyData.strOk s = true) : SeqAt.shaped (.list [.str s, .str s]) = true := by
  unfold SeqAt.shaped
  simp only [PyData.canLay0, PyData.canLayAll0, PyData.depth, PyData.depthAll, h, Bool.and_self]
  rfl

abbrev sc_lawN : List Str := ["script", "pot", "turn", "value", "again", "kept", "due", "told", "own"]
theorem sc_law : FnScope sc_lawN ["script"] (defScope s_law) := ⟨rfl, rfl, rfl, by decide +kernel, rfl, by decide +kernel, by decide +kernel⟩
theorem Dv.tupleDg {N : Addr → Prop} {H : Hp} {v : V} {ds : List PyData} (h : Dv N H v (.tuple ds)) : Dg N H v (.tuple ds) := by
  rcases h with h | ⟨_, _, _, h⟩
  · exact h
  · cases h
theorem Im.non_of {H : Hp} {d : PyData} (h : Im H .non d) : d = .none := by cases h; rfl
theorem ok_law {f : Addr} {fd : FuncData} (F : Fun K "law" "law" s_law f fd) (T : Blt mg) (c_l_pot : Cal P w K mg base 1 "_law_pot" (spPot K)) (c_l_dip : Cal P w K mg base 1 "_law_dip" spDip) (c_l_machine : Cal P w K mg base 5 "_law_machine" spMachine)
    (c_l_due : Cal P w K mg base 4 "_law_due" spMerr) (c_l_spoilt : Cal P w K mg base 4 "_law_spoilt" spSpoilt) (c_l_odd_size : Cal P w K mg base 3 "_law_odd_size" spOddS) (c_l_odd_wire : Cal P w K mg base 3 "_law_odd_wire" spOddW)
    (c_machine_error : Cal P w K mg base 4 "machine_error" spMerr) (k_machine_error_v : CalK P w K mg base 4 "machine_error" spMerr ["value"] kg1) : GFn P w K mg base 6 f fd ["script"] (spLaw K) := by
  refine gfn_of F sc_law (fun vs H Q E h => ?_) (fun cdv A outer s H vs Q E hcd0 hg hr h => ?_)
  · obtain ⟨a, ns, rfl, _⟩ := h
    rfl
  · obtain ⟨sa, ns, rfl, hS, hlen, k⟩ := h
    have hcd := L2.kdsCode_of hcd0
    refine ⟨_, (pss_cons (ps_set (i := 1) sc_law.nd rfl (.inl rfl) (pe_c c_l_pot hr (by decide) rfl (pa_cons (pv 0) pa_nil)))
      (pss_cons (ps_for PassesOwn.never rfl (pi_range1 (by rfl) T.range (pa_cons pe_int pa_nil)) (pg_name (i := 2) sc_law.nd rfl (.inl rfl)) (pss_cons (ps_set (i := 3) sc_law.nd rfl (.inl rfl) (pe_c c_l_machine hr (by decide) rfl (pa_cons (pv 1) (pa_cons (pe_cmpR op_eq (pe_op op_mod (pv 2) pe_int) pe_int (nomark _)) pa_nil))))
      (pss_cons (ps_for PassesOwn.never rfl (pi_range1 (by rfl) T.range (pa_cons (pe_c c_l_dip hr (by decide) rfl (pa_cons (pv 1) (pa_cons pe_int pa_nil))) pa_nil)) (pg_name (i := 4) sc_law.nd rfl (.inl rfl)) (pss_one (ps_set (i := 3) sc_law.nd rfl (.inl rfl) (pe_ifExp (pt_cmpR op_isN (pe_c c_l_due hr (by decide) rfl (pa_cons (pv 3) pa_nil)) pe_non (nomark _)) (pe_c c_l_spoilt hr (by decide) rfl (pa_cons (pv 1) (pa_cons (pv 3) pa_nil))) (pv 3)))))
      (pss_cons (ps_if (PW.pt (pw_and (pt_cmpR op_gt (pv 2) pe_int (nomark _)) (pw_and1 (pt_cmpR (op_inD K rfl (room65 hr)) (pe_c c_l_due hr (by decide) rfl (pa_cons (pv 3) pa_nil)) (pe_tup (pa_cons pe_non (pa_cons (pe_tup (pa_cons pe_str (pa_cons pe_int pa_nil))) (pa_cons (pe_tup (pa_cons pe_str (pa_cons pe_int pa_nil))) pa_nil)))) rfl)))) (pss_cons (ps_set (i := 3) sc_law.nd rfl (.inl rfl) (pe_tup (pa_cons (pe_ix (ix_tupK K rfl) (pv 3) pe_int (fun _ _ => rfl)) (pa_cons (pe_op op_catA (pe_tup (pa_cons (pe_c c_l_odd_wire hr (by decide) rfl (pa_cons (pv 1) (pa_cons (pe_callB (call_lenK K rfl) (by rfl) T.len PySem.boot_len (pa_cons (pe_ix (ix_tupK K rfl) (pv 3) pe_int (fun _ _ => rfl)) pa_nil)) pa_nil))) pa_nil)) (pe_slice sl_tupA (pe_ix (ix_tupK K rfl) (pv 3) pe_int (fun _ _ => rfl)) po_none (po_some pe_int))) pa_nil))))
      (pss_one (ps_set (i := 3) sc_law.nd rfl (.inl rfl) (pe_ifExp (pt_cmpR op_eq (pe_c c_l_dip hr (by decide) rfl (pa_cons (pv 1) (pa_cons pe_int pa_nil))) pe_int (nomark _)) (pe_tup (pa_cons (pe_op op_catA (pe_slice sl_tupA (pe_ix (ix_tupK K rfl) (pv 3) pe_int (fun _ _ => rfl)) po_none (po_some (pe_un un_neg pe_int))) (pe_tup (pa_cons (pe_c c_l_odd_size hr (by decide) rfl (pa_cons (pv 1) pa_nil)) pa_nil))) (pa_cons (pe_ix (ix_tupK K rfl) (pv 3) pe_int (fun _ _ => rfl)) pa_nil))) (pv 3))))) pss_nil)
      (pss_cons (ps_par (i := 5) (j := 6) rfl sc_law.nd rfl rfl (by decide) rfl rfl (pa_cons (pe_callB (call_reprV An hg hr) (by rfl) T.repr boot_repr (pa_cons (pv 3) pa_nil)) (pa_cons (pe_callB (call_reprK K rfl hg hr) (by rfl) T.repr boot_repr (pa_cons (pe_c c_l_due hr (by decide) rfl (pa_cons (pv 3) pa_nil)) pa_nil)) pa_nil)) (by rfl))
      (pss_cons (ps_set (i := 7) sc_law.nd rfl (.inl rfl) (pe_lst (pa_cons (pe_c c_machine_error hr (by decide) rfl (pa_cons (pv 3) pa_nil)) (pa_cons (pe_ck k_machine_error_v hr (by decide) rfl (pk_cons (pv 3) pk_nil)) pa_nil))))
      (pss_one (ps_if (PW.pt (pw_or (pt_cmpR (op_neDK K rfl hr.units) (pe_lc (own := [("own", 8)]) rfl sc_law.nd (pi_listK K rfl (pv 7)) (blkOk_by (N := sc_lawN) (sc := defScope s_law) (by decide +kernel)) (fun _ _ _ _ _ => (pg_name (i := 8) sc_law.nd rfl (by first | exact .inl rfl | exact .inr rfl))) (fun _ _ _ _ _ => pts_nil) (fun _ _ _ _ _ => (pe_callB (call_reprK K rfl hg hr) (by rfl) T.repr boot_repr (pa_cons (pv 8) pa_nil)))) (pe_lst (pa_cons (pv 6) (pa_cons (pv 6) pa_nil))) (nomark _)) (pw_or1 (pt_cmpR op_ne (pe_callB (call_reprV An hg hr) (by rfl) T.repr boot_repr (pa_cons (pv 3) pa_nil)) (pv 5) (nomark _))))) (pss_one (ps_ret pe_bl)) pss_nil))))))))
      (pss_one (ps_ret pe_bl)))), ?_⟩
    refine ⟨_, rfl, sa, ns, rfl, hS, hlen, fun p q H1 P1 sm1 np nq => ?_⟩
    refine ⟨14, rfl, by decide, by decide, for_range (lo := 0) (n := 14) (fun _ σ H' => ∃ v2 v3 v4 v5 v6 v7 v8 : Option V, σ = [some (.ref sa), some (.ref p), v2, v3, v4, v5, v6, v7, v8] ∧ Pt H' p q)
      ⟨none, none, none, none, none, none, none, rfl, P1⟩ ?_ ?_⟩
    · rintro t σ H2 ht ⟨v2, v3, v4, v5, v6, v7, v8, rfl, P2⟩
      refine ⟨_, rfl, _, rfl, _, _, rfl, rfl, (by decide : (0 : Int) < 2), rfl, p, q, _, rfl, P2, fun mv ss ws H3 im ok P3 k3 => ?_⟩
      have lw := ok.wires.len ok.six
      have fit0 : Fit (mD ss ws) := ⟨⟨.inl (Sh.mach ok)⟩, decide_eq_true (by rw [List.length_map]; omega)⟩
      refine ⟨_, rfl, p, q, _, rfl, P3, by decide, by decide, fun r H4 r0 r1 P4 k4 => ⟨r, rfl, by omega, by omega, for_range (lo := 0) (n := r.toNat) (fun _ σ H' => ∃ (v : V) (d : PyData) (v4 : Option V), σ = [some (.ref sa), some (.ref p), some (.int (0 + (t : Int))), some v, v4, v5, v6, v7, v8] ∧ Dv (Np p q) H' v d ∧ Fit d ∧ Pt H' p q)
        ⟨mv, _, v4, rfl, (im.dg.k (Ks.kp k4 P3)).dv, fit0, P4⟩ ?_ ?_⟩⟩
      · rintro i σ H5 hi ⟨v, d, v4, rfl, dv, fit, P5⟩
        refine ⟨_, rfl, v, d, rfl, dv.any, fit.1, fun u H6 imu sm6 => ⟨rfl, _, rfl, ?_⟩⟩
        refine ite2 (fun hu => ?_) (fun hu => ⟨_, rfl, v, d, _, rfl, dv.k (Ks.same sm6), fit, P5.same sm6⟩)
        have eu : u = V.non := of_decide_eq_true hu
        subst eu
        obtain ⟨S, W, al, l36⟩ := merr_almost (.inl imu.non_of)
        have lW := l36 imu.non_of
        have dg : Dg (Np p q) H6 v d := by
          have z := dv.k (Ks.same sm6)
          rw [al.eq] at z ⊢
          exact z.tupleDg
        refine ⟨_, rfl, _, rfl, p, q, v, d, S, W, rfl, P5.same sm6, dg, al, lW, fun v' d' H7 dv' fit' P7 k7 => ⟨v', d', _, rfl, dv', fit', P7⟩⟩
      · rintro σ H5 ⟨v, d, v4, rfl, dv, fit, P5⟩
        refine ⟨_, rfl, _, _, rfl, rfl, _, rfl, ?_⟩
        refine ite2 (fun _ => ?_) (fun _ => iteF ?_)
        · refine ⟨_, rfl, v, d, rfl, dv.any, fit.1, fun u H6 imu sm6 => ⟨by show 2 ≤ sizeLine; decide, fun t1 n1 => ⟨by show 2 ≤ sizeLine; decide, fun t2 n2 => ⟨by show 3 ≤ sizeLine; decide, fun t3 n3 => ?_⟩⟩⟩⟩
          have eo := err_ok (merr_mem fit.2)
          have sm9 : Same H5 (upd (upd (upd H6 t1 (.tup [.str "order", .int 0])) t2 (.tup [.str "order", .int 1])) t3 (.tup [.non, .ref t1, .ref t2])) := Same.new (Same.new (Same.new sm6 n1) n2) n3
          refine ⟨merr d, inX, (imu.k (((Tk.refl H6).new n1 |>.new n2) |>.new n3)).dp, .tup (SqT.of upd_same) (.cons .non (.cons (.tup (SqT.of (keepN (keepN upd_same n2) n3)) (.cons (.str _) (.cons (.int _) .nil))) (.cons (.tup (SqT.of (keepN upd_same n3)) (.cons (.str _) (.cons (.int _) .nil))) .nil))), by decide +kernel, eo.shaped, eo.mix, _, rfl, ?_⟩
          generalize upd (upd (upd H6 t1 (.tup [.str "order", .int 0])) t2 (.tup [.str "order", .int 1])) t3 (.tup [.non, .ref t1, .ref t2]) = H9 at *
          refine ite2 (fun hh => ?_) (fun _ => ?_)
          · obtain ⟨S, W, al, _⟩ := merr_almost (eo.hit (of_decide_eq_true hh))
            obtain ⟨ed, l1, l6, sz, wr⟩ := al
            have lW : W.length ≤ 100 := lo_ok (ed ▸ fit.2)
            have oS : ∀ x ∈ S, okI x = true := fun x hx => isSz_ok (sz x hx)
            have oW : ∀ x ∈ W, okI x = true := fun x hx => isWr_ok l6 (wr x hx)
            obtain ⟨a, zs, rfl, ha, hz⟩ := (show Dg (Np p q) H9 v (.tuple [.tuple S, .tuple W]) from (ed ▸ dv.k (Ks.same sm9)).tupleDg).tuple
            obtain ⟨b, xs, c, ys, rfl, hb, hS1, hc, hW1⟩ : ∃ b xs c ys, zs = [.ref b, .ref c] ∧ H9 b = some (.tup xs) ∧ DgAll (Np p q) H9 xs S ∧ H9 c = some (.tup ys) ∧ DgAll (Np p q) H9 ys W := by
              match zs, hz with
              | _, .cons hx (.cons hy .nil) =>
                obtain ⟨b, xs, rfl, hb, hS⟩ := hx.tuple
                obtain ⟨c, ys, rfl, hc, hW⟩ := hy.tuple
                exact ⟨b, xs, c, ys, rfl, hb, hS, hc, hW⟩
            have P9 := P5.same sm9
            refine ⟨_, rfl, a, _, 0, _, rfl, rfl, SqT.of ha, atI_nat (j := 0) rfl, _, rfl, _, rfl, a, _, 0, _, rfl, rfl, SqT.of ha, atI_nat (j := 0) rfl, b, xs, rfl, .inr (SqT.of hb), p, q, xs.length, rfl, by rw [hS1.length]; omega, P9, fun x1 d1 HA g1 o1 PA kA => ⟨by show 1 ≤ sizeLine; decide, fun t4 n4 => ?_⟩⟩
            have sA : Ks (Np p q) H9 (upd HA t4 (.tup [x1])) := (Ks.kp kA P9).trans (Ks.same (Same.new (Same.refl HA) n4))
            refine ⟨_, rfl, a, _, 1, _, rfl, rfl, SqT.of (sA.tup _ _ ha), atI_nat (j := 1) rfl, _, rfl, sl_any (sA.tup _ _ hc) fun c1 HB smB hB => ?_⟩
            obtain ⟨e1, gB, le1, me1⟩ := (hW1.k sA).cut none (some 1)
            have lB := gB.length
            refine cat_any (smB _ _ upd_same) hB (by rw [lB]; exact Nat.le_trans (show 1 + e1.length ≤ 101 by omega) (by decide)) fun c2 HC smC hC => ⟨by show 2 ≤ sizeLine; decide, fun t5 n5 => ?_⟩
            have sC : Ks (Np p q) H9 HC := (sA.trans (Ks.same smB)).trans (Ks.same smC)
            have PC := ((PA.new (o := .tup [x1]) n4).same smB).same smC
            have hb5 : (upd HC t5 (.tup [.ref b, .ref c2])) b = some (.tup xs) := keepN (sC.tup _ _ hb) n5
            have hc5 : (upd HC t5 (.tup [.ref b, .ref c2])) c2 = some (.tup ([x1] ++ cutV ys none (some 1))) := keepN hC n5
            have hS5 : DgAll (Np p q) (upd HC t5 (.tup [.ref b, .ref c2])) xs S := (hS1.k sC).new n5
            have hW5 : DgAll (Np p q) (upd HC t5 (.tup [.ref b, .ref c2])) ([x1] ++ cutV ys none (some 1)) ([d1] ++ e1) := (((DgAll.append (.cons (g1.k (Ks.same (Same.new (Same.refl HA) n4))) .nil) gB).s smB).s smC).new n5
            have oW5 : ∀ x ∈ [d1] ++ e1, okI x = true := fun x hx => by
              rcases List.mem_append.mp hx with hx | hx
              · rw [List.mem_singleton.mp hx]
                exact o1
              · exact oW x (me1 x hx)
            have lc : (cutV ys none (some 1)).length ≤ 1 := by
              unfold cutV
              rw [HT.sIx_none, show HT.sIx ys.length ys.length (some 1) = min 1 ys.length from HT.sIx_nat ys.length ys.length 1, List.drop_zero, List.length_take]
              omega
            have lW5 : ([d1] ++ e1).length ≤ 2 := by
              rw [List.length_append, List.length_singleton]
              omega
            have PD : Pt (upd HC t5 (.tup [.ref b, .ref c2])) p q := PC.new n5
            have ht5 : (upd HC t5 (.tup [.ref b, .ref c2])) t5 = some (.tup [.ref b, .ref c2]) := upd_same
            generalize upd HC t5 (.tup [.ref b, .ref c2]) = HD at *
            generalize [x1] ++ cutV ys none (some 1) = ws at *
            generalize [d1] ++ e1 = W5 at *
            have fit5 : Fit (.tuple [.tuple S, .tuple W5]) := ⟨shT (mem2 (tupG oS (by omega)) (tupG oW5 (by omega))) (by show 2 ≤ 4; decide), decide_eq_true (show W5.length ≤ 100 by omega)⟩
            refine ⟨_, rfl, p, q, _, rfl, PD, by decide, by decide, fun r2 HE a2 b2 PE kE => ⟨rfl, _, rfl, ?_⟩⟩
            have sE : Ks (Np p q) HD HE := Ks.kp kE PD
            refine ite2 (fun _ => ?_) (fun _ => ⟨_, rfl, ?_⟩)
            · refine ⟨_, rfl, t5, _, 0, _, rfl, rfl, SqT.of (sE.tup _ _ ht5), atI_nat (j := 0) rfl, _, rfl, _, rfl, sl_any (sE.tup _ _ hb5) fun c3 HF smF hF => ?_⟩
              obtain ⟨e3, gF, le3, me3⟩ := (hS5.k sE).cut none (some (-1))
              have lF := gF.length
              have PF0 := PE.same smF
              refine ⟨_, rfl, p, q, rfl, PF0, fun x2 d2 HG g2 o2 PG kG => ⟨by show 1 ≤ sizeLine; decide, fun t6 n6 => ?_⟩⟩
              have sG : Ks (Np p q) HF (upd HG t6 (.tup [x2])) := (Ks.kp kG PF0).trans (Ks.same (Same.new (Same.refl HG) n6))
              refine cat_any (sG.tup _ _ hF) upd_same (by rw [lF]; exact Nat.le_trans (show e3.length + 1 ≤ 7 by omega) (by decide)) fun c4 HI smI hI => ?_
              have sI : Ks (Np p q) HD HI := (((sE.trans (Ks.same smF)).trans sG)).trans (Ks.same smI)
              refine ⟨_, rfl, t5, _, 1, _, rfl, rfl, SqT.of (sI.tup _ _ ht5), atI_nat (j := 1) rfl, by show 2 ≤ sizeLine; decide, fun t7 n7 => ?_⟩
              have dS : DgAll (Np p q) HI _ (e3 ++ [d2]) := (((gF.s smF).k sG).append (.cons (g2.k (Ks.same (Same.new (Same.refl HG) n6))) .nil)).s smI
              have dvF : Dv (Np p q) (upd HI t7 (.tup [.ref c4, .ref c2])) (.ref t7) (.tuple [.tuple (e3 ++ [d2]), .tuple W5]) := .inl (.tup upd_same (DgAll.new (.cons (.tup hI dS) (.cons (.tup (sI.tup _ _ hc5) (hW5.k sI)) .nil)) n7))
              have fitF : Fit (.tuple [.tuple (e3 ++ [d2]), .tuple W5]) := ⟨shT (mem2 (tupG (fun x hx => by
                rcases List.mem_append.mp hx with hx | hx
                · exact oS x (me3 x hx)
                · rw [List.mem_singleton.mp hx]
                  exact o2) (by rw [List.length_append, List.length_singleton]; omega)) (tupG oW5 (by omega))) (by show 2 ≤ 4; decide), decide_eq_true (show W5.length ≤ 100 by omega)⟩
              have PF : Pt (upd HI t7 (.tup [.ref c4, .ref c2])) p q := ((PG.new (o := .tup [x2]) n6).same smI).new n7
              have hL := fitF.2
              have eoF := err_ok (merr_mem hL)
              refine ⟨_, rfl, _, _, rfl, dvF.any, fitF.1, _, rfl, _, _, rfl, dvF.any, fitF.1, fun u1 J1 im1 sm1 => ⟨u1, _, rfl, im1.dp, eoF.sh, _, _, rfl, ?_⟩⟩
              have dv1 := dvF.k (Ks.same sm1)
              refine ⟨_, rfl, _, _, rfl, dv1.any, fitF.1, fun u2 J2 im2 sm2 => ⟨_, rfl, _, _, rfl, (dv1.k (Ks.same sm2)).any, fitF.1, fun u3 J3 im3 sm3 => ⟨by show 2 ≤ sizeLine; decide, fun l nl => ?_⟩⟩⟩
              have im2' := im2.k ((Tk.same sm3).new (o := .lst [u2, u3]) nl)
              have im3' := im3.k ((Tk.refl J3).new (o := .lst [u2, u3]) nl)
              have dv3 := ((dv1.k (Ks.same sm2)).k (Ks.same sm3)).k (Ks.same (Same.new (o := .lst [u2, u3]) (Same.refl J3) nl))
              have PJ := (((PF.same sm1).same sm2).same sm3).new (o := .lst [u2, u3]) nl
              have hl : (upd J3 l (.lst [u2, u3])) l = some (.lst [u2, u3]) := upd_same
              generalize upd J3 l (.lst [u2, u3]) = J4 at *
              refine ⟨_, rfl, l, rfl, ⟨_, SqL.of hl⟩, fun m nm => ?_⟩
              refine lc_list (K := K) (a := l) (xs := [u2, u3]) (fun j H' => Same J4 H' ∧ H' m = some (.lst (List.replicate j (V.str (merr (.tuple [.tuple (e3 ++ [d2]), .tuple W5])).shown)))) ⟨Same.new (Same.refl J4) nm, upd_same⟩ (fun j H' _ z => SqL.of (z.1 _ _ hl)) ?_ ?_
              · rintro j y J5 hy ⟨sm5, hm⟩
                have jl : j < 2 := (List.getElem?_eq_some_iff.mp hy).1
                have imy : Im J5 y (merr (.tuple [.tuple (e3 ++ [d2]), .tuple W5])) := by
                  match j, hy with
                  | 0, hy =>
                    cases hy
                    exact im2'.k (Tk.same sm5)
                  | 1, hy =>
                    cases hy
                    exact im3'.k (Tk.same sm5)
                refine ⟨rfl, _, rfl, y, _, rfl, imy.dp, eoF.sh, _, hm, small1000 (by rw [List.length_replicate]; omega), Same.put sm5 nm, by rw [upd_same, List.replicate_succ']⟩
              rintro J5 ⟨sm5, hm⟩
              refine ⟨_, rfl, _, rfl, by show 2 ≤ sizeLine; decide, fun z nz => ⟨.list [.str _, .str _], .list [.str _, .str _], .lst (SqL.of (keepN hm nz)) (.cons (.str _) (.cons (.str _) .nil)), .lst (SqL.of upd_same) (.cons (.str _) (.cons (.str _) .nil)), two_shaped eoF.str, two_shaped eoF.str, _, rfl, ?_⟩⟩
              rw [two_eq]
              refine iteF ?_
              have sm6 := Same.new (o := .lst [.str (merr (.tuple [.tuple (e3 ++ [d2]), .tuple W5])).shown, .str (merr (.tuple [.tuple (e3 ++ [d2]), .tuple W5])).shown]) sm5 nz
              refine ⟨_, rfl, _, _, rfl, (dv3.k (Ks.same sm6)).any, fitF.1, _, rfl, rfl, _, rfl, iteNS rfl ⟨_, _, _, _, _, _, _, rfl, PJ.same sm6⟩⟩
            · have dvF : Dv (Np p q) HE (.ref t5) (.tuple [.tuple S, .tuple W5]) := .inl ((Dg.tup ht5 (.cons (.tup hb5 hS5) (.cons (.tup hc5 hW5) .nil))).k sE)
              have fitF := fit5
              have PF := PE
              have hL := fitF.2
              have eoF := err_ok (merr_mem hL)
              refine ⟨_, rfl, _, _, rfl, dvF.any, fitF.1, _, rfl, _, _, rfl, dvF.any, fitF.1, fun u1 J1 im1 sm1 => ⟨u1, _, rfl, im1.dp, eoF.sh, _, _, rfl, ?_⟩⟩
              have dv1 := dvF.k (Ks.same sm1)
              refine ⟨_, rfl, _, _, rfl, dv1.any, fitF.1, fun u2 J2 im2 sm2 => ⟨_, rfl, _, _, rfl, (dv1.k (Ks.same sm2)).any, fitF.1, fun u3 J3 im3 sm3 => ⟨by show 2 ≤ sizeLine; decide, fun l nl => ?_⟩⟩⟩
              have im2' := im2.k ((Tk.same sm3).new (o := .lst [u2, u3]) nl)
              have im3' := im3.k ((Tk.refl J3).new (o := .lst [u2, u3]) nl)
              have dv3 := ((dv1.k (Ks.same sm2)).k (Ks.same sm3)).k (Ks.same (Same.new (o := .lst [u2, u3]) (Same.refl J3) nl))
              have PJ := (((PF.same sm1).same sm2).same sm3).new (o := .lst [u2, u3]) nl
              have hl : (upd J3 l (.lst [u2, u3])) l = some (.lst [u2, u3]) := upd_same
              generalize upd J3 l (.lst [u2, u3]) = J4 at *
              refine ⟨_, rfl, l, rfl, ⟨_, SqL.of hl⟩, fun m nm => ?_⟩
              refine lc_list (K := K) (a := l) (xs := [u2, u3]) (fun j H' => Same J4 H' ∧ H' m = some (.lst (List.replicate j (V.str (merr (.tuple [.tuple S, .tuple W5])).shown)))) ⟨Same.new (Same.refl J4) nm, upd_same⟩ (fun j H' _ z => SqL.of (z.1 _ _ hl)) ?_ ?_
              · rintro j y J5 hy ⟨sm5, hm⟩
                have jl : j < 2 := (List.getElem?_eq_some_iff.mp hy).1
                have imy : Im J5 y (merr (.tuple [.tuple S, .tuple W5])) := by
                  match j, hy with
                  | 0, hy =>
                    cases hy
                    exact im2'.k (Tk.same sm5)
                  | 1, hy =>
                    cases hy
                    exact im3'.k (Tk.same sm5)
                refine ⟨rfl, _, rfl, y, _, rfl, imy.dp, eoF.sh, _, hm, small1000 (by rw [List.length_replicate]; omega), Same.put sm5 nm, by rw [upd_same, List.replicate_succ']⟩
              rintro J5 ⟨sm5, hm⟩
              refine ⟨_, rfl, _, rfl, by show 2 ≤ sizeLine; decide, fun z nz => ⟨.list [.str _, .str _], .list [.str _, .str _], .lst (SqL.of (keepN hm nz)) (.cons (.str _) (.cons (.str _) .nil)), .lst (SqL.of upd_same) (.cons (.str _) (.cons (.str _) .nil)), two_shaped eoF.str, two_shaped eoF.str, _, rfl, ?_⟩⟩
              rw [two_eq]
              refine iteF ?_
              have sm6 := Same.new (o := .lst [.str (merr (.tuple [.tuple S, .tuple W5])).shown, .str (merr (.tuple [.tuple S, .tuple W5])).shown]) sm5 nz
              refine ⟨_, rfl, _, _, rfl, (dv3.k (Ks.same sm6)).any, fitF.1, _, rfl, rfl, _, rfl, iteNS rfl ⟨_, _, _, _, _, _, _, rfl, PJ.same sm6⟩⟩
          · have dvF := dv.k (Ks.same sm9)
            have fitF := fit
            have PF := P5.same sm9
            have hL := fitF.2
            have eoF := err_ok (merr_mem hL)
            refine ⟨_, rfl, _, _, rfl, dvF.any, fitF.1, _, rfl, _, _, rfl, dvF.any, fitF.1, fun u1 J1 im1 sm1 => ⟨u1, _, rfl, im1.dp, eoF.sh, _, _, rfl, ?_⟩⟩
            have dv1 := dvF.k (Ks.same sm1)
            refine ⟨_, rfl, _, _, rfl, dv1.any, fitF.1, fun u2 J2 im2 sm2 => ⟨_, rfl, _, _, rfl, (dv1.k (Ks.same sm2)).any, fitF.1, fun u3 J3 im3 sm3 => ⟨by show 2 ≤ sizeLine; decide, fun l nl => ?_⟩⟩⟩
            have im2' := im2.k ((Tk.same sm3).new (o := .lst [u2, u3]) nl)
            have im3' := im3.k ((Tk.refl J3).new (o := .lst [u2, u3]) nl)
            have dv3 := ((dv1.k (Ks.same sm2)).k (Ks.same sm3)).k (Ks.same (Same.new (o := .lst [u2, u3]) (Same.refl J3) nl))
            have PJ := (((PF.same sm1).same sm2).same sm3).new (o := .lst [u2, u3]) nl
            have hl : (upd J3 l (.lst [u2, u3])) l = some (.lst [u2, u3]) := upd_same
            generalize upd J3 l (.lst [u2, u3]) = J4 at *
            refine ⟨_, rfl, l, rfl, ⟨_, SqL.of hl⟩, fun m nm => ?_⟩
            refine lc_list (K := K) (a := l) (xs := [u2, u3]) (fun j H' => Same J4 H' ∧ H' m = some (.lst (List.replicate j (V.str (merr d).shown)))) ⟨Same.new (Same.refl J4) nm, upd_same⟩ (fun j H' _ z => SqL.of (z.1 _ _ hl)) ?_ ?_
            · rintro j y J5 hy ⟨sm5, hm⟩
              have jl : j < 2 := (List.getElem?_eq_some_iff.mp hy).1
              have imy : Im J5 y (merr d) := by
                match j, hy with
                | 0, hy =>
                  cases hy
                  exact im2'.k (Tk.same sm5)
                | 1, hy =>
                  cases hy
                  exact im3'.k (Tk.same sm5)
              refine ⟨rfl, _, rfl, y, _, rfl, imy.dp, eoF.sh, _, hm, small1000 (by rw [List.length_replicate]; omega), Same.put sm5 nm, by rw [upd_same, List.replicate_succ']⟩
            rintro J5 ⟨sm5, hm⟩
            refine ⟨_, rfl, _, rfl, by show 2 ≤ sizeLine; decide, fun z nz => ⟨.list [.str _, .str _], .list [.str _, .str _], .lst (SqL.of (keepN hm nz)) (.cons (.str _) (.cons (.str _) .nil)), .lst (SqL.of upd_same) (.cons (.str _) (.cons (.str _) .nil)), two_shaped eoF.str, two_shaped eoF.str, _, rfl, ?_⟩⟩
            rw [two_eq]
            refine iteF ?_
            have sm6 := Same.new (o := .lst [.str (merr d).shown, .str (merr d).shown]) sm5 nz
            refine ⟨_, rfl, _, _, rfl, (dv3.k (Ks.same sm6)).any, fitF.1, _, rfl, rfl, _, rfl, iteNS rfl ⟨_, _, _, _, _, _, _, rfl, PJ.same sm6⟩⟩
        · have dvF := dv
          have fitF := fit
          have PF := P5
          have hL := fitF.2
          have eoF := err_ok (merr_mem hL)
          refine ⟨_, rfl, _, _, rfl, dvF.any, fitF.1, _, rfl, _, _, rfl, dvF.any, fitF.1, fun u1 J1 im1 sm1 => ⟨u1, _, rfl, im1.dp, eoF.sh, _, _, rfl, ?_⟩⟩
          have dv1 := dvF.k (Ks.same sm1)
          refine ⟨_, rfl, _, _, rfl, dv1.any, fitF.1, fun u2 J2 im2 sm2 => ⟨_, rfl, _, _, rfl, (dv1.k (Ks.same sm2)).any, fitF.1, fun u3 J3 im3 sm3 => ⟨by show 2 ≤ sizeLine; decide, fun l nl => ?_⟩⟩⟩
          have im2' := im2.k ((Tk.same sm3).new (o := .lst [u2, u3]) nl)
          have im3' := im3.k ((Tk.refl J3).new (o := .lst [u2, u3]) nl)
          have dv3 := ((dv1.k (Ks.same sm2)).k (Ks.same sm3)).k (Ks.same (Same.new (o := .lst [u2, u3]) (Same.refl J3) nl))
          have PJ := (((PF.same sm1).same sm2).same sm3).new (o := .lst [u2, u3]) nl
          have hl : (upd J3 l (.lst [u2, u3])) l = some (.lst [u2, u3]) := upd_same
          generalize upd J3 l (.lst [u2, u3]) = J4 at *
          refine ⟨_, rfl, l, rfl, ⟨_, SqL.of hl⟩, fun m nm => ?_⟩
          refine lc_list (K := K) (a := l) (xs := [u2, u3]) (fun j H' => Same J4 H' ∧ H' m = some (.lst (List.replicate j (V.str (merr d).shown)))) ⟨Same.new (Same.refl J4) nm, upd_same⟩ (fun j H' _ z => SqL.of (z.1 _ _ hl)) ?_ ?_
          · rintro j y J5 hy ⟨sm5, hm⟩
            have jl : j < 2 := (List.getElem?_eq_some_iff.mp hy).1
            have imy : Im J5 y (merr d) := by
              match j, hy with
              | 0, hy =>
                cases hy
                exact im2'.k (Tk.same sm5)
              | 1, hy =>
                cases hy
                exact im3'.k (Tk.same sm5)
            refine ⟨rfl, _, rfl, y, _, rfl, imy.dp, eoF.sh, _, hm, small1000 (by rw [List.length_replicate]; omega), Same.put sm5 nm, by rw [upd_same, List.replicate_succ']⟩
          rintro J5 ⟨sm5, hm⟩
          refine ⟨_, rfl, _, rfl, by show 2 ≤ sizeLine; decide, fun z nz => ⟨.list [.str _, .str _], .list [.str _, .str _], .lst (SqL.of (keepN hm nz)) (.cons (.str _) (.cons (.str _) .nil)), .lst (SqL.of upd_same) (.cons (.str _) (.cons (.str _) .nil)), two_shaped eoF.str, two_shaped eoF.str, _, rfl, ?_⟩⟩
          rw [two_eq]
          refine iteF ?_
          have sm6 := Same.new (o := .lst [.str (merr d).shown, .str (merr d).shown]) sm5 nz
          refine ⟨_, rfl, _, _, rfl, (dv3.k (Ks.same sm6)).any, fitF.1, _, rfl, rfl, _, rfl, iteNS rfl ⟨_, _, _, _, _, _, _, rfl, PJ.same sm6⟩⟩
    · rintro σ H2 ⟨v2, v3, v4, v5, v6, v7, v8, rfl, P2⟩
      exact k _

end
/-! ### what the top has written -/
theorem all_mk {l : PySem.W.OpenLaw} {w : World} {K : PySem.W.Frag} {h : Heap} {mg : Str → Option Value} {fa f1 f2 f3 f4 f5 f6 f7 f8 f9 f10 f11 f12 f13 f14 f15 f16 f17 f18 f19 f20 f21 f22 at0 : Addr} (X : K.In h) (G : h.Ns mainGlobals mg) (hfa : mg "law" = some (.ref fa))
    {od1 an1 od2 an2 od3 an3 od4 an4 od5 an5 od6 an6 od7 an7 od8 an8 od9 an9 od10 an10 od11 an11 od12 an12 od13 an13 od14 an14 od15 an15 od16 an16 od17 an17 od18 an18 od19 an19 od20 an20 od21 an21 od22 an22 : Option Addr} {sl1 sl2 sl3 sl4 sl5 sl6 sl7 sl8 sl9 sl10 sl11 sl12 sl13 sl14 sl15 sl16 sl17 sl18 sl19 sl20 sl21 sl22 : Array (Option Value)} {oc1 kV1 dc1 pm1 cd1 ct1 oc2 kV2 dc2 pm2 cd2 ct2 oc3 kV3 dc3 pm3 cd3 ct3 oc4 kV4 dc4 pm4 cd4 ct4 oc5 kV5 dc5 pm5 cd5 ct5 oc6 kV6 dc6 pm6 cd6 ct6 oc7 kV7 dc7 pm7 cd7 ct7 oc8 kV8 dc8 pm8 cd8 ct8 oc9 kV9 dc9 pm9 cd9 ct9 oc10 kV10 dc10 pm10 cd10 ct10 oc11 kV11 dc11 pm11 cd11 ct11 oc12 kV12 dc12 pm12 cd12 ct12 oc13 kV13 dc13 pm13 cd13 ct13 oc14 kV14 dc14 pm14 cd14 ct14 oc15 kV15 dc15 pm15 cd15 ct15 oc16 kV16 dc16 pm16 cd16 ct16 oc17 kV17 dc17 pm17 cd17 ct17 oc18 kV18 dc18 pm18 cd18 ct18 oc19 kV19 dc19 pm19 cd19 ct19 oc20 kV20 dc20 pm20 cd20 ct20 oc21 kV21 dc21 pm21 cd21 ct21 oc22 kV22 dc22 pm22 cd22 ct22 : Value} {ot0 : Obj} {it0 : Array Value} {nt0 : Nat} {tR tS : Tok}
    (a1 : PySem.W.nsIn K mainGlobals "is_an_integer" = some (some (.ref f1))) (l1 : K.lookup f1 = some ⟨oc1, od1, .func (PySem.W.fnOf "is_an_integer" "is_an_integer" (defArgs s_is_an_integer) (defBody s_is_an_integer) (defScope s_is_an_integer) .none kV1 dc1 pm1 an1 cd1 ct1), sl1⟩) (c1 : PySem.W.codeIn K cd1 "is_an_integer" = true) (k1 : PySem.W.keepIn K (.ref f1) = true)
    (a2 : PySem.W.nsIn K mainGlobals "is_below" = some (some (.ref f2))) (l2 : K.lookup f2 = some ⟨oc2, od2, .func (PySem.W.fnOf "is_below" "is_below" (defArgs s_is_below) (defBody s_is_below) (defScope s_is_below) .none kV2 dc2 pm2 an2 cd2 ct2), sl2⟩) (c2 : PySem.W.codeIn K cd2 "is_below" = true) (k2 : PySem.W.keepIn K (.ref f2) = true)
    (a3 : PySem.W.nsIn K mainGlobals "is_pair" = some (some (.ref f3))) (l3 : K.lookup f3 = some ⟨oc3, od3, .func (PySem.W.fnOf "is_pair" "is_pair" (defArgs s_is_pair) (defBody s_is_pair) (defScope s_is_pair) .none kV3 dc3 pm3 an3 cd3 ct3), sl3⟩) (c3 : PySem.W.codeIn K cd3 "is_pair" = true) (k3 : PySem.W.keepIn K (.ref f3) = true)
    (a4 : PySem.W.nsIn K mainGlobals "machine_error" = some (some (.ref f4))) (l4 : K.lookup f4 = some ⟨oc4, od4, .func (PySem.W.fnOf "machine_error" "machine_error" (defArgs s_machine_error) (defBody s_machine_error) (defScope s_machine_error) .none kV4 dc4 pm4 an4 cd4 ct4), sl4⟩) (c4 : PySem.W.codeIn K cd4 "machine_error" = true) (k4 : PySem.W.keepIn K (.ref f4) = true)
    (a5 : PySem.W.nsIn K mainGlobals "has_machine_form" = some (some (.ref f5))) (l5 : K.lookup f5 = some ⟨oc5, od5, .func (PySem.W.fnOf "has_machine_form" "has_machine_form" (defArgs s_has_machine_form) (defBody s_has_machine_form) (defScope s_has_machine_form) .none kV5 dc5 pm5 an5 cd5 ct5), sl5⟩) (c5 : PySem.W.codeIn K cd5 "has_machine_form" = true) (k5 : PySem.W.keepIn K (.ref f5) = true)
    (a6 : PySem.W.nsIn K mainGlobals "is_size" = some (some (.ref f6))) (l6 : K.lookup f6 = some ⟨oc6, od6, .func (PySem.W.fnOf "is_size" "is_size" (defArgs s_is_size) (defBody s_is_size) (defScope s_is_size) .none kV6 dc6 pm6 an6 cd6 ct6), sl6⟩) (c6 : PySem.W.codeIn K cd6 "is_size" = true) (k6 : PySem.W.keepIn K (.ref f6) = true)
    (a7 : PySem.W.nsIn K mainGlobals "is_wire" = some (some (.ref f7))) (l7 : K.lookup f7 = some ⟨oc7, od7, .func (PySem.W.fnOf "is_wire" "is_wire" (defArgs s_is_wire) (defBody s_is_wire) (defScope s_is_wire) .none kV7 dc7 pm7 an7 cd7 ct7), sl7⟩) (c7 : PySem.W.codeIn K cd7 "is_wire" = true) (k7 : PySem.W.keepIn K (.ref f7) = true)
    (a8 : PySem.W.nsIn K mainGlobals "_law_pot" = some (some (.ref f8))) (l8 : K.lookup f8 = some ⟨oc8, od8, .func (PySem.W.fnOf "_law_pot" "_law_pot" (defArgs s_l_pot) (defBody s_l_pot) (defScope s_l_pot) .none kV8 dc8 pm8 an8 cd8 ct8), sl8⟩) (c8 : PySem.W.codeIn K cd8 "_law_pot" = true) (k8 : PySem.W.keepIn K (.ref f8) = true)
    (a9 : PySem.W.nsIn K mainGlobals "_law_dip" = some (some (.ref f9))) (l9 : K.lookup f9 = some ⟨oc9, od9, .func (PySem.W.fnOf "_law_dip" "_law_dip" (defArgs s_l_dip) (defBody s_l_dip) (defScope s_l_dip) .none kV9 dc9 pm9 an9 cd9 ct9), sl9⟩) (c9 : PySem.W.codeIn K cd9 "_law_dip" = true) (k9 : PySem.W.keepIn K (.ref f9) = true)
    (a10 : PySem.W.nsIn K mainGlobals "_law_pick" = some (some (.ref f10))) (l10 : K.lookup f10 = some ⟨oc10, od10, .func (PySem.W.fnOf "_law_pick" "_law_pick" (defArgs s_l_pick) (defBody s_l_pick) (defScope s_l_pick) .none kV10 dc10 pm10 an10 cd10 ct10), sl10⟩) (c10 : PySem.W.codeIn K cd10 "_law_pick" = true) (k10 : PySem.W.keepIn K (.ref f10) = true)
    (a11 : PySem.W.nsIn K mainGlobals "_law_primes" = some (some (.ref f11))) (l11 : K.lookup f11 = some ⟨oc11, od11, .func (PySem.W.fnOf "_law_primes" "_law_primes" (defArgs s_l_primes) (defBody s_l_primes) (defScope s_l_primes) .none kV11 dc11 pm11 an11 cd11 ct11), sl11⟩) (c11 : PySem.W.codeIn K cd11 "_law_primes" = true) (k11 : PySem.W.keepIn K (.ref f11) = true)
    (a12 : PySem.W.nsIn K mainGlobals "_law_great" = some (some (.ref f12))) (l12 : K.lookup f12 = some ⟨oc12, od12, .func (PySem.W.fnOf "_law_great" "_law_great" (defArgs s_l_great) (defBody s_l_great) (defScope s_l_great) .none kV12 dc12 pm12 an12 cd12 ct12), sl12⟩) (c12 : PySem.W.codeIn K cd12 "_law_great" = true) (k12 : PySem.W.keepIn K (.ref f12) = true)
    (a13 : PySem.W.nsIn K mainGlobals "_law_sizes" = some (some (.ref f13))) (l13 : K.lookup f13 = some ⟨oc13, od13, .func (PySem.W.fnOf "_law_sizes" "_law_sizes" (defArgs s_l_sizes) (defBody s_l_sizes) (defScope s_l_sizes) .none kV13 dc13 pm13 an13 cd13 ct13), sl13⟩) (c13 : PySem.W.codeIn K cd13 "_law_sizes" = true) (k13 : PySem.W.keepIn K (.ref f13) = true)
    (a14 : PySem.W.nsIn K mainGlobals "_law_wires" = some (some (.ref f14))) (l14 : K.lookup f14 = some ⟨oc14, od14, .func (PySem.W.fnOf "_law_wires" "_law_wires" (defArgs s_l_wires) (defBody s_l_wires) (defScope s_l_wires) .none kV14 dc14 pm14 an14 cd14 ct14), sl14⟩) (c14 : PySem.W.codeIn K cd14 "_law_wires" = true) (k14 : PySem.W.keepIn K (.ref f14) = true)
    (a15 : PySem.W.nsIn K mainGlobals "_law_machine" = some (some (.ref f15))) (l15 : K.lookup f15 = some ⟨oc15, od15, .func (PySem.W.fnOf "_law_machine" "_law_machine" (defArgs s_l_machine) (defBody s_l_machine) (defScope s_l_machine) .none kV15 dc15 pm15 an15 cd15 ct15), sl15⟩) (c15 : PySem.W.codeIn K cd15 "_law_machine" = true) (k15 : PySem.W.keepIn K (.ref f15) = true)
    (a16 : PySem.W.nsIn K mainGlobals "_law_is_size" = some (some (.ref f16))) (l16 : K.lookup f16 = some ⟨oc16, od16, .func (PySem.W.fnOf "_law_is_size" "_law_is_size" (defArgs s_l_is_size) (defBody s_l_is_size) (defScope s_l_is_size) .none kV16 dc16 pm16 an16 cd16 ct16), sl16⟩) (c16 : PySem.W.codeIn K cd16 "_law_is_size" = true) (k16 : PySem.W.keepIn K (.ref f16) = true)
    (a17 : PySem.W.nsIn K mainGlobals "_law_is_wire" = some (some (.ref f17))) (l17 : K.lookup f17 = some ⟨oc17, od17, .func (PySem.W.fnOf "_law_is_wire" "_law_is_wire" (defArgs s_l_is_wire) (defBody s_l_is_wire) (defScope s_l_is_wire) .none kV17 dc17 pm17 an17 cd17 ct17), sl17⟩) (c17 : PySem.W.codeIn K cd17 "_law_is_wire" = true) (k17 : PySem.W.keepIn K (.ref f17) = true)
    (a18 : PySem.W.nsIn K mainGlobals "_law_due" = some (some (.ref f18))) (l18 : K.lookup f18 = some ⟨oc18, od18, .func (PySem.W.fnOf "_law_due" "_law_due" (defArgs s_l_due) (defBody s_l_due) (defScope s_l_due) .none kV18 dc18 pm18 an18 cd18 ct18), sl18⟩) (c18 : PySem.W.codeIn K cd18 "_law_due" = true) (k18 : PySem.W.keepIn K (.ref f18) = true)
    (a19 : PySem.W.nsIn K mainGlobals "_law_odd_size" = some (some (.ref f19))) (l19 : K.lookup f19 = some ⟨oc19, od19, .func (PySem.W.fnOf "_law_odd_size" "_law_odd_size" (defArgs s_l_odd_size) (defBody s_l_odd_size) (defScope s_l_odd_size) .none kV19 dc19 pm19 an19 cd19 ct19), sl19⟩) (c19 : PySem.W.codeIn K cd19 "_law_odd_size" = true) (k19 : PySem.W.keepIn K (.ref f19) = true)
    (a20 : PySem.W.nsIn K mainGlobals "_law_odd_wire" = some (some (.ref f20))) (l20 : K.lookup f20 = some ⟨oc20, od20, .func (PySem.W.fnOf "_law_odd_wire" "_law_odd_wire" (defArgs s_l_odd_wire) (defBody s_l_odd_wire) (defScope s_l_odd_wire) .none kV20 dc20 pm20 an20 cd20 ct20), sl20⟩) (c20 : PySem.W.codeIn K cd20 "_law_odd_wire" = true) (k20 : PySem.W.keepIn K (.ref f20) = true)
    (a21 : PySem.W.nsIn K mainGlobals "_law_spoilt" = some (some (.ref f21))) (l21 : K.lookup f21 = some ⟨oc21, od21, .func (PySem.W.fnOf "_law_spoilt" "_law_spoilt" (defArgs s_l_spoilt) (defBody s_l_spoilt) (defScope s_l_spoilt) .none kV21 dc21 pm21 an21 cd21 ct21), sl21⟩) (c21 : PySem.W.codeIn K cd21 "_law_spoilt" = true) (k21 : PySem.W.keepIn K (.ref f21) = true)
    (a22 : PySem.W.nsIn K mainGlobals "law" = some (some (.ref f22))) (l22 : K.lookup f22 = some ⟨oc22, od22, .func (PySem.W.fnOf "law" "law" (defArgs s_law) (defBody s_law) (defScope s_law) .none kV22 dc22 pm22 an22 cd22 ct22), sl22⟩) (c22 : PySem.W.codeIn K cd22 "law" = true) (k22 : PySem.W.keepIn K (.ref f22) = true)
    (z_len : PySem.W.nsIn K mainGlobals "len" = some none)
    (z_int : PySem.W.nsIn K mainGlobals "int" = some none)
    (z_max : PySem.W.nsIn K mainGlobals "max" = some none)
    (z_min : PySem.W.nsIn K mainGlobals "min" = some none)
    (z_tuple : PySem.W.nsIn K mainGlobals "tuple" = some none)
    (z_list : PySem.W.nsIn K mainGlobals "list" = some none)
    (z_range : PySem.W.nsIn K mainGlobals "range" = some none)
    (z_any : PySem.W.nsIn K mainGlobals "any" = some none)
    (z_all : PySem.W.nsIn K mainGlobals "all" = some none)
    (z_repr : PySem.W.nsIn K mainGlobals "repr" = some none)
    (z_enumerate : PySem.W.nsIn K mainGlobals "enumerate" = some none)
    (z_isinstance : PySem.W.nsIn K mainGlobals "isinstance" = some none)
    (z_bool : PySem.W.nsIn K mainGlobals "bool" = some none)
    (g_MAX_REGISTERS : PySem.W.nsIn K mainGlobals "MAX_REGISTERS" = some (some (.int 6 tR)))
    (g_MAX_SIZE : PySem.W.nsIn K mainGlobals "MAX_SIZE" = some (some (.int 1000000000000000000000000000000 tS)))
    (g_PRIMES : PySem.W.nsIn K mainGlobals "PRIMES" = some (some (.ref at0))) (lt0 : K.lookup at0 = some ot0) (ct_0 : ot0.cls = .type "tuple") (dt0 : ot0.data = .seq it0 nt0) (vt0 : Vals (PR.map V.int) it0.toList) (zt0 : it0.size ≤ sizeLine) :
    ∃ fd : FuncData, (∀ (s : Shared) (v : Value), BindsTo s fd ⟨[v], []⟩ [("script", v)]) ∧ ∀ base : Heap, K.In base → base.Ns mainGlobals mg → GFn l.prog w K mg base 6 fa fd ["script"] (spLaw K) := by
  have e := hfa.symm.trans (PySem.W.mg_of X G a22)
  cases e
  have T : Blt mg := ⟨PySem.W.mg_none_of X G z_len, PySem.W.mg_none_of X G z_int, PySem.W.mg_none_of X G z_max, PySem.W.mg_none_of X G z_min, PySem.W.mg_none_of X G z_tuple, PySem.W.mg_none_of X G z_list, PySem.W.mg_none_of X G z_range, PySem.W.mg_none_of X G z_any, PySem.W.mg_none_of X G z_all, PySem.W.mg_none_of X G z_repr, PySem.W.mg_none_of X G z_enumerate, PySem.W.mg_none_of X G z_isinstance, PySem.W.mg_none_of X G z_bool⟩
  have F1 := fun_mk (st := s_is_an_integer) l1 c1 k1
  have D_is_an_integer : DefAt K mg "is_an_integer" s_is_an_integer ["value"] f1 _ := ⟨F1, PySem.W.mg_of X G a1, F1.binds (ps := ["value"]) fun _ _ _ _ _ _ us hl => match us, hl with | [_], _ => rfl⟩
  have F2 := fun_mk (st := s_is_below) l2 c2 k2
  have D_is_below : DefAt K mg "is_below" s_is_below ["value", "bound"] f2 _ := ⟨F2, PySem.W.mg_of X G a2, F2.binds (ps := ["value", "bound"]) fun _ _ _ _ _ _ us hl => match us, hl with | [_, _], _ => rfl⟩
  have F3 := fun_mk (st := s_is_pair) l3 c3 k3
  have D_is_pair : DefAt K mg "is_pair" s_is_pair ["value"] f3 _ := ⟨F3, PySem.W.mg_of X G a3, F3.binds (ps := ["value"]) fun _ _ _ _ _ _ us hl => match us, hl with | [_], _ => rfl⟩
  have F4 := fun_mk (st := s_machine_error) l4 c4 k4
  have D_machine_error : DefAt K mg "machine_error" s_machine_error ["value"] f4 _ := ⟨F4, PySem.W.mg_of X G a4, F4.binds (ps := ["value"]) fun _ _ _ _ _ _ us hl => match us, hl with | [_], _ => rfl⟩
  have F5 := fun_mk (st := s_has_machine_form) l5 c5 k5
  have D_has_machine_form : DefAt K mg "has_machine_form" s_has_machine_form ["value"] f5 _ := ⟨F5, PySem.W.mg_of X G a5, F5.binds (ps := ["value"]) fun _ _ _ _ _ _ us hl => match us, hl with | [_], _ => rfl⟩
  have F6 := fun_mk (st := s_is_size) l6 c6 k6
  have D_is_size : DefAt K mg "is_size" s_is_size ["value"] f6 _ := ⟨F6, PySem.W.mg_of X G a6, F6.binds (ps := ["value"]) fun _ _ _ _ _ _ us hl => match us, hl with | [_], _ => rfl⟩
  have F7 := fun_mk (st := s_is_wire) l7 c7 k7
  have D_is_wire : DefAt K mg "is_wire" s_is_wire ["value", "many"] f7 _ := ⟨F7, PySem.W.mg_of X G a7, F7.binds (ps := ["value", "many"]) fun _ _ _ _ _ _ us hl => match us, hl with | [_, _], _ => rfl⟩
  have F8 := fun_mk (st := s_l_pot) l8 c8 k8
  have D_l_pot : DefAt K mg "_law_pot" s_l_pot ["script"] f8 _ := ⟨F8, PySem.W.mg_of X G a8, F8.binds (ps := ["script"]) fun _ _ _ _ _ _ us hl => match us, hl with | [_], _ => rfl⟩
  have F9 := fun_mk (st := s_l_dip) l9 c9 k9
  have D_l_dip : DefAt K mg "_law_dip" s_l_dip ["pot", "size"] f9 _ := ⟨F9, PySem.W.mg_of X G a9, F9.binds (ps := ["pot", "size"]) fun _ _ _ _ _ _ us hl => match us, hl with | [_, _], _ => rfl⟩
  have F10 := fun_mk (st := s_l_pick) l10 c10 k10
  have D_l_pick : DefAt K mg "_law_pick" s_l_pick ["pot", "items"] f10 _ := ⟨F10, PySem.W.mg_of X G a10, F10.binds (ps := ["pot", "items"]) fun _ _ _ _ _ _ us hl => match us, hl with | [_, _], _ => rfl⟩
  have F11 := fun_mk (st := s_l_primes) l11 c11 k11
  have D_l_primes : DefAt K mg "_law_primes" s_l_primes [] f11 _ := ⟨F11, PySem.W.mg_of X G a11, F11.binds (ps := []) fun _ _ _ _ _ _ us hl => match us, hl with | [], _ => rfl⟩
  have F12 := fun_mk (st := s_l_great) l12 c12 k12
  have D_l_great : DefAt K mg "_law_great" s_l_great ["pot"] f12 _ := ⟨F12, PySem.W.mg_of X G a12, F12.binds (ps := ["pot"]) fun _ _ _ _ _ _ us hl => match us, hl with | [_], _ => rfl⟩
  have F13 := fun_mk (st := s_l_sizes) l13 c13 k13
  have D_l_sizes : DefAt K mg "_law_sizes" s_l_sizes ["pot", "is_great"] f13 _ := ⟨F13, PySem.W.mg_of X G a13, F13.binds (ps := ["pot", "is_great"]) fun _ _ _ _ _ _ us hl => match us, hl with | [_, _], _ => rfl⟩
  have F14 := fun_mk (st := s_l_wires) l14 c14 k14
  have D_l_wires : DefAt K mg "_law_wires" s_l_wires ["pot", "many"] f14 _ := ⟨F14, PySem.W.mg_of X G a14, F14.binds (ps := ["pot", "many"]) fun _ _ _ _ _ _ us hl => match us, hl with | [_, _], _ => rfl⟩
  have F15 := fun_mk (st := s_l_machine) l15 c15 k15
  have D_l_machine : DefAt K mg "_law_machine" s_l_machine ["pot", "is_great"] f15 _ := ⟨F15, PySem.W.mg_of X G a15, F15.binds (ps := ["pot", "is_great"]) fun _ _ _ _ _ _ us hl => match us, hl with | [_, _], _ => rfl⟩
  have F16 := fun_mk (st := s_l_is_size) l16 c16 k16
  have D_l_is_size : DefAt K mg "_law_is_size" s_l_is_size ["value"] f16 _ := ⟨F16, PySem.W.mg_of X G a16, F16.binds (ps := ["value"]) fun _ _ _ _ _ _ us hl => match us, hl with | [_], _ => rfl⟩
  have F17 := fun_mk (st := s_l_is_wire) l17 c17 k17
  have D_l_is_wire : DefAt K mg "_law_is_wire" s_l_is_wire ["value", "many"] f17 _ := ⟨F17, PySem.W.mg_of X G a17, F17.binds (ps := ["value", "many"]) fun _ _ _ _ _ _ us hl => match us, hl with | [_, _], _ => rfl⟩
  have F18 := fun_mk (st := s_l_due) l18 c18 k18
  have D_l_due : DefAt K mg "_law_due" s_l_due ["value"] f18 _ := ⟨F18, PySem.W.mg_of X G a18, F18.binds (ps := ["value"]) fun _ _ _ _ _ _ us hl => match us, hl with | [_], _ => rfl⟩
  have F19 := fun_mk (st := s_l_odd_size) l19 c19 k19
  have D_l_odd_size : DefAt K mg "_law_odd_size" s_l_odd_size ["pot"] f19 _ := ⟨F19, PySem.W.mg_of X G a19, F19.binds (ps := ["pot"]) fun _ _ _ _ _ _ us hl => match us, hl with | [_], _ => rfl⟩
  have F20 := fun_mk (st := s_l_odd_wire) l20 c20 k20
  have D_l_odd_wire : DefAt K mg "_law_odd_wire" s_l_odd_wire ["pot", "many"] f20 _ := ⟨F20, PySem.W.mg_of X G a20, F20.binds (ps := ["pot", "many"]) fun _ _ _ _ _ _ us hl => match us, hl with | [_, _], _ => rfl⟩
  have F21 := fun_mk (st := s_l_spoilt) l21 c21 k21
  have D_l_spoilt : DefAt K mg "_law_spoilt" s_l_spoilt ["pot", "machine"] f21 _ := ⟨F21, PySem.W.mg_of X G a21, F21.binds (ps := ["pot", "machine"]) fun _ _ _ _ _ _ us hl => match us, hl with | [_, _], _ => rfl⟩
  have F22 := fun_mk (st := s_law) l22 c22 k22
  have q_PRIMES : ∀ H : Hp, SqT K H at0 (PR.map V.int) := fun H => .inr ⟨ot0, it0, nt0, lt0, ct_0, dt0, zt0, vt0⟩
  refine ⟨PySem.W.fnOf "law" "law" (defArgs s_law) (defBody s_law) (defScope s_law) .none kV22 dc22 pm22 an22 cd22 ct22, fun s v => .of_eq rfl, fun base _ _ => ?_⟩
  have c_dip := ok_dip (P := l.prog) (w := w) (base := base) D_l_dip T
  have c_pick := ok_pick D_l_pick T c_dip
  have c_primes := ok_primes (P := l.prog) (w := w) (base := base) D_l_primes
  have c_great := ok_great D_l_great T c_dip c_pick c_primes
  have c_sizes := ok_sizes D_l_sizes T c_dip c_pick c_great
  have c_wires := ok_wires D_l_wires T c_dip c_pick
  have c_machine := ok_machine D_l_machine T c_sizes c_wires
  have c_pot := ok_pot (P := l.prog) (w := w) (base := base) D_l_pot T
  have c_int := ok_isint (P := l.prog) (w := w) (base := base) D_is_an_integer T
  have c_below := ok_isbelow D_is_below c_int
  have c_pair := ok_ispair (P := l.prog) (w := w) (base := base) D_is_pair T
  have c_form := ok_form D_has_machine_form T (PySem.W.mg_of X G g_MAX_REGISTERS) c_pair
  have c_size := ok_issize D_is_size (show mg "MAX_SIZE" = some (.int (10 ^ 30) tS) from PySem.W.mg_of X G g_MAX_SIZE) (PySem.W.mg_of X G g_PRIMES) q_PRIMES c_int
  have c_wire := ok_iswire D_is_wire c_pair c_below
  have f_merr := fn_merr D_machine_error T c_form c_size c_wire
  have c_lsize := ok_lsize D_l_is_size T c_primes
  have c_lwire := ok_lwire (P := l.prog) (w := w) (base := base) D_l_is_wire T
  have c_due := ok_due D_l_due T c_lsize c_lwire
  have c_odds := ok_odds D_l_odd_size c_pick
  have c_oddw := ok_oddw D_l_odd_wire c_pick
  have c_spoilt := ok_spoilt D_l_spoilt T c_dip c_pick c_odds c_oddw
  exact ok_law F22 T c_pot c_dip c_machine c_due c_spoilt c_odds c_oddw (Cal.of D_machine_error f_merr) (CalK.of D_machine_error f_merr (k_merr D_machine_error.fn))
end NA
open PySem PySem.W PyProof.Rows in
set_option maxRecDepth 100000 in
set_option maxHeartbeats 0 in
theorem PySem.Challenge.cw_narrowadds_k01_what_is_a_machine_holds : PySem.Challenge.rw_narrowadds_k01_what_is_a_machine.Holds := by
  w_on; o_law; k_head; (case hw => w_witness2)
  k_fill
  refine NA.walkG (l := PySem.Challenge.rw_narrowadds_k01_what_is_a_machine) (n := 63) (k := 6) (x := "script") (sp := NA.spLaw) rfl (by decide) rfl ⟨rfl, by decide, by decide⟩ (fun w h Y => PySem.W.kIn_of Y) ?F (fun _ _ a ns hl _ hS => ⟨a, ns, rfl, hS, hl, fun _ => rfl⟩)
  case F =>
    intro w mg fa h KX G hmg
    refine' NA.all_mk KX G hmg ?a1 ?l1 ?c1 ?k1 ?a2 ?l2 ?c2 ?k2 ?a3 ?l3 ?c3 ?k3 ?a4 ?l4 ?c4 ?k4 ?a5 ?l5 ?c5 ?k5 ?a6 ?l6 ?c6 ?k6 ?a7 ?l7 ?c7 ?k7 ?a8 ?l8 ?c8 ?k8 ?a9 ?l9 ?c9 ?k9 ?a10 ?l10 ?c10 ?k10 ?a11 ?l11 ?c11 ?k11 ?a12 ?l12 ?c12 ?k12 ?a13 ?l13 ?c13 ?k13 ?a14 ?l14 ?c14 ?k14 ?a15 ?l15 ?c15 ?k15 ?a16 ?l16 ?c16 ?k16 ?a17 ?l17 ?c17 ?k17 ?a18 ?l18 ?c18 ?k18 ?a19 ?l19 ?c19 ?k19 ?a20 ?l20 ?c20 ?k20 ?a21 ?l21 ?c21 ?k21 ?a22 ?l22 ?c22 ?k22 ?z_len ?z_int ?z_max ?z_min ?z_tuple ?z_list ?z_range ?z_any ?z_all ?z_repr ?z_enumerate ?z_isinstance ?z_bool ?g_MAX_REGISTERS ?g_MAX_SIZE ?g_PRIMES ?lt0 ?ct_0 ?dt0 ?vt0 ?zt0
    (case a1 => k_is)
    (case l1 => k_is)
    (case c1 => k_is)
    (case k1 => k_is)
    (case a2 => k_is)
    (case l2 => k_is)
    (case c2 => k_is)
    (case k2 => k_is)
    (case a3 => k_is)
    (case l3 => k_is)
    (case c3 => k_is)
    (case k3 => k_is)
    (case a4 => k_is)
    (case l4 => k_is)
    (case c4 => k_is)
    (case k4 => k_is)
    (case a5 => k_is)
    (case l5 => k_is)
    (case c5 => k_is)
    (case k5 => k_is)
    (case a6 => k_is)
    (case l6 => k_is)
    (case c6 => k_is)
    (case k6 => k_is)
    (case a7 => k_is)
    (case l7 => k_is)
    (case c7 => k_is)
    (case k7 => k_is)
    (case a8 => k_is)
    (case l8 => k_is)
    (case c8 => k_is)
    (case k8 => k_is)
    (case a9 => k_is)
    (case l9 => k_is)
    (case c9 => k_is)
    (case k9 => k_is)
    (case a10 => k_is)
    (case l10 => k_is)
    (case c10 => k_is)
    (case k10 => k_is)
    (case a11 => k_is)
    (case l11 => k_is)
    (case c11 => k_is)
    (case k11 => k_is)
    (case a12 => k_is)
    (case l12 => k_is)
    (case c12 => k_is)
    (case k12 => k_is)
    (case a13 => k_is)
    (case l13 => k_is)
    (case c13 => k_is)
    (case k13 => k_is)
    (case a14 => k_is)
    (case l14 => k_is)
    (case c14 => k_is)
    (case k14 => k_is)
    (case a15 => k_is)
    (case l15 => k_is)
    (case c15 => k_is)
    (case k15 => k_is)
    (case a16 => k_is)
    (case l16 => k_is)
    (case c16 => k_is)
    (case k16 => k_is)
    (case a17 => k_is)
    (case l17 => k_is)
    (case c17 => k_is)
    (case k17 => k_is)
    (case a18 => k_is)
    (case l18 => k_is)
    (case c18 => k_is)
    (case k18 => k_is)
    (case a19 => k_is)
    (case l19 => k_is)
    (case c19 => k_is)
    (case k19 => k_is)
    (case a20 => k_is)
    (case l20 => k_is)
    (case c20 => k_is)
    (case k20 => k_is)
    (case a21 => k_is)
    (case l21 => k_is)
    (case c21 => k_is)
    (case k21 => k_is)
    (case a22 => k_is)
    (case l22 => k_is)
    (case c22 => k_is)
    (case k22 => k_is)
    (case z_len => k_is)
    (case z_int => k_is)
    (case z_max => k_is)
    (case z_min => k_is)
    (case z_tuple => k_is)
    (case z_list => k_is)
    (case z_range => k_is)
    (case z_any => k_is)
    (case z_all => k_is)
    (case z_repr => k_is)
    (case z_enumerate => k_is)
    (case z_isinstance => k_is)
    (case z_bool => k_is)
    (case g_MAX_REGISTERS => k_is)
    (case g_MAX_SIZE => k_is)
    (case g_PRIMES => k_is)
    (case lt0 => k_is)
    (case ct_0 => rfl)
    (case dt0 => rfl)
    (case vt0 => repeat (first | exact PySem.Paired.nil | refine PySem.Paired.cons ⟨_, rfl⟩ ?_))
    (case zt0 => decide)
