import PyProof.Rows.All
import Wide.All
import OpenK.AllK
import Wide.FinOn
import HandS.ForMost
import HandS.Codes
import HandS.Wide
import HandS.WideMore
import HandS.Gcd
import HandS.Walk
import HandS.Style
import HandS.Conv
import HandS.IsInst
import HandS.SetIn
import HandS.TupLe
import HandS.TupAny
import HandS.TupMul
import HandS.Zip
import HandS.Star
import HandS.ListItems
import HandS.Sort
import HandS.TryOnly
import PyProof.Rows.ReprOcc
import KE.GoesZip
import PyProof.CollectWalk
import PyProof.ListNew
import PyProof.MeetsSeq2
import PyProof.WalkInts
import KE.GoesMore
import KE.GoesEnum
import KE.KSetDisp
import PySem.Challenge.RW_narrowadds_k10_whole_tables_by_own_sums
set_option Elab.async false
set_option linter.all false
set_option maxRecDepth 100000
set_option maxHeartbeats 2000000
set_option exponentiation.threshold 5000
/-! the mathematics of sizes: primes to 97, how often they divide -/
namespace NA
def PRn : List Nat := [2, 3, 5, 7, 11, 13, 17, 19, 23, 29, 31, 37, 41, 43, 47, 53, 59, 61, 67, 71, 73, 79, 83, 89, 97]
inductive Smo : Nat → Prop
  | one : Smo 1
  | mul {p n : Nat} : p ∈ PRn → Smo n → Smo (p * n)
theorem PRn_two {p : Nat} (h : p ∈ PRn) : 2 ≤ p := by
  have e : PRn.all (fun p => decide (2 ≤ p)) = true := by decide
  exact of_decide_eq_true (List.all_eq_true.mp e p h)
theorem PRn_le {p : Nat} (h : p ∈ PRn) : p ≤ 97 := by
  have e : PRn.all (fun p => decide (p ≤ 97)) = true := by decide
  exact of_decide_eq_true (List.all_eq_true.mp e p h)
theorem Smo.pos {n : Nat} (h : Smo n) : 0 < n := by
  induction h with
  | one => decide
  | mul hp _ ih => exact Nat.mul_pos (Nat.lt_of_lt_of_le (by decide) (PRn_two hp)) ih
theorem Smo.mulr {p n : Nat} (hp : p ∈ PRn) (h : Smo n) : Smo (n * p) := by
  rw [Nat.mul_comm]
  exact .mul hp h
def stripN (p : Nat) : Nat → Nat → Nat
  | 0, n => n
  | f + 1, n => if n % p = 0 then stripN p f (n / p) else n
theorem stripN_smo {p : Nat} (hp : p ∈ PRn) : ∀ (f n : Nat), Smo (stripN p f n) → Smo n
  | 0, _, h => h
  | f + 1, n, h => by
    unfold stripN at h
    by_cases e : n % p = 0
    · rw [if_pos e] at h
      have h1 := stripN_smo hp f (n / p) h
      have h2 : n = p * (n / p) := by
        have := Nat.div_add_mod n p
        omega
      rw [h2]
      exact .mul hp h1
    · rw [if_neg e] at h
      exact h
def smoB (n : Nat) : Bool := PRn.foldl (fun n p => stripN p 110 n) n == 1
theorem foldl_smo : ∀ (l : List Nat), (∀ p ∈ l, p ∈ PRn) → ∀ n, Smo (l.foldl (fun n p => stripN p 110 n) n) → Smo n
  | [], _, _, h => h
  | p :: l, hl, n, h => stripN_smo (hl p List.mem_cons_self) 110 n (foldl_smo l (fun q hq => hl q (List.mem_cons_of_mem _ hq)) _ h)
theorem smo_of {n : Nat} (h : smoB n = true) : Smo n := by
  refine foldl_smo PRn (fun _ h => h) n ?_
  rw [show List.foldl (fun n p => stripN p 110 n) n PRn = 1 from eq_of_beq h]
  exact .one
def SizeOk (n : Int) : Prop := ∃ m : Nat, n = m ∧ 2 ≤ m ∧ m ≤ 10 ^ 30 ∧ Smo m
def wlt (a b : Nat × Nat) : Prop := a.1 < b.1 ∨ (a.1 = b.1 ∧ a.2 < b.2)
/-- wires of a machine of many registers -/
structure WOk (many : Nat) (ws : List (Nat × Nat)) : Prop where
  asc : ws.Pairwise wlt
  low : ∀ w ∈ ws, w.1 < many ∧ w.2 < many ∧ w.1 ≠ w.2
structure MOk (ss : List Int) (ws : List (Nat × Nat)) : Prop where
  one : 1 ≤ ss.length
  six : ss.length ≤ 6
  size : ∀ s ∈ ss, SizeOk s
  wires : WOk ss.length ws
end NA
namespace NA
def val (p n : Nat) : Nat := if h : 2 ≤ p ∧ 0 < n ∧ n % p = 0 then val p (n / p) + 1 else 0
termination_by n
decreasing_by exact Nat.div_lt_self h.2.1 h.1
theorem val_yes {p n : Nat} (hp : 2 ≤ p) (hn : 0 < n) (h : n % p = 0) : val p n = val p (n / p) + 1 := by
  rw [val]
  exact dif_pos ⟨hp, hn, h⟩
theorem val_no {p n : Nat} (h : n % p ≠ 0) : val p n = 0 := by
  rw [val]
  exact dif_neg fun z => h z.2.2
theorem pow_dvd_val {p : Nat} (hp : 2 ≤ p) : ∀ (k n : Nat), 0 < n → (p ^ k ∣ n ↔ k ≤ val p n)
  | 0, n, _ => by simp
  | k + 1, n, hn => by
    by_cases h : n % p = 0
    · have e : n = p * (n / p) := by
        have := Nat.div_add_mod n p
        omega
      have hq : 0 < n / p := Nat.div_pos (Nat.le_of_dvd hn (Nat.dvd_of_mod_eq_zero h)) (by omega)
      rw [val_yes hp hn h]
      have ih := pow_dvd_val hp k (n / p) hq
      constructor
      · intro d
        rw [e, Nat.pow_succ, Nat.mul_comm] at d
        have := ih.mp (Nat.dvd_of_mul_dvd_mul_left (by omega) d)
        omega
      · intro d
        have := ih.mpr (by omega)
        rw [e, Nat.pow_succ, Nat.mul_comm]
        exact Nat.mul_dvd_mul_left p this
    · rw [val_no h]
      constructor
      · intro d
        exact absurd (Nat.mod_eq_zero_of_dvd (Nat.dvd_trans (by rw [Nat.pow_succ]; exact Nat.dvd_mul_left p _) d)) h
      · intro d
        omega
theorem val_eq {p n m : Nat} (hp : 2 ≤ p) (hn : 0 < n) (hm : 0 < m) (h : ∀ k, p ^ k ∣ n ↔ p ^ k ∣ m) : val p n = val p m := by
  have a := (pow_dvd_val hp (val p n) m hm).mp ((h _).mp ((pow_dvd_val hp _ n hn).mpr (Nat.le_refl _)))
  have b := (pow_dvd_val hp (val p m) n hn).mp ((h _).mpr ((pow_dvd_val hp _ m hm).mpr (Nat.le_refl _)))
  omega
theorem PRn_prime {p : Nat} (h : p ∈ PRn) {d : Nat} (hd : d ∣ p) : d = 1 ∨ d = p := by
  have e : (PRn.all fun p => (List.range (p + 1)).all fun d => p % d != 0 || d == 1 || d == p) = true := by decide +kernel
  have e1 := List.all_eq_true.mp e p h
  have dl : d ≤ p := Nat.le_of_dvd (Nat.lt_of_lt_of_le (by decide) (PRn_two h)) hd
  have e2 := List.all_eq_true.mp e1 d (List.mem_range.mpr (by omega))
  have m := Nat.mod_eq_zero_of_dvd hd
  simp only [m, bne_self_eq_false, Bool.false_or, Bool.or_eq_true, beq_iff_eq] at e2
  exact e2
theorem PRn_cop {p x : Nat} (h : p ∈ PRn) (hx : ¬ p ∣ x) : Nat.Coprime p x := by
  rcases PRn_prime h (Nat.gcd_dvd_left p x) with e | e
  · exact e
  · exact absurd (e ▸ Nat.gcd_dvd_right p x) hx
theorem PRn_euclid {p x y : Nat} (h : p ∈ PRn) (d : p ∣ x * y) : p ∣ x ∨ p ∣ y := by
  by_cases hx : p ∣ x
  · exact .inl hx
  · exact .inr ((PRn_cop h hx).dvd_of_dvd_mul_left d)
theorem PRn_ne {p q : Nat} (hp : p ∈ PRn) (hq : q ∈ PRn) (h : p ≠ q) : Nat.Coprime p q := PRn_cop hp fun d => by
  rcases PRn_prime hq d with e | e
  · have := PRn_two hp
    omega
  · exact h e
theorem val_mul_ne {p q n : Nat} (hp : p ∈ PRn) (hq : q ∈ PRn) (hn : 0 < n) (h : p ≠ q) : val p (q * n) = val p n := by
  refine val_eq (PRn_two hp) (Nat.mul_pos (Nat.lt_of_lt_of_le (by decide) (PRn_two hq)) hn) hn fun k => ⟨fun d => ?_, fun d => Nat.dvd_trans d (Nat.dvd_mul_left n q)⟩
  exact (Nat.Coprime.pow_left k (PRn_ne hp hq h)).dvd_of_dvd_mul_left d
theorem val_mul_self {p n : Nat} (hp : 2 ≤ p) (hn : 0 < n) : val p (p * n) = val p n + 1 := by
  rw [val_yes hp (Nat.mul_pos (by omega) hn) (Nat.mul_mod_right p n), Nat.mul_div_cancel_left n (by omega)]
theorem val_add {p : Nat} (hp : p ∈ PRn) : ∀ (x y : Nat), 0 < x → 0 < y → val p (x * y) = val p x + val p y := by
  intro x
  induction x using Nat.strongRecOn with
  | ind x ih =>
    intro y hx hy
    have h2 := PRn_two hp
    by_cases h : x % p = 0
    · have e : x = p * (x / p) := by
        have := Nat.div_add_mod x p
        omega
      have hq : 0 < x / p := Nat.div_pos (Nat.le_of_dvd hx (Nat.dvd_of_mod_eq_zero h)) (by omega)
      have i := ih (x / p) (Nat.div_lt_self hx h2) y hq hy
      rw [val_yes h2 hx h, show x * y = p * (x / p * y) by rw [← Nat.mul_assoc, ← e], val_mul_self h2 (Nat.mul_pos hq hy), i]
      omega
    · rw [val_no h, Nat.zero_add]
      have c : Nat.Coprime p x := PRn_cop hp fun d => h (Nat.mod_eq_zero_of_dvd d)
      refine val_eq h2 (Nat.mul_pos hx hy) hy fun k => ⟨fun d => (Nat.Coprime.pow_left k c).dvd_of_dvd_mul_left d, fun d => Nat.dvd_trans d (Nat.dvd_mul_left y x)⟩
theorem val_gcd {p a b : Nat} (hp : 2 ≤ p) (ha : 0 < a) (hb : 0 < b) : val p (Nat.gcd a b) = min (val p a) (val p b) := by
  have hg : 0 < Nat.gcd a b := Nat.gcd_pos_of_pos_left b ha
  have le : ∀ k, k ≤ val p (Nat.gcd a b) ↔ k ≤ val p a ∧ k ≤ val p b := fun k => by
    rw [← pow_dvd_val hp k _ hg, ← pow_dvd_val hp k a ha, ← pow_dvd_val hp k b hb]
    exact ⟨fun d => ⟨Nat.dvd_trans d (Nat.gcd_dvd_left a b), Nat.dvd_trans d (Nat.gcd_dvd_right a b)⟩, fun ⟨x, y⟩ => Nat.dvd_gcd x y⟩
  have h1 := (le _).mp (Nat.le_refl _)
  have h2 := (le (min (val p a) (val p b))).mpr ⟨Nat.min_le_left _ _, Nat.min_le_right _ _⟩
  omega
/-! ### a size is put together of its primes -/
def made (l : List Nat) (m s : Nat) : Nat := l.foldl (fun m p => m * p ^ val p s) m
theorem made_acc : ∀ (l : List Nat) (m s : Nat), made l m s = m * made l 1 s
  | [], m, s => by simp [made]
  | p :: l, m, s => by
    show made l (m * p ^ val p s) s = m * made l (1 * p ^ val p s) s
    rw [made_acc l (m * p ^ val p s) s, made_acc l (1 * p ^ val p s) s, Nat.one_mul, Nat.mul_assoc]
theorem made_one : ∀ l : List Nat, made l 1 1 = 1
  | [] => rfl
  | p :: l => by
    show made l (1 * p ^ val p 1) 1 = 1
    have v : val p 1 = 0 := by
      by_cases h : 1 % p = 0
      · by_cases h2 : 2 ≤ p
        · rw [Nat.mod_eq_of_lt (by omega)] at h
          cases h
        · rw [val]
          exact dif_neg fun z => h2 z.1
      · exact val_no h
    rw [v, Nat.pow_zero, Nat.mul_one, made_one l]
theorem made_mul {q n : Nat} (hq : q ∈ PRn) (hn : 0 < n) : ∀ l : List Nat, (∀ p ∈ l, p ∈ PRn) → made l 1 (q * n) = q ^ l.count q * made l 1 n
  | [], _ => by simp [made]
  | p :: l, hl => by
    have ih := made_mul hq hn l fun x hx => hl x (List.mem_cons_of_mem _ hx)
    have hp := hl p List.mem_cons_self
    show made l (1 * p ^ val p (q * n)) (q * n) = q ^ (p :: l).count q * made l (1 * p ^ val p n) n
    rw [made_acc l (1 * p ^ val p (q * n)), made_acc l (1 * p ^ val p n), ih, Nat.one_mul, Nat.one_mul]
    by_cases e : p = q
    · subst e
      rw [val_mul_self (PRn_two hp) hn, List.count_cons_self, Nat.pow_succ, Nat.pow_succ]
      simp only [Nat.mul_assoc, Nat.mul_left_comm]
    · rw [val_mul_ne hp hq hn e, List.count_cons_of_ne e]
      simp only [Nat.mul_left_comm]
theorem made_smo {s : Nat} (h : Smo s) : made PRn 1 s = s := by
  induction h with
  | one => exact made_one PRn
  | @mul q n hq hn ih =>
    rw [made_mul hq hn.pos PRn fun _ z => z, ih]
    have c : PRn.count q = 1 := by
      have e : (PRn.all fun q => PRn.count q == 1) = true := by decide +kernel
      exact eq_of_beq (List.all_eq_true.mp e q hq)
    rw [c, Nat.pow_one]
theorem made_filter {s : Nat} (f : Nat → Bool) : ∀ (l : List Nat) (m : Nat), (∀ p ∈ l, f p = false → val p s = 0) → made (l.filter f) m s = made l m s
  | [], _, _ => rfl
  | p :: l, m, h => by
    have hl : ∀ q ∈ l, f q = false → val q s = 0 := fun q hq => h q (List.mem_cons_of_mem _ hq)
    cases e : f p with
    | true =>
      rw [List.filter_cons_of_pos e]
      exact made_filter f l _ hl
    | false =>
      rw [List.filter_cons_of_neg (by rw [e]; exact Bool.false_ne_true), made_filter f l m hl]
      show made l m s = made l (m * p ^ val p s) s
      rw [h p List.mem_cons_self e, Nat.pow_zero, Nat.mul_one]
/-! ### steps: b by what it has in common with a -/
def stp (a b : Nat) : Nat := b / Nat.gcd b a
section
variable {a b : Nat}
theorem gcd_pos' (hb : 0 < b) : 0 < Nat.gcd b a := Nat.gcd_pos_of_pos_left a hb
theorem stp_mul (a b : Nat) : stp a b * Nat.gcd b a = b := Nat.div_mul_cancel (Nat.gcd_dvd_left b a)
theorem stp_pos (hb : 0 < b) : 0 < stp a b := Nat.div_pos (Nat.le_of_dvd hb (Nat.gcd_dvd_left b a)) (gcd_pos' hb)
theorem stp_cop (hb : 0 < b) : Nat.Coprime (stp a b) (a / Nat.gcd b a) := Nat.coprime_div_gcd_div_gcd (gcd_pos' hb)
theorem a_eq (a b : Nat) : a / Nat.gcd b a * Nat.gcd b a = a := Nat.div_mul_cancel (Nat.gcd_dvd_right b a)
/-- the multiples that do -/
theorem stp_iff (hb : 0 < b) (x : Nat) : b ∣ x * a ↔ stp a b ∣ x := by
  have g := gcd_pos' (a := a) hb
  have eb : b = Nat.gcd b a * stp a b := by rw [Nat.mul_comm]; exact (stp_mul a b).symm
  have ea : x * a = Nat.gcd b a * (x * (a / Nat.gcd b a)) := by
    rw [Nat.mul_left_comm, Nat.mul_comm (Nat.gcd b a), a_eq]
  constructor
  · intro d
    rw [ea] at d
    have d2 : Nat.gcd b a * stp a b ∣ Nat.gcd b a * (x * (a / Nat.gcd b a)) := by rw [← eb]; exact d
    exact (stp_cop hb).dvd_of_dvd_mul_right (Nat.dvd_of_mul_dvd_mul_left g d2)
  · intro d
    rw [ea]
    have d2 : Nat.gcd b a * stp a b ∣ Nat.gcd b a * (x * (a / Nat.gcd b a)) := Nat.mul_dvd_mul_left _ (Nat.dvd_trans d (Nat.dvd_mul_right x _))
    rw [← eb] at d2
    exact d2
theorem stp_least (hb : 0 < b) {p : Nat} (hp : 2 ≤ p) (h : stp a b % p = 0) : stp a b / p * a % b ≠ 0 := fun z => by
  have d := (stp_iff hb _).mp (Nat.dvd_of_mod_eq_zero z)
  have pos := stp_pos (a := a) hb
  have q : 0 < stp a b / p := Nat.div_pos (Nat.le_of_dvd pos (Nat.dvd_of_mod_eq_zero h)) (by omega)
  have := Nat.le_of_dvd q d
  have := Nat.div_lt_self pos hp
  omega
theorem stp_val (ha : 0 < a) (hb : 0 < b) {p : Nat} (hp : p ∈ PRn) : val p (stp a b) = val p b - val p a := by
  have e := val_add hp (stp a b) (Nat.gcd b a) (stp_pos hb) (gcd_pos' hb)
  rw [stp_mul, val_gcd (PRn_two hp) hb ha] at e
  omega
theorem stp_one (hb : 0 < b) : stp a b = 1 ↔ a % b = 0 := by
  constructor
  · intro e
    have d := (stp_iff hb 1).mpr (by rw [e]; exact Nat.dvd_refl 1)
    rw [Nat.one_mul] at d
    exact Nat.mod_eq_zero_of_dvd d
  · intro e
    have d := (stp_iff hb 1).mp (by rw [Nat.one_mul]; exact Nat.dvd_of_mod_eq_zero e)
    exact Nat.dvd_one.mp d
theorem stp_all (hb : 0 < b) : stp a b = b ↔ Nat.gcd b a = 1 := by
  have e := stp_mul a b
  constructor
  · intro h
    rw [h] at e
    have : b * Nat.gcd b a = b * 1 := by rw [e, Nat.mul_one]
    exact Nat.eq_of_mul_eq_mul_left hb this
  · intro h
    rw [h, Nat.mul_one] at e
    exact e
theorem stp_does (hb : 0 < b) : stp a b * a % b = 0 := Nat.mod_eq_zero_of_dvd ((stp_iff hb _).mpr (Nat.dvd_refl _))
theorem stp_two {c : Nat} (hb : 0 < b) (hc : 0 < c) : stp a b * stp b c % stp a c = 0 := by
  refine Nat.mod_eq_zero_of_dvd ((stp_iff hc _).mp ?_)
  have d1 : b ∣ stp a b * a := (stp_iff hb _).mpr (Nat.dvd_refl _)
  have d2 : c ∣ stp b c * b := (stp_iff hc _).mpr (Nat.dvd_refl _)
  have e : stp a b * stp b c * a = stp b c * (stp a b * a) := by
    rw [Nat.mul_comm (stp a b), Nat.mul_assoc]
  rw [e]
  exact Nat.dvd_trans d2 (Nat.mul_dvd_mul_left _ d1)
end
end NA
namespace NA
open PySem PySem.Spec PyProof.Rows L2

/-! ### defs while no repr is under way -/
abbrev Bare (A : Around) : Prop := A.guards = some []
structure GFn (P : Program) (w : World) (K : PySem.W.Frag) (mg : Str → Option Value) (base : Heap) (k : Nat) (f : Addr) (fd : FuncData) (ps : List Str) (sp : Sp) : Prop where
  len : ∀ vs H Q E, sp vs H Q E → vs.length = ps.length
  go : ∀ (A : Around) (outer : List Env) (s : Shared) (H : Hp) (args : Args) (us : List Value) (vs : List V) (Q : VK) (E : XK),
    Bare A → Room k A → Env0 P w K mg base A outer s H → BindsTo s fd args (ps.zip us) → Vals vs us → sp vs H Q E →
    codeAny (model P w) A (.call (.ref f) args) (CR CX0 outer P w H s Q E) s
/-- a def of the text: where it stands, how it binds -/
structure DefAt (K : PySem.W.Frag) (mg : Str → Option Value) (x : Str) (st : Stmt) (ps : List Str) (f : Addr) (fd : FuncData) : Prop where
  fn : Fun K x x st f fd
  mgf : mg x = some (.ref f)
  bd : Binds K fd ps []
structure Cal (P : Program) (w : World) (K : PySem.W.Frag) (mg : Str → Option Value) (base : Heap) (k : Nat) (x : Str) (sp : Sp) : Prop where
  ex : ∃ (f : Addr) (fd : FuncData) (ps : List Str), FnOk P w K mg base CX0 k f fd ps sp ∧ mg x = some (.ref f) ∧ PySem.W.keepIn K (.ref f) = true ∧ Binds K fd ps []
structure GCal (P : Program) (w : World) (K : PySem.W.Frag) (mg : Str → Option Value) (base : Heap) (k : Nat) (x : Str) (sp : Sp) : Prop where
  ex : ∃ (f : Addr) (fd : FuncData) (ps : List Str), GFn P w K mg base k f fd ps sp ∧ mg x = some (.ref f) ∧ PySem.W.keepIn K (.ref f) = true ∧ Binds K fd ps []
section
variable {P : Program} {w : World} {K : PySem.W.Frag} {mg : Str → Option Value} {base : Heap}
theorem cal_of {x : Str} {st : Stmt} {f : Addr} {fd : FuncData} {N ps : List Str} {k : Nat} {sp : Sp} (D : DefAt K mg x st ps f fd) (S : FnScope N ps (defScope st)) (len : ∀ vs H Q E, sp vs H Q E → vs.length = ps.length)
    (body : ∀ (cdv : Value) (A : Around) (outer : List Env) (s : Shared) (H : Hp) (vs : List V) (Q : VK) (E : XK), Room k (A.deeper (envOfC x (defScope st) s.heap.objs.size f cdv)) → sp vs H Q E →
      ∃ t, PSs (cxOf CX0 P w K mg base N x (defScope st) f cdv A outer s H E).nox (defBody st) t ∧ t { nx := fun _ H' => Q .non H', rt := Q } (start N vs) H) : Cal P w K mg base (k + 1) x sp :=
  ⟨f, fd, ps, D.fn.ok S len body, D.mgf, D.fn.kp, D.bd⟩
theorem gfn_of {x : Str} {st : Stmt} {f : Addr} {fd : FuncData} {N ps : List Str} {k : Nat} {sp : Sp} (F : Fun K x x st f fd) (S : FnScope N ps (defScope st)) (len : ∀ vs H Q E, sp vs H Q E → vs.length = ps.length)
    (body : ∀ (cdv : Value) (A : Around) (outer : List Env) (s : Shared) (H : Hp) (vs : List V) (Q : VK) (E : XK), PySem.W.codeIn K cdv x = true → Bare A → Room k (A.deeper (envOfC x (defScope st) s.heap.objs.size f cdv)) → sp vs H Q E →
      ∃ t, PSs (cxOf CX0 P w K mg base N x (defScope st) f cdv A outer s H E).nox (defBody st) t ∧ t { nx := fun _ H' => Q .non H', rt := Q } (start N vs) H) : GFn P w K mg base (k + 1) f fd ps sp := by
  obtain ⟨oc, od, kV, doc, pm, an, cdv, ct, osl, rfl, lk, hcode⟩ := F.ex
  refine ⟨len, fun A outer s H args us vs Q E hg room e0 bind rel want => ?_⟩
  have hlen := len _ _ _ _ want
  have KX : K.In s.heap := e0.mod.kin.keeps fun b o z => (e0.bs b o z).1
  have nolim : s.heap.NoLimit := e0.mod.nolimit.keeps fun b o z => (e0.bs b o z).1
  have kinds : ∀ y ∈ ps.zip us, (defScope st).names.lookup y.1 = some .local ∨ ((defScope st).names.lookup y.1 = some .cell ∧ ((cellsFrom (s.heap.objs.size + 1) (defScope st).names []).lookup y.1).isSome = true) := by
    intro ⟨nm, v⟩ hy
    rcases S.par nm (List.of_mem_zip hy).1 with z | z
    · exact .inl z
    · exact .inr ⟨z, PySem.W.cellsFrom_some _ _ _ (.inl z)⟩
  refine codeAny_call_function room.depth (KX _ _ lk) rfl S.co S.gen rfl (PySem.W.codeRec_of KX hcode) (bind _ _ _ _ ?_)
  refine wpAny_newFunctionEnv_cells S.kind kinds fun env henv s1 inc => ?_
  subst henv
  refine ⟨nolim.keeps inc.toInCall.keep, codeAny_func ?_⟩
  obtain ⟨t, derives, reads⟩ := body cdv A outer s H vs Q E hcode hg (room.deeper _) want
  have I := inv_start (CX := CX0) (E := E) (cd := cdv) S room.hd e0 hlen rel inc
  refine wpAny_mono (derives.nox.run [] s1 (start N vs) H _ I reads) (fun fl s' hs => ?_) fun e s' hs => hs
  cases fl with
  | ret u =>
    obtain ⟨v, σ', H', J, rv, q⟩ := hs
    exact ⟨v, H', J.os, J.bare, J.base, J.hok, rv, q⟩
  | next =>
    obtain ⟨σ', H', J, q⟩ := hs
    exact ⟨V.non, H', J.os, J.bare, J.base, J.hok, rfl, q⟩
  | brk =>
    obtain ⟨σ', H', J, q⟩ := hs
    exact False.elim q
  | cont =>
    obtain ⟨σ', H', J, q⟩ := hs
    exact False.elim q
theorem gcal_of {x : Str} {st : Stmt} {f : Addr} {fd : FuncData} {N ps : List Str} {k : Nat} {sp : Sp} (D : DefAt K mg x st ps f fd) (S : FnScope N ps (defScope st)) (len : ∀ vs H Q E, sp vs H Q E → vs.length = ps.length)
    (body : ∀ (cdv : Value) (A : Around) (outer : List Env) (s : Shared) (H : Hp) (vs : List V) (Q : VK) (E : XK), PySem.W.codeIn K cdv x = true → Bare A → Room k (A.deeper (envOfC x (defScope st) s.heap.objs.size f cdv)) → sp vs H Q E →
      ∃ t, PSs (cxOf CX0 P w K mg base N x (defScope st) f cdv A outer s H E).nox (defBody st) t ∧ t { nx := fun _ H' => Q .non H', rt := Q } (start N vs) H) : GCal P w K mg base (k + 1) x sp :=
  ⟨f, fd, ps, gfn_of D.fn S len body, D.mgf, D.fn.kp, D.bd⟩
end
section
variable {X : Cx} {x : Str} {p pos : Pos} {e : Expr} {es : List Expr} {t : TA} {k j : Nat} {sp : Sp}
/-- f(..) of such a def -/
theorem pe_g (c : GCal X.prog X.w X.K X.mg X.base k x sp) (hg : Bare X.A) (hr : Room j X.A) (hk : k ≤ j) (hgl : Gl X x) (ha : PA X (e :: es) t) (hdb : (x == ("__debug__" : Str)) = false := by decide)
    (he : starEach (e :: es) X.env = (false, eval e X.env) :: starEach es X.env := by rfl) (hpl : (backTo pos (starEach es X.env)).any (·.1) = false := by rfl) :
    PE X (.Call (.Name x p) (e :: es) [] pos) (tCall sp [] E0 t) := by
  obtain ⟨f, fd, ps, F, hm, hkeep, hb⟩ := c.ex
  refine ⟨fun pins s σ H Q I h => wpAny_Call_Name_kw (ld_glob I hgl hm ?_ hdb)⟩
  refine PySem.W.callWith_K (h₀ := X.base) I.ok.mod.kin hkeep (thn (ha.run pos pins s σ H _ I h) fun us s1 ⟨vs, H1, I1, r, q⟩ => ⟨I1.kIn, ?_⟩) he hpl
  have q' : sp (vs ++ []) H1 Q E0 := q
  rw [List.append_nil] at q'
  have l : (us ++ []).length = ps.length := by rw [List.append_nil, ← r.length]; exact F.len _ _ _ _ q'
  have b := hb s1 us I1.kIn l
  rw [List.append_nil] at b
  refine wpAny_call (codeAny_mono (F.go X.A X.stack s1 H1 ⟨us, []⟩ us vs Q E0 hg (hr.mono hk) I1.env0 b r q') fun res s' hq => ?_)
  cases res with
  | error err => exact False.elim hq
  | ok fl =>
    cases fl with
    | ret u => exact I1.after hq
    | next => exact False.elim hq
    | brk => exact False.elim hq
    | cont => exact False.elim hq
/-- f(k=v, ..): keywords alone -/
theorem pe_kw {CX : CXT} {f : Addr} {fd : FuncData} {ps ks : List Str} {E : XK} {kws : List Keyword} {tk : TA} {g : List Value → List Value → List Value} {gV : List V → List V → List V} (F : FnOk X.prog X.w X.K X.mg X.base CX k f fd ps sp) (hr : Room k X.A) (hgl : Gl X x) (hm : X.mg x = some (.ref f))
    (hkeep : PySem.W.keepIn X.K (.ref f) = true) (hb : KBinds X.K fd ps ks g gV) (hx : Passes CX X E) (hkw : PK X kws tk) (hall : (backToKw pos (keywordEach kws X.env)).all (·.1.isSome) = true := by rfl)
    (hks : (backToKw pos (keywordEach kws X.env)).filterMap (·.1) = ks := by rfl) (hdb : (x == ("__debug__" : Str)) = false := by decide)
    (hpl : ((backTo pos (starEach [] X.env)).any (·.1) || (backToKw pos (keywordEach kws X.env)).any (·.1.isNone)) = false := by rfl) :
    PE X (.Call (.Name x p) [] kws pos) (tCallK sp gV E tNil tk) := by
  refine ⟨fun pins s σ H Q I h => wpAny_Call_Name_kw (ld_glob I hgl hm ?_ hdb)⟩
  refine PySem.W.callWith_KW0 (h₀ := X.base) I.ok.mod.kin hkeep hall (thn (hkw.run pos pins s σ H _ I h) fun ws s2 ⟨zs, H2, I2, rz, q2⟩ => ⟨I2.kIn, ?_⟩) hpl
  rw [hks]
  exact run_fnk (us := []) F hr hb hx I2 .nil rz q2
end
/-- a def that may be called by keywords, in the order ks -/
structure CalK (P : Program) (w : World) (K : PySem.W.Frag) (mg : Str → Option Value) (base : Heap) (k : Nat) (x : Str) (sp : Sp) (ks : List Str) (gV : List V → List V → List V) : Prop where
  ex : ∃ (f : Addr) (fd : FuncData) (ps : List Str) (g : List Value → List Value → List Value), FnOk P w K mg base CX0 k f fd ps sp ∧ mg x = some (.ref f) ∧ PySem.W.keepIn K (.ref f) = true ∧ KBinds K fd ps ks g gV
section
variable {X : Cx} {x : Str} {p pos : Pos} {k j : Nat} {sp : Sp} {ks : List Str} {kws : List Keyword} {tk : TA} {gV : List V → List V → List V}
theorem pe_ck (c : CalK X.prog X.w X.K X.mg X.base k x sp ks gV) (hr : Room j X.A) (hk : k ≤ j) (hgl : Gl X x) (hkw : PK X kws tk) (hall : (backToKw pos (keywordEach kws X.env)).all (·.1.isSome) = true := by rfl)
    (hks : (backToKw pos (keywordEach kws X.env)).filterMap (·.1) = ks := by rfl) (hdb : (x == ("__debug__" : Str)) = false := by decide)
    (hpl : ((backTo pos (starEach [] X.env)).any (·.1) || (backToKw pos (keywordEach kws X.env)).any (·.1.isNone)) = false := by rfl) :
    PE X (.Call (.Name x p) [] kws pos) (tCallK sp gV E0 tNil tk) := by
  obtain ⟨f, fd, ps, g, F, hm, hkeep, hb⟩ := c.ex
  exact pe_kw F (hr.mono hk) hgl hm hkeep hb pass0 hkw hall hks hdb hpl
theorem pe_c0 (c : Cal X.prog X.w X.K X.mg X.base k x sp) (hr : Room j X.A) (hk : k ≤ j) (hgl : Gl X x) (hdb : (x == ("__debug__" : Str)) = false := by decide) : PE X (.Call (.Name x p) [] [] pos) (tCall sp [] E0 tNil) := by
  obtain ⟨f, fd, ps, F, hm, hkeep, hb⟩ := c.ex
  exact pe_call0 F (hr.mono hk) hgl hm hkeep hb .nil pass0 hdb
theorem pe_c {e : Expr} {es : List Expr} {t : TA} (c : Cal X.prog X.w X.K X.mg X.base k x sp) (hr : Room j X.A) (hk : k ≤ j) (hgl : Gl X x) (ha : PA X (e :: es) t) (hdb : (x == ("__debug__" : Str)) = false := by decide)
    (he : starEach (e :: es) X.env = (false, eval e X.env) :: starEach es X.env := by rfl) (hpl : (backTo pos (starEach es X.env)).any (·.1) = false := by rfl) : PE X (.Call (.Name x p) (e :: es) [] pos) (tCall sp [] E0 t) := by
  obtain ⟨f, fd, ps, F, hm, hkeep, hb⟩ := c.ex
  exact pe_call F (hr.mono hk) hgl hm hkeep hb .nil pass0 ha hdb he hpl
end
/-- the end of a law over such a def -/
theorem walkG {l : PySem.W.OpenLaw} {n k : Nat} {q : Program} {loose : List Str} {XP : (Str → Option Value) → Heap → Prop} {YP : World → Heap → Prop} {d : DefRec} {K : Params → PySem.W.Frag} {sp : PySem.W.Frag → Sp} {x : Str}
    (hn : l.most = some n) (hn2 : n ≤ sizeLine) (hdf : d.params.defaults = []) (hr : Room k callerA)
    (hY : ∀ (w : World) (h : Heap), YP w h → (K w.params).In h)
    (F : ∀ (w : World) (mg : Str → Option Value) (fa : Addr) (h : Heap), (K w.params).In h → h.Ns mainGlobals mg → mg d.name = some (.ref fa) →
      ∃ fd : FuncData, (∀ (s : Shared) (u : Value), BindsTo s fd ⟨[u], []⟩ [(x, u)]) ∧
        ∀ base : Heap, (K w.params).In base → base.Ns mainGlobals mg → GFn l.prog w (K w.params) mg base k fa fd [x] (sp (K w.params)))
    (hsp : ∀ (K : PySem.W.Frag) (H : Hp) (a : Addr) (ns : List Int), ns.length ≤ n → Only H → SqL K H a (ns.map V.int) → sp K [.ref a] H (fun v _ => v = .bl true) fun _ _ _ => False) :
    PySem.W.WalkO q loose XP YP l.row.toRowW d [] (fun f vs => PySem.call f vs) := by
  refine Att.attach_call hn hdf fun w s₀ s₁ mg mb fa o pm cd doc a vs ns G Y ho hd hcd hmg hobj hints hlen hgen => ?_
  have KX := hY w _ Y
  obtain ⟨fd, hb, hF⟩ := F w mg fa _ KX G.T.g hmg
  have mine : ∀ base : Heap, (K w.params).In base → base.Ns mainGlobals mg → FnOk l.prog w (K w.params) mg base CX0 k fa fd [x] (sp (K w.params)) → True := fun _ _ _ _ => trivial
  have rv := vals_ints hints
  have lenV := hints.length
  -- as the layer's own head does it, for the caller's surroundings alone
  have core : ∀ H : Hp, Only H → SqL (K w.params) H a (ns.map V.int) → HOk l.prog w H s₁.heap → (∀ b, H b ≠ none → b = a) → (H a ≠ none → (K w.params).lookup a = none) →
      codeAny (model l.prog w) callerA (.call (.ref fa) ⟨[.ref a], []⟩) (fun r s' => r = .ok (.ret (.bool true)) ∧ OldK s₁.heap s'.heap ∧ s'.os = s₁.os ∧ AllBare s'.gens) s₁ := by
    intro H hO hS hok only unk
    have keepHid : ∀ {b : Addr} {ob : Obj}, s₁.heap.get? b = some ob → H b = none → (hidT s₁.heap H).get? b = some ob := fun z nn => hidT_get z nn
    have dictFree : ∀ {b : Addr} {ob : Obj} {es : Array DictEntry} {ep : Nat}, s₁.heap.get? b = some ob → ob.data = .dict es ep → H b = none := by
      intro b ob es ep z dd
      cases hb' : H b with
      | none => rfl
      | some u =>
        have eb : b = a := only b (by rw [hb']; exact Option.some_ne_none u)
        rw [eb, hobj] at z
        cases z
        have dd' : Data.seq vs.toArray _ = Data.dict es ep := dd
        cases dd'
    have nsHid : ∀ {b : Addr} {m : Str → Option Value}, s₁.heap.Ns b m → (hidT s₁.heap H).Ns b m := fun {b m} ⟨ob, es, ep, z, dd, rest⟩ => ⟨ob, es, ep, keepHid z (dictFree z dd), dd, rest⟩
    have inHid : (K w.params).In (hidT s₁.heap H) := fun b ob z => keepHid (KX b ob z) (by
      cases hb' : H b with
      | none => rfl
      | some u =>
        have eb : b = a := only b (by rw [hb']; exact Option.some_ne_none u)
        rw [eb, unk (by rw [← eb, hb']; exact Option.some_ne_none u)] at z
        cases z)
    have M : Mod (K w.params) mg (hidT s₁.heap H) := ⟨inHid, nsHid G.T.g, ⟨mb, nsHid G.T.b, G.T.builtins⟩, let ⟨mc, z1, z2⟩ := G.T.nolimit; ⟨mc, nsHid z1, z2⟩⟩
    have e0 : Env0 l.prog w (K w.params) mg (hidT s₁.heap H) callerA [] s₁ H := ⟨rfl, M, fun b ob z => of_hidT z, Nat.le_of_eq (hidT_size _ _), trivial, fun b hb => absurd (show b ∈ ([] : List Addr) from hb) List.not_mem_nil, hok, .of_eq hgen⟩
    refine codeAny_mono ((hF _ inHid (nsHid G.T.g)).go callerA [] s₁ H ⟨[.ref a], []⟩ [.ref a] [.ref a] _ _ rfl hr e0 (hb s₁ (.ref a)) (.cons rfl .nil) (hsp (K w.params) H a ns hlen hO hS)) fun r s' hq => ?_
    have hq2 : ∃ u, r = .ok (.ret u) ∧ CE [] l.prog w H s₁ (fun v _ => v = .bl true) u s' := by
      cases r with
      | error err => exact False.elim hq
      | ok fl =>
        cases fl with
        | ret u => exact ⟨u, rfl, hq⟩
        | next => exact False.elim hq
        | brk => exact False.elim hq
        | cont => exact False.elim hq
    match hq2 with
    | ⟨u, er, v, H', os, bare, un, hok', rel, q⟩ =>
      have q' : v = .bl true := q
      subst q'
      have eu : u = Value.bool true := rel
      subst eu
      refine ⟨er, OldK.of_keep fun b ob z => ?_, os, bare⟩
      cases hb' : H b with
      | none => exact un.keep b ob z hb' (fun m => by cases m) (fun m => by cases m)
      | some u =>
        rcases hO b with n0 | ⟨ob', xs, n0⟩
        · rw [hb'] at n0
          cases n0
        · have n1 := un.frzs b ob' _ n0
          obtain ⟨z1, _⟩ := hok b _ n0
          obtain ⟨z2, _⟩ := hok' b _ n1
          rw [z] at z1
          cases z1
          exact z2
  cases hk : (K w.params).lookup a with
  | some ob =>
    have z := KX a ob hk
    rw [hobj] at z
    cases z
    exact core (fun _ => none) (fun _ => .inl rfl) (.inr ⟨_, vs.toArray, _, hk, rfl, rfl, rfl, by rw [List.size_toArray, lenV]; exact Nat.le_trans hlen hn2, by simpa using rv⟩) (fun b u z => by have z' : (none : Option HO) = some u := z; cases z') (fun b z => absurd rfl z) fun z => absurd rfl z
  | none =>
    refine core (fun b => if b = a then some (.frz { cls := .type "list", data := .seq vs.toArray } (.lst (ns.map V.int))) else none) (fun b => ?_) (.inl (.inr ⟨{ cls := .type "list", data := .seq vs.toArray }, if_pos rfl⟩)) (fun b u z => ?_) (fun b z => ?_) fun _ => hk
    · by_cases eb : b = a
      · exact .inr ⟨_, _, if_pos eb⟩
      · exact .inl (if_neg eb)
    · by_cases eb : b = a
      · have z' := (if_pos eb).symm.trans z
        cases z'
        subst eb
        exact ⟨hobj, by rw [List.length_map]; exact Nat.le_trans hlen hn2, vs, _, rv, hobj⟩
      · have z' := (if_neg eb).symm.trans z
        cases z'
    · by_cases eb : b = a
      · exact eb
      · exact absurd (if_neg eb) z
end NA
namespace NA
open PySem PySem.Spec PyProof.Rows L2

/-! ### how long a repr may be -/
mutual
def cost : PyData → Nat
  | .none => 4
  | .bool _ => 5
  | .int _ => 1921
  | .str x => 10 * x.length + 2
  | .list xs => costAll xs + 3
  | .tuple xs => costAll xs + 3
  | .dict _ => 0
def costAll : List PyData → Nat
  | [] => 0
  | x :: xs => cost x + 2 + costAll xs
end
def strSmall (x : Str) : Bool := x.cps.toList.all fun c => decide (c < 16 ^ 8)
mutual
def okD : PyData → Bool
  | .none => true
  | .bool _ => true
  | .int i => decide (i.natAbs.log2 < 1920)
  | .str x => strSmall x
  | .list xs => okAll xs
  | .tuple xs => okAll xs
  | .dict _ => false
def okAll : List PyData → Bool
  | [] => true
  | x :: xs => okD x && okAll xs
end
mutual
theorem okD_facts : ∀ d : PyData, okD d = true → d.showable = true ∧ d.hasDict = false ∧ d.shown.length ≤ cost d
  | .none, _ => ⟨rfl, rfl, by decide +kernel⟩
  | .bool true, _ => ⟨rfl, rfl, by decide +kernel⟩
  | .bool false, _ => ⟨rfl, rfl, by decide +kernel⟩
  | .int i, h => by
    have h1 : i.natAbs.log2 < 1920 := by simpa [okD] using h
    refine ⟨by simpa [PyData.showable] using h1, by simp only [PyData.hasDict], ?_⟩
    simp only [PyData.shown, cost]
    exact PyProof.Rows.int_text_len_1921 h1
  | .str x, h => by
    refine ⟨by simp only [PyData.showable], by simp only [PyData.hasDict], ?_⟩
    simp only [PyData.shown, cost]
    refine StrLaws.reprText_len x fun c hc => ?_
    have h1 : strSmall x = true := by simpa [okD] using h
    unfold strSmall at h1
    exact of_decide_eq_true (List.all_eq_true.mp h1 c hc)
  | .list xs, h => by
    obtain ⟨a, b, c, e⟩ := okAll_facts xs (by simpa [okD] using h)
    refine ⟨by simpa [PyData.showable] using a, by simpa [PyData.hasDict] using b, ?_⟩
    simp only [PyData.shown, cost]
    have := listText_len_le (PyData.shownAll xs)
    omega
  | .tuple xs, h => by
    obtain ⟨a, b, c, e⟩ := okAll_facts xs (by simpa [okD] using h)
    refine ⟨by simpa [PyData.showable] using a, by simpa [PyData.hasDict] using b, ?_⟩
    simp only [PyData.shown, cost]
    have := tupleText_len_le (PyData.shownAll xs)
    omega
  | .dict _, h => by simp [okD] at h
theorem okAll_facts : ∀ xs : List PyData, okAll xs = true → PyData.showableAll xs = true ∧ PyData.hasDictAll xs = false ∧ ((PyData.shownAll xs).map (·.length)).sum + 2 * (PyData.shownAll xs).length ≤ costAll xs ∧ True
  | [], _ => ⟨rfl, rfl, Nat.le_refl _, trivial⟩
  | x :: xs, h => by
    have h' : okD x = true ∧ okAll xs = true := by simpa [okAll] using h
    obtain ⟨a, b, c⟩ := okD_facts x h'.1
    obtain ⟨d, e, f, _⟩ := okAll_facts xs h'.2
    refine ⟨by simp only [PyData.showableAll, a, d, Bool.and_self], by simp only [PyData.hasDictAll, b, e, Bool.or_self], ?_, trivial⟩
    simp only [PyData.shownAll, costAll, List.map_cons, List.sum_cons, List.length_cons]
    omega
end
/-- data whose repr may be taken -/
structure Sh (d : PyData) : Prop where
  ok : okD d = true
  cost : cost d ≤ 16000000
  depth : d.depth ≤ 60
section
variable {X : Cx}
theorem call_reprD {k : Nat} (hg : Bare X.A) (hr : Room k X.A) : CallR X (.builtin "repr") (fun xs H Q => ∃ v d, xs = [v] ∧ Dp X.K H v d ∧ Sh d ∧ Q (.str d.shown) H) := by
  intro pins s σ H xs us Q I r h
  obtain ⟨v, d, rfl, hd, sh, q⟩ := h
  obtain ⟨u, rfl, rv⟩ := r.one
  obtain ⟨f1, f2, f3⟩ := okD_facts d sh.ok
  have hz : d.shown.length ≤ sizeLine := Nat.le_trans f3 (Nat.le_trans sh.cost (by decide))
  have hu := hr.un
  have hdep := sh.depth
  obtain ⟨as, rd⟩ := Dp.reads I d v u hd rv
  have big : ∀ a, u = Value.ref a → wpAny (model X.prog X.w) X.A (call (.builtin "repr") [u]) (EP X pins σ Q) X.xe s := fun a e => by
    subst e
    exact repr_of_reads' rd f1 (PyData.noDict_hsm f2) hg (by omega) (fun _ _ z => z) (fun h' u tk hk => ⟨.str _, H, I.kept (t' := tk) hk, ⟨_, rfl⟩, q⟩) hz
  cases hd with
  | non =>
    cases (show u = Value.none from rv)
    exact PySem.P.repr_of_none ⟨.str _, H, I.tok _, ⟨_, rfl⟩, q⟩
  | bl b =>
    cases (show u = Value.bool b from rv)
    refine PySem.P.repr_of_bool ⟨.str _, H, I.tok _, ⟨_, rfl⟩, ?_⟩
    simpa only [PyData.shown] using q
  | int i =>
    obtain ⟨t, rfl⟩ := (show ∃ t, u = Value.int i t from rv)
    refine PySem.P.repr_of_int (by simpa [okD] using sh.ok) ⟨.str _, H, I.tok _, ⟨_, rfl⟩, ?_⟩
    simpa only [PyData.shown] using q
  | str x =>
    obtain ⟨t, rfl⟩ := (show ∃ t, u = Value.str x t from rv)
    refine PySem.P.repr_of_str ⟨.str _, H, I.tok _, ⟨_, rfl⟩, ?_⟩ (by simpa only [PyData.shown] using hz)
    simpa only [PyData.shown] using q
  | lst _ _ => exact big _ rv
  | tup _ _ => exact big _ rv
end
/-! ### data that never changes: tuples all the way -/
mutual
inductive Im (H : Hp) : V → PyData → Prop
  | non : Im H .non .none
  | bl (b : Bool) : Im H (.bl b) (.bool b)
  | int (i : Int) : Im H (.int i) (.int i)
  | str (x : Str) : Im H (.str x) (.str x)
  | tup {a : Addr} {xs : List V} {ds : List PyData} : H a = some (.tup xs) → ImAll H xs ds → Im H (.ref a) (.tuple ds)
inductive ImAll (H : Hp) : List V → List PyData → Prop
  | nil : ImAll H [] []
  | cons {v : V} {vs : List V} {d : PyData} {ds : List PyData} : Im H v d → ImAll H vs ds → ImAll H (v :: vs) (d :: ds)
end
/-- tuples stay -/
def Tk (H H' : Hp) : Prop := ∀ b xs, H b = some (.tup xs) → H' b = some (.tup xs)
theorem Tk.refl (H : Hp) : Tk H H := fun _ _ h => h
theorem Tk.trans {H H1 H2 : Hp} (a : Tk H H1) (b : Tk H1 H2) : Tk H H2 := fun c x h => b c x (a c x h)
theorem Tk.new {H H' : Hp} {p : Addr} {o : HO} (e : Tk H H') (h : H' p = none) : Tk H (upd H' p o) := fun b xs z => by
  have z' := e b xs z
  rw [upd_ne (ne_of_none z' h)]
  exact z'
theorem Tk.put {H H' : Hp} {p : Addr} {xs : List V} {o : HO} (e : Tk H H') (h : H' p = some (.lst xs)) : Tk H (upd H' p o) := fun b ys z => by
  have z' := e b ys z
  rw [upd_ne (ne_of z' h (by intro q; cases q))]
  exact z'
theorem Tk.same {H H' : Hp} (e : Same H H') : Tk H H' := fun b xs z => e b _ z
mutual
theorem Im.keep {H H' : Hp} (e : Tk H H') : ∀ (d : PyData) (v : V), Im H v d → Im H' v d
  | .none, _, h => by cases h; exact .non
  | .bool _, _, h => by cases h; exact .bl _
  | .int _, _, h => by cases h; exact .int _
  | .str _, _, h => by cases h; exact .str _
  | .tuple ds, _, h => by
    cases h with
    | tup a b => exact .tup (e _ _ a) (ImAll.keep e ds _ b)
  | .list _, _, h => by cases h
  | .dict _, _, h => by cases h
theorem ImAll.keep {H H' : Hp} (e : Tk H H') : ∀ (ds : List PyData) (vs : List V), ImAll H vs ds → ImAll H' vs ds
  | [], _, h => by cases h; exact .nil
  | d :: ds, _, h => by
    cases h with
    | cons a b => exact .cons (Im.keep e d _ a) (ImAll.keep e ds _ b)
end
theorem Im.k {H H' : Hp} {v : V} {d : PyData} (h : Im H v d) (e : Tk H H') : Im H' v d := Im.keep e d v h
theorem ImAll.k {H H' : Hp} {vs : List V} {ds : List PyData} (h : ImAll H vs ds) (e : Tk H H') : ImAll H' vs ds := ImAll.keep e ds vs h
mutual
theorem Im.toDp {K : PySem.W.Frag} {H : Hp} : ∀ (d : PyData) (v : V), Im H v d → Dp K H v d
  | .none, _, h => by cases h; exact .non
  | .bool _, _, h => by cases h; exact .bl _
  | .int _, _, h => by cases h; exact .int _
  | .str _, _, h => by cases h; exact .str _
  | .tuple ds, _, h => by
    cases h with
    | tup a b => exact .tup (SqT.of a) (ImAll.toDp ds _ b)
  | .list _, _, h => by cases h
  | .dict _, _, h => by cases h
theorem ImAll.toDp {K : PySem.W.Frag} {H : Hp} : ∀ (ds : List PyData) (vs : List V), ImAll H vs ds → DpAll K H vs ds
  | [], _, h => by cases h; exact .nil
  | d :: ds, _, h => by
    cases h with
    | cons a b => exact .cons (Im.toDp d _ a) (ImAll.toDp ds _ b)
end
theorem Im.dp {K : PySem.W.Frag} {H : Hp} {v : V} {d : PyData} (h : Im H v d) : Dp K H v d := Im.toDp d v h
theorem ImAll.dp {K : PySem.W.Frag} {H : Hp} {vs : List V} {ds : List PyData} (h : ImAll H vs ds) : DpAll K H vs ds := ImAll.toDp ds vs h
theorem Im.tuple {H : Hp} {v : V} {ds : List PyData} (h : Im H v (.tuple ds)) : ∃ a xs, v = .ref a ∧ H a = some (.tup xs) ∧ ImAll H xs ds := by
  cases h with
  | tup a b => exact ⟨_, _, rfl, a, b⟩
theorem Im.isInt {H : Hp} {v : V} {i : Int} (h : Im H v (.int i)) : v = .int i := by cases h; rfl
theorem ImAll.length {H : Hp} : ∀ {vs : List V} {ds : List PyData}, ImAll H vs ds → vs.length = ds.length
  | _, _, .nil => rfl
  | _, _, .cons _ b => by rw [List.length_cons, List.length_cons, ImAll.length b]
theorem ImAll.get {H : Hp} : ∀ {vs : List V} {ds : List PyData} {i : Nat} {d : PyData}, ImAll H vs ds → ds[i]? = some d → ∃ v, vs[i]? = some v ∧ Im H v d
  | _, _, _, _, .nil, e => by simp at e
  | _, _, 0, _, .cons a _, e => by
    simp at e
    subst e
    exact ⟨_, rfl, a⟩
  | _, _, i + 1, d, .cons _ b, e => by
    obtain ⟨v, h1, h2⟩ := ImAll.get (i := i) (d := d) b (by simpa using e)
    exact ⟨v, by simpa using h1, h2⟩
theorem ImAll.ints {H : Hp} : ∀ {vs : List V} {ns : List Int}, ImAll H vs (ns.map PyData.int) → vs = ns.map V.int
  | vs, [], h => by cases h; rfl
  | vs, n :: ns, h => by
    cases h with
    | cons a b =>
      cases a
      rw [List.map_cons, ImAll.ints b]
theorem ImAll.of_ints (H : Hp) : ∀ ns : List Int, ImAll H (ns.map V.int) (ns.map PyData.int)
  | [] => .nil
  | n :: ns => .cons (.int n) (ImAll.of_ints H ns)
theorem ImAll.append {H : Hp} : ∀ {vs ws : List V} {ds es : List PyData}, ImAll H vs ds → ImAll H ws es → ImAll H (vs ++ ws) (ds ++ es)
  | _, _, _, _, .nil, h => h
  | _, _, _, _, .cons a b, h => .cons a (ImAll.append b h)
end NA
namespace PySem
open Sem (wp)
open AutoSeq1 (wpAny_loadPart')
/-- the iterator of a tuple at l, new -/
abbrev tIt (l : Addr) : Obj := { cls := .type "tuple_iterator", data := .fields #[.ref l, .int 0 0] }
/-- the enumerate object over the iterator at i, new -/
abbrev tEn (i : Addr) : Obj := { cls := .type "enumerate", data := .fields #[.none, .bool false, .ref i, rawInt 0, .none, .none] }
set_option maxHeartbeats 1000000 in
theorem enumT_new (l : Addr) (o : Obj) (its : Array Value) (hc : o.cls = .type "tuple") (hd : ∃ n, o.data = .seq its n) :
    Meets (Builtin.«enumerate.__new__» ⟨[.type "enumerate", .ref l], []⟩)
      (fun _ R s => s.heap.get? l = some o ∧ R (.ok (.ret (.ref (s.heap.push (tIt l)).objs.size))) { s with heap := (s.heap.push (tIt l)).push (tEn s.heap.objs.size) }) :=
  .of_wp fun prog w A R s h => by
    obtain ⟨hp, gg, dr, tk, os⟩ := s
    obtain ⟨hl, h⟩ := h
    have sub := sub_enumerate
    have T : Heap.IsTuple (Shared.heap ⟨hp, gg, dr, tk, os⟩) l its := ⟨o, hl, hc, hd⟩
    wp_walk using wpAny_loadPart' hl
    refine wpAny_stack_any fun _ => wpAny_pure ?_
    split
    · rename_i cc _ _ _ _ _
      cases (cc == Value.type "enumerate")
      · wp_walk using wpAny_loadPart' hl, wpAny_pyIter_tuple T
        exact ⟨_, rfl, h⟩
      · wp_walk using wpAny_loadPart' hl, wpAny_pyIter_tuple T
        exact ⟨_, rfl, h⟩
    · wp_walk using wpAny_loadPart' hl, wpAny_pyIter_tuple T
      exact ⟨_, rfl, h⟩
section
variable {prog : Program} {w : World} {A : Around} {E : Value → Shared → Prop} {s : Shared}
theorem enumT_call {l : Addr} {its : Array Value} {Q : Value → Shared → Prop} (T : s.heap.IsTuple l its)
    (h : ∀ h', IsEnum h' (s.heap.objs.size + 1) s.heap.objs.size 0 .none → h'.get? s.heap.objs.size = some (tIt l) →
      (∀ b o, s.heap.get? b = some o → h'.get? b = some o) → Q (.ref (s.heap.objs.size + 1)) { s with heap := h' }) :
    wpAny (model prog w) A (call (.type "enumerate") [.ref l]) Q E s := by
  obtain ⟨o, hl, hc, hd⟩ := T
  refine callType_new F.called_enumerate (by decide) (F.typeCall_enumerate_1 _) (F.newCall_enumerate_1 _) (fun obj => F.args_object_init_2 obj _) F.entry_enumerate_new (enumT_new l o its hc hd) ⟨hl, ?_⟩
  have sz : (s.heap.push (tIt l)).objs.size = s.heap.objs.size + 1 := Heap.size_push ..
  show _ ∧ _
  rw [sz]
  have en : IsEnum ((s.heap.push (tIt l)).push (tEn s.heap.objs.size)) (s.heap.objs.size + 1) s.heap.objs.size 0 .none := by
    have z := Heap.get?_push_size (s.heap.push (tIt l)) (o := tEn s.heap.objs.size) rfl
    rw [sz] at z
    exact z
  exact ⟨⟨_, en, rfl⟩, h _ en (Heap.get?_push_of_some _ (Heap.get?_push_size _ rfl)) fun b u z => Heap.get?_push_of_some _ (Heap.get?_push_of_some _ z)⟩
end
end PySem
namespace NA
open PySem PySem.Spec PyProof.Rows L2
/-- enumerate(t), t a tuple: each item in a new pair -/
def IeT (K : PySem.W.Frag) (a : Addr) : It :=
  ⟨fun i H => ∃ (xs : List V) (x : V), SqT K H a xs ∧ xs[i]? = some x, fun i H v H' => ∃ T x, v = .ref T ∧ H T = none ∧ H' = upd H T (.tup [.int (i : Nat), x]) ∧ ∀ xs, SqT K H a xs → xs[i]? = some x,
    fun i H => ∃ xs : List V, SqT K H a xs ∧ xs.length ≤ i⟩
theorem turn_enumT {P : Program} {w : World} {K : PySem.W.Frag} {elts : List Expr} {kk : Nat} {tpos : Pos} (a e it : Addr) :
    Turn P w K (.Tuple elts kk tpos) (IeT K a) [e, it] e (fun i h => (∃ old, IsEnum h e it (0 + ((i : Nat) : Int)) old) ∧ h.IsTupleIter it a i ∧ e ≠ it) where
  mem := by simp
  obj := fun i h st b hb => by
    obtain ⟨⟨old, he⟩, ⟨o, ho, hc, hd⟩, _⟩ := st
    have cases2 : b = e ∨ b = it := by simpa using hb
    rcases cases2 with z | z
    · subst z
      exact ⟨_, he, fun v q => nomatch q⟩
    · subst z
      exact ⟨o, ho, fun v q => by rw [hd] at q; cases q⟩
  keep := fun i h h' st k => by
    obtain ⟨⟨old, he⟩, hi, hne⟩ := st
    exact ⟨⟨old, k e (by simp) _ he⟩, hi.at fun o q => k it (by simp) o q, hne⟩
  item := by
    intro X hP hw hK hc i pins s σ H E I hf st hg
    subst hP hw hK
    obtain ⟨⟨old, he⟩, hit, hne⟩ := st
    obtain ⟨xs, x, hq, hx⟩ := hg
    obtain ⟨its, rv, tp, hz⟩ := I.tuple hq
    obtain ⟨u, hu, ru⟩ := rv.get hx
    have el : e < s.heap.objs.size := Heap.lt_size he
    have il : it < s.heap.objs.size := by obtain ⟨_, q, _⟩ := hit; exact Heap.lt_size q
    have al : a < s.heap.objs.size := tp.lt
    have lenI : i < its.toArray.size := by
      have := (List.getElem?_eq_some_iff.mp hu).1
      simpa using this
    -- the tuple's own iterator, by what it draws
    have ta_it : a ≠ it := fun z => by
      obtain ⟨o1, q1, c1, _⟩ := hit
      obtain ⟨o2, q2, c2, _⟩ := (show s.heap.IsTuple a its.toArray from tp)
      rw [z, q1] at q2
      cases q2
      rw [c1] at c2
      exact absurd c2 (by decide)
    have ta_e : a ≠ e := fun z => by
      obtain ⟨o2, q2, c2, _⟩ := (show s.heap.IsTuple a its.toArray from tp)
      rw [z, show s.heap.get? e = some _ from he] at q2
      cases q2
      exact absurd (show Value.type "enumerate" = Value.type "tuple" from c2) (by decide)
    have D : Draws X.prog X.w X.A.in1 it [it, a] its.toArray.size (fun i v => its.toArray[i]? = some v) (fun i h => h.IsTupleIter it a i ∧ h.IsTuple a its.toArray) := Draws.tuple (A := X.A.in1) (I.ok.hd hc) it a ta_it its.toArray
    refine wpAny_pyNext_enum_itemC D he ⟨hit, tp⟩ lenI hne (by simp [hne, Ne.symm ta_e]) fun y h' tk hP ho hs' hT hsz hk => ?_
    have ey : y = u := Option.some.inj (hP.symm.trans (by simpa using hu))
    subst ey
    refine ⟨_, rfl, wpAny_letOwnedTupleGo_enum (s := { s with heap := h', toks := tk + 1 }) ho fun h'' he' sb => ?_⟩
    have hT2 : h''.get? s.heap.objs.size = some { cls := .type "tuple", data := .seq #[.int (0 + (i : Int)) tk, y] } := (sb.2 _ (Nat.ne_of_gt el)).trans hT
    have e0 : (0 + (i : Int)) = (i : Int) := by omega
    have new : ObjOk X.prog X.w (upd H s.heap.objs.size (.tup [.int (i : Nat), x])) h'' s.heap.objs.size (.tup [.int (i : Nat), x]) :=
      ⟨by show 2 ≤ sizeLine; decide, [.int (0 + (i : Int)) tk, y], .cons ⟨tk, by rw [e0]⟩ (.cons ru .nil), ⟨_, hT2, rfl, _, rfl⟩⟩
    have I1 : Inv X pins σ (upd H s.heap.objs.size (.tup [.int (i : Nat), x])) { s with heap := h'', toks := tk + 1 } :=
      I.turnedNew (ch := [e, it]) (fun b ob hb q => (sb.2 b (fun z => hb (by simp [z]))).trans (hk b ob (fun z => hb (by simp [z])) (fun z => hb (by simp [z])) q)) hf (Nat.le_refl _) new
    refine ⟨.ref s.heap.objs.size, _, I1, rfl, ⟨_, x, rfl, I.hok.fresh (Nat.le_refl _), rfl, fun ys hy => by rw [I.tuple_inj hy hq]; exact hx⟩, ⟨⟨y, ?_⟩, hs'.1.at fun o q => (sb.2 it (Ne.symm hne)).trans q, hne⟩, fun b hb => ?_⟩
    · have e1 : (0 + ((i + 1 : Nat) : Int)) = 0 + (i : Int) + 1 := by omega
      rw [e1]
      exact he'
    · have lt : b < s.heap.objs.size := by
        have cases2 : b = e ∨ b = it := by simpa using hb
        rcases cases2 with z | z
        · rw [z]; exact el
        · rw [z]; exact il
      rw [upd_ne (Nat.ne_of_lt lt)]
      exact (hf b hb).1
  done := by
    intro X hP hw hK hc i pins s σ H E I hf st hg
    subst hP hw hK
    obtain ⟨⟨old, he⟩, hit, hne⟩ := st
    obtain ⟨xs, hq, hx⟩ := hg
    obtain ⟨its, rv, tp, hz⟩ := I.tuple hq
    have ta_it : a ≠ it := fun z => by
      obtain ⟨o1, q1, c1, _⟩ := hit
      obtain ⟨o2, q2, c2, _⟩ := (show s.heap.IsTuple a its.toArray from tp)
      rw [z, q1] at q2
      cases q2
      rw [c1] at c2
      exact absurd c2 (by decide)
    obtain ⟨f0, f1, f2, f3, f4, f5⟩ := hf it (by simp)
    have ln := rv.length
    have gone : xs.length ≤ i := hx
    have D : Draws X.prog X.w X.A.in1 it [it, a] i (fun _ _ => False) (fun j h => j = i ∧ h.IsTupleIter it a j ∧ h.IsTuple a its.toArray) := {
      live := fun j h st => by
        obtain ⟨_, ⟨o, q, _⟩, _⟩ := st
        exact ⟨o, q⟩
      frame := fun j h h' st k => ⟨st.1, st.2.1.at fun o q => k it (by simp) o q, st.2.2.at fun o q => k a (by simp) o q⟩
      item := fun j s Q E hj st _ => absurd hj (by rw [st.1]; exact Nat.lt_irrefl _)
      done := fun s Q E st hE => wpAny_nextOf_tuple_end (A := X.A.in1) (I.ok.hd hc) st.2.1 st.2.2 (Array.getElem?_eq_none (by simp; omega)) hE }
    exact wpAny_pyNext_enum_endD D he ⟨rfl, hit, tp⟩ fun h' eb => ⟨rfl, I.turned (t' := s.toks) (fun b o hb q => eb b o hb q) f0 f1 f3 f4 f5⟩
  self := fun A i s Q E st h => by
    obtain ⟨⟨_, he⟩, _⟩ := st
    exact wpAny_pyIter_enum he h
def iEnumT (K : PySem.W.Frag) (ta : TA) : TI := fun σ H R => ta σ H fun vs H1 => ∃ a xs, vs = [.ref a] ∧ SqT K H1 a xs ∧ R (IeT K a) H1
theorem pi_enumT {X : Cx} {e : Expr} {ta : TA} {p pos tpos : Pos} {elts : List Expr} {kk : Nat} (hg : Gl X "enumerate") (hm : X.mg "enumerate" = none) (ha : PA X [e] ta) (hs : starEach [e] X.env = [(false, eval e X.env)] := by rfl) :
    PI X (.Tuple elts kk tpos) (.Call (.Name "enumerate" p) [e] [] pos) (iEnumT X.K ta) := by
  refine ⟨fun pins s σ H R I h => ?_⟩
  refine Call_ (ld_blt I hg hm boot_enumerate (PyProof.Rows.callWith_type1 (thn (ha.run pos pins s σ H _ I h) fun us s1 ⟨vs, H1, I1, r1, q1⟩ => ?_) hs rfl))
  obtain ⟨a, xs, ex, hq, q⟩ := q1
  subst ex
  obtain ⟨u, rfl, ru⟩ := r1.one
  cases (show u = Value.ref a from ru)
  obtain ⟨its, rv, tp, hz⟩ := I1.tuple hq
  refine enumT_call (its := its.toArray) tp fun h' en it kept => wpAny_pyIter_enum en ?_
  refine ⟨s1.heap.objs.size + 1, [s1.heap.objs.size + 1, s1.heap.objs.size], _, _, H1, rfl, I1.kept (t' := s1.toks) kept, turn_enumT a (s1.heap.objs.size + 1) s1.heap.objs.size, ⟨⟨.none, en⟩, ⟨_, it, rfl, rfl⟩, Nat.succ_ne_self _⟩, fun b hb => ?_, q⟩
  have two : b = s1.heap.objs.size + 1 ∨ b = s1.heap.objs.size := by simpa using hb
  have le : s1.heap.objs.size ≤ b := by
    rcases two with z | z
    · rw [z]
      exact Nat.le_succ _
    · rw [z]
      exact Nat.le_refl _
  exact I1.fpOk le (I1.hok.fresh le)
theorem walk_enumT {K : PySem.W.Frag} {a : Addr} {xs : List V} : Walk (IeT K a) xs.length (fun H => SqT K H a xs) (YPair (fun i => some (.int (i : Nat))) (fun i => xs[i]?)) := by
  refine ⟨fun i _ hi q => ⟨xs, xs[i], q, by simp [hi]⟩, fun _ q => ⟨xs, q, Nat.le_refl _⟩, fun i H v H' _ q y => ?_⟩
  obtain ⟨T, x, y1, y2, y3, y4⟩ := y
  exact ⟨T, .int (i : Nat), x, y1, y2, y3, rfl, y4 xs q⟩
end NA
namespace NA
open PySem PySem.Spec PyProof.Rows L2

/-! ### built-in names that no text here takes -/
structure Blt (mg : Str → Option Value) : Prop where
  len : mg "len" = none
  int : mg "int" = none
  max : mg "max" = none
  min : mg "min" = none
  tuple : mg "tuple" = none
  list : mg "list" = none
  range : mg "range" = none
  any : mg "any" = none
  all : mg "all" = none
  repr : mg "repr" = none
  enumerate : mg "enumerate" = none
  isinstance : mg "isinstance" = none
  bool : mg "bool" = none
/-! ### the pot that is drawn from -/
def Pt (H : Hp) (p q : Addr) : Prop := ∃ (cs : List Int) (a b n : Int), H p = some (.lst [.ref q, .int a, .int b, .int n]) ∧ H q = some (.lst (cs.map V.int)) ∧ cs.length ≤ 60 ∧ 0 ≤ a ∧ a < 4294967296 ∧ 0 ≤ b ∧ b < 4294967296
theorem Pt.lp {H : Hp} {p q : Addr} (h : Pt H p q) : ∃ xs, H p = some (.lst xs) := by
  obtain ⟨cs, a, b, n, h1, _⟩ := h
  exact ⟨_, h1⟩
theorem Pt.lq {H : Hp} {p q : Addr} (h : Pt H p q) : ∃ xs, H q = some (.lst xs) := by
  obtain ⟨cs, a, b, n, _, h1, _⟩ := h
  exact ⟨_, h1⟩
theorem pq_ne {H : Hp} {p q : Addr} {cs : List Int} {a b n : Int} (h1 : H p = some (.lst [.ref q, .int a, .int b, .int n])) (h2 : H q = some (.lst (cs.map V.int))) : p ≠ q := fun e => by
  subst e
  rw [h1] at h2
  cases cs with
  | nil => cases h2
  | cons c cs => cases h2
theorem Pt.ne {H : Hp} {p q : Addr} (h : Pt H p q) : p ≠ q := by
  obtain ⟨cs, a, b, n, h1, h2, _⟩ := h
  exact pq_ne h1 h2
/-- all else stays -/
def Kp (p q : Addr) (H H' : Hp) : Prop := ∀ b o, b ≠ p → b ≠ q → H b = some o → H' b = some o
theorem Kp.refl (p q : Addr) (H : Hp) : Kp p q H H := fun _ _ _ _ h => h
theorem Kp.trans {p q : Addr} {H H1 H2 : Hp} (a : Kp p q H H1) (b : Kp p q H1 H2) : Kp p q H H2 := fun c o n1 n2 h => b c o n1 n2 (a c o n1 n2 h)
theorem Kp.new {p q c : Addr} {o : HO} {H H' : Hp} (e : Kp p q H H') (h : H' c = none) : Kp p q H (upd H' c o) := fun b u n1 n2 z => by
  have z' := e b u n1 n2 z
  rw [upd_ne (ne_of_none z' h)]
  exact z'
theorem Kp.same {p q : Addr} {H H' : Hp} (e : Same H H') : Kp p q H H' := fun b o _ _ z => e b o z
/-- a change of what was not there at the beginning -/
theorem Kp.put {p q c : Addr} {o : HO} {H H' : Hp} (e : Kp p q H H') (h : H c = none) : Kp p q H (upd H' c o) := fun b u n1 n2 z => by
  rw [upd_ne (ne_of_none z h)]
  exact e b u n1 n2 z
theorem Kp.fresh {p q c : Addr} {H H' : Hp} (e : Kp p q H H') (n1 : c ≠ p) (n2 : c ≠ q) (h : H' c = none) : H c = none := by
  cases z : H c with
  | none => rfl
  | some o =>
    rw [e c o n1 n2 z] at h
    cases h
theorem Kp.tk {p q : Addr} {H H' : Hp} (e : Kp p q H H') (P : Pt H p q) : Tk H H' := fun b xs z => by
  obtain ⟨ys, h1⟩ := P.lp
  obtain ⟨zs, h2⟩ := P.lq
  exact e b _ (ne_of z h1 (by intro k; cases k)) (ne_of z h2 (by intro k; cases k)) z
theorem Pt.new {H : Hp} {p q c : Addr} {o : HO} (P : Pt H p q) (h : H c = none) : Pt (upd H c o) p q := by
  obtain ⟨cs, a, b, n, h1, h2, r⟩ := P
  exact ⟨cs, a, b, n, by rw [upd_ne (ne_of_none h1 h)]; exact h1, by rw [upd_ne (ne_of_none h2 h)]; exact h2, r⟩
theorem Pt.put {H : Hp} {p q c : Addr} {o : HO} (P : Pt H p q) (n1 : c ≠ p) (n2 : c ≠ q) : Pt (upd H c o) p q := by
  obtain ⟨cs, a, b, n, h1, h2, r⟩ := P
  exact ⟨cs, a, b, n, by rw [upd_ne (Ne.symm n1)]; exact h1, by rw [upd_ne (Ne.symm n2)]; exact h2, r⟩
theorem Pt.same {H H' : Hp} {p q : Addr} (P : Pt H p q) (e : Same H H') : Pt H' p q := by
  obtain ⟨cs, a, b, n, h1, h2, r⟩ := P
  exact ⟨cs, a, b, n, e _ _ h1, e _ _ h2, r⟩
theorem Pt.np {H : Hp} {p q c : Addr} (P : Pt H p q) (h : H c = none) : c ≠ p ∧ c ≠ q := by
  obtain ⟨xs, h1⟩ := P.lp
  obtain ⟨ys, h2⟩ := P.lq
  refine ⟨fun e => ?_, fun e => ?_⟩
  · rw [e, h1] at h
    cases h
  · rw [e, h2] at h
    cases h
theorem Same.new {H H' : Hp} {c : Addr} {o : HO} (e : Same H H') (h : H' c = none) : Same H (upd H' c o) := fun b u z => by
  have z' := e b u z
  rw [upd_ne (ne_of_none z' h)]
  exact z'
/-- data all of whose items are ints -/
theorem DpAll.ints (K : PySem.W.Frag) (H : Hp) : ∀ ns : List Int, DpAll K H (ns.map V.int) (ns.map PyData.int)
  | [] => .nil
  | n :: ns => .cons (.int n) (DpAll.ints K H ns)
theorem canLay_ints : ∀ ns : List Int, PyData.canLayAll0 (ns.map PyData.int) = true
  | [] => rfl
  | n :: ns => by
    rw [List.map_cons]
    simp only [PyData.canLayAll0, PyData.canLay0, canLay_ints ns, Bool.and_self]
theorem depth_ints : ∀ ns : List Int, PyData.depthAll (ns.map PyData.int) = 0
  | [] => rfl
  | n :: ns => by
    rw [List.map_cons]
    simp only [PyData.depthAll, PyData.depth, depth_ints ns, Nat.max_self]
theorem shaped_ints (ns : List Int) : SeqAt.shaped (.list (ns.map PyData.int)) = true := by
  unfold SeqAt.shaped
  simp only [PyData.canLay0, PyData.depth, canLay_ints, depth_ints, Bool.true_and]
  decide
theorem Im.int0 {H : Hp} (n : Nat) : Im H (.int (0 + (n : Int))) (.int n) := by
  rw [Int.zero_add]
  exact .int _
/-! ### the promises of what draws -/
def spDip : Sp := fun vs H Q _ => ∃ (p q : Addr) (n : Int), vs = [.ref p, .int n] ∧ Pt H p q ∧ 0 < n ∧ n < 1073741824 ∧ ∀ (r : Int) (H' : Hp), 0 ≤ r → r < n → Pt H' p q → Kp p q H H' → Q (.int r) H'
def spPick : Sp := fun vs H Q _ => ∃ (p q a : Addr) (xs : List V), vs = [.ref p, .ref a] ∧ Pt H p q ∧ H a = some (.lst xs) ∧ a ≠ p ∧ a ≠ q ∧ xs ≠ [] ∧ xs.length < 1000 ∧
  ∀ (v : V) (H' : Hp), v ∈ xs → Pt H' p q → Kp p q H H' → Q v H'
def PR : List Int := [2, 3, 5, 7, 11, 13, 17, 19, 23, 29, 31, 37, 41, 43, 47, 53, 59, 61, 67, 71, 73, 79, 83, 89, 97]
def spPrimes : Sp := fun vs H Q _ => vs = [] ∧ ∀ a, H a = none → Q (.ref a) (upd H a (.lst (PR.map V.int)))
def spGreat : Sp := fun vs H Q _ => ∃ (p q : Addr), vs = [.ref p] ∧ Pt H p q ∧ ∀ (n : Int) (H' : Hp), SizeOk n → Pt H' p q → Kp p q H H' → Q (.int n) H'
def sD (ss : List Int) : PyData := .tuple (ss.map .int)
def wD (w : Nat × Nat) : PyData := .tuple [.int w.1, .int w.2]
def mD (ss : List Int) (ws : List (Nat × Nat)) : PyData := .tuple [sD ss, .tuple (ws.map wD)]
def spSizes : Sp := fun vs H Q _ => ∃ (p q : Addr) (g : Bool), vs = [.ref p, .bl g] ∧ Pt H p q ∧
  ∀ (v : V) (ss : List Int) (H' : Hp), Im H' v (sD ss) → 1 ≤ ss.length → ss.length ≤ 6 → (∀ s ∈ ss, SizeOk s) → Pt H' p q → Kp p q H H' → Q v H'
def spWires : Sp := fun vs H Q _ => ∃ (p q : Addr) (m : Nat), vs = [.ref p, .int m] ∧ m ≤ 6 ∧ Pt H p q ∧
  ∀ (v : V) (ws : List (Nat × Nat)) (H' : Hp), Im H' v (.tuple (ws.map wD)) → WOk m ws → Pt H' p q → Kp p q H H' → Q v H'
def spMachine : Sp := fun vs H Q _ => ∃ (p q : Addr) (g : Bool), vs = [.ref p, .bl g] ∧ Pt H p q ∧
  ∀ (v : V) (ss : List Int) (ws : List (Nat × Nat)) (H' : Hp), Im H' v (mD ss ws) → MOk ss ws → Pt H' p q → Kp p q H H' → Q v H'
/-- a list at c of great numbers, all of them ints that may be a size but for 1 -/
def okV (v : V) : Bool := match v with
  | .int i => decide (1 ≤ i) && decide (i ≤ 10 ^ 30) && smoB i.toNat
  | _ => false
theorem okV_of {v : V} (h : okV v = true) : ∃ m : Nat, v = .int m ∧ 1 ≤ m ∧ m ≤ 10 ^ 30 ∧ Smo m := by
  cases v with
  | int i =>
    have h' : (decide (1 ≤ i) && decide (i ≤ 10 ^ 30) && smoB i.toNat) = true := h
    rw [Bool.and_eq_true, Bool.and_eq_true] at h'
    have h1 : 1 ≤ i := of_decide_eq_true h'.1.1
    have h2 : i ≤ 10 ^ 30 := of_decide_eq_true h'.1.2
    exact ⟨i.toNat, by rw [Int.toNat_of_nonneg (by omega)], by omega, by omega, smo_of h'.2⟩
  | _ => cases h
def fewV : List V := [.int 2, .int 3, .int 4, .int 5, .int 6, .int 8, .int 9, .int 12, .int 16, .int 18, .int 27, .int 97, .int 36]
def spCommon : Sp := fun vs H Q _ => ∃ a b : Nat, vs = [.int a, .int b] ∧ b < 2 ^ 4000 ∧ Q (.int (Nat.gcd a b : Nat)) H
end NA
namespace NA
open PySem PySem.Spec PyProof.Rows L2
theorem Same.put {H H' : Hp} {c : Addr} {o : HO} (e : Same H H') (h : H c = none) : Same H (upd H' c o) := fun b u z => by
  rw [upd_ne (ne_of_none z h)]
  exact e b u z
theorem take_filter {α : Type} {l : List α} {i : Nat} {x : α} (f : α → Bool) (h : l[i]? = some x) : (l.take (i + 1)).filter f = (l.take i).filter f ++ (if f x = true then [x] else []) := by
  rw [List.take_add_one, h, List.filter_append]
  simp only [Option.toList, List.filter_cons, List.filter_nil]
theorem take_map {α β : Type} {l : List α} {i : Nat} {x : α} (f : α → β) (h : l[i]? = some x) : (l.take (i + 1)).map f = (l.take i).map f ++ [f x] := by
  rw [List.take_add_one, h, List.map_append]
  rfl
theorem map_get {α β : Type} {l : List α} {f : α → β} {i : Nat} {y : β} (h : (l.map f)[i]? = some y) : ∃ x, l[i]? = some x ∧ y = f x := by
  rw [List.getElem?_map] at h
  cases e : l[i]? with
  | none =>
    rw [e] at h
    cases h
  | some x =>
    rw [e] at h
    exact ⟨x, rfl, (Option.some.inj h).symm⟩
theorem dec_int0 (x y : Int) : decide (V.int x = V.int y) = decide (x = y) := by
  by_cases h : x = y
  · subst h
    rw [decide_eq_true rfl, decide_eq_true rfl]
  · rw [decide_eq_false h, decide_eq_false fun z => h (V.int.inj z)]
/-- primes that divide some of these -/
def dv (ss : List Int) (p : Int) : Bool := ss.any fun s => decide (s % p = 0)
def dueP (ss : List Int) : List Int := PR.filter (dv ss)
def spDepth : Sp := fun vs H Q _ => ∃ (v : V) (ss : List Int) (d : PyData) (p i s : Nat), vs = [v, .int p, .int i] ∧ Im H v (.tuple [sD ss, d]) ∧ 2 ≤ p ∧ p ≤ 1000 ∧ ss[i]? = some (s : Int) ∧ 0 < s ∧ s < 2 ^ 4000 ∧ Q (.int (val p s : Nat)) H
def spStep : Sp := fun vs H Q _ => ∃ (v : V) (ss : List Int) (d : PyData) (j i a b : Nat), vs = [v, .int j, .int i] ∧ Im H v (.tuple [sD ss, d]) ∧ ss[j]? = some (a : Int) ∧ ss[i]? = some (b : Int) ∧ 0 < b ∧ b < 2 ^ 4000 ∧ Q (.int (stp a b : Nat)) H
def spPrimesOf : Sp := fun vs H Q _ => ∃ (v : V) (ss : List Int) (d : PyData), vs = [v] ∧ Im H v (.tuple [sD ss, d]) ∧ ss.length ≤ 100 ∧ ∀ (u : V) (H' : Hp), Im H' u (.tuple ((dueP ss).map .int)) → Same H H' → Q u H'
def spLStep : Sp := fun vs H Q _ => ∃ (v : V) (ss : List Int) (j i a b : Nat), vs = [v, .int j, .int i] ∧ Im H v (sD ss) ∧ ss[j]? = some (a : Int) ∧ ss[i]? = some (b : Int) ∧ 0 < b ∧ b < 2 ^ 4000 ∧ Q (.int (stp a b : Nat)) H
def spOften : Sp := fun vs H Q _ => ∃ (s p : Nat), vs = [.int s, .int p] ∧ 2 ≤ p ∧ p ≤ 1000 ∧ 0 < s ∧ s < 2 ^ 4000 ∧ Q (.int (val p s : Nat)) H
def spPot (K : PySem.W.Frag) : Sp := fun vs H Q _ => ∃ (a : Addr) (ns : List Int), vs = [.ref a] ∧ SqL K H a (ns.map V.int) ∧ ns.length ≤ 63 ∧ ∀ (p q : Addr) (H' : Hp), Pt H' p q → Same H H' → H p = none → H q = none → Q (.ref p) H'
theorem pl_pos {p s : Nat} (hp : 2 ≤ p) (h : 0 < s) (e : s % p = 0) : 0 < s / p := Nat.div_pos (Nat.le_of_dvd h (Nat.dvd_of_mod_eq_zero e)) (by omega)
theorem Cal.of {P : Program} {w : World} {K : PySem.W.Frag} {mg : Str → Option Value} {base : Heap} {x : Str} {st : Stmt} {f : Addr} {fd : FuncData} {ps : List Str} {k : Nat} {sp : Sp} (D : DefAt K mg x st ps f fd) (F : FnOk P w K mg base CX0 k f fd ps sp) : Cal P w K mg base k x sp :=
  ⟨f, fd, ps, F, D.mgf, D.fn.kp, D.bd⟩
theorem CalK.of {P : Program} {w : World} {K : PySem.W.Frag} {mg : Str → Option Value} {base : Heap} {x : Str} {st : Stmt} {f : Addr} {fd : FuncData} {ps ks : List Str} {k : Nat} {sp : Sp} {g : List Value → List Value → List Value} {gV : List V → List V → List V} (D : DefAt K mg x st ps f fd)
    (F : FnOk P w K mg base CX0 k f fd ps sp) (b : KBinds K fd ps ks g gV) : CalK P w K mg base k x sp ks gV :=
  ⟨f, fd, ps, g, F, D.mgf, D.fn.kp, b⟩
/-- keywords alone, put in order by o -/
def kg1 {α : Type} : List α → List α → List α
  | [], [a] => [a]
  | _, _ => []
def kg321 {α : Type} : List α → List α → List α
  | [], [a, b, c] => [c, b, a]
  | _, _ => []
theorem kg1_rel {vs zs : List V} {us ws : List Value} (h1 : Vals vs us) (h2 : Vals zs ws) : Vals (kg1 vs zs) (kg1 us ws) := by
  cases h1 with
  | cons _ _ => exact .nil
  | nil =>
    cases h2 with
    | nil => exact .nil
    | cons a h2 =>
      cases h2 with
      | nil => exact .cons a .nil
      | cons _ _ => exact .nil
theorem kg321_rel {vs zs : List V} {us ws : List Value} (h1 : Vals vs us) (h2 : Vals zs ws) : Vals (kg321 vs zs) (kg321 us ws) := by
  cases h1 with
  | cons _ _ => exact .nil
  | nil =>
    cases h2 with
    | nil => exact .nil
    | cons a h2 =>
      cases h2 with
      | nil => exact .nil
      | cons b h2 =>
        cases h2 with
        | nil => exact .nil
        | cons c h2 =>
          cases h2 with
          | nil => exact .cons c (.cons b (.cons a .nil))
          | cons _ _ => exact .nil
section
variable {X : Cx}
/-! rules over a written part that is named -/
theorem pi_listK (K : PySem.W.Frag) (hK : X.K = K) {tg l : Expr} {tl : TE} (hl : PE X l tl) : PI X tg l (iList K tl) := hK ▸ pi_list hl
theorem pi_tupK (K : PySem.W.Frag) (hK : X.K = K) {tg l : Expr} {tl : TE} (hl : PE X l tl) : PI X tg l (iTup K tl) := hK ▸ pi_tup hl
theorem ix_listK (K : PySem.W.Frag) (hK : X.K = K) : IxR X (rIxL K) := hK ▸ ix_list
theorem ix_tupK (K : PySem.W.Frag) (hK : X.K = K) : IxR X (rIxT K) := hK ▸ ix_tup
theorem sl_listK (K : PySem.W.Frag) (hK : X.K = K) : SlR X (rSlL K) := hK ▸ sl_list
theorem cr_anyK (K : PySem.W.Frag) (hK : X.K = K) (hc : X.calm = true) : CallR X (.builtin "any") (rAny K) := hK ▸ cr_any hc
theorem cr_allK (K : PySem.W.Frag) (hK : X.K = K) (hc : X.calm = true) : CallR X (.builtin "all") (rAll K) := hK ▸ cr_all hc
def rLenQ (K : PySem.W.Frag) : List V → Hp → VK → Prop := fun xs H Q => ∃ p ys, xs = [.ref p] ∧ (SqL K H p ys ∨ SqT K H p ys) ∧ Q (.int ys.length) H
theorem call_lenK (K : PySem.W.Frag) (hK : X.K = K) : CallR X (.builtin "len") (rLenQ K) := hK ▸ call_len_seq
def rTupQ (K : PySem.W.Frag) : List V → Hp → VK → Prop := fun xs H Q => ∃ p ys, xs = [.ref p] ∧ ((SqL K H p ys ∧ ∀ l, H l = none → Q (.ref l) (upd H l (.tup ys))) ∨ (SqT K H p ys ∧ Q (.ref p) H))
theorem call_tupleK (K : PySem.W.Frag) (hK : X.K = K) : CallR X (.type "tuple") (rTupQ K) := hK ▸ call_tuple_of
def rLstQ (K : PySem.W.Frag) : List V → Hp → VK → Prop := fun xs H Q => ∃ p ys, xs = [.ref p] ∧ (SqL K H p ys ∨ SqT K H p ys) ∧ ∀ l, H l = none → Q (.ref l) (upd H l (.lst ys))
theorem call_listK (K : PySem.W.Frag) (hK : X.K = K) : CallR X (.type "list") (rLstQ K) := hK ▸ call_list_of
theorem op_neDK (K : PySem.W.Frag) (hK : X.K = K) (hu : X.A.units + 64 < cLine) : OpR X (compareOp .NotEq) (rNeD K) := hK ▸ op_neD hu
theorem op_eqDK (K : PySem.W.Frag) (hK : X.K = K) (hu : X.A.units + 64 < cLine) : OpR X (compareOp .Eq) (rEqD K) := hK ▸ op_eqD hu
def rReprQ (K : PySem.W.Frag) : List V → Hp → VK → Prop := fun xs H Q => ∃ v d, xs = [v] ∧ Dp K H v d ∧ Sh d ∧ Q (.str d.shown) H
theorem call_reprK (K : PySem.W.Frag) (hK : X.K = K) {k : Nat} (hg : Bare X.A) (hr : Room k X.A) : CallR X (.builtin "repr") (rReprQ K) := hK ▸ call_reprD hg hr
theorem call_isiK' (K : PySem.W.Frag) (hK : X.K = K) : CallR X (.builtin "isinstance") (rIsi K) := hK ▸ call_isi
/-- an operator in place, by its rule -/
theorem ip_of {op : Operator} {r : R2} (h : OpR X (inplaceOp op) r) : PIp X op r := fun pins s σ H x y v u Q I rx ry z => h pins s σ H x y v u Q I rx ry z
/-- expressions one behind another, none starred -/
inductive PEL (X : Cx) : List Expr → TA → Prop
  | nil : PEL X [] tNil
  | cons {e : Expr} {es : List Expr} {te : TE} {t : TA} : PE X e te → PEL X es t → PySem.W.kdsPlain e = true → PEL X (e :: es) (tCons te t)
theorem PEL.plain {es : List Expr} {t : TA} (h : PEL X es t) : es.all PySem.W.kdsPlain = true := by
  induction h with
  | nil => rfl
  | cons _ _ h3 ih => rw [List.all_cons, h3, ih] <;> rfl
theorem PEL.run {es : List Expr} {t : TA} (h : PEL X es t) : ∀ (pins : List (Addr × Obj)) (s : Shared) (σ : L2.St) (H : Hp) (R : List V → Hp → Prop) (Q : List Value → Shared → Prop), Inv X pins σ H s → t σ H R →
    (∀ us s' vs H', Inv X pins σ H' s' → Vals vs us → R vs H' → Q us s') → PySem.W.KdsAll (model X.prog X.w) X.A X.xe X.env es Q s := by
  induction h with
  | nil => intro pins s σ H R Q I h q; exact q [] s [] H I .nil h
  | cons he _ _ ih =>
    intro pins s σ H R Q I h q
    refine thn (he.run pins s σ H _ I h) fun u s1 ⟨v, H1, I1, rv, h1⟩ => ?_
    exact ih pins s1 σ H1 _ _ I1 h1 fun us s' vs H' I' rel r => q (u :: us) s' (v :: vs) H' I' (.cons rv rel) r
theorem Vals.toInts : ∀ {ns : List Int} {us : List Value}, Vals (ns.map V.int) us → IntsAre us ns
  | [], _, h => by cases h; exact .nil
  | n :: ns, _, h => by
    cases h with
    | cons a b =>
      obtain ⟨t, rfl⟩ := a
      exact .cons n t (Vals.toInts b)
/-- how many unlike ones -/
def unlike : List Int → List Int → Nat
  | _, [] => 0
  | seen, n :: ns => if n ∈ seen then unlike seen ns else unlike (n :: seen) ns + 1
section
variable {P : Program} {w : World} {A : Around} {E : Value → Shared → Prop} {s : Shared} {D : Addr}
theorem unledI {S : Int → Bool} {n : Nat} {Q : Unit → Shared → Prop} (hS : s.heap.SetOf (intKind P w) D S n) (h : ∀ h', h'.SetOf (intKind P w) D S n → (∀ b o, b ≠ D → s.heap.get? b = some o → h'.get? b = some o) → Q () { s with heap := h' }) :
    wpAny (model P w) A (setUnled D) Q E s := by
  obtain ⟨o, es, ep, tb, get, exact', data, elems, mem, bound, fit, cnt⟩ := hS
  have fit' : ({ tb with led := false } : SetTable).fits es.size = true := by cases tb; exact fit
  unfold setUnled
  refine wpAny_bind (wpAny_setState_of get data fit ?_)
  dsimp only
  refine wpAny_storeSet_of get data ?_ (fits_of_scanBound bound)
  obtain ⟨_, hS2⟩ := SetOf_store (knd := intKind P w) get exact' data elems mem bound fit'
  rw [cnt] at hS2
  have but := Heap.SameBut.update s.heap D (Obj.putSet es { tb with led := false })
  exact h _ hS2 fun b ob hb z => (but.2 b hb).trans z
theorem fillI {u : Bool} {h₀ : Heap} {us : List Value} {ns : List Int} (r : IntsAre us ns) : ∀ (h : Heap) (k : Nat) (S : Int → Bool) (seen : List Int) (n : Nat) (Q : Value → Shared → Prop), h.SetOf (intKind P w) D S n → (∀ z, S z = true ↔ z ∈ seen) →
    (∀ b o, b ≠ D → h₀.get? b = some o → h.get? b = some o) → n + ns.length < 4000 →
    (∀ h' k' S', h'.SetOf (intKind P w) D S' (n + unlike seen ns) → (∀ b o, b ≠ D → h₀.get? b = some o → h'.get? b = some o) → PySem.W.KdsFill (model P w) A E u D Q [] { s with heap := h', toks := k' }) →
    PySem.W.KdsFill (model P w) A E u D Q us { s with heap := h, toks := k } := by
  induction r with
  | nil =>
    intro h k S seen n Q hS _ hk _ q
    exact q h k S hS hk
  | cons y t r ih =>
    rename_i us2 ns2
    intro h k S seen n Q hS hmem hk hn q
    rw [List.length_cons] at hn
    refine PySem.W.kds_fill_cons ?_
    unfold setAdd
    refine wpAny_holding (wpAny_bind ((intKind P w).pyHash (k := y) (intKind_is _ _ _ _) ?_))
    refine wpAny_setAddHashed_of (knd := intKind P w) (s := { s with heap := h, toks := k + 1 }) (intKind_is _ _ _ _) rfl hS (by unfold scanBound; omega) fun h' sb hS' => ?_
    refine ih h' (k + 1) _ (if y ∈ seen then seen else y :: seen) _ Q hS' (fun z => ?_) (fun b o hb e => (sb.2 b hb).trans (hk b o hb e)) (by split <;> omega) fun h2 k2 S2 a b => q h2 k2 S2 ?_ b
    · by_cases hy : y ∈ seen
      · rw [if_pos hy]
        simp only [Bool.or_eq_true, decide_eq_true_eq, hmem]
        exact ⟨fun z => z.elim id fun e => e ▸ hy, Or.inl⟩
      · rw [if_neg hy]
        simp only [Bool.or_eq_true, decide_eq_true_eq, hmem, List.mem_cons]
        exact Or.comm
    · have e : n + unlike seen (y :: ns2) = (if S y = true then n else n + 1) + unlike (if y ∈ seen then seen else y :: seen) ns2 := by
        by_cases hy : y ∈ seen
        · rw [if_pos ((hmem y).mpr hy), if_pos hy]
          show n + (if y ∈ seen then unlike seen ns2 else unlike (y :: seen) ns2 + 1) = _
          rw [if_pos hy]
        · rw [if_neg (fun z => hy ((hmem y).mp z)), if_neg hy]
          show n + (if y ∈ seen then unlike seen ns2 else unlike (y :: seen) ns2 + 1) = _
          rw [if_neg hy]
          omega
      rw [e]
      exact a
end
/-- len({e, ..}), all of them ints -/
def tLenSet (t : TA) : TE := fun σ H Q => t σ H fun vs H1 => ∃ ns : List Int, vs = ns.map V.int ∧ ns.length ≤ 30 ∧ Q (.int (unlike [] ns : Nat)) H1
theorem pe_lenSetI {es : List Expr} {t : TA} {p p2 pos : Pos} (hgl : Gl X "len") (hm : X.mg "len" = none) (hs : PEL X es t) (hl : es.length ≤ 30) (hcd : PySem.W.kdsCode X.K X.env.code = true) :
    PE X (.Call (.Name "len" p) [.Set es 0 p2] [] pos) (tLenSet t) := by
  refine ⟨fun pins s σ H Q I h => wpAny_Call_Name_kw (ld_blt I hgl hm PySem.boot_len ?_ (by decide) (by decide))⟩
  refine PyProof.Rows.callWith_builtin1 (Calls.spliced_cons ?_) (by rfl) (by rfl)
  rw [arm_eval_Set]
  refine wpAny_bind (wpAny_standAt ?_)
  refine wpAny_bind (PySem.W.kds_main I.kIn hcd fun b => ?_)
  rw [PySem.W.kds_star es hs.plain, List.map_map]
  refine PySem.W.kds_core (ts := (evalEach es X.env).map fun t => do let v ← t; standAt p2; pure v) (road0 es) ?_ ?_ ?_ fun led => ?_
  · refine List.findIdx?_eq_none_iff.mpr fun x hx => ?_
    obtain ⟨t, _, rfl⟩ := List.mem_map.mp hx
    rfl
  · rw [List.length_map, PySem.W.kds_len]
    exact hl
  · rw [List.map_map]
    try rfl
  · -- the set's object stands behind the items' evaluation
    have I1 : Inv X pins σ H { s with heap := s.heap.push { cls := .type "set", dict := none, data := .set #[] 0 (.fresh 0 0 led) } } := I.kept (t' := s.toks) fun b u e => Heap.get?_push_of_some _ e
    have hget : (s.heap.push { cls := .type "set", dict := none, data := .set #[] 0 (.fresh 0 0 led) }).get? s.heap.objs.size = some { cls := .type "set", dict := none, data := .set #[] 0 (.fresh 0 0 led) } := Heap.get?_push_size _ rfl
    have I2 := I1.pinned (fp := [s.heap.objs.size]) (fun b hb => by
      rw [List.mem_singleton.mp hb]
      exact I.fpOk (Nat.le_refl _) (I.hok.fresh (Nat.le_refl _))) (fun b hb => by
      rw [List.mem_singleton.mp hb]
      exact ⟨_, hget, fun v z => nomatch z⟩)
    refine PySem.W.kds_all p2 es _ _ (hs.run _ _ σ H (fun vs H1 => ∃ ns : List Int, vs = ns.map V.int ∧ ns.length ≤ 30 ∧ Q (.int (unlike [] ns : Nat)) H1) _ I2 h fun us s' vs H' I' rel hq => ?_)
    obtain ⟨ns, rfl, hl2, q⟩ := hq
    have hpin : s'.heap.get? s.heap.objs.size = some { cls := .type "set", dict := none, data := .set #[] 0 (.fresh 0 0 led) } :=
      (I'.pin _ (List.mem_append_right _ (List.mem_append_right _ (mem_pinsAt (List.mem_singleton.mpr rfl) hget)))).1
    have free : H' s.heap.objs.size = none := (I'.pin _ (List.mem_append_right _ (List.mem_append_right _ (mem_pinsAt (List.mem_singleton.mpr rfl) hget)))).2.1
    have I3 := I'.unpinned
    have hS0 : s'.heap.SetOf (intKind X.prog X.w) s.heap.objs.size (fun _ => false) 0 := (setObjOf_fresh (knd := intKind X.prog X.w) led).setOf hpin (by decide)
    obtain ⟨f0, f1, f2, f3, f4, f5⟩ := I.fpOk (H' := H') (Nat.le_refl s.heap.objs.size) free
    have last : ∀ (h' : Heap) (k' : Nat) (S' : Int → Bool), h'.SetOf (intKind X.prog X.w) s.heap.objs.size S' (0 + unlike [] ns) → (∀ b o, b ≠ s.heap.objs.size → s'.heap.get? b = some o → h'.get? b = some o) →
        wpAny (model X.prog X.w) X.A (spliced []) (fun vs s2 => wpAny (model X.prog X.w) X.A (call (.builtin "len") (.ref s.heap.objs.size :: vs)) (EP X pins σ Q) X.xe s2) X.xe { s' with heap := h', toks := k' } := fun h' k' S' hS hk => by
      refine Calls.spliced_nil ?_
      obtain ⟨o, el, ep, tb, get, exact', data, elems, mem, bound, fit, cnt⟩ := hS
      have fz : (el.size : Int) < 2 ^ 63 := by
        have : el.size < 4096 := bound
        omega
      refine call_len_set (s := { s' with heap := h', toks := k' }) get exact' data fit fz ⟨.int (unlike [] ns : Nat), H', I3.turned (fun b ob hb e => hk b ob hb e) f0 f1 f3 f4 f5, ⟨k' + 1, ?_⟩, q⟩
      rw [cnt, Nat.zero_add]
    refine fillI (s := s') (h₀ := s'.heap) (Vals.toInts rel) s'.heap s'.toks (fun _ => false) [] 0 _ hS0 (fun z => ⟨fun e => Bool.noConfusion e, fun e => absurd e List.not_mem_nil⟩) (fun _ _ _ e => e) (by omega) fun h' k' S' hS hk => ?_
    cases hu : (displayRoad 0 es == DisplayRoad.unsure) with
    | false => exact PySem.W.kds_fill_nil rfl (last h' k' S' hS hk)
    | true => exact PySem.W.kds_fill_unled rfl (unledI (s := { s' with heap := h', toks := k' }) hS fun h2 hS2 sb => last h2 k' S' hS2 fun b o hb e => sb b o hb (hk b o hb e))
end
end NA
namespace NA
open PySem PySem.Spec PyProof.Rows L2
theorem small_log {i : Int} (h : i.natAbs < 2 ^ 1900) : i.natAbs.log2 < 1920 := Nat.lt_of_lt_of_le (PySem.Flt.log2_lt_of (by decide) h) (by decide)
theorem okAll_ints : ∀ ns : List Int, (∀ n ∈ ns, n.natAbs < 2 ^ 1900) → okAll (ns.map PyData.int) = true
  | [], _ => rfl
  | n :: ns, h => by
    rw [List.map_cons]
    simp only [okAll, okD, okAll_ints ns fun m hm => h m (List.mem_cons_of_mem _ hm), Bool.and_true]
    exact decide_eq_true (small_log (h n List.mem_cons_self))
theorem costAll_ints : ∀ ns : List Int, costAll (ns.map PyData.int) = 1923 * ns.length
  | [] => rfl
  | n :: ns => by
    rw [List.map_cons]
    simp only [costAll, cost, costAll_ints ns, List.length_cons]
    omega
theorem Sh.ints {ns : List Int} (h : ∀ n ∈ ns, n.natAbs < 2 ^ 1900) (l : ns.length ≤ 1000) : Sh (.tuple (ns.map .int)) := by
  refine ⟨by simpa only [okD] using okAll_ints ns h, ?_, ?_⟩
  · simp only [NA.cost, costAll_ints]
    omega
  · simp only [PyData.depth, depth_ints]
    decide
theorem Sh.pair {d e : PyData} (a : Sh d) (b : Sh e) (ca : NA.cost d ≤ 4000000) (cb : NA.cost e ≤ 4000000) (da : d.depth ≤ 50) (db : e.depth ≤ 50) : Sh (.list [d, e]) := by
  refine ⟨?_, ?_, ?_⟩
  · simp only [okD, okAll, a.ok, b.ok, Bool.and_self]
  · simp only [NA.cost, costAll]
    omega
  · simp only [PyData.depth, PyData.depthAll]
    omega
theorem Sh.int {i : Int} (h : i.natAbs < 2 ^ 1900) : Sh (.int i) := ⟨by simp only [okD]; exact decide_eq_true (small_log h), by simp only [NA.cost]; decide, by simp only [PyData.depth]; decide⟩
theorem asc_len (N : Nat) : ∀ (l : List Nat) (lo : Nat), l.Pairwise (· < ·) → (∀ x ∈ l, lo ≤ x ∧ x < N) → l.length ≤ N - lo
  | [], _, _, _ => Nat.zero_le _
  | x :: l, lo, h, hb => by
    obtain ⟨h1, h2⟩ := List.pairwise_cons.mp h
    obtain ⟨b1, b2⟩ := hb x List.mem_cons_self
    have ih := asc_len N l (x + 1) h2 fun y hy => ⟨h1 y hy, (hb y (List.mem_cons_of_mem _ hy)).2⟩
    rw [List.length_cons]
    omega
theorem WOk.len {m : Nat} {ws : List (Nat × Nat)} (h : WOk m ws) (hm : m ≤ 6) : ws.length ≤ 36 := by
  have z := asc_len 36 (ws.map fun w => 6 * w.1 + w.2) 0 ?_ ?_
  · rw [List.length_map] at z
    omega
  · rw [List.pairwise_map]
    refine List.Pairwise.imp_of_mem (fun {a b} ha hb e => ?_) h.asc
    obtain ⟨a1, a2, _⟩ := h.low a ha
    obtain ⟨b1, b2, _⟩ := h.low b hb
    rcases e with e | ⟨e1, e2⟩ <;> omega
  · intro x hx
    obtain ⟨w, hw, rfl⟩ := List.mem_map.mp hx
    obtain ⟨b1, b2, _⟩ := h.low w hw
    omega
theorem okAll_wires : ∀ ws : List (Nat × Nat), (∀ w ∈ ws, w.1 < 1000 ∧ w.2 < 1000) → okAll (ws.map wD) = true
  | [], _ => rfl
  | w :: ws, h => by
    obtain ⟨a, b⟩ := h w List.mem_cons_self
    have s : ∀ n : Nat, n < 1000 → (n : Int).natAbs < 2 ^ 1900 := fun n hn => by
      rw [Int.natAbs_natCast]
      exact Nat.lt_trans hn (by decide)
    rw [List.map_cons]
    simp only [okAll, wD, okD, decide_eq_true (small_log (s _ a)), decide_eq_true (small_log (s _ b)), Bool.and_self, Bool.true_and]
    exact okAll_wires ws fun x hx => h x (List.mem_cons_of_mem _ hx)
theorem costAll_wires : ∀ ws : List (Nat × Nat), costAll (ws.map wD) = 3851 * ws.length
  | [] => rfl
  | w :: ws => by
    rw [List.map_cons]
    simp only [costAll, wD, cost, costAll_wires ws, List.length_cons]
    omega
theorem depth_wires : ∀ ws : List (Nat × Nat), PyData.depthAll (ws.map wD) ≤ 1
  | [] => by simp [PyData.depthAll]
  | w :: ws => by
    have := depth_wires ws
    rw [List.map_cons]
    simp only [PyData.depthAll, wD, PyData.depth]
    omega
theorem SizeOk.small {n : Int} (h : SizeOk n) : n.natAbs < 2 ^ 100 := by
  obtain ⟨m, rfl, _, h2, _⟩ := h
  rw [Int.natAbs_natCast]
  exact Nat.lt_of_le_of_lt h2 (by decide)
theorem Sh.mach {ss : List Int} {ws : List (Nat × Nat)} (h : MOk ss ws) : Sh (mD ss ws) := by
  have l1 := h.six
  have l2 := h.wires.len l1
  refine ⟨?_, ?_, ?_⟩
  · have a := okAll_ints ss fun n hn => Nat.lt_trans (h.size n hn).small (by decide)
    have b := okAll_wires ws fun w hw => by
      obtain ⟨x, y, _⟩ := h.wires.low w hw
      omega
    simp only [mD, sD, okD, okAll, a, b, Bool.and_self]
  · simp only [mD, sD, NA.cost, costAll, costAll_ints, costAll_wires]
    omega
  · have := depth_wires ws
    simp only [mD, sD, PyData.depth, PyData.depthAll, depth_ints]
    omega
theorem eqv_nil (ns : List Int) : PyData.eqv (.list (ns.map .int)) (.list []) = ns.isEmpty := by
  cases ns with
  | nil => rfl
  | cons n ns => rfl
/-- the primes of sizes, as numbers from 0 on -/
def dueN (ss : List Int) : List Nat := PRn.filter fun p => dv ss p
theorem dueP_eq (ss : List Int) : dueP ss = (dueN ss).map (fun n : Nat => (n : Int)) := by
  unfold dueP dueN
  rw [show PR = PRn.map (fun n : Nat => (n : Int)) by decide +kernel, List.filter_map]
  rfl
theorem dueN_mem {ss : List Int} {p : Nat} (h : p ∈ dueN ss) : p ∈ PRn := (List.mem_filter.mp h).1
theorem dueN_len (ss : List Int) : (dueN ss).length ≤ 25 := List.length_filter_le _ _
theorem dueP_len (ss : List Int) : (dueP ss).length ≤ 25 := List.length_filter_le _ _
theorem dueP_small {ss : List Int} : ∀ n ∈ dueP ss, n.natAbs < 2 ^ 1900 := fun n hn => by
  rw [dueP_eq] at hn
  obtain ⟨p, hp, rfl⟩ := List.mem_map.mp hn
  rw [Int.natAbs_natCast]
  exact Nat.lt_of_le_of_lt (PRn_le (dueN_mem hp)) (by decide)
theorem dueN_made {ss : List Int} {s : Nat} (h : (s : Int) ∈ ss) (hs : Smo s) : made (dueN ss) 1 s = s := by
  unfold dueN
  rw [made_filter, made_smo hs]
  intro p hp e
  refine val_no fun z => ?_
  have : dv ss (p : Int) = true := List.any_eq_true.mpr ⟨s, h, decide_eq_true (by
    show ((s % p : Nat) : Int) = 0
    rw [z]
    rfl)⟩
  rw [this] at e
  cases e
theorem made_pos {s : Nat} : ∀ (l : List Nat), (∀ p ∈ l, 0 < p) → 0 < made l 1 s
  | [], _ => Nat.one_pos
  | p :: l, h => by
    show 0 < made l (1 * p ^ val p s) s
    rw [made_acc]
    exact Nat.mul_pos (Nat.mul_pos Nat.one_pos (Nat.pow_pos (h p List.mem_cons_self))) (made_pos l fun q hq => h q (List.mem_cons_of_mem _ hq))
theorem made_app (l r : List Nat) (s : Nat) : made (l ++ r) 1 s = made l 1 s * made r 1 s := by
  have : made (l ++ r) 1 s = made r (made l 1 s) s := List.foldl_append
  rw [this, made_acc]
theorem made_take {l : List Nat} {s : Nat} (h : ∀ p ∈ l, 0 < p) (n : Nat) : made (l.take n) 1 s ≤ made l 1 s := by
  have e := made_app (l.take n) (l.drop n) s
  rw [List.take_append_drop] at e
  rw [e]
  exact Nat.le_mul_of_pos_right _ (made_pos _ fun p hp => h p (List.mem_of_mem_drop hp))
theorem made_next {l : List Nat} {s n p : Nat} (h : l[n]? = some p) : made (l.take (n + 1)) 1 s = made (l.take n) 1 s * p ^ val p s := by
  rw [List.take_add_one, h, made_app]
  show made (l.take n) 1 s * (1 * p ^ val p s) = _
  rw [Nat.one_mul]
def spDivided : Sp := fun vs H Q _ => ∃ (v : V) (ss : List Int) (ws : List (Nat × Nat)), vs = [v] ∧ Im H v (mD ss ws) ∧ MOk ss ws ∧ ∀ H', Same H H' → Q (.bl true) H'
def spLeast : Sp := fun vs H Q _ => ∃ (v : V) (ss : List Int) (ws : List (Nat × Nat)) (j i : Nat), vs = [v, .int j, .int i] ∧ Im H v (mD ss ws) ∧ MOk ss ws ∧ j < ss.length ∧ i < ss.length ∧ ∀ H', Same H H' → Q (.bl true) H'
def spLaw (K : PySem.W.Frag) : Sp := fun vs H Q _ => ∃ (a : Addr) (ns : List Int), vs = [.ref a] ∧ SqL K H a (ns.map V.int) ∧ ns.length ≤ 63 ∧ ∀ H', Q (.bl true) H'
theorem Same.k {H H' : Hp} {v : V} {d : PyData} (e : Same H H') (h : Im H v d) : Im H' v d := h.k (Tk.same e)
end NA
namespace NA
open PySem PySem.Spec PyProof.Rows L2
/-! ### data with lists in it; N: where lists may stand -/
mutual
inductive Dg (N : Addr → Prop) (H : Hp) : V → PyData → Prop
  | non : Dg N H .non .none
  | bl (b : Bool) : Dg N H (.bl b) (.bool b)
  | int (i : Int) : Dg N H (.int i) (.int i)
  | str (x : Str) : Dg N H (.str x) (.str x)
  | lst {a : Addr} {xs : List V} {ds : List PyData} : N a → H a = some (.lst xs) → DgAll N H xs ds → Dg N H (.ref a) (.list ds)
  | tup {a : Addr} {xs : List V} {ds : List PyData} : H a = some (.tup xs) → DgAll N H xs ds → Dg N H (.ref a) (.tuple ds)
inductive DgAll (N : Addr → Prop) (H : Hp) : List V → List PyData → Prop
  | nil : DgAll N H [] []
  | cons {v : V} {vs : List V} {d : PyData} {ds : List PyData} : Dg N H v d → DgAll N H vs ds → DgAll N H (v :: vs) (d :: ds)
end
/-- tuples stay, lists where they may stand, the empty dicts -/
structure Ks (N : Addr → Prop) (H H' : Hp) : Prop where
  tup : Tk H H'
  lst : ∀ b xs, N b → H b = some (.lst xs) → H' b = some (.lst xs)
  dic : ∀ b kvs, H b = some (.dK kvs) → H' b = some (.dK kvs)
theorem Ks.same {N : Addr → Prop} {H H' : Hp} (e : Same H H') : Ks N H H' := ⟨Tk.same e, fun b _ _ h => e b _ h, fun b _ h => e b _ h⟩
theorem Ks.kp {p q : Addr} {H H' : Hp} (e : Kp p q H H') (P : Pt H p q) : Ks (fun a => a ≠ p ∧ a ≠ q) H H' := by
  refine ⟨e.tk P, fun b xs n h => e b _ n.1 n.2 h, fun b kvs h => ?_⟩
  obtain ⟨ys, h1⟩ := P.lp
  obtain ⟨zs, h2⟩ := P.lq
  exact e b _ (ne_of h h1 (by intro k; cases k)) (ne_of h h2 (by intro k; cases k)) h
theorem Ks.refl (N : Addr → Prop) (H : Hp) : Ks N H H := ⟨Tk.refl H, fun _ _ _ h => h, fun _ _ h => h⟩
theorem Ks.trans {N : Addr → Prop} {H H1 H2 : Hp} (a : Ks N H H1) (b : Ks N H1 H2) : Ks N H H2 := ⟨a.tup.trans b.tup, fun c x n h => b.lst c x n (a.lst c x n h), fun c x h => b.dic c x (a.dic c x h)⟩
mutual
theorem Dg.keep {N N' : Addr → Prop} {H H' : Hp} (e : Ks N H H') (m : ∀ a, N a → N' a) : ∀ (d : PyData) (v : V), Dg N H v d → Dg N' H' v d
  | .none, _, h => by cases h; exact .non
  | .bool _, _, h => by cases h; exact .bl _
  | .int _, _, h => by cases h; exact .int _
  | .str _, _, h => by cases h; exact .str _
  | .tuple ds, _, h => by
    cases h with
    | tup a b => exact .tup (e.tup _ _ a) (DgAll.keep e m ds _ b)
  | .list ds, _, h => by
    cases h with
    | lst n a b => exact .lst (m _ n) (e.lst _ _ n a) (DgAll.keep e m ds _ b)
  | .dict _, _, h => by cases h
theorem DgAll.keep {N N' : Addr → Prop} {H H' : Hp} (e : Ks N H H') (m : ∀ a, N a → N' a) : ∀ (ds : List PyData) (vs : List V), DgAll N H vs ds → DgAll N' H' vs ds
  | [], _, h => by cases h; exact .nil
  | d :: ds, _, h => by
    cases h with
    | cons a b => exact .cons (Dg.keep e m d _ a) (DgAll.keep e m ds _ b)
end
mutual
theorem Dg.toDp {N : Addr → Prop} {K : PySem.W.Frag} {H : Hp} : ∀ (d : PyData) (v : V), Dg N H v d → Dp K H v d
  | .none, _, h => by cases h; exact .non
  | .bool _, _, h => by cases h; exact .bl _
  | .int _, _, h => by cases h; exact .int _
  | .str _, _, h => by cases h; exact .str _
  | .tuple ds, _, h => by
    cases h with
    | tup a b => exact .tup (SqT.of a) (DgAll.toDp ds _ b)
  | .list ds, _, h => by
    cases h with
    | lst n a b => exact .lst (SqL.of a) (DgAll.toDp ds _ b)
  | .dict _, _, h => by cases h
theorem DgAll.toDp {N : Addr → Prop} {K : PySem.W.Frag} {H : Hp} : ∀ (ds : List PyData) (vs : List V), DgAll N H vs ds → DpAll K H vs ds
  | [], _, h => by cases h; exact .nil
  | d :: ds, _, h => by
    cases h with
    | cons a b => exact .cons (Dg.toDp d _ a) (DgAll.toDp ds _ b)
end
mutual
theorem Im.toDg {N : Addr → Prop} {H : Hp} : ∀ (d : PyData) (v : V), Im H v d → Dg N H v d
  | .none, _, h => by cases h; exact .non
  | .bool _, _, h => by cases h; exact .bl _
  | .int _, _, h => by cases h; exact .int _
  | .str _, _, h => by cases h; exact .str _
  | .tuple ds, _, h => by
    cases h with
    | tup a b => exact .tup a (ImAll.toDg ds _ b)
  | .list _, _, h => by cases h
  | .dict _, _, h => by cases h
theorem ImAll.toDg {N : Addr → Prop} {H : Hp} : ∀ (ds : List PyData) (vs : List V), ImAll H vs ds → DgAll N H vs ds
  | [], _, h => by cases h; exact .nil
  | d :: ds, _, h => by
    cases h with
    | cons a b => exact .cons (Im.toDg d _ a) (ImAll.toDg ds _ b)
end
theorem Im.dg {N : Addr → Prop} {H : Hp} {v : V} {d : PyData} (h : Im H v d) : Dg N H v d := Im.toDg d v h
/-- such data, or an empty dict -/
def Dv (N : Addr → Prop) (H : Hp) (v : V) (d : PyData) : Prop := Dg N H v d ∨ ∃ a, v = .ref a ∧ H a = some (.dK []) ∧ d = .dict []
theorem Dg.k {N : Addr → Prop} {H H' : Hp} {v : V} {d : PyData} (h : Dg N H v d) (e : Ks N H H') : Dg N H' v d := Dg.keep e (fun _ z => z) d v h
theorem DgAll.k {N : Addr → Prop} {H H' : Hp} {v : List V} {d : List PyData} (h : DgAll N H v d) (e : Ks N H H') : DgAll N H' v d := DgAll.keep e (fun _ z => z) d v h
theorem Dg.any {N : Addr → Prop} {H : Hp} {v : V} {d : PyData} (h : Dg N H v d) : Dg (fun _ => True) H v d := Dg.keep (Ks.refl N H) (fun _ _ => trivial) d v h
theorem Dv.k {N : Addr → Prop} {H H' : Hp} {v : V} {d : PyData} (h : Dv N H v d) (e : Ks N H H') : Dv N H' v d := by
  rcases h with h | ⟨a, h1, h2, h3⟩
  · exact .inl (h.k e)
  · exact .inr ⟨a, h1, e.dic _ _ h2, h3⟩
theorem Dv.any {N : Addr → Prop} {H : Hp} {v : V} {d : PyData} (h : Dv N H v d) : Dv (fun _ => True) H v d := by
  rcases h with h | h
  · exact .inl h.any
  · exact .inr h
theorem DgAll.length {N : Addr → Prop} {H : Hp} : ∀ {vs : List V} {ds : List PyData}, DgAll N H vs ds → vs.length = ds.length
  | _, _, .nil => rfl
  | _, _, .cons _ b => by rw [List.length_cons, List.length_cons, DgAll.length b]
theorem DgAll.get {N : Addr → Prop} {H : Hp} : ∀ {vs : List V} {ds : List PyData} {i : Nat} {v : V}, DgAll N H vs ds → vs[i]? = some v → ∃ d, ds[i]? = some d ∧ Dg N H v d
  | _, _, _, _, .nil, e => by simp at e
  | _, _, 0, _, .cons a _, e => by
    simp at e
    subst e
    exact ⟨_, rfl, a⟩
  | _, _, i + 1, v, .cons _ b, e => by
    obtain ⟨d, h1, h2⟩ := DgAll.get (i := i) (v := v) b (by simpa using e)
    exact ⟨d, by simpa using h1, h2⟩
theorem DgAll.append {N : Addr → Prop} {H : Hp} : ∀ {vs ws : List V} {ds es : List PyData}, DgAll N H vs ds → DgAll N H ws es → DgAll N H (vs ++ ws) (ds ++ es)
  | _, _, _, _, .nil, h => h
  | _, _, _, _, .cons a b, h => .cons a (DgAll.append b h)
theorem DgAll.take {N : Addr → Prop} {H : Hp} : ∀ (n : Nat) {vs : List V} {ds : List PyData}, DgAll N H vs ds → DgAll N H (vs.take n) (ds.take n)
  | 0, _, _, _ => .nil
  | _ + 1, _, _, .nil => .nil
  | n + 1, _, _, .cons a b => .cons a (DgAll.take n b)
theorem DgAll.drop {N : Addr → Prop} {H : Hp} : ∀ (n : Nat) {vs : List V} {ds : List PyData}, DgAll N H vs ds → DgAll N H (vs.drop n) (ds.drop n)
  | 0, _, _, h => h
  | _ + 1, _, _, .nil => .nil
  | n + 1, _, _, .cons a b => DgAll.drop n b
/-! ### types -/
def tyD : PyData → String
  | .none => "NoneType"
  | .bool _ => "bool"
  | .int _ => "int"
  | .str _ => "str"
  | .list _ => "list"
  | .tuple _ => "tuple"
  | .dict _ => "dict"
theorem Dv.ty {N : Addr → Prop} {K : PySem.W.Frag} {H : Hp} {v : V} {d : PyData} (h : Dv N H v d) : TyX K H v (.type (tyD d)) := by
  rcases h with h | ⟨a, rfl, h2, rfl⟩
  · cases h with
    | non => exact .base .non
    | bl b => exact .base (.bl b)
    | int i => exact .base (.int i)
    | str x => exact .base (.str x)
    | lst _ a _ => exact .base (.lst a)
    | tup a _ => exact .base (.tup a)
  · exact .base (.dK h2)
def isT : PyData → Bool
  | .tuple _ => true
  | _ => false
def isIB : PyData → Bool
  | .int _ => true
  | .bool _ => true
  | _ => false
def isB : PyData → Bool
  | .bool _ => true
  | _ => false
def isI : PyData → Bool
  | .int _ => true
  | _ => false
theorem kit_tup (K : PySem.W.Frag) (d : PyData) : PySem.W.kitOne K (.type (tyD d)) (.type "tuple") = some (isT d) := by
  cases d with
  | none => exact kit_ty (show kitB "NoneType" "tuple" = some false by decide +kernel)
  | bool _ => exact kit_ty (show kitB "bool" "tuple" = some false by decide +kernel)
  | int _ => exact kit_ty (show kitB "int" "tuple" = some false by decide +kernel)
  | str _ => exact kit_ty (show kitB "str" "tuple" = some false by decide +kernel)
  | list _ => exact kit_ty (show kitB "list" "tuple" = some false by decide +kernel)
  | tuple _ => exact kit_ty (show kitB "tuple" "tuple" = some true by decide +kernel)
  | dict _ => exact kit_ty (show kitB "dict" "tuple" = some false by decide +kernel)
theorem kit_int (K : PySem.W.Frag) (d : PyData) : PySem.W.kitOne K (.type (tyD d)) (.type "int") = some (isIB d) := by
  cases d with
  | none => exact kit_ty (show kitB "NoneType" "int" = some false by decide +kernel)
  | bool _ => exact kit_ty (show kitB "bool" "int" = some true by decide +kernel)
  | int _ => exact kit_ty (show kitB "int" "int" = some true by decide +kernel)
  | str _ => exact kit_ty (show kitB "str" "int" = some false by decide +kernel)
  | list _ => exact kit_ty (show kitB "list" "int" = some false by decide +kernel)
  | tuple _ => exact kit_ty (show kitB "tuple" "int" = some false by decide +kernel)
  | dict _ => exact kit_ty (show kitB "dict" "int" = some false by decide +kernel)
theorem kit_bool (K : PySem.W.Frag) (d : PyData) : PySem.W.kitOne K (.type (tyD d)) (.type "bool") = some (isB d) := by
  cases d with
  | none => exact kit_ty (show kitB "NoneType" "bool" = some false by decide +kernel)
  | bool _ => exact kit_ty (show kitB "bool" "bool" = some true by decide +kernel)
  | int _ => exact kit_ty (show kitB "int" "bool" = some false by decide +kernel)
  | str _ => exact kit_ty (show kitB "str" "bool" = some false by decide +kernel)
  | list _ => exact kit_ty (show kitB "list" "bool" = some false by decide +kernel)
  | tuple _ => exact kit_ty (show kitB "tuple" "bool" = some false by decide +kernel)
  | dict _ => exact kit_ty (show kitB "dict" "bool" = some false by decide +kernel)
theorem Dv.tuple {N : Addr → Prop} {H : Hp} {v : V} {d : PyData} (h : Dv N H v d) (e : isT d = true) : ∃ a xs ds, v = .ref a ∧ d = .tuple ds ∧ H a = some (.tup xs) ∧ DgAll N H xs ds := by
  rcases h with h | ⟨a, rfl, h2, rfl⟩
  · cases h with
    | tup a b => exact ⟨_, _, _, rfl, rfl, a, b⟩
    | non => cases e
    | bl _ => cases e
    | int _ => cases e
    | str _ => cases e
    | lst _ _ _ => cases e
  · cases e
theorem Dv.int {N : Addr → Prop} {H : Hp} {v : V} {d : PyData} (h : Dv N H v d) (e : isI d = true) : ∃ i, v = .int i ∧ d = .int i := by
  rcases h with h | ⟨a, rfl, h2, rfl⟩
  · cases h with
    | int i => exact ⟨i, rfl, rfl⟩
    | non => cases e
    | bl _ => cases e
    | tup _ _ => cases e
    | str _ => cases e
    | lst _ _ _ => cases e
  · cases e
/-! ### repr -/
structure ShV (d : PyData) : Prop where
  ok : Sh d ∨ d = .dict []
def rReprV (N : Addr → Prop) : List V → Hp → VK → Prop := fun xs H Q => ∃ v d, xs = [v] ∧ Dv N H v d ∧ ShV d ∧ Q (.str d.shown) H
theorem call_reprV {X : Cx} (N : Addr → Prop) {k : Nat} (hg : Bare X.A) (hr : Room k X.A) : CallR X (.builtin "repr") (rReprV N) := by
  intro pins s σ H xs us Q I r h
  obtain ⟨v, d, rfl, hd, sh, q⟩ := h
  rcases hd with hd | ⟨a, rfl, h2, rfl⟩
  · rcases sh.ok with s1 | e
    · exact call_reprD hg hr pins s σ H [v] us Q I r ⟨v, d, rfl, Dg.toDp d v hd, s1, q⟩
    · subst e
      cases hd
  · obtain ⟨u, rfl, ru⟩ := r.one
    cases (show u = Value.ref a from ru)
    have ok : ObjOk X.prog X.w H s.heap a (.dK []) := I.hok a _ h2
    obtain ⟨_, ns, vs, kv, o, es, ep, g1, g2, g3, g4, g5⟩ := ok
    have hu := hr.un
    have vs0 : vs = [] := by cases kv; rfl
    subst vs0
    have es0 : es.toList = [] := by
      have z := g5.1
      cases h : es.toList with
      | nil => rfl
      | cons x l =>
        rw [h] at z
        cases z
    have rd : Reads s.heap (.ref a) (.dict []) (a :: [] ++ []) := .dict g1 g2.1 g3 (by rw [es0]; exact .nil) (by rw [es0]; exact .nil)
    have nsm : sysModules ≠ a := fun z => by
      rw [z, beq_self_eq_true] at ns
      cases ns
    refine repr_of_reads' rd (by decide) (fun _ => by simpa using nsm) hg (by show X.A.units + (1 + 1) < cLine; omega) (fun _ _ z => z) (fun h' u tk hk => ⟨.str _, H, I.kept (t' := tk) hk, ⟨_, rfl⟩, q⟩) (by decide +kernel)
end NA
namespace NA
open PySem PySem.Spec PyProof.Rows L2
/-! ### what is wrong with a machine, over data -/
def strp (p n : Nat) : Nat := n / p ^ val p n
theorem strp_yes {p n : Nat} (hp : 2 ≤ p) (hn : 0 < n) (h : n % p = 0) : strp p n = strp p (n / p) := by
  unfold strp
  rw [val_yes hp hn h, Nat.pow_succ, Nat.mul_comm, Nat.div_div_eq_div_mul]
theorem strp_no {p n : Nat} (h : n % p ≠ 0) : strp p n = n := by
  unfold strp
  rw [val_no h, Nat.pow_zero, Nat.div_one]
theorem strp_pos {p n : Nat} (hp : 2 ≤ p) (hn : 0 < n) : 0 < strp p n := by
  have d := (pow_dvd_val hp (val p n) n hn).mpr (Nat.le_refl _)
  exact Nat.div_pos (Nat.le_of_dvd hn d) (Nat.pow_pos (by omega))
theorem strp_le (p n : Nat) : strp p n ≤ n := Nat.div_le_self _ _
def strA (l : List Nat) (n : Nat) : Nat := l.foldl (fun r p => strp p r) n
theorem strA_next {l : List Nat} {n i p : Nat} (h : l[i]? = some p) : strA (l.take (i + 1)) n = strp p (strA (l.take i) n) := by
  unfold strA
  rw [List.take_add_one, h, List.foldl_append]
  rfl
def isSz : PyData → Bool
  | .int n => decide (2 ≤ n) && decide (n ≤ 10 ^ 30) && (strA PRn n.toNat == 1)
  | _ => false
def isBl (m : Nat) : PyData → Bool
  | .int n => decide (0 ≤ n) && decide (n < (m : Int))
  | _ => false
def isWr (m : Nat) : PyData → Bool
  | .tuple [.int a, .int b] => isBl m (.int a) && isBl m (.int b) && !decide (a = b)
  | _ => false
def leP : PyData → PyData → Bool
  | .tuple [.int a, .int b], .tuple [.int c, .int d] => if a = c then (if b = d then true else decide (b ≤ d)) else decide (a ≤ c)
  | _, _ => false
def bd (f : Nat → Bool) (n : Nat) : List Nat := (List.range n).filter f
theorem bd_zero (f : Nat → Bool) : bd f 0 = [] := rfl
theorem bd_succ (f : Nat → Bool) (n : Nat) : bd f (n + 1) = bd f n ++ (if f n = true then [n] else []) := by
  unfold bd
  rw [List.range_succ, List.filter_append, List.filter_cons, List.filter_nil]
theorem bd_none {f : Nat → Bool} {n : Nat} (h : bd f n = []) : ∀ i, i < n → f i = false := fun i hi => by
  cases e : f i with
  | false => rfl
  | true =>
    have : i ∈ bd f n := List.mem_filter.mpr ⟨List.mem_range.mpr hi, e⟩
    rw [h] at this
    cases this
theorem bd_first {f : Nat → Bool} {i : Nat} (h : bd f i = []) (e : f i = true) : ∀ n, i < n → ∃ l, bd f n = i :: l := by
  intro n hn
  induction n with
  | zero => omega
  | succ n ih =>
    rw [bd_succ]
    by_cases z : i = n
    · subst z
      rw [h, if_pos e]
      exact ⟨[], rfl⟩
    · obtain ⟨l, hl⟩ := ih (by omega)
      rw [hl]
      exact ⟨_, rfl⟩
theorem bd_lt {f : Nat → Bool} {n i : Nat} (h : i ∈ bd f n) : i < n := List.mem_range.mp (List.mem_filter.mp h).1
theorem bd_len (f : Nat → Bool) (n : Nat) : (bd f n).length ≤ n := by
  have := List.length_filter_le f (List.range n)
  rwa [List.length_range] at this
def szBad (S : List PyData) (i : Nat) : Bool := !isSz (S.getD i .none)
def wrBad (m : Nat) (W : List PyData) (i : Nat) : Bool := !isWr m (W.getD i .none)
def orBad (W : List PyData) (k : Nat) : Bool := leP (W.getD (k + 1) .none) (W.getD k .none)
def eT (x : Str) (i : Nat) : PyData := .tuple [.str x, .int i]
def merr3 (W : List PyData) : PyData := match bd (orBad W) (W.length - 1) with
  | k :: _ => eT "order" (k + 1)
  | [] => .none
def merrW (m : Nat) (W : List PyData) : PyData := match bd (wrBad m W) W.length with
  | i :: _ => eT "wire" i
  | [] => merr3 W
def merr2 (S W : List PyData) : PyData := match bd (szBad S) S.length with
  | i :: _ => eT "size" i
  | [] => merrW S.length W
def formD : PyData → Option (List PyData × List PyData)
  | .tuple [.tuple S, .tuple W] => if 1 ≤ S.length ∧ S.length ≤ 6 then some (S, W) else none
  | _ => none
def merr (d : PyData) : PyData := match formD d with
  | some (S, W) => merr2 S W
  | none => .str "form"
theorem formD_some {d : PyData} {S W : List PyData} (h : formD d = some (S, W)) : d = .tuple [.tuple S, .tuple W] ∧ 1 ≤ S.length ∧ S.length ≤ 6 := by
  unfold formD at h
  split at h
  · split at h
    · rename_i S' W' z
      cases h
      exact ⟨rfl, z⟩
    · cases h
  · cases h
theorem get_getD {l : List PyData} {i : Nat} {d : PyData} (h : l[i]? = some d) : l.getD i .none = d := by
  rw [List.getD_eq_getElem?_getD, h]
  rfl
theorem merr_form {d : PyData} (h : formD d = none) : merr d = .str "form" := by unfold merr; rw [h]
theorem merr_some {d : PyData} {S W : List PyData} (h : formD d = some (S, W)) : merr d = merr2 S W := by unfold merr; rw [h]
theorem merr2_size {S W : List PyData} {i : Nat} {l : List Nat} (h : bd (szBad S) S.length = i :: l) : merr2 S W = eT "size" i := by unfold merr2; rw [h]
theorem merr2_ok {S W : List PyData} (h : bd (szBad S) S.length = []) : merr2 S W = merrW S.length W := by unfold merr2; rw [h]
theorem merrW_wire {m : Nat} {W : List PyData} {i : Nat} {l : List Nat} (h : bd (wrBad m W) W.length = i :: l) : merrW m W = eT "wire" i := by unfold merrW; rw [h]
theorem merrW_ok {m : Nat} {W : List PyData} (h : bd (wrBad m W) W.length = []) : merrW m W = merr3 W := by unfold merrW; rw [h]
theorem merr3_ord {W : List PyData} {k : Nat} {l : List Nat} (h : bd (orBad W) (W.length - 1) = k :: l) : merr3 W = eT "order" (k + 1) := by unfold merr3; rw [h]
theorem merr3_ok {W : List PyData} (h : bd (orBad W) (W.length - 1) = []) : merr3 W = .none := by unfold merr3; rw [h]
theorem bd_all {f : PyData → Bool} {l : List PyData} (h : bd (fun i => !f (l.getD i .none)) l.length = []) : ∀ x ∈ l, f x = true := fun x hx => by
  obtain ⟨i, hi, rfl⟩ := List.getElem_of_mem hx
  have z := bd_none h i hi
  rw [get_getD (List.getElem?_eq_getElem hi)] at z
  simpa using z
/-- all but the order -/
structure Almost (d : PyData) (S W : List PyData) : Prop where
  eq : d = .tuple [.tuple S, .tuple W]
  one : 1 ≤ S.length
  six : S.length ≤ 6
  sz : ∀ x ∈ S, isSz x = true
  wr : ∀ x ∈ W, isWr S.length x = true
theorem isWr_shape {m : Nat} {d : PyData} (h : isWr m d = true) : ∃ a b : Nat, d = .tuple [.int a, .int b] ∧ a < m ∧ b < m := by
  unfold isWr at h
  split at h
  · rename_i a b
    simp only [isBl, Bool.and_eq_true, decide_eq_true_eq] at h
    exact ⟨a.toNat, b.toNat, by rw [Int.toNat_of_nonneg h.1.1.1, Int.toNat_of_nonneg h.1.2.1], by omega, by omega⟩
  · cases h
def wn (d : PyData) : Nat := match d with
  | .tuple [.int a, .int b] => 6 * a.toNat + b.toNat
  | _ => 0
theorem wn_lt {d e : PyData} (hd : isWr 6 d = true) (he : isWr 6 e = true) (h : leP e d = false) : wn d < wn e := by
  obtain ⟨a, b, rfl, a1, b1⟩ := isWr_shape hd
  obtain ⟨c, f, rfl, c1, f1⟩ := isWr_shape he
  simp only [leP] at h
  simp only [wn, Int.toNat_natCast]
  split at h
  · split at h
    · cases h
    · have := of_decide_eq_false h
      omega
  · have := of_decide_eq_false h
    omega
theorem isWr_mono {m : Nat} (hm : m ≤ 6) {d : PyData} (h : isWr m d = true) : isWr 6 d = true := by
  unfold isWr at h ⊢
  split at h
  · simp only [isBl, Bool.and_eq_true, decide_eq_true_eq] at h ⊢
    exact ⟨⟨⟨h.1.1.1, by omega⟩, ⟨h.1.2.1, by omega⟩⟩, h.2⟩
  · cases h
theorem asc_of {W : List PyData} (h6 : ∀ x ∈ W, isWr 6 x = true) (ho : ∀ k, k < W.length - 1 → orBad W k = false) : W.length ≤ 36 := by
  have step : ∀ n, n < W.length → n ≤ wn (W.getD n .none) := by
    intro n
    induction n with
    | zero => intro _; exact Nat.zero_le _
    | succ n ih =>
      intro hn
      have a := ih (by omega)
      have m1 := get_getD (List.getElem?_eq_getElem (show n < W.length by omega))
      have m2 := get_getD (List.getElem?_eq_getElem hn)
      have z := ho n (by omega)
      unfold orBad at z
      rw [m1] at a
      rw [m1, m2] at z
      rw [m2]
      have := wn_lt (h6 _ (List.getElem_mem (by omega))) (h6 _ (List.getElem_mem hn)) z
      omega
  by_cases e : W.length = 0
  · omega
  · have hn : W.length - 1 < W.length := by omega
    have s := step _ hn
    rw [get_getD (List.getElem?_eq_getElem hn)] at s
    obtain ⟨a, b, z, a1, b1⟩ := isWr_shape (h6 _ (List.getElem_mem hn))
    rw [z] at s
    simp only [wn, Int.toNat_natCast] at s
    omega
theorem merr_almost {d : PyData} (h : merr d = .none ∨ ∃ k, merr d = eT "order" k) : ∃ S W, Almost d S W ∧ (merr d = .none → W.length ≤ 36) := by
  cases hf : formD d with
  | none =>
    rw [merr_form hf] at h
    rcases h with h | ⟨k, h⟩ <;> cases h
  | some SW =>
    obtain ⟨S, W⟩ := SW
    obtain ⟨e, o, x⟩ := formD_some hf
    rw [merr_some hf] at h ⊢
    cases hs : bd (szBad S) S.length with
    | cons i l =>
      rw [merr2_size hs] at h
      rcases h with h | ⟨k, h⟩
      · cases h
      · exact absurd (by injection h with h; injection h with h _; injection h : ("size" : Str) = "order") (by decide +kernel)
    | nil =>
      rw [merr2_ok hs] at h ⊢
      cases hw : bd (wrBad S.length W) W.length with
      | cons i l =>
        rw [merrW_wire hw] at h
        rcases h with h | ⟨k, h⟩
        · cases h
        · exact absurd (by injection h with h; injection h with h _; injection h : ("wire" : Str) = "order") (by decide +kernel)
      | nil =>
        rw [merrW_ok hw]
        have wr : ∀ y ∈ W, isWr S.length y = true := bd_all hw
        refine ⟨S, W, ⟨e, o, x, bd_all hs, wr⟩, fun hn => ?_⟩
        cases ho : bd (orBad W) (W.length - 1) with
        | cons k l =>
          rw [merr3_ord ho] at hn
          cases hn
        | nil => exact asc_of (fun y hy => isWr_mono x (wr y hy)) (bd_none ho)
/-! ### how great such data is -/
def okG (c dp : Nat) (d : PyData) : Bool := okD d && decide (cost d ≤ c) && decide (d.depth ≤ dp)
theorem okG_iff {c dp : Nat} {d : PyData} : okG c dp d = true ↔ okD d = true ∧ cost d ≤ c ∧ d.depth ≤ dp := by
  unfold okG
  simp only [Bool.and_eq_true, decide_eq_true_eq, and_assoc]
theorem okG_mono {c dp c' dp' : Nat} {d : PyData} (h : okG c dp d = true) (a : c ≤ c') (b : dp ≤ dp') : okG c' dp' d = true := by
  rw [okG_iff] at h ⊢
  exact ⟨h.1, by omega, by omega⟩
theorem okG_all {c dp : Nat} : ∀ {l : List PyData}, (∀ x ∈ l, okG c dp x = true) → okAll l = true ∧ costAll l ≤ (c + 2) * l.length ∧ PyData.depthAll l ≤ dp
  | [], _ => ⟨rfl, Nat.le_refl _, Nat.zero_le _⟩
  | x :: l, h => by
    obtain ⟨a, b, e⟩ := okG_all fun y hy => h y (List.mem_cons_of_mem _ hy)
    obtain ⟨a1, b1, e1⟩ := okG_iff.mp (h x List.mem_cons_self)
    refine ⟨by simp only [okAll, a, a1, Bool.and_self], ?_, ?_⟩
    · simp only [costAll, List.length_cons, Nat.mul_succ]
      omega
    · simp only [PyData.depthAll]
      omega
theorem okG_tup {c dp c' dp' : Nat} {l : List PyData} (h : ∀ x ∈ l, okG c dp x = true) (a : (c + 2) * l.length + 3 ≤ c') (b : dp + 1 ≤ dp') : okG c' dp' (.tuple l) = true := by
  obtain ⟨h1, h2, h3⟩ := okG_all h
  refine okG_iff.mpr ⟨by simpa only [okD] using h1, ?_, ?_⟩
  · simp only [cost]
    omega
  · simp only [PyData.depth]
    omega
theorem okG_lst {c dp c' dp' : Nat} {l : List PyData} (h : ∀ x ∈ l, okG c dp x = true) (a : (c + 2) * l.length + 3 ≤ c') (b : dp + 1 ≤ dp') : okG c' dp' (.list l) = true := by
  obtain ⟨h1, h2, h3⟩ := okG_all h
  refine okG_iff.mpr ⟨by simpa only [okD] using h1, ?_, ?_⟩
  · simp only [cost]
    omega
  · simp only [PyData.depth]
    omega
theorem okG_sh {c dp : Nat} {d : PyData} (h : okG c dp d = true) (a : c ≤ 16000000) (b : dp ≤ 60) : ShV d := by
  obtain ⟨h1, h2, h3⟩ := okG_iff.mp h
  exact ⟨.inl ⟨h1, by omega, by omega⟩⟩
/-- things in the place of a size or a wire -/
def okI (d : PyData) : Bool := okG 10000 3 d
theorem isSz_ok {d : PyData} (h : isSz d = true) : okI d = true := by
  unfold isSz at h
  split at h
  · rename_i n
    simp only [Bool.and_eq_true, decide_eq_true_eq] at h
    refine okG_iff.mpr ⟨?_, by simp only [cost]; decide, by simp only [PyData.depth]; decide⟩
    simp only [okD]
    refine decide_eq_true (small_log ?_)
    have a := h.1.1
    have b := h.1.2
    have : n.natAbs ≤ 10 ^ 30 := by omega
    exact Nat.lt_of_le_of_lt this (by decide)
  · cases h
theorem isWr_ok {m : Nat} (hm : m ≤ 6) {d : PyData} (h : isWr m d = true) : okI d = true := by
  obtain ⟨a, b, rfl, a1, b1⟩ := isWr_shape h
  have s : ∀ k : Nat, k < 6 → okG 2000 1 (.int (k : Int)) = true := fun k hk => by
    refine okG_iff.mpr ⟨?_, by simp only [cost]; decide, by simp only [PyData.depth]; decide⟩
    simp only [okD]
    refine decide_eq_true (small_log ?_)
    rw [Int.natAbs_natCast]
    exact Nat.lt_trans hk (by decide)
  refine okG_tup (c := 2000) (dp := 1) (fun x hx => ?_) (by show (2000 + 2) * 2 + 3 ≤ 10000; decide) (by decide)
  rcases List.mem_cons.mp hx with e | hx
  · rw [e]
    exact s a (by omega)
  · rw [List.mem_singleton.mp hx]
    exact s b (by omega)
theorem ShV.len {l : List PyData} (h : ShV (.tuple l)) : 2 * l.length ≤ 16000000 := by
  rcases h.ok with h | h
  · have z := h.cost
    simp only [cost] at z
    have : ∀ l : List PyData, 2 * l.length ≤ costAll l := by
      intro l
      induction l with
      | nil => exact Nat.le_refl _
      | cons x l ih =>
        simp only [costAll, List.length_cons]
        omega
    have := this l
    omega
  · cases h
theorem ShV.sub {l : List PyData} (h : ShV (.tuple l)) {x : PyData} (hx : x ∈ l) : ShV x := by
  rcases h.ok with h | h
  · have z1 := h.ok
    have z2 := h.cost
    have z3 := h.depth
    simp only [okD] at z1
    simp only [cost] at z2
    simp only [PyData.depth] at z3
    have : ∀ l : List PyData, okAll l = true → x ∈ l → okD x = true ∧ cost x ≤ costAll l ∧ x.depth ≤ PyData.depthAll l := by
      intro l
      induction l with
      | nil => intro _ m; cases m
      | cons y l ih =>
        intro o m
        simp only [okAll, Bool.and_eq_true] at o
        simp only [costAll, PyData.depthAll]
        rcases List.mem_cons.mp m with e | m
        · subst e
          exact ⟨o.1, by omega, by omega⟩
        · obtain ⟨a, b, c⟩ := ih o.2 m
          exact ⟨a, by omega, by omega⟩
    obtain ⟨a, b, c⟩ := this l z1 hx
    exact ⟨.inl ⟨a, by omega, by omega⟩⟩
  · cases h
theorem pi_enumTK {X : Cx} (K : PySem.W.Frag) (hK : X.K = K) {e : Expr} {ta : TA} {p pos tpos : Pos} {elts : List Expr} {kk : Nat} (hg : Gl X "enumerate") (hm : X.mg "enumerate" = none) (ha : PA X [e] ta) (hs : starEach [e] X.env = [(false, eval e X.env)] := by rfl) :
    PI X (.Tuple elts kk tpos) (.Call (.Name "enumerate" p) [e] [] pos) (iEnumT K ta) := hK ▸ pi_enumT hg hm ha hs
theorem op_leTK {X : Cx} (K : PySem.W.Frag) (hK : X.K = K) (hu : X.A.units < cLine) : OpR X (compareOp CmpOp.LtE) (rLeT K) := hK ▸ op_leT hu
theorem pg_tupK {X : Cx} (K : PySem.W.Frag) (hK : X.K = K) {pos : Pos} {es : List Expr} {k : Nat} {t : TGs} {n : Nat} (hc : X.calm = true) (h : PGs X es t) (h1 : (assignEach es X.env).length = n := by rfl) (h2 : List.findIdx? (fun x => x.fst) (assignEach es X.env) = none := by rfl) :
    PG X (.Tuple es k pos) (gTup K n t) := hK ▸ pg_tup hc h h1 h2
theorem keepN {H : Hp} {a c : Addr} {o o' : HO} (h : H a = some o) (n : H c = none) : (upd H c o') a = some o := by
  rw [upd_ne (ne_of_none h n)]
  exact h
/-! ### promises -/
theorem room_lt {k : Nat} {A : Around} (hr : Room k A) : A.units < cLine := by
  have := hr.units
  omega
abbrev An : Addr → Prop := fun _ => True
def Np (p q : Addr) : Addr → Prop := fun a => a ≠ p ∧ a ≠ q
def spB (f : PyData → Bool) : Sp := fun vs H Q _ => ∃ (v : V) (d : PyData), vs = [v] ∧ Dv An H v d ∧ ShV d ∧ ∀ H', Same H H' → Q (.bl (f d)) H'
def isInt0 : PyData → Bool
  | .int _ => true
  | _ => false
def isPr : PyData → Bool
  | .tuple [_, _] => true
  | _ => false
def spBelow : Sp := fun vs H Q _ => ∃ (v : V) (d : PyData) (m : Nat), vs = [v, .int m] ∧ Dv An H v d ∧ ∀ H', Same H H' → Q (.bl (isBl m d)) H'
def spWireB : Sp := fun vs H Q _ => ∃ (v : V) (d : PyData) (m : Nat), vs = [v, .int m] ∧ Dv An H v d ∧ ShV d ∧ ∀ H', Same H H' → Q (.bl (isWr m d)) H'
def spMerr : Sp := fun vs H Q _ => ∃ (v : V) (d : PyData), vs = [v] ∧ Dv An H v d ∧ ShV d ∧ ∀ (u : V) (H' : Hp), Im H' u (merr d) → Same H H' → Q u H'
def spOddS : Sp := fun vs H Q _ => ∃ (p q : Addr), vs = [.ref p] ∧ Pt H p q ∧ ∀ (v : V) (d : PyData) (H' : Hp), Dg (Np p q) H' v d → okI d = true → Pt H' p q → Kp p q H H' → Q v H'
def spOddW : Sp := fun vs H Q _ => ∃ (p q : Addr) (m : Nat), vs = [.ref p, .int m] ∧ m ≤ 6 ∧ Pt H p q ∧ ∀ (v : V) (d : PyData) (H' : Hp), Dg (Np p q) H' v d → okI d = true → Pt H' p q → Kp p q H H' → Q v H'
def loB : PyData → Bool
  | .tuple [.tuple _, .tuple W] => decide (W.length ≤ 100)
  | _ => true
theorem lo_ok {S W : List PyData} (h : loB (.tuple [.tuple S, .tuple W]) = true) : W.length ≤ 100 := of_decide_eq_true h
theorem lo_no {S : List PyData} (h : ∀ x ∈ S, isT x = false) : loB (.tuple S) = true := by
  unfold loB
  split
  · rename_i e
    injection e with e
    have := h _ (e ▸ List.mem_cons_self)
    cases this
  · rfl
theorem sz_isT {d : PyData} (h : isSz d = true) : isT d = false := by cases d <;> first | rfl | cases h
def Fit (d : PyData) : Prop := ShV d ∧ loB d = true
def spSpoilt : Sp := fun vs H Q _ => ∃ (p q : Addr) (v : V) (d : PyData) (S W : List PyData), vs = [.ref p, v] ∧ Pt H p q ∧ Dg (Np p q) H v d ∧ Almost d S W ∧ W.length ≤ 36 ∧
  ∀ (v : V) (d : PyData) (H' : Hp), Dv (Np p q) H' v d → Fit d → Pt H' p q → Kp p q H H' → Q v H'
end NA
namespace NA
open PySem PySem.Spec PyProof.Rows L2
/-! ### zip of two or three, lists or tuples as they come -/
inductive Sk
  | l
  | t
def SqS (K : PySem.W.Frag) (k : Sk) (H : Hp) (a : Addr) (xs : List V) : Prop := match k with
  | .l => SqL K H a xs
  | .t => SqT K H a xs
def ItS (k : Sk) (h : Heap) (it a : Addr) (i : Nat) : Prop := match k with
  | .l => h.IsListIter it a i
  | .t => h.IsTupleIter it a i
def OfS (k : Sk) (h : Heap) (a : Addr) (its : Array Value) : Prop := match k with
  | .l => h.IsList a its
  | .t => h.IsTuple a its
def itO (k : Sk) (a : Addr) : Obj := match k with
  | .l => { cls := .type "list_iterator", data := .fields #[.ref a, .int 0 0] }
  | .t => { cls := .type "tuple_iterator", data := .fields #[.ref a, .int 0 0] }
theorem SqS.of_l {K : PySem.W.Frag} {H : Hp} {a : Addr} {xs : List V} (h : H a = some (.lst xs)) : SqS K .l H a xs := SqL.of h
theorem SqS.of_t {K : PySem.W.Frag} {H : Hp} {a : Addr} {xs : List V} (h : H a = some (.tup xs)) : SqS K .t H a xs := SqT.of h
theorem srcDraws {prog : Program} {w : World} {A : Around} (k : Sk) (hA : A.handled = none) (it a : Addr) (ne : a ≠ it) (its : Array Value) :
    Draws prog w A it [it, a] its.size (fun i v => its[i]? = some v) (fun i h => ItS k h it a i ∧ OfS k h a its) := by
  cases k with
  | l => exact Draws.list hA it a ne its
  | t => exact Draws.tuple hA it a ne its
theorem src_of {X : Cx} {pins : List (Addr × Obj)} {σ : L2.St} {H : Hp} {s : Shared} {k : Sk} {a : Addr} {xs : List V} (I : Inv X pins σ H s) (h : SqS X.K k H a xs) : ∃ its : List Value, Vals xs its ∧ OfS k s.heap a its.toArray := by
  cases k with
  | l =>
    obtain ⟨its, rv, tp, _⟩ := I.list h
    exact ⟨its, rv, tp.isList⟩
  | t =>
    obtain ⟨its, rv, tp, _⟩ := I.tuple h
    exact ⟨its, rv, tp⟩
theorem src_inj {X : Cx} {pins : List (Addr × Obj)} {σ : L2.St} {H : Hp} {s : Shared} {k : Sk} {a : Addr} {xs ys : List V} (I : Inv X pins σ H s) (h : SqS X.K k H a xs) (h2 : SqS X.K k H a ys) : xs = ys := by
  cases k with
  | l => exact I.list_inj h h2
  | t => exact I.tuple_inj h h2
theorem OfS.lt {k : Sk} {h : Heap} {a : Addr} {its : Array Value} (e : OfS k h a its) : a < h.objs.size := by
  cases k with
  | l => obtain ⟨o, h, _⟩ := e; exact Heap.lt_size h
  | t => obtain ⟨o, h, _⟩ := e; exact Heap.lt_size h
theorem OfS.at {k : Sk} {h h' : Heap} {a : Addr} {its : Array Value} (e : OfS k h a its) (f : ∀ o, h.get? a = some o → h'.get? a = some o) : OfS k h' a its := by
  cases k with
  | l => exact Heap.IsList.at e f
  | t => exact Heap.IsTuple.at e f
theorem ItS.at {k : Sk} {h h' : Heap} {it a : Addr} {i : Nat} (e : ItS k h it a i) (f : ∀ o, h.get? it = some o → h'.get? it = some o) : ItS k h' it a i := by
  cases k with
  | l => exact Heap.IsListIter.at e f
  | t => exact Heap.IsTupleIter.at e f
theorem ItS.obj {k : Sk} {h : Heap} {it a : Addr} {i : Nat} (e : ItS k h it a i) : ∃ o, h.get? it = some o ∧ ∀ v : Option Value, o.data ≠ .cell v := by
  cases k with
  | l =>
    obtain ⟨o, a, _, c⟩ := e
    exact ⟨o, a, fun v q => by rw [c] at q; cases q⟩
  | t =>
    obtain ⟨o, a, _, c⟩ := e
    exact ⟨o, a, fun v q => by rw [c] at q; cases q⟩
theorem itO_is (k : Sk) {h : Heap} {it a : Addr} (e : h.get? it = some (itO k a)) : ItS k h it a 0 := by
  cases k with
  | l => exact ⟨_, e, rfl, rfl⟩
  | t => exact ⟨_, e, rfl, rfl⟩
theorem begins (k : Sk) (a : Addr) (its : Array Value) : Begins (.ref a) (itO k a) (fun h => OfS k h a its) := by
  cases k with
  | l => exact ⟨fun prog w A E s Q h q => wpAny_pyIter_list h q, fun h h' e f => OfS.at (k := .l) e fun o q => f _ o q, rfl⟩
  | t => exact ⟨fun prog w A E s Q h q => wpAny_pyIter_tuple h q, fun h h' e f => OfS.at (k := .t) e fun o q => f _ o q, rfl⟩
def ItzG (K : PySem.W.Frag) (k1 : Sk) (a : Addr) (k2 : Sk) (b : Addr) : It :=
  ⟨fun i H => ∃ (xs ys : List V) (x y : V), SqS K k1 H a xs ∧ SqS K k2 H b ys ∧ xs[i]? = some x ∧ ys[i]? = some y,
   fun i H v H' => ∃ T x y, v = .ref T ∧ H T = none ∧ H' = upd H T (.tup [x, y]) ∧ (∀ xs, SqS K k1 H a xs → xs[i]? = some x) ∧ ∀ ys, SqS K k2 H b ys → ys[i]? = some y,
   fun i H => ∃ xs ys : List V, SqS K k1 H a xs ∧ SqS K k2 H b ys ∧ i = min xs.length ys.length⟩
theorem ge5 {n c : Nat} (e : c = n + 4 ∨ c = n + 2 ∨ c = n + 3 ∨ c = n ∨ c = n + 1) : n ≤ c := by omega
theorem lt5 {n m c : Nat} (h : n + 4 < m) (e : c = n + 4 ∨ c = n + 2 ∨ c = n + 3 ∨ c = n ∨ c = n + 1) : c < m := by omega
theorem nn {a b : Nat} (h : a < b ∨ b < a) : a ≠ b := by omega
theorem nm2 {x a b : Nat} (h1 : x ≠ a) (h2 : x ≠ b) : ¬ x ∈ [a, b] := by
  intro h
  rcases List.mem_cons.mp h with e | h
  · exact h1 e
  · exact h2 (List.mem_singleton.mp h)
theorem sep2 {n a b : Nat} (la : a < n) (lb : b < n) : ZipSep2 (n + 4) (n + 2) (n + 3) n (n + 1) [n, a] [n + 1, b] :=
  ⟨(show (n + 2 : Nat) ≠ n + 4 by omega), (show (n + 3 : Nat) ≠ n + 4 by omega), (show (n + 2 : Nat) ≠ n + 3 by omega), (show (n + 2 : Nat) ≠ n by omega), List.mem_cons_self, nm2 (by omega) (by omega), nm2 (by omega) (by omega),
   (show (n + 2 : Nat) ≠ n + 1 by omega), List.mem_cons_self, nm2 (by omega) (by omega), nm2 (by omega) (by omega), nm2 (by omega) (by omega), nm2 (by omega) (by omega)⟩
theorem turn_zipG {P : Program} {w : World} {K : PySem.W.Frag} {elts : List Expr} {kk : Nat} {tpos : Pos} (k1 : Sk) (a : Nat) (k2 : Sk) (b n : Nat) (la : a < n) (lb : b < n) :
    Turn P w K (.Tuple elts kk tpos) (ItzG K k1 a k2 b) [n + 4, n + 2, n + 3, n, n + 1] (n + 4) (fun i h => IsZip h (n + 4) (n + 2) (n + 3) .none ∧ IsTupOf2 h (n + 2) (.ref n) (.ref (n + 1)) ∧ (∃ x y, IsTupOf2 h (n + 3) x y) ∧ ItS k1 h n a i ∧ ItS k2 h (n + 1) b i) where
  mem := by simp
  obj := fun i h st c hc => by
    obtain ⟨s1, s2, ⟨x, y, s3⟩, s4, s5⟩ := st
    rcases (show c = n + 4 ∨ c = n + 2 ∨ c = n + 3 ∨ c = n ∨ c = n + 1 by simpa using hc) with e | e | e | e | e <;> subst e
    · exact ⟨_, s1, fun v q => nomatch q⟩
    · exact ⟨_, s2, fun v q => nomatch q⟩
    · exact ⟨_, s3, fun v q => nomatch q⟩
    · exact s4.obj
    · exact s5.obj
  keep := fun i h h' st k => by
    obtain ⟨s1, s2, ⟨x, y, s3⟩, s4, s5⟩ := st
    exact ⟨k _ (by simp) _ s1, k _ (by simp) _ s2, ⟨x, y, k _ (by simp) _ s3⟩, s4.at fun o q => k _ (by simp) o q, s5.at fun o q => k _ (by simp) o q⟩
  item := by
    intro X hP hw hK hc i pins s σ H E I hf st hg
    subst hP hw hK
    obtain ⟨s1, s2, ⟨p0, p1, s3⟩, s4, s5⟩ := st
    obtain ⟨xs, ys, x, y, hx, hy, ex, ey⟩ := hg
    obtain ⟨its, rv, o1⟩ := src_of I hx
    obtain ⟨jts, rw2, o2⟩ := src_of I hy
    obtain ⟨u, hu, ru⟩ := rv.get ex
    obtain ⟨v, hv, rv2⟩ := rw2.get ey
    have lz : n + 4 < s.heap.objs.size := Heap.lt_size s1
    have sep := sep2 la lb
    have D1 := srcDraws (prog := X.prog) (w := X.w) (A := X.A.in1) k1 (I.ok.hd hc) n a (nn (by omega)) its.toArray
    have D2 := srcDraws (prog := X.prog) (w := X.w) (A := X.A.in1) k2 (I.ok.hd hc) (n + 1) b (nn (by omega)) jts.toArray
    refine wpAny_pyNext_zipD2_item sep D1 D2 s1 s2 s3 ⟨s4, o1⟩ ⟨s5, o2⟩ (by have := (List.getElem?_eq_some_iff.mp hu).1; simpa using this) (by have := (List.getElem?_eq_some_iff.mp hv).1; simpa using this) fun y1 y2 h' tk q1 q2 z1 z2 z3 z4 hT hsz hk => ?_
    have e1 : y1 = u := Option.some.inj (q1.symm.trans (by simpa using hu))
    have e2 : y2 = v := Option.some.inj (q2.symm.trans (by simpa using hv))
    subst e1 e2
    refine ⟨_, rfl, wpAny_letOwnedTupleGo_zip (s := { s with heap := h', toks := tk }) z1 fun h'' hz'' sb => ?_⟩
    have sb' : ∀ c o, c ≠ n + 4 → h'.get? c = some o → h''.get? c = some o := fun c o hc q => (sb.2 c hc).trans q
    have hT2 : h''.get? s.heap.objs.size = some { cls := .type "tuple", data := .seq #[y1, y2] } := sb' _ _ (nn (by omega)) hT
    have new : ObjOk X.prog X.w (upd H s.heap.objs.size (.tup [x, y])) h'' s.heap.objs.size (.tup [x, y]) :=
      ⟨by show 2 ≤ sizeLine; decide, [y1, y2], .cons ru (.cons rv2 .nil), ⟨_, hT2, rfl, _, rfl⟩⟩
    have I1 : Inv X pins σ (upd H s.heap.objs.size (.tup [x, y])) { s with heap := h'', toks := tk } :=
      I.turnedNew (ch := [n + 4, n + 2, n + 3, n, n + 1]) (fun c ob hc q => by
        have hc' : c ≠ n + 4 ∧ c ≠ n + 2 ∧ c ≠ n + 3 ∧ c ≠ n ∧ c ≠ n + 1 := by simpa using hc
        exact sb' _ _ hc'.1 (hk c ob hc'.1 hc'.2.2.1 hc'.2.2.2.1 hc'.2.2.2.2 q)) hf (Nat.le_refl _) new
    refine ⟨.ref s.heap.objs.size, _, I1, rfl, ⟨_, x, y, rfl, I.hok.fresh (Nat.le_refl _), rfl, fun zs hz => by rw [src_inj I hz hx]; exact ex, fun zs hz => by rw [src_inj I hz hy]; exact ey⟩, ⟨hz'', sb' _ _ (nn (by omega)) (hk _ _ (nn (by omega)) (nn (by omega)) (nn (by omega)) (nn (by omega)) s2), ⟨_, _, sb' _ _ (nn (by omega)) z2⟩, z3.1.at fun o q => sb' _ _ (nn (by omega)) q, z4.1.at fun o q => sb' _ _ (nn (by omega)) q⟩, fun c hc => ?_⟩
    have lt : c < s.heap.objs.size := lt5 lz (by simpa using hc)
    rw [upd_ne (Nat.ne_of_lt lt)]
    exact (hf c hc).1
  done := by
    intro X hP hw hK hc i pins s σ H E I hf st hg
    subst hP hw hK
    obtain ⟨s1, s2, ⟨p0, p1, s3⟩, s4, s5⟩ := st
    obtain ⟨xs, ys, hx, hy, ei⟩ := hg
    obtain ⟨its, rv, o1⟩ := src_of I hx
    obtain ⟨jts, rw2, o2⟩ := src_of I hy
    have l1 := rv.length
    have l2 := rw2.length
    have sep := sep2 la lb
    have D1 := srcDraws (prog := X.prog) (w := X.w) (A := X.A.in1) k1 (I.ok.hd hc) n a (nn (by omega)) its.toArray
    have D2 := srcDraws (prog := X.prog) (w := X.w) (A := X.A.in1) k2 (I.ok.hd hc) (n + 1) b (nn (by omega)) jts.toArray
    refine wpAny_pyNext_zipD2_end sep D1 D2 s1 s2 s3 ⟨s4, o1⟩ ⟨s5, o2⟩ (by simp; omega) (by simp; omega) (by simp; omega) fun h' tk hk => ⟨rfl, ?_⟩
    exact I.turnedL (ch := [n + 4, n + 2, n + 3, n, n + 1]) (fun c o hc q => by
      have hc' : c ≠ n + 4 ∧ c ≠ n + 2 ∧ c ≠ n + 3 ∧ c ≠ n ∧ c ≠ n + 1 := by simpa using hc
      exact hk c o hc'.1 hc'.2.2.1 hc'.2.2.2.1 hc'.2.2.2.2 q) hf
  self := fun A i s Q E st h => wpAny_pyIter_zip st.1 h
def iZipG (K : PySem.W.Frag) (k1 k2 : Sk) (ta : TA) : TI := fun σ H R => ta σ H fun vs H1 => ∃ a b xs ys, vs = [.ref a, .ref b] ∧ SqS K k1 H1 a xs ∧ SqS K k2 H1 b ys ∧ R (ItzG K k1 a k2 b) H1
theorem zipG_call {prog : Program} {w : World} {A : Around} {E : Value → Shared → Prop} {s : Shared} {k1 k2 : Sk} {a b : Addr} {its jts : Array Value} {Q : Value → Shared → Prop} (h1 : OfS k1 s.heap a its) (h2 : OfS k2 s.heap b jts)
    (h : ∀ h', IsZip h' (s.heap.objs.size + 4) (s.heap.objs.size + 2) (s.heap.objs.size + 3) .none → IsTupOf2 h' (s.heap.objs.size + 2) (.ref s.heap.objs.size) (.ref (s.heap.objs.size + 1)) → IsTupOf2 h' (s.heap.objs.size + 3) .none .none →
      ItS k1 h' s.heap.objs.size a 0 → ItS k2 h' (s.heap.objs.size + 1) b 0 → (∀ c o, s.heap.get? c = some o → h'.get? c = some o) → Q (.ref (s.heap.objs.size + 4)) { s with heap := h' }) :
    wpAny (model prog w) A (call (.type "zip") [.ref a, .ref b]) Q E s := by
  refine callType_new F.called_zip (by decide) (F.typeCall_zip_2 _ _) (F.newCall_zip_2 _ _) (fun obj => F.args_object_init_3 obj _ _) F.entry_zip_new (meets_zip_newB2 (begins k1 a its) (begins k2 b jts)) ⟨⟨h1, h2⟩, ?_⟩
  have f1 : (itO k1 a).isFreed = false := by cases k1 <;> rfl
  have f2 : (itO k2 b).isFreed = false := by cases k2 <;> rfl
  have z1 : (s.heap.push (itO k1 a)).objs.size = s.heap.objs.size + 1 := Heap.size_push ..
  have z2 : ((s.heap.push (itO k1 a)).push (itO k2 b)).objs.size = s.heap.objs.size + 2 := by rw [Heap.size_push, z1]
  have z3 : (gzT2 s.heap (itO k1 a) (itO k2 b)).objs.size = s.heap.objs.size + 3 := by rw [gzT2, Heap.size_push, z2]
  have z4 : (gzO2 s.heap (itO k1 a) (itO k2 b)).objs.size = s.heap.objs.size + 4 := by rw [gzO2, Heap.size_push, z3]
  have g1 : (s.heap.push (itO k1 a)).get? s.heap.objs.size = some (itO k1 a) := Heap.get?_push_size s.heap f1
  have g2 : ((s.heap.push (itO k1 a)).push (itO k2 b)).get? (s.heap.objs.size + 1) = some (itO k2 b) := by
    have z := Heap.get?_push_size (s.heap.push (itO k1 a)) f2
    rwa [z1] at z
  have g3 : IsTupOf2 (gzT2 s.heap (itO k1 a) (itO k2 b)) (s.heap.objs.size + 2) (.ref s.heap.objs.size) (.ref (s.heap.objs.size + 1)) := by
    have z := Heap.get?_push_size ((s.heap.push (itO k1 a)).push (itO k2 b)) (o := { cls := .type "tuple", data := .seq #[.ref s.heap.objs.size, .ref (s.heap.push (itO k1 a)).objs.size] }) rfl
    rw [z2, z1] at z
    show (Heap.push _ { cls := .type "tuple", data := .seq #[.ref s.heap.objs.size, .ref (s.heap.push (itO k1 a)).objs.size] }).get? _ = _
    rw [z1]
    exact z
  have g4 : IsTupOf2 (gzO2 s.heap (itO k1 a) (itO k2 b)) (s.heap.objs.size + 3) .none .none := by
    have z := Heap.get?_push_size (gzT2 s.heap (itO k1 a) (itO k2 b)) (o := { cls := .type "tuple", data := .seq #[.none, .none] }) rfl
    rwa [z3] at z
  have g5 : IsZip (gzZ2 s.heap (itO k1 a) (itO k2 b)) (s.heap.objs.size + 4) (s.heap.objs.size + 2) (s.heap.objs.size + 3) .none := by
    have z := Heap.get?_push_size (gzO2 s.heap (itO k1 a) (itO k2 b)) (o := { cls := .type "zip", data := .fields #[.none, .bool false, .bool false, .ref ((s.heap.push (itO k1 a)).push (itO k2 b)).objs.size, .ref (gzT2 s.heap (itO k1 a) (itO k2 b)).objs.size] }) rfl
    show (Heap.push _ { cls := .type "zip", data := .fields #[.none, .bool false, .bool false, .ref ((s.heap.push (itO k1 a)).push (itO k2 b)).objs.size, .ref (gzT2 s.heap (itO k1 a) (itO k2 b)).objs.size] }).get? _ = _
    rw [z4, z2, z3] at z
    rw [z2, z3]
    exact z
  show _ ∧ _
  rw [z4]
  exact ⟨⟨_, g5, rfl⟩, h _ g5 (Heap.get?_push_of_some _ (Heap.get?_push_of_some _ g3)) (Heap.get?_push_of_some _ g4)
    (itO_is k1 (Heap.get?_push_of_some _ (Heap.get?_push_of_some _ (Heap.get?_push_of_some _ (Heap.get?_push_of_some _ g1)))))
    (itO_is k2 (Heap.get?_push_of_some _ (Heap.get?_push_of_some _ (Heap.get?_push_of_some _ g2))))
    fun c o q => Heap.get?_push_of_some _ (Heap.get?_push_of_some _ (Heap.get?_push_of_some _ (Heap.get?_push_of_some _ (Heap.get?_push_of_some _ q))))⟩
theorem pi_zipG {X : Cx} (K : PySem.W.Frag) (hK : X.K = K) (k1 k2 : Sk) {e e2 : Expr} {ta : TA} {p pos tpos : Pos} {elts : List Expr} {kk : Nat} (hg : Gl X "zip") (hm : X.mg "zip" = none) (ha : PA X [e, e2] ta) (hs : starEach [e, e2] X.env = (false, eval e X.env) :: starEach [e2] X.env := by rfl) (hs2 : ((backTo pos (starEach [e2] X.env)).any fun x => x.fst) = false := by rfl) :
    PI X (.Tuple elts kk tpos) (.Call (.Name "zip" p) [e, e2] [] pos) (iZipG K k1 k2 ta) := by
  subst hK
  refine ⟨fun pins s σ H R I h => ?_⟩
  refine Call_ (ld_blt I hg hm boot_zip (PyProof.Rows.callWith_type1 (thn (ha.run pos pins s σ H _ I h) fun us s1 ⟨vs, H1, I1, r1, q1⟩ => ?_) hs hs2))
  obtain ⟨a, b, xs, ys, ex, hx, hy, q⟩ := q1
  subst ex
  obtain ⟨u, v, rfl, ru, rv⟩ := vals2 r1
  cases (show u = Value.ref a from ru)
  cases (show v = Value.ref b from rv)
  obtain ⟨its, _, o1⟩ := src_of I1 hx
  obtain ⟨jts, _, o2⟩ := src_of I1 hy
  refine zipG_call o1 o2 fun h' z1 z2 z3 z4 z5 kept => wpAny_pyIter_zip z1 ?_
  have I2 := I1.kept (t' := s1.toks) kept
  refine ⟨s1.heap.objs.size + 4, [s1.heap.objs.size + 4, s1.heap.objs.size + 2, s1.heap.objs.size + 3, s1.heap.objs.size, s1.heap.objs.size + 1], _, _, H1, rfl, I2, turn_zipG k1 a k2 b s1.heap.objs.size o1.lt o2.lt, ⟨z1, z2, ⟨_, _, z3⟩, z4, z5⟩, fun c hc => ?_, q⟩
  have le : s1.heap.objs.size ≤ c := ge5 (by simpa using hc)
  exact I1.fpOk le (I1.hok.fresh le)
theorem walk_zipG {K : PySem.W.Frag} {k1 k2 : Sk} {a b : Addr} {xs ys : List V} {n : Nat} (hn : n = min xs.length ys.length) : Walk (ItzG K k1 a k2 b) n (fun H => SqS K k1 H a xs ∧ SqS K k2 H b ys) (YPair (fun i => xs[i]?) (fun i => ys[i]?)) := by
  refine ⟨fun i H hi q => ⟨xs, ys, xs[i]'(by omega), ys[i]'(by omega), q.1, q.2, by simp, by simp⟩, fun H q => ⟨xs, ys, q.1, q.2, hn⟩, fun i H v H' _ q y => ?_⟩
  obtain ⟨T, x, z, y1, y2, y3, y4, y5⟩ := y
  exact ⟨T, x, z, y1, y2, y3, y4 xs q.1, y5 ys q.2⟩
end NA
namespace NA
open PySem PySem.Spec PyProof.Rows L2
/-! ### zip of three -/
def ItzG3 (K : PySem.W.Frag) (k1 : Sk) (a : Addr) (k2 : Sk) (b : Addr) (k3 : Sk) (c : Addr) : It :=
  ⟨fun i H => ∃ (xs ys zs : List V) (x y z : V), SqS K k1 H a xs ∧ SqS K k2 H b ys ∧ SqS K k3 H c zs ∧ xs[i]? = some x ∧ ys[i]? = some y ∧ zs[i]? = some z,
   fun i H v H' => ∃ T x y z, v = .ref T ∧ H T = none ∧ H' = upd H T (.tup [x, y, z]) ∧ (∀ xs, SqS K k1 H a xs → xs[i]? = some x) ∧ (∀ ys, SqS K k2 H b ys → ys[i]? = some y) ∧ ∀ zs, SqS K k3 H c zs → zs[i]? = some z,
   fun i H => ∃ xs ys zs : List V, SqS K k1 H a xs ∧ SqS K k2 H b ys ∧ SqS K k3 H c zs ∧ i = min (min xs.length ys.length) zs.length⟩
theorem sep3 {n a b c : Nat} (la : a < n) (lb : b < n) (lc : c < n) : ZipSep3 (n + 5) (n + 3) (n + 4) n (n + 1) (n + 2) [n, a] [n + 1, b] [n + 2, c] :=
  ⟨nn (by omega), nn (by omega), nn (by omega), nn (by omega), List.mem_cons_self, nm2 (by omega) (by omega), nm2 (by omega) (by omega),
   nn (by omega), List.mem_cons_self, nm2 (by omega) (by omega), nm2 (by omega) (by omega), nn (by omega), List.mem_cons_self, nm2 (by omega) (by omega), nm2 (by omega) (by omega),
   nm2 (by omega) (by omega), nm2 (by omega) (by omega), nm2 (by omega) (by omega), nm2 (by omega) (by omega), nm2 (by omega) (by omega), nm2 (by omega) (by omega)⟩
theorem lt6 {n m c : Nat} (h : n + 5 < m) (e : c = n + 5 ∨ c = n + 3 ∨ c = n + 4 ∨ c = n ∨ c = n + 1 ∨ c = n + 2) : c < m := by omega
theorem ge6 {n c : Nat} (e : c = n + 5 ∨ c = n + 3 ∨ c = n + 4 ∨ c = n ∨ c = n + 1 ∨ c = n + 2) : n ≤ c := by omega
theorem turn_zipG3 {P : Program} {w : World} {K : PySem.W.Frag} {elts : List Expr} {kk : Nat} {tpos : Pos} (k1 : Sk) (a : Nat) (k2 : Sk) (b : Nat) (k3 : Sk) (c n : Nat) (la : a < n) (lb : b < n) (lc : c < n) :
    Turn P w K (.Tuple elts kk tpos) (ItzG3 K k1 a k2 b k3 c) [n + 5, n + 3, n + 4, n, n + 1, n + 2] (n + 5) (fun i h => IsZip h (n + 5) (n + 3) (n + 4) .none ∧ IsTupOf3 h (n + 3) (.ref n) (.ref (n + 1)) (.ref (n + 2)) ∧ (∃ x y z, IsTupOf3 h (n + 4) x y z) ∧ ItS k1 h n a i ∧ ItS k2 h (n + 1) b i ∧ ItS k3 h (n + 2) c i) where
  mem := by simp
  obj := fun i h st d hd => by
    obtain ⟨s1, s2, ⟨x, y, z, s3⟩, s4, s5, s6⟩ := st
    rcases (show d = n + 5 ∨ d = n + 3 ∨ d = n + 4 ∨ d = n ∨ d = n + 1 ∨ d = n + 2 by simpa using hd) with e | e | e | e | e | e <;> subst e
    · exact ⟨_, s1, fun v q => nomatch q⟩
    · exact ⟨_, s2, fun v q => nomatch q⟩
    · exact ⟨_, s3, fun v q => nomatch q⟩
    · exact s4.obj
    · exact s5.obj
    · exact s6.obj
  keep := fun i h h' st k => by
    obtain ⟨s1, s2, ⟨x, y, z, s3⟩, s4, s5, s6⟩ := st
    exact ⟨k _ (by simp) _ s1, k _ (by simp) _ s2, ⟨x, y, z, k _ (by simp) _ s3⟩, s4.at fun o q => k _ (by simp) o q, s5.at fun o q => k _ (by simp) o q, s6.at fun o q => k _ (by simp) o q⟩
  item := by
    intro X hP hw hK hc i pins s σ H E I hf st hg
    subst hP hw hK
    obtain ⟨s1, s2, ⟨p0, p1, p2, s3⟩, s4, s5, s6⟩ := st
    obtain ⟨xs, ys, zs, x, y, z, hx, hy, hz, ex, ey, ez⟩ := hg
    obtain ⟨its, rv, o1⟩ := src_of I hx
    obtain ⟨jts, rw2, o2⟩ := src_of I hy
    obtain ⟨kts, rw3, o3⟩ := src_of I hz
    obtain ⟨u, hu, ru⟩ := rv.get ex
    obtain ⟨v, hv, rv2⟩ := rw2.get ey
    obtain ⟨w3, hw3, rv3⟩ := rw3.get ez
    have lz : n + 5 < s.heap.objs.size := Heap.lt_size s1
    have sep := sep3 la lb lc
    have D1 := srcDraws (prog := X.prog) (w := X.w) (A := X.A.in1) k1 (I.ok.hd hc) n a (nn (by omega)) its.toArray
    have D2 := srcDraws (prog := X.prog) (w := X.w) (A := X.A.in1) k2 (I.ok.hd hc) (n + 1) b (nn (by omega)) jts.toArray
    have D3 := srcDraws (prog := X.prog) (w := X.w) (A := X.A.in1) k3 (I.ok.hd hc) (n + 2) c (nn (by omega)) kts.toArray
    refine wpAny_pyNext_zipD3_item sep D1 D2 D3 s1 s2 s3 ⟨s4, o1⟩ ⟨s5, o2⟩ ⟨s6, o3⟩ (by have := (List.getElem?_eq_some_iff.mp hu).1; simpa using this) (by have := (List.getElem?_eq_some_iff.mp hv).1; simpa using this) (by have := (List.getElem?_eq_some_iff.mp hw3).1; simpa using this) fun y1 y2 y3 h' tk q1 q2 q3 z1 z2 z3 z4 z5 hT hsz hk => ?_
    have e1 : y1 = u := Option.some.inj (q1.symm.trans (by simpa using hu))
    have e2 : y2 = v := Option.some.inj (q2.symm.trans (by simpa using hv))
    have e3 : y3 = w3 := Option.some.inj (q3.symm.trans (by simpa using hw3))
    subst e1 e2 e3
    refine ⟨_, rfl, wpAny_letOwnedTupleGo_zip (s := { s with heap := h', toks := tk }) z1 fun h'' hz'' sb => ?_⟩
    have sb' : ∀ d o, d ≠ n + 5 → h'.get? d = some o → h''.get? d = some o := fun d o hd q => (sb.2 d hd).trans q
    have hT2 : h''.get? s.heap.objs.size = some { cls := .type "tuple", data := .seq #[y1, y2, y3] } := sb' _ _ (nn (by omega)) hT
    have new : ObjOk X.prog X.w (upd H s.heap.objs.size (.tup [x, y, z])) h'' s.heap.objs.size (.tup [x, y, z]) :=
      ⟨by show 3 ≤ sizeLine; decide, [y1, y2, y3], .cons ru (.cons rv2 (.cons rv3 .nil)), ⟨_, hT2, rfl, _, rfl⟩⟩
    have I1 : Inv X pins σ (upd H s.heap.objs.size (.tup [x, y, z])) { s with heap := h'', toks := tk } :=
      I.turnedNew (ch := [n + 5, n + 3, n + 4, n, n + 1, n + 2]) (fun d ob hd q => by
        have hd' : d ≠ n + 5 ∧ d ≠ n + 3 ∧ d ≠ n + 4 ∧ d ≠ n ∧ d ≠ n + 1 ∧ d ≠ n + 2 := by simpa using hd
        exact sb' _ _ hd'.1 (hk d ob hd'.1 hd'.2.2.1 hd'.2.2.2.1 hd'.2.2.2.2.1 hd'.2.2.2.2.2 q)) hf (Nat.le_refl _) new
    refine ⟨.ref s.heap.objs.size, _, I1, rfl, ⟨_, x, y, z, rfl, I.hok.fresh (Nat.le_refl _), rfl, fun ws hw => by rw [src_inj I hw hx]; exact ex, fun ws hw => by rw [src_inj I hw hy]; exact ey, fun ws hw => by rw [src_inj I hw hz]; exact ez⟩,
      ⟨hz'', sb' _ _ (nn (by omega)) (hk _ _ (nn (by omega)) (nn (by omega)) (nn (by omega)) (nn (by omega)) (nn (by omega)) s2), ⟨_, _, _, sb' _ _ (nn (by omega)) z2⟩, z3.1.at fun o q => sb' _ _ (nn (by omega)) q, z4.1.at fun o q => sb' _ _ (nn (by omega)) q, z5.1.at fun o q => sb' _ _ (nn (by omega)) q⟩, fun d hd => ?_⟩
    have lt : d < s.heap.objs.size := lt6 lz (by simpa using hd)
    rw [upd_ne (Nat.ne_of_lt lt)]
    exact (hf d hd).1
  done := by
    intro X hP hw hK hc i pins s σ H E I hf st hg
    subst hP hw hK
    obtain ⟨s1, s2, ⟨p0, p1, p2, s3⟩, s4, s5, s6⟩ := st
    obtain ⟨xs, ys, zs, hx, hy, hz, ei⟩ := hg
    obtain ⟨its, rv, o1⟩ := src_of I hx
    obtain ⟨jts, rw2, o2⟩ := src_of I hy
    obtain ⟨kts, rw3, o3⟩ := src_of I hz
    have l1 := rv.length
    have l2 := rw2.length
    have l3 := rw3.length
    have sep := sep3 la lb lc
    have D1 := srcDraws (prog := X.prog) (w := X.w) (A := X.A.in1) k1 (I.ok.hd hc) n a (nn (by omega)) its.toArray
    have D2 := srcDraws (prog := X.prog) (w := X.w) (A := X.A.in1) k2 (I.ok.hd hc) (n + 1) b (nn (by omega)) jts.toArray
    have D3 := srcDraws (prog := X.prog) (w := X.w) (A := X.A.in1) k3 (I.ok.hd hc) (n + 2) c (nn (by omega)) kts.toArray
    refine wpAny_pyNext_zipD3_end sep D1 D2 D3 s1 s2 s3 ⟨s4, o1⟩ ⟨s5, o2⟩ ⟨s6, o3⟩ (by simp; omega) (by simp; omega) (by simp; omega) (by simp; omega) fun h' tk hk => ⟨rfl, ?_⟩
    exact I.turnedL (ch := [n + 5, n + 3, n + 4, n, n + 1, n + 2]) (fun d o hd q => by
      have hd' : d ≠ n + 5 ∧ d ≠ n + 3 ∧ d ≠ n + 4 ∧ d ≠ n ∧ d ≠ n + 1 ∧ d ≠ n + 2 := by simpa using hd
      exact hk d o hd'.1 hd'.2.2.1 hd'.2.2.2.1 hd'.2.2.2.2.1 hd'.2.2.2.2.2 q) hf
  self := fun A i s Q E st h => wpAny_pyIter_zip st.1 h
def iZipG3 (K : PySem.W.Frag) (k1 k2 k3 : Sk) (ta : TA) : TI := fun σ H R => ta σ H fun vs H1 => ∃ a b c xs ys zs, vs = [.ref a, .ref b, .ref c] ∧ SqS K k1 H1 a xs ∧ SqS K k2 H1 b ys ∧ SqS K k3 H1 c zs ∧ R (ItzG3 K k1 a k2 b k3 c) H1
theorem zipG3_call {prog : Program} {w : World} {A : Around} {E : Value → Shared → Prop} {s : Shared} {k1 k2 k3 : Sk} {a b c : Addr} {its jts kts : Array Value} {Q : Value → Shared → Prop} (h1 : OfS k1 s.heap a its) (h2 : OfS k2 s.heap b jts) (h3 : OfS k3 s.heap c kts)
    (h : ∀ h', IsZip h' (s.heap.objs.size + 5) (s.heap.objs.size + 3) (s.heap.objs.size + 4) .none → IsTupOf3 h' (s.heap.objs.size + 3) (.ref s.heap.objs.size) (.ref (s.heap.objs.size + 1)) (.ref (s.heap.objs.size + 2)) → IsTupOf3 h' (s.heap.objs.size + 4) .none .none .none →
      ItS k1 h' s.heap.objs.size a 0 → ItS k2 h' (s.heap.objs.size + 1) b 0 → ItS k3 h' (s.heap.objs.size + 2) c 0 → (∀ c o, s.heap.get? c = some o → h'.get? c = some o) → Q (.ref (s.heap.objs.size + 5)) { s with heap := h' }) :
    wpAny (model prog w) A (call (.type "zip") [.ref a, .ref b, .ref c]) Q E s := by
  refine callType_new F.called_zip (by decide) (F.typeCall_zip_3 _ _ _) (F.newCall_zip_3 _ _ _) (fun obj => F.args_object_init_4 obj _ _ _) F.entry_zip_new (meets_zip_newB3 (begins k1 a its) (begins k2 b jts) (begins k3 c kts)) ⟨⟨h1, h2, h3⟩, ?_⟩
  have f1 : (itO k1 a).isFreed = false := by cases k1 <;> rfl
  have f2 : (itO k2 b).isFreed = false := by cases k2 <;> rfl
  have f3 : (itO k3 c).isFreed = false := by cases k3 <;> rfl
  have z1 : (s.heap.push (itO k1 a)).objs.size = s.heap.objs.size + 1 := Heap.size_push ..
  have z2 : ((s.heap.push (itO k1 a)).push (itO k2 b)).objs.size = s.heap.objs.size + 2 := by rw [Heap.size_push, z1]
  have z3 : (((s.heap.push (itO k1 a)).push (itO k2 b)).push (itO k3 c)).objs.size = s.heap.objs.size + 3 := by rw [Heap.size_push, z2]
  have z4 : (gzT3 s.heap (itO k1 a) (itO k2 b) (itO k3 c)).objs.size = s.heap.objs.size + 4 := by rw [gzT3, Heap.size_push, z3]
  have z5 : (gzO3 s.heap (itO k1 a) (itO k2 b) (itO k3 c)).objs.size = s.heap.objs.size + 5 := by rw [gzO3, Heap.size_push, z4]
  have g1 : (s.heap.push (itO k1 a)).get? s.heap.objs.size = some (itO k1 a) := Heap.get?_push_size s.heap f1
  have g2 : ((s.heap.push (itO k1 a)).push (itO k2 b)).get? (s.heap.objs.size + 1) = some (itO k2 b) := by
    have z := Heap.get?_push_size (s.heap.push (itO k1 a)) f2
    rwa [z1] at z
  have g2' : (((s.heap.push (itO k1 a)).push (itO k2 b)).push (itO k3 c)).get? (s.heap.objs.size + 2) = some (itO k3 c) := by
    have z := Heap.get?_push_size ((s.heap.push (itO k1 a)).push (itO k2 b)) f3
    rwa [z2] at z
  have g3 : IsTupOf3 (gzT3 s.heap (itO k1 a) (itO k2 b) (itO k3 c)) (s.heap.objs.size + 3) (.ref s.heap.objs.size) (.ref (s.heap.objs.size + 1)) (.ref (s.heap.objs.size + 2)) := by
    have z := Heap.get?_push_size (((s.heap.push (itO k1 a)).push (itO k2 b)).push (itO k3 c)) (o := { cls := .type "tuple", data := .seq #[.ref s.heap.objs.size, .ref (s.heap.push (itO k1 a)).objs.size, .ref ((s.heap.push (itO k1 a)).push (itO k2 b)).objs.size] }) rfl
    rw [z3, z2, z1] at z
    show (Heap.push _ { cls := .type "tuple", data := .seq #[.ref s.heap.objs.size, .ref (s.heap.push (itO k1 a)).objs.size, .ref ((s.heap.push (itO k1 a)).push (itO k2 b)).objs.size] }).get? _ = _
    rw [z2, z1]
    exact z
  have g4 : IsTupOf3 (gzO3 s.heap (itO k1 a) (itO k2 b) (itO k3 c)) (s.heap.objs.size + 4) .none .none .none := by
    have z := Heap.get?_push_size (gzT3 s.heap (itO k1 a) (itO k2 b) (itO k3 c)) (o := { cls := .type "tuple", data := .seq #[.none, .none, .none] }) rfl
    rwa [z4] at z
  have g5 : IsZip (gzZ3 s.heap (itO k1 a) (itO k2 b) (itO k3 c)) (s.heap.objs.size + 5) (s.heap.objs.size + 3) (s.heap.objs.size + 4) .none := by
    have z := Heap.get?_push_size (gzO3 s.heap (itO k1 a) (itO k2 b) (itO k3 c)) (o := { cls := .type "zip", data := .fields #[.none, .bool false, .bool false, .ref (((s.heap.push (itO k1 a)).push (itO k2 b)).push (itO k3 c)).objs.size, .ref (gzT3 s.heap (itO k1 a) (itO k2 b) (itO k3 c)).objs.size] }) rfl
    show (Heap.push _ { cls := .type "zip", data := .fields #[.none, .bool false, .bool false, .ref (((s.heap.push (itO k1 a)).push (itO k2 b)).push (itO k3 c)).objs.size, .ref (gzT3 s.heap (itO k1 a) (itO k2 b) (itO k3 c)).objs.size] }).get? _ = _
    rw [z5, z3, z4] at z
    rw [z3, z4]
    exact z
  show _ ∧ _
  rw [z5]
  exact ⟨⟨_, g5, rfl⟩, h _ g5 (Heap.get?_push_of_some _ (Heap.get?_push_of_some _ g3)) (Heap.get?_push_of_some _ g4)
    (itO_is k1 (Heap.get?_push_of_some _ (Heap.get?_push_of_some _ (Heap.get?_push_of_some _ (Heap.get?_push_of_some _ (Heap.get?_push_of_some _ g1))))))
    (itO_is k2 (Heap.get?_push_of_some _ (Heap.get?_push_of_some _ (Heap.get?_push_of_some _ (Heap.get?_push_of_some _ g2)))))
    (itO_is k3 (Heap.get?_push_of_some _ (Heap.get?_push_of_some _ (Heap.get?_push_of_some _ g2'))))
    fun c o q => Heap.get?_push_of_some _ (Heap.get?_push_of_some _ (Heap.get?_push_of_some _ (Heap.get?_push_of_some _ (Heap.get?_push_of_some _ (Heap.get?_push_of_some _ q)))))⟩
theorem vals3 {x y z : V} {us : List Value} (h : Vals [x, y, z] us) : ∃ u v w, us = [u, v, w] ∧ RelV x u ∧ RelV y v ∧ RelV z w := by
  cases h with
  | cons a h =>
    cases h with
    | cons b h =>
      cases h with
      | cons c h =>
        cases h
        exact ⟨_, _, _, rfl, a, b, c⟩
theorem pi_zipG3 {X : Cx} (K : PySem.W.Frag) (hK : X.K = K) (k1 k2 k3 : Sk) {e e2 e3 : Expr} {ta : TA} {p pos tpos : Pos} {elts : List Expr} {kk : Nat} (hg : Gl X "zip") (hm : X.mg "zip" = none) (ha : PA X [e, e2, e3] ta) (hs : starEach [e, e2, e3] X.env = (false, eval e X.env) :: starEach [e2, e3] X.env := by rfl) (hs2 : ((backTo pos (starEach [e2, e3] X.env)).any fun x => x.fst) = false := by rfl) :
    PI X (.Tuple elts kk tpos) (.Call (.Name "zip" p) [e, e2, e3] [] pos) (iZipG3 K k1 k2 k3 ta) := by
  subst hK
  refine ⟨fun pins s σ H R I h => ?_⟩
  refine Call_ (ld_blt I hg hm boot_zip (PyProof.Rows.callWith_type1 (thn (ha.run pos pins s σ H _ I h) fun us s1 ⟨vs, H1, I1, r1, q1⟩ => ?_) hs hs2))
  obtain ⟨a, b, c, xs, ys, zs, ex, hx, hy, hz, q⟩ := q1
  subst ex
  obtain ⟨u, v, w3, rfl, ru, rv, rw3⟩ := vals3 r1
  cases (show u = Value.ref a from ru)
  cases (show v = Value.ref b from rv)
  cases (show w3 = Value.ref c from rw3)
  obtain ⟨its, _, o1⟩ := src_of I1 hx
  obtain ⟨jts, _, o2⟩ := src_of I1 hy
  obtain ⟨kts, _, o3⟩ := src_of I1 hz
  refine zipG3_call o1 o2 o3 fun h' z1 z2 z3 z4 z5 z6 kept => wpAny_pyIter_zip z1 ?_
  have I2 := I1.kept (t' := s1.toks) kept
  refine ⟨s1.heap.objs.size + 5, [s1.heap.objs.size + 5, s1.heap.objs.size + 3, s1.heap.objs.size + 4, s1.heap.objs.size, s1.heap.objs.size + 1, s1.heap.objs.size + 2], _, _, H1, rfl, I2, turn_zipG3 k1 a k2 b k3 c s1.heap.objs.size o1.lt o2.lt o3.lt, ⟨z1, z2, ⟨_, _, _, z3⟩, z4, z5, z6⟩, fun d hd => ?_, q⟩
  have le : s1.heap.objs.size ≤ d := ge6 (by simpa using hd)
  exact I1.fpOk le (I1.hok.fresh le)
def YTri (xs ys zs : Nat → Option V) : Nat → Hp → V → Hp → Prop := fun i H v H' => ∃ T x y z, v = .ref T ∧ H T = none ∧ H' = upd H T (.tup [x, y, z]) ∧ xs i = some x ∧ ys i = some y ∧ zs i = some z
theorem walk_zipG3 {K : PySem.W.Frag} {k1 k2 k3 : Sk} {a b c : Addr} {xs ys zs : List V} {n : Nat} (hn : n = min (min xs.length ys.length) zs.length) : Walk (ItzG3 K k1 a k2 b k3 c) n (fun H => SqS K k1 H a xs ∧ SqS K k2 H b ys ∧ SqS K k3 H c zs) (YTri (fun i => xs[i]?) (fun i => ys[i]?) (fun i => zs[i]?)) := by
  refine ⟨fun i H hi q => ⟨xs, ys, zs, xs[i]'(by omega), ys[i]'(by omega), zs[i]'(by omega), q.1, q.2.1, q.2.2, by simp, by simp, by simp⟩, fun H q => ⟨xs, ys, zs, q.1, q.2.1, q.2.2, hn⟩, fun i H v H' _ q y => ?_⟩
  obtain ⟨T, x, z, u, y1, y2, y3, y4, y5, y6⟩ := y
  exact ⟨T, x, z, u, y1, y2, y3, y4 xs q.1, y5 ys q.2.1, y6 zs q.2.2⟩
end NA
namespace NA
open PySem PySem.Spec PyProof.Rows L2
/-! ### deeds, programs, contents: data and promises of what draws them -/
theorem ix_anyK {X : Cx} (K : PySem.W.Frag) (hK : X.K = K) : IxR X (fun x y H Q => rIxL K x y H Q ∨ rIxT K x y H Q) := fun value slice pins s σ H x y v u Q I rx ry h e =>
  h.elim (fun h => ix_listK K hK value slice pins s σ H x y v u Q I rx ry h e) (fun h => ix_tupK K hK value slice pins s σ H x y v u Q I rx ry h e)
theorem cr_sumK {X : Cx} (K : PySem.W.Frag) (hK : X.K = K) (hc : X.calm = true) : CallR X (.builtin "sum") (rSum K) := hK ▸ cr_sum hc
theorem Cal.weak {P : Program} {w : World} {K : PySem.W.Frag} {mg : Str → Option Value} {base : Heap} {x : Str} {k : Nat} {sp sp' : Sp} (c : Cal P w K mg base k x sp) (f : ∀ vs H Q E, sp' vs H Q E → sp vs H Q E) : Cal P w K mg base k x sp' := by
  obtain ⟨a, fd, ps, F, r⟩ := c.ex
  exact ⟨a, fd, ps, ⟨fun vs H Q E h => F.len vs H Q E (f vs H Q E h), fun A outer s H args us vs Q E hr he hb hv h => F.run A outer s H args us vs Q E hr he hb hv (f vs H Q E h)⟩, r⟩
def spDipW : Sp := fun vs H Q _ => ∃ (p q : Addr) (n : Int), vs = [.ref p, .int n] ∧ Pt H p q ∧ 0 < n ∧ n.natAbs < 2 ^ 4000 ∧ ∀ (r : Int) (H' : Hp), 0 ≤ r → r < n → Pt H' p q → Kp p q H H' → Q (.int r) H'
theorem dip_of {vs : List V} {H : Hp} {Q : VK} {E : XK} (h : spDip vs H Q E) : spDipW vs H Q E := by
  obtain ⟨p, q, n, e, hP, n0, n1, k⟩ := h
  exact ⟨p, q, n, e, hP, n0, Nat.lt_trans (show n.natAbs < 1073741824 by omega) (by decide), k⟩
def spPickA : Sp := fun vs H Q _ => ∃ (p q a : Addr) (xs : List V) (o : HO), vs = [.ref p, .ref a] ∧ Pt H p q ∧ H a = some o ∧ ((o = .lst xs ∧ a ≠ p ∧ a ≠ q) ∨ o = .tup xs) ∧ xs ≠ [] ∧ xs.length < 1000 ∧
  ∀ (v : V) (H' : Hp), v ∈ xs → Pt H' p q → Kp p q H H' → Q v H'
theorem pick_of {vs : List V} {H : Hp} {Q : VK} {E : XK} (h : spPick vs H Q E) : spPickA vs H Q E := by
  obtain ⟨p, q, a, xs, e, hP, ha, n1, n2, ne, lt, k⟩ := h
  exact ⟨p, q, a, xs, _, e, hP, ha, .inl ⟨rfl, n1, n2⟩, ne, lt, k⟩
def dD (d : Nat × Nat × Int) : PyData := .tuple [.int d.1, .int d.2.1, .int d.2.2]
def pD (l : List (Nat × Nat × Int)) : PyData := .tuple (l.map dD)
/-- a deed of a machine -/
structure DOk (ss : List Int) (ws : List (Nat × Nat)) (d : Nat × Nat × Int) : Prop where
  wire : (d.1, d.2.1) ∈ ws
  most : d.2.2.natAbs ≤ 10 ^ 60
  step : ∃ a b : Nat, ss[d.1]? = some (a : Int) ∧ ss[d.2.1]? = some (b : Int) ∧ ((stp a b : Nat) : Int) ∣ d.2.2
/-- contents of sizes -/
structure COk (ss hs : List Int) : Prop where
  len : hs.length = ss.length
  low : ∀ (i : Nat) (h s : Int), hs[i]? = some h → ss[i]? = some s → 0 ≤ h ∧ h < s
def spDeed : Sp := fun vs H Q _ => ∃ (p q : Addr) (v : V) (ss : List Int) (ws : List (Nat × Nat)), vs = [.ref p, v] ∧ Pt H p q ∧ Im H v (mD ss ws) ∧ MOk ss ws ∧ ws ≠ [] ∧
  ∀ (u : V) (d : Nat × Nat × Int) (H' : Hp), Im H' u (dD d) → DOk ss ws d → Pt H' p q → Kp p q H H' → Q u H'
def spProgram : Sp := fun vs H Q _ => ∃ (p q : Addr) (v : V) (ss : List Int) (ws : List (Nat × Nat)) (m : Nat), vs = [.ref p, v, .int m] ∧ Pt H p q ∧ Im H v (mD ss ws) ∧ MOk ss ws ∧ m ≤ 900 ∧
  ∀ (u : V) (l : List (Nat × Nat × Int)) (H' : Hp), Im H' u (pD l) → (∀ d ∈ l, DOk ss ws d) → l.length ≤ m → Pt H' p q → Kp p q H H' → Q u H'
def spContents : Sp := fun vs H Q _ => ∃ (p q : Addr) (v : V) (ss : List Int), vs = [.ref p, v] ∧ Pt H p q ∧ Im H v (sD ss) ∧ (∀ s ∈ ss, SizeOk s) ∧ ss.length ≤ 900 ∧
  ∀ (u : V) (hs : List Int) (H' : Hp), Im H' u (sD hs) → COk ss hs → Pt H' p q → Kp p q H H' → Q u H'
theorem SizeOk.nat {s : Int} (h : SizeOk s) : ∃ m : Nat, s = (m : Int) ∧ 2 ≤ m ∧ m ≤ 10 ^ 30 := by
  obtain ⟨m, e, a, b, _⟩ := h
  exact ⟨m, e, a, b⟩
theorem stp_le {a b : Nat} (hb : 0 < b) : 0 < stp a b ∧ stp a b ≤ b := ⟨stp_pos hb, Nat.div_le_self _ _⟩
/-- the law's own deed by deed, of any integers -/
def addI (ns : List Int) (d : Nat × Nat × Int) : List Int := ns.set d.2.1 (ns.getD d.2.1 0 + d.2.2 * ns.getD d.1 0)
def farI (l : List (Nat × Nat × Int)) (ns : List Int) : List Int := l.foldl addI ns
def remI (ns ss : List Int) : List Int := List.zipWith (fun n s => n % s) ns ss
def runI (ss : List Int) (l : List (Nat × Nat × Int)) (ns : List Int) : List Int := remI (farI l ns) ss
theorem addI_len (ns : List Int) (d : Nat × Nat × Int) : (addI ns d).length = ns.length := List.length_set ..
theorem farI_next {l : List (Nat × Nat × Int)} {ns : List Int} {i : Nat} {d : Nat × Nat × Int} (h : l[i]? = some d) : farI (l.take (i + 1)) ns = addI (farI (l.take i) ns) d := by
  unfold farI
  rw [List.take_add_one, h, List.foldl_append]
  rfl
def mostI (B : Nat) (ns : List Int) : Prop := ∀ n ∈ ns, n.natAbs < 2 ^ B
theorem getD_most {B : Nat} {ns : List Int} (h : mostI B ns) (i : Nat) : (ns.getD i 0).natAbs < 2 ^ B := by
  rw [List.getD_eq_getElem?_getD]
  cases e : ns[i]? with
  | none => exact Nat.pow_pos (by decide)
  | some x => exact h x (List.mem_of_getElem? e)
theorem addI_most {B : Nat} {ns : List Int} {d : Nat × Nat × Int} (h : mostI B ns) (hd : d.2.2.natAbs < 2 ^ 200) : mostI (B + 201) (addI ns d) := by
  intro n hn
  have up : 2 ^ B ≤ 2 ^ (B + 200) := Nat.pow_le_pow_right (by decide) (by omega)
  have e2 : 2 ^ (B + 201) = 2 ^ (B + 200) + 2 ^ (B + 200) := by rw [show B + 201 = B + 200 + 1 by omega, Nat.pow_succ]; omega
  rcases List.mem_or_eq_of_mem_set hn with m | e
  · have := h n m
    omega
  · have a := getD_most h d.2.1
    have b := getD_most h d.1
    have c : (d.2.2 * ns.getD d.1 0).natAbs < 2 ^ (B + 200) := by
      rw [Int.natAbs_mul, Nat.pow_add, Nat.mul_comm]
      exact Nat.mul_lt_mul'' b hd
    rw [e]
    have := Int.natAbs_add_le (ns.getD d.2.1 0) (d.2.2 * ns.getD d.1 0)
    omega
def spRunI (K : PySem.W.Frag) : Sp := fun vs H Q _ => ∃ (v u : V) (a : Addr) (ss ns : List Int) (l : List (Nat × Nat × Int)), vs = [v, u, .ref a] ∧ Im H v (sD ss) ∧ Im H u (pD l) ∧ (SqL K H a (ns.map V.int) ∨ SqT K H a (ns.map V.int)) ∧
  ns.length = ss.length ∧ ss.length ≤ 100 ∧ (∀ s ∈ ss, SizeOk s) ∧ (∀ d ∈ l, d.1 < ss.length ∧ d.2.1 < ss.length ∧ d.2.2.natAbs ≤ 10 ^ 60) ∧ l.length ≤ 1000 ∧ mostI 5000 ns ∧
  ∀ (y : V) (H' : Hp), Im H' y (sD (runI ss l ns)) → Same H H' → Q y H'
end NA
namespace NA
open PySem PySem.Spec PyProof.Rows L2
/-! ### tables: data and promises -/
def tD (t : List (List Int)) : PyData := .tuple (t.map sD)
def dot (row hs : List Int) : Int := (List.zipWith (fun e h => e * h) row hs).sum
def ledI (ss : List Int) (t : List (List Int)) (hs : List Int) : List Int := List.zipWith (fun row s => dot row hs % s) t ss
def colI (one : List (List Int)) (j : Nat) : List Int := one.map fun r => r.getD j 0
def bothI (ss : List Int) (one other : List (List Int)) : List (List Int) := List.zipWith (fun row s => (List.range ss.length).map fun j => dot row (colI one j) % s) other ss
def stillI (n : Nat) : List (List Int) := (List.range n).map fun i => (List.range n).map fun j => if i = j then 1 else 0
/-- as many rows as sizes, each as long, entries not too great -/
structure TSh (n : Nat) (t : List (List Int)) : Prop where
  len : t.length = n
  row : ∀ r ∈ t, r.length = n
  most : ∀ r ∈ t, mostI 300 r
/-- a table of sizes -/
structure TOk (ss : List Int) (t : List (List Int)) : Prop where
  len : t.length = ss.length
  row : ∀ r ∈ t, r.length = ss.length
  low : ∀ (i j : Nat) (r : List Int) (e s : Int), t[i]? = some r → r[j]? = some e → ss[i]? = some s → 0 ≤ e ∧ e < s
  step : ∀ (i j : Nat) (r : List Int) (e : Int), t[i]? = some r → r[j]? = some e → i ≠ j → ∃ a b : Nat, ss[j]? = some (a : Int) ∧ ss[i]? = some (b : Int) ∧ ((stp a b : Nat) : Int) ∣ e
theorem Im.row {H : Hp} {vs : List V} {t : List (List Int)} {i : Nat} {r : List Int} (h : ImAll H vs (t.map sD)) (e : t[i]? = some r) : ∃ a, vs[i]? = some (.ref a) ∧ H a = some (.tup (r.map V.int)) := by
  obtain ⟨v, h1, h2⟩ := h.get (i := i) (d := sD r) (by rw [List.getElem?_map, e]; rfl)
  obtain ⟨a, xs, rfl, ha, ix⟩ := h2.tuple
  have := ix.ints
  subst this
  exact ⟨a, h1, ha⟩
def spLed : Sp := fun vs H Q _ => ∃ (x y z : V) (ss : List Int) (t : List (List Int)) (hs : List Int), vs = [x, y, z] ∧ Im H x (sD ss) ∧ Im H y (tD t) ∧ Im H z (sD hs) ∧ (∀ s ∈ ss, SizeOk s) ∧ ss.length ≤ 100 ∧ TSh ss.length t ∧ hs.length = ss.length ∧ mostI 300 hs ∧
  ∀ (u : V) (H' : Hp), Im H' u (sD (ledI ss t hs)) → Same H H' → Q u H'
def spBoth : Sp := fun vs H Q _ => ∃ (x y z : V) (ss : List Int) (one other : List (List Int)), vs = [x, y, z] ∧ Im H x (sD ss) ∧ Im H y (tD one) ∧ Im H z (tD other) ∧ (∀ s ∈ ss, SizeOk s) ∧ ss.length ≤ 100 ∧ TSh ss.length one ∧ TSh ss.length other ∧
  ∀ (u : V) (H' : Hp), Im H' u (tD (bothI ss one other)) → Same H H' → Q u H'
def spStill : Sp := fun vs H Q _ => ∃ (x : V) (ss : List Int), vs = [x] ∧ Im H x (sD ss) ∧ ss.length ≤ 100 ∧ ∀ (u : V) (H' : Hp), Im H' u (tD (stillI ss.length)) → Same H H' → Q u H'
def spTable : Sp := fun vs H Q _ => ∃ (p q : Addr) (v : V) (ss : List Int), vs = [.ref p, v] ∧ Pt H p q ∧ Im H v (sD ss) ∧ (∀ s ∈ ss, SizeOk s) ∧ ss.length ≤ 100 ∧
  ∀ (u : V) (t : List (List Int)) (H' : Hp), Im H' u (tD t) → TOk ss t → Pt H' p q → Kp p q H H' → Q u H'
theorem mul_wide {a b : Int} {A B : Nat} (ha : a.natAbs < 2 ^ A) (hb : b.natAbs < 2 ^ B) (h : A + B + 2 ≤ 900000) : CMulW a b :=
  wide_mul (a := A + 1) (b := B + 1) (Nat.lt_of_lt_of_le ha (Nat.pow_le_pow_right (by decide) (by omega))) (Nat.lt_of_lt_of_le hb (Nat.pow_le_pow_right (by decide) (by omega))) (by omega) (by omega) (by omega)
/-! rows that are lists yet -/
structure Rws (p q R : Addr) (H : Hp) (rs : List Addr) (t : List (List Int)) : Prop where
  top : H R = some (.lst (rs.map V.ref))
  len : rs.length = t.length
  row : ∀ (i : Nat) (a : Addr), rs[i]? = some a → ∃ r, t[i]? = some r ∧ H a = some (.lst (r.map V.int))
  nd : rs.Nodup
  off : ∀ a ∈ rs, a ≠ R ∧ a ≠ p ∧ a ≠ q
theorem Rws.kp {p q R : Addr} {H H' : Hp} {rs : List Addr} {t : List (List Int)} (h : Rws p q R H rs t) (nR : R ≠ p ∧ R ≠ q) (k : Kp p q H H') : Rws p q R H' rs t :=
  ⟨k _ _ nR.1 nR.2 h.top, h.len, fun i a e => by
    obtain ⟨r, h1, h2⟩ := h.row i a e
    have o := h.off a (List.mem_of_getElem? e)
    exact ⟨r, h1, k _ _ o.2.1 o.2.2 h2⟩, h.nd, h.off⟩
theorem Rws.same {p q R : Addr} {H H' : Hp} {rs : List Addr} {t : List (List Int)} (h : Rws p q R H rs t) (k : Same H H') : Rws p q R H' rs t :=
  ⟨k _ _ h.top, h.len, fun i a e => by
    obtain ⟨r, h1, h2⟩ := h.row i a e
    exact ⟨r, h1, k _ _ h2⟩, h.nd, h.off⟩
theorem Rws.set {p q R : Addr} {H : Hp} {rs : List Addr} {t : List (List Int)} (h : Rws p q R H rs t) {i : Nat} {a : Addr} (e : rs[i]? = some a) (r : List Int) : Rws p q R (upd H a (.lst (r.map V.int))) rs (t.set i r) := by
  have o := h.off a (List.mem_of_getElem? e)
  refine ⟨?_, by rw [List.length_set]; exact h.len, fun j b eb => ?_, h.nd, h.off⟩
  · rw [upd_ne (Ne.symm o.1)]
    exact h.top
  · have li : i < t.length := by rw [← h.len]; exact (List.getElem?_eq_some_iff.mp e).1
    by_cases ij : i = j
    · subst ij
      rw [e] at eb
      cases eb
      exact ⟨r, by rw [List.getElem?_set_self li], upd_same⟩
    · obtain ⟨r', h1, h2⟩ := h.row j b eb
      refine ⟨r', by rw [List.getElem?_set_ne ij]; exact h1, ?_⟩
      have nb : b ≠ a := fun z => by
        subst z
        obtain ⟨l1, g1⟩ := List.getElem?_eq_some_iff.mp e
        obtain ⟨l2, g2⟩ := List.getElem?_eq_some_iff.mp eb
        rcases Nat.lt_or_gt_of_ne ij with lt | lt
        · exact (List.pairwise_iff_getElem.mp h.nd i j l1 l2 lt) (g1.trans g2.symm)
        · exact (List.pairwise_iff_getElem.mp h.nd j i l2 l1 lt) (g2.trans g1.symm)
      rw [upd_ne nb]
      exact h2
theorem Rws.put {p q R a : Addr} {H : Hp} {rs : List Addr} {t : List (List Int)} {r : List Int} (h : Rws p q R H rs t) (nR : R ≠ p ∧ R ≠ q) (ha : H a = some (.lst (r.map V.int))) (n1 : a ∉ rs) (n2 : a ≠ R ∧ a ≠ p ∧ a ≠ q) : Rws p q R (upd H R (.lst (rs.map V.ref ++ [.ref a]))) (rs ++ [a]) (t ++ [r]) := by
  refine ⟨by rw [upd_same, List.map_append]; rfl, by rw [List.length_append, List.length_append, h.len]; rfl, fun i b eb => ?_, ?_, fun b hb => ?_⟩
  · by_cases e : i < rs.length
    · rw [List.getElem?_append_left e] at eb
      obtain ⟨r', h1, h2⟩ := h.row i b eb
      have o := h.off b (List.mem_of_getElem? eb)
      exact ⟨r', by rw [List.getElem?_append_left (by rw [← h.len]; exact e)]; exact h1, by rw [upd_ne o.1]; exact h2⟩
    · rw [List.getElem?_append_right (by omega)] at eb
      have z : i - rs.length = 0 := by
        have := (List.getElem?_eq_some_iff.mp eb).1
        rw [List.length_singleton] at this
        omega
      rw [z] at eb
      cases eb
      refine ⟨r, by rw [List.getElem?_append_right (by have := h.len; omega), ← h.len, z]; rfl, by rw [upd_ne n2.1]; exact ha⟩
  · refine List.nodup_append.mpr ⟨h.nd, List.pairwise_singleton _ a, fun x hx y hy e => ?_⟩
    rw [List.mem_singleton.mp hy] at e
    exact n1 (e ▸ hx)
  · rcases List.mem_append.mp hb with hb | hb
    · exact h.off b hb
    · rw [List.mem_singleton.mp hb]
      exact n2
theorem stp_dvd (a b : Nat) : stp a b ∣ b := Nat.div_dvd_of_dvd (Nat.gcd_dvd_left b a)
theorem TOk.still {ss : List Int} (ok : ∀ s ∈ ss, SizeOk s) : TOk ss (stillI ss.length) := by
  have g : ∀ (i j : Nat) (r : List Int) (e : Int), (stillI ss.length)[i]? = some r → r[j]? = some e → i < ss.length ∧ j < ss.length ∧ e = if i = j then 1 else 0 := fun i j r e h1 h2 => by
    unfold stillI at h1
    rw [List.getElem?_map] at h1
    have li : i < ss.length := Nat.lt_of_not_le fun z => by
      rw [List.getElem?_eq_none (by rw [List.length_range]; exact z)] at h1
      cases h1
    rw [List.getElem?_eq_getElem (by rw [List.length_range]; exact li), List.getElem_range] at h1
    cases h1
    rw [List.getElem?_map] at h2
    have lj : j < ss.length := Nat.lt_of_not_le fun z => by
      rw [List.getElem?_eq_none (by rw [List.length_range]; exact z)] at h2
      cases h2
    rw [List.getElem?_eq_getElem (by rw [List.length_range]; exact lj), List.getElem_range] at h2
    cases h2
    exact ⟨li, lj, rfl⟩
  refine ⟨by unfold stillI; rw [List.length_map, List.length_range], fun r hr => ?_, fun i j r e s h1 h2 h3 => ?_, fun i j r e h1 h2 n => ?_⟩
  · obtain ⟨i, _, rfl⟩ := List.mem_map.mp hr
    rw [List.length_map, List.length_range]
  · obtain ⟨li, lj, rfl⟩ := g i j r e h1 h2
    obtain ⟨m, rfl, m2, _⟩ := (ok s (List.mem_of_getElem? h3)).nat
    split <;> omega
  · obtain ⟨li, lj, rfl⟩ := g i j r e h1 h2
    rw [if_neg n]
    obtain ⟨m, em, _⟩ := (ok ss[j] (List.getElem_mem lj)).nat
    obtain ⟨k, ek, _⟩ := (ok ss[i] (List.getElem_mem li)).nat
    exact ⟨m, k, by rw [List.getElem?_eq_getElem lj, em], by rw [List.getElem?_eq_getElem li, ek], Int.dvd_zero _⟩
theorem TOk.set {ss : List Int} {t : List (List Int)} (h : TOk ss t) {i j : Nat} {r : List Int} {e : Int} (hi : t[i]? = some r) (low : ∀ s, ss[i]? = some s → 0 ≤ e ∧ e < s) (st : i ≠ j → ∃ a b : Nat, ss[j]? = some (a : Int) ∧ ss[i]? = some (b : Int) ∧ ((stp a b : Nat) : Int) ∣ e) : TOk ss (t.set i (r.set j e)) := by
  have li : i < t.length := (List.getElem?_eq_some_iff.mp hi).1
  have g : ∀ (k l : Nat) (r' : List Int) (e' : Int), (t.set i (r.set j e))[k]? = some r' → r'[l]? = some e' → (k = i ∧ l = j ∧ e' = e) ∨ ∃ r'', t[k]? = some r'' ∧ r''[l]? = some e' := fun k l r' e' h1 h2 => by
    by_cases ik : i = k
    · subst ik
      rw [List.getElem?_set_self li] at h1
      cases h1
      by_cases jl : j = l
      · subst jl
        have lj : j < r.length := Nat.lt_of_not_le fun z => by
          rw [List.getElem?_eq_none (by rw [List.length_set]; exact z)] at h2
          cases h2
        rw [List.getElem?_set_self lj] at h2
        cases h2
        exact .inl ⟨rfl, rfl, rfl⟩
      · rw [List.getElem?_set_ne jl] at h2
        exact .inr ⟨r, hi, h2⟩
    · rw [List.getElem?_set_ne ik] at h1
      exact .inr ⟨r', h1, h2⟩
  refine ⟨by rw [List.length_set]; exact h.len, fun r' hr => ?_, fun k l r' e' s h1 h2 h3 => ?_, fun k l r' e' h1 h2 n => ?_⟩
  · rcases List.mem_or_eq_of_mem_set hr with m | m
    · exact h.row r' m
    · rw [m, List.length_set]
      exact h.row r (List.mem_of_getElem? hi)
  · rcases g k l r' e' h1 h2 with ⟨rfl, rfl, rfl⟩ | ⟨r'', a, b⟩
    · exact low s h3
    · exact h.low k l r'' e' s a b h3
  · rcases g k l r' e' h1 h2 with ⟨rfl, rfl, rfl⟩ | ⟨r'', a, b⟩
    · exact st n
    · exact h.step k l r'' e' a b n
end NA
namespace NA
/-! ### the mathematics of deeds -/
theorem mod_eq {a b s : Int} : a % s = b % s ↔ s ∣ a - b := by
  rw [Int.emod_eq_emod_iff_emod_sub_eq_zero, Int.dvd_iff_emod_eq_zero]
theorem stp_hit {a b : Nat} {c : Int} (h : ((stp a b : Nat) : Int) ∣ c) : (b : Int) ∣ c * (a : Int) := by
  obtain ⟨k, rfl⟩ := h
  have e : b ∣ stp a b * a := by
    unfold stp
    obtain ⟨t, ht⟩ := Nat.gcd_dvd_right b a
    refine ⟨t, ?_⟩
    have d := Nat.div_mul_cancel (Nat.gcd_dvd_left b a)
    calc b / Nat.gcd b a * a = b / Nat.gcd b a * (Nat.gcd b a * t) := by rw [← ht]
      _ = b / Nat.gcd b a * Nat.gcd b a * t := by rw [Nat.mul_assoc]
      _ = b * t := by rw [d]
  have e2 : (b : Int) ∣ ((stp a b : Nat) : Int) * (a : Int) := by
    rw [← Int.natCast_mul]
    exact Int.natCast_dvd_natCast.mpr e
  rw [Int.mul_assoc, Int.mul_comm k, ← Int.mul_assoc]
  exact Int.dvd_trans e2 (Int.dvd_mul_right _ _)
/-- alike modulo the sizes -/
structure Cg (ss ns ms : List Int) : Prop where
  l1 : ns.length = ss.length
  l2 : ms.length = ss.length
  alike : ∀ (i : Nat) (s : Int), ss[i]? = some s → s ∣ ns.getD i 0 - ms.getD i 0
theorem Cg.refl {ss ns : List Int} (h : ns.length = ss.length) : Cg ss ns ns := ⟨h, h, fun i s _ => by rw [Int.sub_self]; exact Int.dvd_zero _⟩
theorem Cg.symm {ss ns ms : List Int} (h : Cg ss ns ms) : Cg ss ms ns := ⟨h.l2, h.l1, fun i s e => by
  have := h.alike i s e
  rw [← Int.neg_sub]
  exact Int.dvd_neg.mpr this⟩
theorem Cg.trans {ss ns ms ks : List Int} (h : Cg ss ns ms) (g : Cg ss ms ks) : Cg ss ns ks := ⟨h.l1, g.l2, fun i s e => by
  have a := h.alike i s e
  have b := g.alike i s e
  have := Int.dvd_add a b
  rwa [show ns.getD i 0 - ms.getD i 0 + (ms.getD i 0 - ks.getD i 0) = ns.getD i 0 - ks.getD i 0 by omega] at this⟩
theorem getD_set {ns : List Int} {i j : Nat} {x : Int} (h : i < ns.length) : (ns.set i x).getD j 0 = if i = j then x else ns.getD j 0 := by
  rw [List.getD_eq_getElem?_getD, List.getD_eq_getElem?_getD]
  by_cases e : i = j
  · subst e
    rw [List.getElem?_set_self h, if_pos rfl]
    rfl
  · rw [List.getElem?_set_ne e, if_neg e]
/-- a deed with its places among the sizes -/
structure DIn (ss : List Int) (d : Nat × Nat × Int) : Prop where
  lj : d.1 < ss.length
  li : d.2.1 < ss.length
  ne : d.1 ≠ d.2.1
  hit : ∀ a b : Int, ss[d.1]? = some a → ss[d.2.1]? = some b → b ∣ d.2.2 * a
theorem DOk.din {ss : List Int} {ws : List (Nat × Nat)} {d : Nat × Nat × Int} (h : DOk ss ws d) (ok : MOk ss ws) : DIn ss d := by
  obtain ⟨a, b, c⟩ := ok.wires.low _ h.wire
  obtain ⟨x, y, hx, hy, st⟩ := h.step
  refine ⟨a, b, c, fun p q hp hq => ?_⟩
  rw [hx] at hp
  rw [hy] at hq
  cases hp
  cases hq
  exact stp_hit st
theorem addI_getD {ns : List Int} {d : Nat × Nat × Int} (h : d.2.1 < ns.length) (j : Nat) : (addI ns d).getD j 0 = if d.2.1 = j then ns.getD d.2.1 0 + d.2.2 * ns.getD d.1 0 else ns.getD j 0 := getD_set h
theorem get_some {ss : List Int} {i : Nat} (h : i < ss.length) : ∃ s, ss[i]? = some s := ⟨ss[i], List.getElem?_eq_getElem h⟩
theorem Cg.add {ss ns ms : List Int} {d : Nat × Nat × Int} (h : Cg ss ns ms) (hd : DIn ss d) : Cg ss (addI ns d) (addI ms d) := by
  refine ⟨by rw [addI_len, h.l1], by rw [addI_len, h.l2], fun k s e => ?_⟩
  rw [addI_getD (by rw [h.l1]; exact hd.li), addI_getD (by rw [h.l2]; exact hd.li)]
  by_cases z : d.2.1 = k
  · subst z
    rw [if_pos rfl, if_pos rfl]
    obtain ⟨a, ha⟩ := get_some hd.lj
    obtain ⟨t, ht⟩ := h.alike d.1 a ha
    have e1 := h.alike _ s e
    have e2 : s ∣ d.2.2 * (ns.getD d.1 0 - ms.getD d.1 0) := by
      rw [ht, ← Int.mul_assoc]
      exact Int.dvd_trans (hd.hit a s ha e) (Int.dvd_mul_right _ _)
    have := Int.dvd_add e1 e2
    rwa [show ns.getD d.2.1 0 - ms.getD d.2.1 0 + d.2.2 * (ns.getD d.1 0 - ms.getD d.1 0) = ns.getD d.2.1 0 + d.2.2 * ns.getD d.1 0 - (ms.getD d.2.1 0 + d.2.2 * ms.getD d.1 0) by rw [Int.mul_sub]; omega] at this
  · rw [if_neg z, if_neg z]
    exact h.alike k s e
theorem Cg.far {ss : List Int} {l : List (Nat × Nat × Int)} (hl : ∀ d ∈ l, DIn ss d) : ∀ {ns ms : List Int}, Cg ss ns ms → Cg ss (farI l ns) (farI l ms) := by
  induction l with
  | nil => exact fun h => h
  | cons d l ih => exact fun h => ih (fun x hx => hl x (List.mem_cons_of_mem _ hx)) (h.add (hl d List.mem_cons_self))
theorem remI_getD {ns ss : List Int} {i : Nat} {s : Int} (h : ns.length = ss.length) (e : ss[i]? = some s) : (remI ns ss).getD i 0 = ns.getD i 0 % s := by
  have li := (List.getElem?_eq_some_iff.mp e).1
  have z : ns[i]? = some (ns.getD i 0) := by
    rw [List.getD_eq_getElem?_getD, List.getElem?_eq_getElem (by omega)]
    rfl
  rw [List.getD_eq_getElem?_getD]
  unfold remI
  rw [List.getElem?_zipWith, z, e]
  rfl
theorem remI_length {ns ss : List Int} (h : ns.length = ss.length) : (remI ns ss).length = ss.length := by
  unfold remI
  rw [List.length_zipWith]
  omega
theorem ext_getD {ns ms : List Int} (h : ns.length = ms.length) (e : ∀ i, i < ns.length → ns.getD i 0 = ms.getD i 0) : ns = ms := by
  refine List.ext_getElem h fun i h1 h2 => ?_
  have := e i h1
  rwa [List.getD_eq_getElem?_getD, List.getD_eq_getElem?_getD, List.getElem?_eq_getElem h1, List.getElem?_eq_getElem h2] at this
theorem Cg.rem {ss ns ms : List Int} (h : Cg ss ns ms) : remI ns ss = remI ms ss := by
  refine ext_getD (by rw [remI_length h.l1, remI_length h.l2]) fun i hi => ?_
  rw [remI_length h.l1] at hi
  obtain ⟨s, hs⟩ := get_some hi
  rw [remI_getD h.l1 hs, remI_getD h.l2 hs]
  exact mod_eq.mpr (h.alike i s hs)
theorem cg_rem {ss ns : List Int} (h : ns.length = ss.length) : Cg ss (remI ns ss) ns := ⟨remI_length h, h, fun i s e => by
  rw [remI_getD h e, Int.emod_def]
  exact ⟨-(ns.getD i 0 / s), by rw [Int.mul_neg]; omega⟩⟩
theorem rem_of {ss hs : List Int} (h : COk ss hs) : remI hs ss = hs := by
  refine ext_getD (by rw [remI_length h.len, h.len]) fun i hi => ?_
  rw [remI_length h.len] at hi
  obtain ⟨s, es⟩ := get_some hi
  rw [remI_getD h.len es]
  obtain ⟨x, ex⟩ := get_some (show i < hs.length by rw [h.len]; exact hi)
  obtain ⟨a, b⟩ := h.low i x s ex es
  rw [List.getD_eq_getElem?_getD, ex]
  exact Int.emod_eq_of_lt a b
theorem rem_cok {ss ns : List Int} (ok : ∀ s ∈ ss, SizeOk s) (h : ns.length = ss.length) : COk ss (remI ns ss) := by
  refine ⟨remI_length h, fun i x s ex es => ?_⟩
  have := remI_getD h es
  rw [List.getD_eq_getElem?_getD, ex] at this
  obtain ⟨m, rfl, m2, _⟩ := (ok s (List.mem_of_getElem? es)).nat
  have e : x = ns.getD i 0 % (m : Int) := this
  rw [e]
  exact ⟨Int.emod_nonneg _ (by omega), Int.emod_lt_of_pos _ (by omega)⟩
/-- deed by deed, each register modulo its size -/
def doneI (ss hs : List Int) (d : Nat × Nat × Int) : List Int := remI (addI hs d) ss
def runP (ss : List Int) (l : List (Nat × Nat × Int)) (hs : List Int) : List Int := l.foldl (doneI ss) hs
theorem runP_cg {ss : List Int} {l : List (Nat × Nat × Int)} (hl : ∀ d ∈ l, DIn ss d) : ∀ {hs ns : List Int}, Cg ss hs ns → Cg ss (runP ss l hs) (farI l ns) := by
  induction l with
  | nil => exact fun h => h
  | cons d l ih =>
    intro hs ns h
    have a := h.add (hl d List.mem_cons_self)
    exact ih (fun x hx => hl x (List.mem_cons_of_mem _ hx)) ((cg_rem a.l1).trans a)
theorem runP_cok {ss : List Int} (ok : ∀ s ∈ ss, SizeOk s) {l : List (Nat × Nat × Int)} : ∀ {hs : List Int}, COk ss hs → COk ss (runP ss l hs) := by
  induction l with
  | nil => exact fun h => h
  | cons d l ih => exact fun h => ih (rem_cok ok (by rw [addI_len, h.len]))
/-- what deeds do one by one is what they do in the whole -/
theorem runP_eq {ss : List Int} (ok : ∀ s ∈ ss, SizeOk s) {l : List (Nat × Nat × Int)} (hl : ∀ d ∈ l, DIn ss d) {hs ns : List Int} (h : COk ss hs) (g : Cg ss hs ns) : runP ss l hs = runI ss l ns := by
  have a := runP_cg hl g
  have b := rem_of (runP_cok (l := l) ok h)
  rw [← b]
  exact a.rem
/-- backward -/
def backI (l : List (Nat × Nat × Int)) : List (Nat × Nat × Int) := (l.map fun d => (d.1, d.2.1, -d.2.2)).reverse
theorem DIn.neg {ss : List Int} {d : Nat × Nat × Int} (h : DIn ss d) : DIn ss (d.1, d.2.1, -d.2.2) := ⟨h.lj, h.li, h.ne, fun a b ha hb => by
  rw [Int.neg_mul]
  exact Int.dvd_neg.mpr (h.hit a b ha hb)⟩
theorem add_back {ns : List Int} {d : Nat × Nat × Int} (hj : d.2.1 < ns.length) (ne : d.1 ≠ d.2.1) : addI (addI ns d) (d.1, d.2.1, -d.2.2) = ns := by
  refine ext_getD (by rw [addI_len, addI_len]) fun k hk => ?_
  rw [addI_getD (by rw [addI_len]; exact hj)]
  by_cases e : d.2.1 = k
  · rw [if_pos e, addI_getD hj, addI_getD hj, if_pos rfl, if_neg (Ne.symm ne), ← e, Int.neg_mul]
    dsimp only
    omega
  · rw [if_neg e, addI_getD hj, if_neg e]
theorem far_app (l m : List (Nat × Nat × Int)) (ns : List Int) : farI (l ++ m) ns = farI m (farI l ns) := List.foldl_append
theorem far_back {ss : List Int} {l : List (Nat × Nat × Int)} (hl : ∀ d ∈ l, DIn ss d) : ∀ {ns : List Int}, ns.length = ss.length → farI (backI l) (farI l ns) = ns := by
  induction l with
  | nil => exact fun _ => rfl
  | cons d l ih =>
    intro ns h
    have a := ih (fun x hx => hl x (List.mem_cons_of_mem _ hx)) (ns := addI ns d) (by rw [addI_len, h])
    have dd := hl d List.mem_cons_self
    have e : backI (d :: l) = backI l ++ [(d.1, d.2.1, -d.2.2)] := by
      unfold backI
      rw [List.map_cons, List.reverse_cons]
    rw [e, far_app]
    show addI (farI (backI l) (farI l (addI ns d))) _ = ns
    rw [a]
    exact add_back (by rw [h]; exact dd.li) dd.ne
theorem back_din {ss : List Int} {l : List (Nat × Nat × Int)} (hl : ∀ d ∈ l, DIn ss d) : ∀ d ∈ backI l, DIn ss d := fun d hd => by
  unfold backI at hd
  obtain ⟨x, hx, rfl⟩ := List.mem_map.mp (List.mem_reverse.mp hd)
  exact (hl x hx).neg
theorem runP_back {ss : List Int} (ok : ∀ s ∈ ss, SizeOk s) {l : List (Nat × Nat × Int)} (hl : ∀ d ∈ l, DIn ss d) {hs : List Int} (h : COk ss hs) : runP ss (backI l) (runP ss l hs) = hs := by
  have a := runP_cg hl (Cg.refl h.len)
  rw [runP_eq ok (back_din hl) (runP_cok ok h) a]
  unfold runI
  rw [far_back hl h.len, rem_of h]
/-- sums -/
def sumI (ns ms : List Int) : List Int := List.zipWith (fun a b => a + b) ns ms
theorem sumI_len {ns ms : List Int} {n : Nat} (h : ns.length = n) (g : ms.length = n) : (sumI ns ms).length = n := by
  unfold sumI
  rw [List.length_zipWith]
  omega
theorem sumI_getD {ns ms : List Int} (h : ns.length = ms.length) (i : Nat) : (sumI ns ms).getD i 0 = ns.getD i 0 + ms.getD i 0 := by
  rw [List.getD_eq_getElem?_getD, List.getD_eq_getElem?_getD, List.getD_eq_getElem?_getD]
  unfold sumI
  rw [List.getElem?_zipWith]
  by_cases e : i < ns.length
  · rw [List.getElem?_eq_getElem e, List.getElem?_eq_getElem (by omega)]
    rfl
  · rw [List.getElem?_eq_none (by omega), List.getElem?_eq_none (by omega)]
    rfl
theorem add_sum {ns ms : List Int} {d : Nat × Nat × Int} (h : ns.length = ms.length) (hi : d.2.1 < ns.length) : addI (sumI ns ms) d = sumI (addI ns d) (addI ms d) := by
  have l1 : (sumI ns ms).length = ns.length := sumI_len rfl h.symm
  refine ext_getD (by rw [addI_len, l1, sumI_len (addI_len ns d) (by rw [addI_len, h])]) fun k hk => ?_
  rw [addI_getD (by omega), sumI_getD (ns := addI ns d) (ms := addI ms d) (by rw [addI_len, addI_len, h]), addI_getD hi, addI_getD (ns := ms) (by omega), sumI_getD h, sumI_getD h, sumI_getD h, Int.mul_add]
  split <;> omega
theorem far_sum {l : List (Nat × Nat × Int)} : ∀ {ns ms : List Int}, ns.length = ms.length → (∀ d ∈ l, d.2.1 < ns.length) → farI l (sumI ns ms) = sumI (farI l ns) (farI l ms) := by
  induction l with
  | nil => exact fun _ _ => rfl
  | cons d l ih =>
    intro ns ms h hl
    show farI l (addI (sumI ns ms) d) = sumI (farI l (addI ns d)) (farI l (addI ms d))
    rw [add_sum h (hl d List.mem_cons_self)]
    exact ih (by rw [addI_len, addI_len, h]) fun x hx => by rw [addI_len]; exact hl x (List.mem_cons_of_mem _ hx)
end NA
namespace NA
/-! ### sums -/
def sumF : Nat → (Nat → Int) → Int
  | 0, _ => 0
  | n + 1, F => F 0 + sumF n fun k => F (k + 1)
theorem sumF_congr : ∀ {n : Nat} {F G : Nat → Int}, (∀ k, k < n → F k = G k) → sumF n F = sumF n G
  | 0, _, _, _ => rfl
  | n + 1, F, G, h => by
    show F 0 + _ = G 0 + _
    rw [h 0 (by omega), sumF_congr fun k hk => h (k + 1) (by omega)]
theorem sumF_add : ∀ (n : Nat) (F G : Nat → Int), sumF n (fun k => F k + G k) = sumF n F + sumF n G
  | 0, _, _ => rfl
  | n + 1, F, G => by
    show F 0 + G 0 + sumF n (fun k => F (k + 1) + G (k + 1)) = F 0 + sumF n _ + (G 0 + sumF n _)
    rw [sumF_add n]
    omega
theorem sumF_mul (c : Int) : ∀ (n : Nat) (F : Nat → Int), sumF n (fun k => c * F k) = c * sumF n F
  | 0, _ => by show (0 : Int) = c * 0; rw [Int.mul_zero]
  | n + 1, F => by
    show c * F 0 + sumF n (fun k => c * F (k + 1)) = c * (F 0 + sumF n _)
    rw [sumF_mul c n, Int.mul_add]
theorem sumF_zero : ∀ (n : Nat), sumF n (fun _ => 0) = 0
  | 0 => rfl
  | n + 1 => by
    show (0 : Int) + sumF n (fun _ => 0) = 0
    rw [sumF_zero n]
    rfl
theorem sumF_swap : ∀ (n m : Nat) (F : Nat → Nat → Int), sumF n (fun j => sumF m fun k => F j k) = sumF m (fun k => sumF n fun j => F j k)
  | 0, m, F => (sumF_zero m).symm
  | n + 1, m, F => by
    show sumF m (fun k => F 0 k) + sumF n (fun j => sumF m fun k => F (j + 1) k) = sumF m (fun k => F 0 k + sumF n fun j => F (j + 1) k)
    rw [sumF_add, sumF_swap n]
theorem sumF_dvd {s : Int} : ∀ {n : Nat} {F : Nat → Int}, (∀ k, k < n → s ∣ F k) → s ∣ sumF n F
  | 0, _, _ => Int.dvd_zero _
  | n + 1, F, h => Int.dvd_add (h 0 (by omega)) (sumF_dvd fun k hk => h (k + 1) (by omega))
theorem sumF_alike {s : Int} {n : Nat} {F G : Nat → Int} (h : ∀ k, k < n → s ∣ F k - G k) : s ∣ sumF n F - sumF n G := by
  have := sumF_dvd h
  rw [show sumF n (fun k => F k - G k) = sumF n F - sumF n G from ?_] at this
  · exact this
  · have e := sumF_add n (fun k => F k - G k) G
    rw [show (fun k => F k - G k + G k) = F from funext fun k => by omega] at e
    omega
theorem sumF_one (n i : Nat) (F : Nat → Int) (h : i < n) : sumF n (fun k => (if i = k then 1 else 0) * F k) = F i := by
  induction n generalizing i F with
  | zero => omega
  | succ n ih =>
    show (if i = 0 then 1 else 0) * F 0 + sumF n (fun k => (if i = k + 1 then 1 else 0) * F (k + 1)) = F i
    cases i with
    | zero =>
      rw [if_pos rfl, sumF_congr (G := fun _ => 0) fun k _ => by rw [if_neg (by omega), Int.zero_mul], sumF_zero]
      omega
    | succ i =>
      rw [if_neg (by omega), sumF_congr (G := fun k => (if i = k then 1 else 0) * F (k + 1)) fun k _ => by
        by_cases e : i = k
        · rw [if_pos e, if_pos (by omega)]
        · rw [if_neg e, if_neg (by omega)], ih i (fun k => F (k + 1)) (by omega)]
      omega
theorem dot_sum : ∀ {row hs : List Int} {n : Nat}, row.length = n → hs.length = n → dot row hs = sumF n fun k => row.getD k 0 * hs.getD k 0
  | [], [], _, e, _ => by subst e; rfl
  | r :: row, h :: hs, n + 1, e1, e2 => by
    have a := dot_sum (row := row) (hs := hs) (n := n) (by simpa using e1) (by simpa using e2)
    unfold dot at a ⊢
    rw [List.zipWith_cons_cons, List.sum_cons, a]
    rfl
  | [], _ :: _, _, e1, e2 => by rw [← e1] at e2; cases e2
  | _ :: _, [], _, e1, e2 => by rw [← e1] at e2; cases e2
  | _ :: _, _ :: _, 0, e1, _ => by cases e1
/-! ### tables by their entries -/
def en (t : List (List Int)) (i j : Nat) : Int := (t.getD i []).getD j 0
theorem en_of {t : List (List Int)} {i : Nat} {r : List Int} (h : t[i]? = some r) (j : Nat) : en t i j = r.getD j 0 := by
  unfold en
  have e : t.getD i [] = r := by
    rw [List.getD_eq_getElem?_getD, h]
    rfl
  rw [e]
/-- of the right form -/
structure Sq (n : Nat) (t : List (List Int)) : Prop where
  len : t.length = n
  row : ∀ r ∈ t, r.length = n
theorem TOk.sq {ss : List Int} {t : List (List Int)} (h : TOk ss t) : Sq ss.length t := ⟨h.len, h.row⟩
theorem Sq.get {n : Nat} {t : List (List Int)} (h : Sq n t) {i : Nat} (hi : i < n) : ∃ r, t[i]? = some r ∧ r.length = n := by
  have hi' : i < t.length := by rw [h.len]; exact hi
  exact ⟨t[i], List.getElem?_eq_getElem hi', h.row _ (List.getElem_mem hi')⟩
theorem sq_ext {n : Nat} {t u : List (List Int)} (a : Sq n t) (b : Sq n u) (e : ∀ i j, i < n → j < n → en t i j = en u i j) : t = u := by
  refine List.ext_getElem (by rw [a.len, b.len]) fun i h1 h2 => ?_
  have hi : i < n := by rw [← a.len]; exact h1
  refine ext_getD (by rw [a.row _ (List.getElem_mem h1), b.row _ (List.getElem_mem h2)]) fun j hj => ?_
  have := e i j hi (by rw [← a.row _ (List.getElem_mem h1)]; exact hj)
  rwa [en_of (List.getElem?_eq_getElem h1), en_of (List.getElem?_eq_getElem h2)] at this
theorem led_getD {ss : List Int} {t : List (List Int)} {hs : List Int} (q : Sq ss.length t) (lh : hs.length = ss.length) {i : Nat} {s : Int} (e : ss[i]? = some s) : (ledI ss t hs).getD i 0 = (sumF ss.length fun j => en t i j * hs.getD j 0) % s := by
  have hi := (List.getElem?_eq_some_iff.mp e).1
  obtain ⟨r, hr, rl⟩ := q.get hi
  rw [List.getD_eq_getElem?_getD]
  unfold ledI
  rw [List.getElem?_zipWith, hr, e]
  show dot r hs % s = _
  rw [dot_sum rl lh]
  congr 1
  exact sumF_congr fun j _ => by rw [en_of hr]
theorem led_len {ss : List Int} {t : List (List Int)} {hs : List Int} (q : Sq ss.length t) : (ledI ss t hs).length = ss.length := by
  unfold ledI
  rw [List.length_zipWith, q.len, Nat.min_self]
theorem both_get {ss : List Int} {one other : List (List Int)} {i : Nat} {r : List Int} {s : Int} (hr : other[i]? = some r) (e : ss[i]? = some s) : (bothI ss one other)[i]? = some ((List.range ss.length).map fun j => dot r (colI one j) % s) := by
  unfold bothI
  rw [List.getElem?_zipWith, hr, e]
theorem both_sq {ss : List Int} {one other : List (List Int)} (q : Sq ss.length other) : Sq ss.length (bothI ss one other) := by
  have l : (bothI ss one other).length = ss.length := by
    unfold bothI
    rw [List.length_zipWith, q.len, Nat.min_self]
  refine ⟨l, fun r hr => ?_⟩
  obtain ⟨i, hi, rfl⟩ := List.getElem_of_mem hr
  obtain ⟨s, es⟩ := get_some (show i < ss.length by omega)
  obtain ⟨r0, hr0, _⟩ := q.get (show i < ss.length by omega)
  have := both_get (one := one) hr0 es
  rw [List.getElem?_eq_getElem hi] at this
  rw [Option.some.inj this, List.length_map, List.length_range]
theorem both_en {ss : List Int} {one other : List (List Int)} (q1 : Sq ss.length one) (q2 : Sq ss.length other) {i j : Nat} {s : Int} (e : ss[i]? = some s) (hj : j < ss.length) : en (bothI ss one other) i j = (sumF ss.length fun k => en other i k * en one k j) % s := by
  have hi := (List.getElem?_eq_some_iff.mp e).1
  obtain ⟨r, hr, rl⟩ := q2.get hi
  rw [en_of (both_get hr e), List.getD_eq_getElem?_getD, List.getElem?_map, List.getElem?_eq_getElem (by rw [List.length_range]; exact hj), List.getElem_range]
  show dot r (colI one j) % s = _
  rw [dot_sum (n := ss.length) rl (by unfold colI; rw [List.length_map, q1.len])]
  congr 1
  refine sumF_congr fun k hk => ?_
  obtain ⟨r1, hr1, _⟩ := q1.get hk
  rw [en_of hr, en_of hr1]
  congr 1
  rw [List.getD_eq_getElem?_getD]
  unfold colI
  rw [List.getElem?_map, hr1]
  rfl
/-- entries that give what they must -/
def Hit (ss : List Int) (t : List (List Int)) : Prop := ∀ (i j : Nat) (s r : Int), ss[i]? = some s → ss[j]? = some r → s ∣ en t i j * r
theorem TOk.hit {ss : List Int} {t : List (List Int)} (h : TOk ss t) : Hit ss t := by
  intro i j s r hs hr
  by_cases e : i = j
  · subst e
    rw [hs] at hr
    cases hr
    exact Int.dvd_mul_left _ _
  · obtain ⟨row, hrow, rl⟩ := h.sq.get (List.getElem?_eq_some_iff.mp hs).1
    have hj := (List.getElem?_eq_some_iff.mp hr).1
    have ej : row[j]? = some (row.getD j 0) := by
      rw [List.getD_eq_getElem?_getD, List.getElem?_eq_getElem (by omega)]
      rfl
    obtain ⟨a, b, ha, hb, st⟩ := h.step i j row _ hrow ej e
    rw [hr] at ha
    rw [hs] at hb
    cases ha
    cases hb
    rw [en_of hrow]
    exact stp_hit st
/-- the sums over rests are alike the sums over what left them -/
theorem hit_sum {ss : List Int} {t : List (List Int)} (h : Hit ss t) {i : Nat} {s : Int} (e : ss[i]? = some s) {F G : Nat → Int} (fg : ∀ (k : Nat) (r : Int), ss[k]? = some r → r ∣ F k - G k) : s ∣ (sumF ss.length fun k => en t i k * F k) - sumF ss.length fun k => en t i k * G k := by
  refine sumF_alike fun k hk => ?_
  obtain ⟨r, hr⟩ := get_some hk
  obtain ⟨x, hx⟩ := fg k r hr
  rw [← Int.mul_sub, hx, ← Int.mul_assoc]
  exact Int.dvd_trans (h i k s r e hr) (Int.dvd_mul_right _ _)
theorem mod_sub (a s : Int) : s ∣ a % s - a := by
  rw [Int.emod_def]
  exact ⟨-(a / s), by rw [Int.mul_neg]; omega⟩
theorem dvd_sub_comm {a b s : Int} (h : s ∣ a - b) : s ∣ b - a := by
  rw [← Int.neg_sub]
  exact Int.dvd_neg.mpr h
theorem mod_congr {a b s : Int} (h : s ∣ a - b) : a % s = b % s := mod_eq.mpr h
/-- one table behind another leads as the one and then the other -/
theorem led_both {ss : List Int} {one other : List (List Int)} {hs : List Int} (q1 : Sq ss.length one) (q2 : Sq ss.length other) (h2 : Hit ss other) (lh : hs.length = ss.length) : ledI ss (bothI ss one other) hs = ledI ss other (ledI ss one hs) := by
  refine ext_getD (by rw [led_len (both_sq q2), led_len q2]) fun i hi => ?_
  rw [led_len (both_sq q2)] at hi
  obtain ⟨s, es⟩ := get_some hi
  rw [led_getD (both_sq q2) lh es, led_getD q2 (led_len q1) es]
  refine mod_congr ?_
  -- both are alike the double sum
  have a : s ∣ (sumF ss.length fun j => en (bothI ss one other) i j * hs.getD j 0) - sumF ss.length fun j => (sumF ss.length fun k => en other i k * en one k j) * hs.getD j 0 := by
    refine sumF_alike fun j hj => ?_
    rw [both_en q1 q2 es hj, ← Int.sub_mul]
    exact Int.dvd_trans (mod_sub _ _) (Int.dvd_mul_right _ _)
  have b : s ∣ (sumF ss.length fun k => en other i k * (ledI ss one hs).getD k 0) - sumF ss.length fun k => en other i k * sumF ss.length fun j => en one k j * hs.getD j 0 :=
    hit_sum h2 es fun k r hr => by
      rw [led_getD q1 lh hr]
      exact mod_sub _ _
  have c : (sumF ss.length fun j => (sumF ss.length fun k => en other i k * en one k j) * hs.getD j 0) = sumF ss.length fun k => en other i k * sumF ss.length fun j => en one k j * hs.getD j 0 := by
    rw [sumF_congr (G := fun j => sumF ss.length fun k => en other i k * (en one k j * hs.getD j 0)) fun j _ => by
      rw [Int.mul_comm, ← sumF_mul]
      exact sumF_congr fun k _ => by rw [Int.mul_comm, Int.mul_assoc], sumF_swap]
    exact sumF_congr fun k _ => sumF_mul _ _ _
  rw [c] at a
  have := Int.dvd_add a (dvd_sub_comm b)
  rwa [show ∀ x y z : Int, x - y + (y - z) = x - z from fun x y z => by omega] at this
theorem both_hit {ss : List Int} {one other : List (List Int)} (q1 : Sq ss.length one) (q2 : Sq ss.length other) (h1 : Hit ss one) (h2 : Hit ss other) : Hit ss (bothI ss one other) := by
  intro i j s r hs hr
  have hj := (List.getElem?_eq_some_iff.mp hr).1
  rw [both_en q1 q2 hs hj]
  have a : s ∣ (sumF ss.length fun k => en other i k * en one k j) * r := by
    rw [Int.mul_comm, ← sumF_mul]
    refine sumF_dvd fun k hk => ?_
    obtain ⟨x, hx⟩ := get_some hk
    obtain ⟨y, hy⟩ := h1 k j x r hx hr
    have e : r * (en other i k * en one k j) = en other i k * x * y := by
      rw [Int.mul_comm, Int.mul_assoc, hy, Int.mul_assoc]
    rw [e]
    exact Int.dvd_trans (h2 i k s x hs hx) (Int.dvd_mul_right _ _)
  have b : s ∣ ((sumF ss.length fun k => en other i k * en one k j) % s - sumF ss.length fun k => en other i k * en one k j) * r := Int.dvd_trans (mod_sub _ _) (Int.dvd_mul_right _ _)
  rw [Int.sub_mul] at b
  have := Int.dvd_add b a
  rwa [show ∀ x y : Int, x - y + y = x from fun x y => by omega] at this
theorem both_assoc {ss : List Int} {one other third : List (List Int)} (q1 : Sq ss.length one) (q2 : Sq ss.length other) (q3 : Sq ss.length third) (h3 : Hit ss third) : bothI ss (bothI ss one other) third = bothI ss one (bothI ss other third) := by
  refine sq_ext (both_sq q3) (both_sq (both_sq q3)) fun i j hi hj => ?_
  obtain ⟨s, es⟩ := get_some hi
  rw [both_en (both_sq q2) q3 es hj, both_en q1 (both_sq q3) es hj]
  refine mod_congr ?_
  have a : s ∣ (sumF ss.length fun k => en third i k * en (bothI ss one other) k j) - sumF ss.length fun k => en third i k * sumF ss.length fun l => en other k l * en one l j :=
    hit_sum h3 es fun k r hr => by
      rw [both_en q1 q2 hr hj]
      exact mod_sub _ _
  have b : s ∣ (sumF ss.length fun l => en (bothI ss other third) i l * en one l j) - sumF ss.length fun l => (sumF ss.length fun k => en third i k * en other k l) * en one l j := by
    refine sumF_alike fun l hl => ?_
    rw [both_en q2 q3 es hl, ← Int.sub_mul]
    exact Int.dvd_trans (mod_sub _ _) (Int.dvd_mul_right _ _)
  have c : (sumF ss.length fun l => (sumF ss.length fun k => en third i k * en other k l) * en one l j) = sumF ss.length fun k => en third i k * sumF ss.length fun l => en other k l * en one l j := by
    rw [sumF_congr (G := fun l => sumF ss.length fun k => en third i k * (en other k l * en one l j)) fun l _ => by
      rw [Int.mul_comm, ← sumF_mul]
      exact sumF_congr fun k _ => by rw [Int.mul_comm, Int.mul_assoc], sumF_swap]
    exact sumF_congr fun k _ => sumF_mul _ _ _
  rw [c] at b
  have := Int.dvd_add a (dvd_sub_comm b)
  rwa [show ∀ x y z : Int, x - y + (y - z) = x - z from fun x y z => by omega] at this
theorem still_sq (n : Nat) : Sq n (stillI n) := ⟨by unfold stillI; rw [List.length_map, List.length_range], fun r hr => by
  unfold stillI at hr
  obtain ⟨i, _, rfl⟩ := List.mem_map.mp hr
  rw [List.length_map, List.length_range]⟩
theorem still_en {n i j : Nat} (hi : i < n) (hj : j < n) : en (stillI n) i j = if i = j then 1 else 0 := by
  have e : (stillI n)[i]? = some ((List.range n).map fun j => if i = j then 1 else 0) := by
    unfold stillI
    rw [List.getElem?_map, List.getElem?_eq_getElem (by rw [List.length_range]; exact hi), List.getElem_range]
    rfl
  rw [en_of e, List.getD_eq_getElem?_getD, List.getElem?_map, List.getElem?_eq_getElem (by rw [List.length_range]; exact hj), List.getElem_range]
  rfl
theorem led_still {ss hs : List Int} (h : COk ss hs) : ledI ss (stillI ss.length) hs = hs := by
  refine ext_getD (by rw [led_len (still_sq _), h.len]) fun i hi => ?_
  rw [led_len (still_sq _)] at hi
  obtain ⟨s, es⟩ := get_some hi
  rw [led_getD (still_sq _) h.len es, sumF_congr (G := fun j => (if i = j then 1 else 0) * hs.getD j 0) fun j hj => by rw [still_en hi hj], sumF_one _ _ _ hi]
  obtain ⟨x, ex⟩ := get_some (show i < hs.length by rw [h.len]; exact hi)
  obtain ⟨a, b⟩ := h.low i x s ex es
  rw [List.getD_eq_getElem?_getD, ex]
  exact Int.emod_eq_of_lt a b
/-- entries from 0 below the size of their row -/
def Low (ss : List Int) (t : List (List Int)) : Prop := ∀ (i j : Nat) (s : Int), ss[i]? = some s → j < ss.length → 0 ≤ en t i j ∧ en t i j < s
theorem TOk.lowE {ss : List Int} {t : List (List Int)} (h : TOk ss t) : Low ss t := by
  intro i j s hs hj
  obtain ⟨row, hrow, rl⟩ := h.sq.get (List.getElem?_eq_some_iff.mp hs).1
  have ej : row[j]? = some (row.getD j 0) := by
    rw [List.getD_eq_getElem?_getD, List.getElem?_eq_getElem (by omega)]
    rfl
  rw [en_of hrow]
  exact h.low i j row _ s hrow ej hs
theorem both_low {ss : List Int} {one other : List (List Int)} (ok : ∀ s ∈ ss, SizeOk s) (q1 : Sq ss.length one) (q2 : Sq ss.length other) : Low ss (bothI ss one other) := by
  intro i j s hs hj
  rw [both_en q1 q2 hs hj]
  obtain ⟨m, rfl, m2, _⟩ := (ok s (List.mem_of_getElem? hs)).nat
  exact ⟨Int.emod_nonneg _ (by omega), Int.emod_lt_of_pos _ (by omega)⟩
theorem both_still {ss : List Int} {t : List (List Int)} (q : Sq ss.length t) (l : Low ss t) : bothI ss t (stillI ss.length) = t := by
  refine sq_ext (both_sq (still_sq _)) q fun i j hi hj => ?_
  obtain ⟨s, es⟩ := get_some hi
  rw [both_en q (still_sq _) es hj, sumF_congr (G := fun k => (if i = k then 1 else 0) * en t k j) fun k hk => by rw [still_en hi hk], sumF_one _ _ _ hi]
  obtain ⟨a, b⟩ := l i j s es hj
  exact Int.emod_eq_of_lt a b
theorem still_both {ss : List Int} {t : List (List Int)} (q : Sq ss.length t) (l : Low ss t) : bothI ss (stillI ss.length) t = t := by
  refine sq_ext (both_sq q) q fun i j hi hj => ?_
  obtain ⟨s, es⟩ := get_some hi
  rw [both_en (still_sq _) q es hj, sumF_congr (G := fun k => (if j = k then 1 else 0) * en t i k) fun k hk => by
    rw [still_en hk hj, Int.mul_comm]
    by_cases e : k = j
    · rw [if_pos e, if_pos e.symm]
    · rw [if_neg e, if_neg (Ne.symm e)], sumF_one _ _ _ hj]
  obtain ⟨a, b⟩ := l i j s es hj
  exact Int.emod_eq_of_lt a b
/-- the table of a deed -/
def deedI (ss : List Int) (d : Nat × Nat × Int) : List (List Int) := (stillI ss.length).set d.2.1 (((stillI ss.length).getD d.2.1 []).set d.1 (d.2.2 % ss.getD d.2.1 1))
theorem still_row {n i : Nat} (hi : i < n) : (stillI n).getD i [] = (List.range n).map fun j => if i = j then 1 else 0 := by
  rw [List.getD_eq_getElem?_getD]
  unfold stillI
  rw [List.getElem?_map, List.getElem?_eq_getElem (by rw [List.length_range]; exact hi), List.getElem_range]
  rfl
theorem deed_sq {ss : List Int} {d : Nat × Nat × Int} (h : DIn ss d) : Sq ss.length (deedI ss d) := by
  have q := still_sq ss.length
  refine ⟨by unfold deedI; rw [List.length_set, q.len], fun r hr => ?_⟩
  unfold deedI at hr
  rcases List.mem_or_eq_of_mem_set hr with m | m
  · exact q.row r m
  · rw [m, List.length_set, still_row h.li, List.length_map, List.length_range]
theorem deed_en {ss : List Int} {d : Nat × Nat × Int} (h : DIn ss d) {i j : Nat} {s : Int} (es : ss[i]? = some s) (hj : j < ss.length) : en (deedI ss d) i j = if i = d.2.1 ∧ j = d.1 then d.2.2 % s else if i = j then 1 else 0 := by
  have hi := (List.getElem?_eq_some_iff.mp es).1
  by_cases e : d.2.1 = i
  · subst e
    have a : (deedI ss d)[d.2.1]? = some (((stillI ss.length).getD d.2.1 []).set d.1 (d.2.2 % ss.getD d.2.1 1)) := by
      unfold deedI
      rw [List.getElem?_set_self (by rw [(still_sq _).len]; exact hi)]
    rw [en_of a, getD_set (by rw [still_row hi, List.length_map, List.length_range]; exact h.lj)]
    have b : ss.getD d.2.1 1 = s := by
      rw [List.getD_eq_getElem?_getD, es]
      rfl
    rw [b]
    by_cases z : d.1 = j
    · rw [if_pos z, if_pos ⟨rfl, z.symm⟩]
    · rw [if_neg z, if_neg (fun q => z q.2.symm)]
      exact still_en hi hj
  · rw [if_neg (fun q => e q.1.symm)]
    have a : (deedI ss d)[i]? = (stillI ss.length)[i]? := by
      unfold deedI
      rw [List.getElem?_set_ne e]
    obtain ⟨r, hr, _⟩ := (still_sq ss.length).get hi
    rw [hr] at a
    rw [en_of a, ← en_of hr]
    exact still_en hi hj
/-- it leads as the deed does -/
theorem led_deed {ss hs : List Int} {d : Nat × Nat × Int} (h : DIn ss d) (c : COk ss hs) : ledI ss (deedI ss d) hs = doneI ss hs d := by
  unfold doneI
  refine ext_getD (by rw [led_len (deed_sq h), remI_length (by rw [addI_len, c.len])]) fun i hi => ?_
  rw [led_len (deed_sq h)] at hi
  obtain ⟨s, es⟩ := get_some hi
  rw [led_getD (deed_sq h) c.len es, remI_getD (by rw [addI_len, c.len]) es, addI_getD (by rw [c.len]; exact h.li)]
  refine mod_congr ?_
  by_cases e : d.2.1 = i
  · subst e
    rw [if_pos rfl]
    have f : ∀ j, j < ss.length → en (deedI ss d) d.2.1 j * hs.getD j 0 = (if d.2.1 = j then 1 else 0) * hs.getD j 0 + (if d.1 = j then 1 else 0) * (d.2.2 % s * hs.getD j 0) := fun j hj => by
      rw [deed_en h es hj]
      by_cases z : j = d.1
      · subst z
        rw [if_pos ⟨rfl, rfl⟩, if_neg (Ne.symm h.ne), if_pos rfl]
        omega
      · rw [if_neg (fun q => z q.2), if_neg (c := d.1 = j) (Ne.symm z)]
        omega
    rw [sumF_congr f, sumF_add, sumF_one _ _ (fun j => hs.getD j 0) h.li, sumF_one _ _ (fun j => d.2.2 % s * hs.getD j 0) h.lj]
    rw [show ∀ x y z : Int, x + y - (x + z) = y - z from fun x y z => by omega, ← Int.sub_mul]
    exact Int.dvd_trans (mod_sub _ _) (Int.dvd_mul_right _ _)
  · rw [if_neg e, sumF_congr (G := fun j => (if i = j then 1 else 0) * hs.getD j 0) fun j hj => by rw [deed_en h es hj, if_neg (fun q => e q.1.symm)], sumF_one _ _ _ hi, Int.sub_self]
    exact Int.dvd_zero _
theorem deed_hit {ss : List Int} {d : Nat × Nat × Int} (h : DIn ss d) : Hit ss (deedI ss d) := by
  intro i j s r hs hr
  rw [deed_en h hs (List.getElem?_eq_some_iff.mp hr).1]
  by_cases e : i = d.2.1 ∧ j = d.1
  · rw [if_pos e]
    obtain ⟨rfl, rfl⟩ := e
    have a := h.hit r s hr hs
    have b : s ∣ (d.2.2 % s - d.2.2) * r := Int.dvd_trans (mod_sub _ _) (Int.dvd_mul_right _ _)
    rw [Int.sub_mul] at b
    have := Int.dvd_add b a
    rwa [show ∀ x y : Int, x - y + y = x from fun x y => by omega] at this
  · rw [if_neg e]
    by_cases z : i = j
    · subst z
      rw [hs] at hr
      cases hr
      exact Int.dvd_mul_left _ _
    · rw [if_neg z, Int.zero_mul]
      exact Int.dvd_zero _
theorem still_hit (ss : List Int) : Hit ss (stillI ss.length) := by
  intro i j s r hs hr
  rw [still_en (List.getElem?_eq_some_iff.mp hs).1 (List.getElem?_eq_some_iff.mp hr).1]
  by_cases z : i = j
  · subst z
    rw [hs] at hr
    cases hr
    exact Int.dvd_mul_left _ _
  · rw [if_neg z, Int.zero_mul]
    exact Int.dvd_zero _
/-- the table of a program, deed by deed -/
def tabI (ss : List Int) (l : List (Nat × Nat × Int)) : List (List Int) := l.foldl (fun t d => bothI ss t (deedI ss d)) (stillI ss.length)
theorem tab_from {ss : List Int} {l : List (Nat × Nat × Int)} (hl : ∀ d ∈ l, DIn ss d) : ∀ {t : List (List Int)}, Sq ss.length t → Hit ss t → Sq ss.length (l.foldl (fun t d => bothI ss t (deedI ss d)) t) ∧ Hit ss (l.foldl (fun t d => bothI ss t (deedI ss d)) t) ∧ ∀ hs, COk ss hs → (∀ s ∈ ss, SizeOk s) → ledI ss (l.foldl (fun t d => bothI ss t (deedI ss d)) t) hs = runP ss l (ledI ss t hs) := by
  induction l with
  | nil => exact fun q h => ⟨q, h, fun _ _ _ => rfl⟩
  | cons d l ih =>
    intro t q h
    have dd := hl d List.mem_cons_self
    obtain ⟨a, b, c⟩ := ih (fun x hx => hl x (List.mem_cons_of_mem _ hx)) (t := bothI ss t (deedI ss d)) (both_sq (deed_sq dd)) (both_hit q (deed_sq dd) h (deed_hit dd))
    refine ⟨a, b, fun hs ch ok => ?_⟩
    have lc : COk ss (ledI ss t hs) := by
      refine ⟨led_len q, fun i x s ex es => ?_⟩
      have := led_getD q ch.len es
      rw [List.getD_eq_getElem?_getD, ex] at this
      obtain ⟨m, rfl, m2, _⟩ := (ok s (List.mem_of_getElem? es)).nat
      have e : x = (sumF ss.length fun j => en t i j * hs.getD j 0) % (m : Int) := this
      rw [e]
      exact ⟨Int.emod_nonneg _ (by omega), Int.emod_lt_of_pos _ (by omega)⟩
    show ledI ss (l.foldl (fun t d => bothI ss t (deedI ss d)) (bothI ss t (deedI ss d))) hs = runP ss l (doneI ss (ledI ss t hs) d)
    rw [c hs ch ok, led_both q (deed_sq dd) (deed_hit dd) ch.len, led_deed dd lc]
/-- the table of a program leads as the program does -/
theorem led_tab {ss : List Int} {l : List (Nat × Nat × Int)} (ok : ∀ s ∈ ss, SizeOk s) (hl : ∀ d ∈ l, DIn ss d) {hs : List Int} (h : COk ss hs) : ledI ss (tabI ss l) hs = runP ss l hs := by
  obtain ⟨_, _, c⟩ := tab_from hl (still_sq ss.length) (still_hit ss)
  unfold tabI
  rw [c hs h ok, led_still h]
end NA
namespace PySem
open Sem (wp)
open PyProof.Rows
open AutoSeq1 (wpAny_loadPart')
/-! ### t[::-1], t a tuple -/
section
variable {prog : Program} {w : World} {A : Around} {E : Value → Shared → Prop} {s : Shared}
theorem fields_ {sl : Addr} {o : Obj} {a b c : Value} {Q : Value × Value × Value → Shared → Prop} (ho : s.heap.get? sl = some o) (hd : o.data = .fields #[a, b, c]) (q : Q (a, b, c) s) : wpAny (model prog w) A (Builtin.Slice.sliceFields (.ref sl)) Q E s := by
  unfold Builtin.Slice.sliceFields
  obtain ⟨hp, gg, dr, tk, os⟩ := s
  obtain ⟨oc, od, odt, osl⟩ := o
  cases (show odt = _ from hd)
  wp_walk using wpAny_loadPart' ho
  exact q
theorem applied_rev {sl : Addr} {u : Tok} {n : Nat} {Q : Int × Int × Nat → Shared → Prop} (h : s.heap.IsSliceOf sl .none .none (.int (-1) u)) (q : Q ((n : Int) - 1, -1, n) s) :
    wpAny (model prog w) A (Builtin.Slice.sliceApplied (.ref sl) (pure (n : Int))) Q E s := by
  obtain ⟨o, ho, hc, hd⟩ := h
  unfold Builtin.Slice.sliceApplied
  refine wpAny_bind (fields_ ho hd ?_)
  dsimp only
  refine wpAny_bind (slicePart_int ?_)
  dsimp only [Option.getD]
  rw [if_neg (by decide)]
  refine wpAny_bind (slicePart_none (wpAny_bind (slicePart_none ?_)))
  refine wpAny_bind (wpAny_pure ?_)
  have e : Builtin.Slice.slicePlaces ((n : Int) - 1) (-1) (-1) = n := by
    unfold Builtin.Slice.slicePlaces
    rw [if_neg (by decide)]
    by_cases h : (n : Int) - 1 > -1
    · rw [if_pos h, show - (-1 : Int) = 1 from rfl, Int.ediv_one]
      omega
    · rw [if_neg h]
      omega
  have e2 : Builtin.Slice.sliceAdjust none none (-1) (n : Int) = ((n : Int) - 1, -1) := by
    unfold Builtin.Slice.sliceAdjust
    rfl
  rw [e2]
  dsimp only
  rw [e]
  exact wpAny_pure q
theorem fm_map {α β : Type} {f : α → Option β} {g : α → β} : ∀ (l : List α), (∀ k ∈ l, f k = some (g k)) → List.filterMap f l = l.map g
  | [], _ => rfl
  | x :: l, h => by
    rw [List.filterMap_cons, h x List.mem_cons_self, List.map_cons, fm_map l fun k hk => h k (List.mem_cons_of_mem _ hk)]
theorem rev_pick (items : Array Value) : (List.filterMap (fun k : Nat => items[((items.size : Int) - 1 + (k : Int) * -1).toNat]?) (List.range items.size)) = items.toList.reverse := by
  rw [fm_map (g := fun k => (items[items.size - 1 - k]?).getD .none)]
  · refine List.ext_getElem? fun i => ?_
    rw [List.getElem?_map]
    by_cases h : i < items.size
    · rw [List.getElem?_eq_getElem (by rw [List.length_range]; exact h), List.getElem_range, List.getElem?_reverse (by simpa using h), Array.getElem?_toList, Array.length_toList]
      show some ((items[items.size - 1 - i]?).getD .none) = _
      rw [Array.getElem?_eq_getElem (show items.size - 1 - i < items.size by omega)]
      rfl
    · rw [List.getElem?_eq_none (by rw [List.length_range]; omega), List.getElem?_eq_none (by simp; omega)]
      rfl
  · intro k hk
    have := List.mem_range.mp hk
    have z : ((items.size : Int) - 1 + (k : Int) * -1).toNat = items.size - 1 - k := by omega
    rw [z, Array.getElem?_eq_getElem (show items.size - 1 - k < items.size by omega)]
    rfl
theorem tuple_rev_meets (t sl : Addr) (items : Array Value) (u : Tok) (hl : items.size ≤ sizeLine) : Meets (Builtin.«tuple.__getitem__» ⟨[.ref t, .ref sl], []⟩)
    (fun _ R s => (IsTup s.heap t items ∧ s.heap.IsSliceOf sl .none .none (.int (-1) u)) ∧ R (.ok (.ret (.ref s.heap.objs.size))) { s with heap := s.heap.push { cls := .type "tuple", data := .seq items.toList.reverse.toArray } }) :=
  .of_wp fun prog w A R s h => by
    obtain ⟨⟨T, hs⟩, h⟩ := h
    have S := hs
    obtain ⟨o2, ho2, hc2, hd2⟩ := hs
    obtain ⟨oc, od, odt, osl⟩ := o2
    cases (show oc = _ from hc2)
    cases (show odt = _ from hd2)
    obtain ⟨hp, gg, dr, tk, os⟩ := s
    wp_walk using tupleItemsOf_ T, applied_rev S, wpAny_loadPart' ho2
    rw [rev_pick, if_neg (by simp; exact hl)]
    wp_walk
    exact ⟨_, rfl, h⟩
theorem getItem_tuple_rev {t sl : Addr} {items : Array Value} {u : Tok} {Q : Value → Shared → Prop} (T : IsTup s.heap t items) (hs : s.heap.IsSliceOf sl .none .none (.int (-1) u)) (hl : items.size ≤ sizeLine)
    (q : Q (.ref s.heap.objs.size) { s with heap := s.heap.push { cls := .type "tuple", data := .seq items.toList.reverse.toArray } }) : wpAny (model prog w) A (getItem (.ref t) (.ref sl)) Q E s := by
  have T2 := T
  obtain ⟨o, ho, hc, n, hd⟩ := T2
  exact getItem_meets (T := "tuple") ⟨o, ho, hc⟩ (by decide) slot_tuple_getitem entry_tuple_getitem (args_tuple_getitem _ _) (tuple_rev_meets t sl items u hl) ⟨⟨T, hs⟩, q⟩
end
end PySem
namespace NA
open PySem PySem.Spec PyProof.Rows L2
def tRevT (K : PySem.W.Frag) (te : TE) : TE := fun σ H Q => te σ H fun x H1 => ∃ a xs, x = .ref a ∧ SqT K H1 a xs ∧ ∀ p, H1 p = none → Q (.ref p) (upd H1 p (.tup xs.reverse))
theorem vals_app {xs ys : List V} {us vs : List Value} (a : Vals xs us) (b : Vals ys vs) : Vals (xs ++ ys) (us ++ vs) := by
  induction a with
  | nil => exact b
  | cons h _ ih => exact .cons h ih
theorem vals_rev {xs : List V} {us : List Value} (a : Vals xs us) : Vals xs.reverse us.reverse := by
  induction a with
  | nil => exact .nil
  | cons h _ ih =>
    rw [List.reverse_cons, List.reverse_cons]
    exact vals_app ih (.cons h .nil)
theorem pe_revT {X : Cx} (K : PySem.W.Frag) (hK : X.K = K) {e st : Expr} {te : TE} {pos p2 : Pos} (he : PE X e te) (hst : PE X st (tC (.int (-1)))) (hl : ∀ o r : Value, letTemporaryGo e o r = pure () := by intro _ _; rfl) : PE X (.Subscript e (.Slice none none (some st) p2) pos) (tRevT K te) := by
  subst hK
  refine ⟨fun pins s σ H Q I h => ?_⟩
  rw [arm_eval_Subscript]
  refine wpAny_bind (thn (he.run pins s σ H _ I h) fun v s1 ⟨x, H1, I1, rx, q1⟩ => ?_)
  obtain ⟨a, xs, rfl, ha, q⟩ := q1
  cases (show v = Value.ref a from rx)
  refine wpAny_bind (wpAny_holding (wpAny_Slice ?_))
  refine (show wpAny _ _ (pure Value.none) _ _ _ from wpAny_pure ?_)
  refine (show wpAny _ _ (pure Value.none) _ _ _ from wpAny_pure ?_)
  refine (show wpAny _ _ (eval st X.env) _ _ _ from thn (hst.run pins s1 σ H1 (fun y H2 => y = .int (-1) ∧ H2 = H1) I1 ⟨rfl, rfl⟩) fun u s2 ⟨y, H2, I2, ry, ey, eh⟩ => ?_)
  subst ey eh
  obtain ⟨t, rfl⟩ := (show ∃ t, u = Value.int (-1) t from ry)
  refine wpAny_bind (wpAny_standAt ?_)
  obtain ⟨its, rv, tp, hz⟩ := I2.tuple ha
  have T1 : IsTup s2.heap a its.toArray := tp
  have k1 : ∀ b o, s2.heap.get? b = some o → (s2.heap.push { cls := .type "slice", data := .fields #[.none, .none, .int (-1) t] }).get? b = some o := fun b o q => Heap.get?_push_of_some _ q
  have I3 := I2.kept (t' := s2.toks) k1
  obtain ⟨o, ho, hc, n, hd⟩ := T1
  have T3 : IsTup (s2.heap.push { cls := .type "slice", data := .fields #[.none, .none, .int (-1) t] }) a its.toArray := ⟨o, k1 _ _ ho, hc, n, hd⟩
  have hs : (s2.heap.push { cls := .type "slice", data := .fields #[.none, .none, .int (-1) t] }).IsSliceOf s2.heap.objs.size .none .none (.int (-1) t) := ⟨_, Heap.get?_push_size _ rfl, rfl, rfl⟩
  have lx := rv.length
  have hn : H2 (s2.heap.push { cls := .type "slice", data := .fields #[.none, .none, .int (-1) t] }).objs.size = none := I3.hok.fresh (Nat.le_refl _)
  have new : ObjOk X.prog X.w (upd H2 (s2.heap.push { cls := .type "slice", data := .fields #[.none, .none, .int (-1) t] }).objs.size (.tup xs.reverse)) ((s2.heap.push { cls := .type "slice", data := .fields #[.none, .none, .int (-1) t] }).push { cls := .type "tuple", data := .seq its.toArray.toList.reverse.toArray }) (s2.heap.push { cls := .type "slice", data := .fields #[.none, .none, .int (-1) t] }).objs.size (.tup xs.reverse) :=
    ⟨by rw [List.length_reverse]; exact hz, its.reverse, vals_rev rv, ⟨_, Heap.get?_push_size _ rfl, rfl, _, rfl⟩⟩
  have I4 := I3.turnedNew (t' := s2.toks) (ch := []) (h' := (s2.heap.push { cls := .type "slice", data := .fields #[.none, .none, .int (-1) t] }).push { cls := .type "tuple", data := .seq its.toArray.toList.reverse.toArray }) (fun b o _ q => Heap.get?_push_of_some _ q) (fun b hb => nomatch hb) (Nat.le_refl _) new
  exact tail_of_ItemOn (value := e) (slice := .Slice none none (some st) p2) (ops := [.ref a, .ref s2.heap.objs.size]) ⟨"tuple", "tuple.__getitem__", slot_tuple_getitem.1, ⟨o, k1 _ _ ho, hc⟩, getItem_tuple_rev T3 hs (by rw [List.size_toArray]; omega) ⟨V.ref (s2.heap.push { cls := .type "slice", data := .fields #[.none, .none, .int (-1) t] }).objs.size, _, I4, rfl, q _ hn⟩⟩ rfl (fun r => hl _ _)
theorem pe_m1 {X : Cx} {a : Expr} {pos : Pos} (ha : PE X a (tC (.int 1))) : PE X (.UnaryOp .USub a pos) (tC (.int (-1))) :=
  ⟨fun pins s σ H Q I h => (pe_un un_neg ha).run pins s σ H Q I ⟨1, rfl, h⟩⟩
end NA
namespace PySem
open Sem (wp)
open PyProof.Rows
open AutoSeq1 (wpAny_loadPart')
theorem tuple_mul1 (l : Addr) (items : Array Value) (n : Nat) (dd : Option Addr) (sl : Array (Option Value)) (u : Tok) : Meets (Builtin.«tuple.__mul__» ⟨[.ref l, .int 1 u], []⟩)
    (fun _ R s => s.heap.get? l = some { cls := .type "tuple", dict := dd, data := .seq items n, slots := sl } ∧ R (.ok (.ret (.ref l))) s) :=
  .of_wp fun prog w A R s h => by
    obtain ⟨ho, h⟩ := h
    have T : IsTup s.heap l items := ⟨_, ho, rfl, n, rfl⟩
    obtain ⟨hp, gg, dr, tk, os⟩ := s
    wp_walk using tupleItemsOf_ T, wpAny_loadPart' ho
    exact ⟨_, rfl, h⟩
end PySem
namespace NA
open PySem PySem.Spec PyProof.Rows L2
/-- t * k for k from 1 on: t itself, or a new tuple -/
def rRepA (K : PySem.W.Frag) : R2 := fun x y H Q => ∃ l k xs, x = .ref l ∧ y = .int k ∧ SqT K H l xs ∧ xs ≠ [] ∧ 1 ≤ k ∧ k ≤ 1000 ∧ xs.length ≤ 1000 ∧ (k = 1 → Q (.ref l) H) ∧ (k ≠ 1 → ∀ p, H p = none → Q (.ref p) (upd H p (.tup (List.replicate k.toNat xs).flatten)))
theorem op_repA {X : Cx} (K : PySem.W.Frag) (hK : X.K = K) : OpR X (binaryOp .Mult) (rRepA K) := by
  subst hK
  intro pins s σ H x y v u Q I rx ry h
  obtain ⟨l, k, xs, rfl, rfl, hT, ne, k1, k2, l2, q1, q2⟩ := h
  by_cases e : k = 1
  · subst e
    cases (show v = Value.ref l from rx)
    obtain ⟨t, rfl⟩ := (show ∃ t, u = Value.int 1 t from ry)
    obtain ⟨its, rv, tp, hz⟩ := I.tuple hT
    obtain ⟨o, ho, hc, n, hd⟩ := tp
    obtain ⟨oc, dd, odt, sl⟩ := o
    cases (show oc = _ from hc)
    cases (show odt = _ from hd)
    refine wpAny_binaryOp_repeat_ref (T := "tuple") (U := "int") (by decide) ⟨_, ho, rfl⟩ (fun s' => typeIs_int s' 1 t) noFill_tuple_mul F.fills_int_mul F.slot_int_rmul repeat_tuple F.slot_int_index.lookup ?_
    refine call_meets F.slot_int_rmul (typeIs_int s 1 t) F.entry_int_rmul (F.args_int_rmul_2 _ _) (int_rmul_tuple 1 t l its.toArray n dd sl) ⟨ho, rfl, ⟨_, ho, rfl⟩, ?_⟩
    exact call_meets F.slot_tuple_mul ⟨_, ho, rfl⟩ F.entry_tuple_mul (F.args_tuple_mul_2 _ _) (tuple_mul1 l its.toArray n dd sl t) ⟨ho, .ref l, H, I, rfl, q1 rfl⟩
  · exact op_repT pins s σ H (.ref l) (.int k) v u Q I rx ry ⟨l, k, xs, rfl, rfl, hT, ne, by omega, k2, l2, q2 e⟩
theorem rep_any {K : PySem.W.Frag} {l : Addr} {k : Int} {xs : List V} {H : Hp} {Q : VK} (h : H l = some (.tup xs)) (ne : xs ≠ []) (k1 : 1 ≤ k) (k2 : k ≤ 1000) (l2 : xs.length ≤ 1000) (q : ∀ c H', Same H H' → H' c = some (.tup (List.replicate k.toNat xs).flatten) → Q (.ref c) H') : rRepA K (.ref l) (.int k) H Q :=
  ⟨l, k, xs, rfl, rfl, SqT.of h, ne, k1, k2, l2, fun e => q l H (Same.refl H) (by
    subst e
    rw [h]
    simp), fun _ p n => q p _ (Same.new (Same.refl H) n) upd_same⟩
end NA
namespace NA
theorem take_get2 {α : Type} {l : List α} {i : Nat} {x : α} (h : l[i]? = some x) : l.take (i + 1) = l.take i ++ [x] := by
  rw [List.take_add_one, h]
  rfl
/-! ### sums and multiples of contents, deeds put together -/
def mulI (ns : List Int) (c : Int) : List Int := ns.map fun n => n * c
theorem mulI_getD (ns : List Int) (c : Int) (i : Nat) : (mulI ns c).getD i 0 = ns.getD i 0 * c := by
  unfold mulI
  rw [List.getD_eq_getElem?_getD, List.getD_eq_getElem?_getD, List.getElem?_map]
  cases ns[i]? with
  | none => show (0 : Int) = 0 * c; rw [Int.zero_mul]
  | some x => rfl
theorem mulI_len (ns : List Int) (c : Int) : (mulI ns c).length = ns.length := List.length_map ..
theorem add_mulI {ns : List Int} {d : Nat × Nat × Int} {c : Int} (hi : d.2.1 < ns.length) : addI (mulI ns c) d = mulI (addI ns d) c := by
  refine ext_getD (by rw [addI_len, mulI_len, mulI_len, addI_len]) fun k hk => ?_
  rw [addI_getD (by rw [mulI_len]; exact hi), mulI_getD, mulI_getD, mulI_getD, mulI_getD, addI_getD hi]
  by_cases e : d.2.1 = k
  · rw [if_pos e, if_pos e, Int.add_mul, Int.mul_assoc]
  · rw [if_neg e, if_neg e]
theorem far_mul {l : List (Nat × Nat × Int)} {c : Int} : ∀ {ns : List Int}, (∀ d ∈ l, d.2.1 < ns.length) → farI l (mulI ns c) = mulI (farI l ns) c := by
  induction l with
  | nil => exact fun _ => rfl
  | cons d l ih =>
    intro ns hl
    show farI l (addI (mulI ns c) d) = mulI (farI l (addI ns d)) c
    rw [add_mulI (hl d List.mem_cons_self)]
    exact ih fun x hx => by rw [addI_len]; exact hl x (List.mem_cons_of_mem _ hx)
theorem cg_sum {ss ns ms ks ls : List Int} (a : Cg ss ns ks) (b : Cg ss ms ls) : Cg ss (sumI ns ms) (sumI ks ls) := by
  refine ⟨sumI_len a.l1 b.l1, sumI_len a.l2 b.l2, fun i s e => ?_⟩
  rw [sumI_getD (by rw [a.l1, b.l1]), sumI_getD (by rw [a.l2, b.l2])]
  have := Int.dvd_add (a.alike i s e) (b.alike i s e)
  rwa [show ∀ x y z u : Int, x - y + (z - u) = x + z - (y + u) from fun x y z u => by omega] at this
theorem cg_mul {ss ns ms : List Int} (a : Cg ss ns ms) (c : Int) : Cg ss (mulI ns c) (mulI ms c) := by
  refine ⟨by rw [mulI_len, a.l1], by rw [mulI_len, a.l2], fun i s e => ?_⟩
  rw [mulI_getD, mulI_getD, ← Int.sub_mul]
  exact Int.dvd_trans (a.alike i s e) (Int.dvd_mul_right _ _)
/-- of a sum the sum -/
theorem runP_sum {ss : List Int} (ok : ∀ s ∈ ss, SizeOk s) {l : List (Nat × Nat × Int)} (hl : ∀ d ∈ l, DIn ss d) {a b : List Int} (ha : COk ss a) (hb : COk ss b) : runP ss l (remI (sumI a b) ss) = remI (sumI (runP ss l a) (runP ss l b)) ss := by
  have ls := sumI_len ha.len hb.len
  rw [runP_eq ok hl (rem_cok ok ls) (cg_rem ls)]
  unfold runI
  rw [far_sum (by rw [ha.len, hb.len]) fun d hd => by rw [ha.len]; exact (hl d hd).li]
  exact (cg_sum (runP_cg hl (Cg.refl ha.len)) (runP_cg hl (Cg.refl hb.len))).symm.rem
/-- of a multiple the multiple -/
theorem runP_mul {ss : List Int} (ok : ∀ s ∈ ss, SizeOk s) {l : List (Nat × Nat × Int)} (hl : ∀ d ∈ l, DIn ss d) {a : List Int} (ha : COk ss a) (c : Int) : runP ss l (remI (mulI a c) ss) = remI (mulI (runP ss l a) c) ss := by
  have ls : (mulI a c).length = ss.length := by rw [mulI_len, ha.len]
  rw [runP_eq ok hl (rem_cok ok ls) (cg_rem ls)]
  unfold runI
  rw [far_mul fun d hd => by rw [ha.len]; exact (hl d hd).li]
  exact (cg_mul (runP_cg hl (Cg.refl ha.len)) c).symm.rem
/-- of noughts noughts -/
theorem runP_zero {ss : List Int} (ok : ∀ s ∈ ss, SizeOk s) {l : List (Nat × Nat × Int)} (hl : ∀ d ∈ l, DIn ss d) : runP ss l (List.replicate ss.length 0) = List.replicate ss.length 0 := by
  have z : COk ss (List.replicate ss.length 0) := ⟨List.length_replicate .., fun i h s e1 e2 => by
    have li := (List.getElem?_eq_some_iff.mp e2).1
    rw [List.getElem?_replicate, if_pos li] at e1
    cases e1
    obtain ⟨m, rfl, m2, _⟩ := (ok s (List.mem_of_getElem? e2)).nat
    omega⟩
  have e : remI (mulI (List.replicate ss.length 0) 0) ss = List.replicate ss.length 0 := by
    have : mulI (List.replicate ss.length 0) 0 = List.replicate ss.length 0 := by
      unfold mulI
      rw [List.map_replicate]
      rfl
    rw [this]
    exact rem_of z
  have h := runP_mul ok hl z 0
  rw [e] at h
  rw [h]
  refine ext_getD ?_ fun i hi => ?_
  · rw [remI_length (by rw [mulI_len, (runP_cok ok z).len]), List.length_replicate]
  · rw [remI_length (by rw [mulI_len, (runP_cok ok z).len])] at hi
    obtain ⟨s, es⟩ := get_some hi
    rw [remI_getD (by rw [mulI_len, (runP_cok ok z).len]) es, mulI_getD, Int.mul_zero, Int.zero_emod, List.getD_eq_getElem?_getD, List.getElem?_replicate, if_pos hi]
    rfl
/-- only the rest of the factor counts -/
theorem done_more {ss hs : List Int} {j i : Nat} {c k s : Int} (h : DIn ss (j, i, c)) (ch : COk ss hs) (es : ss[i]? = some s) : doneI ss hs (j, i, c + k * s) = doneI ss hs (j, i, c) := by
  unfold doneI
  refine Cg.rem ⟨by rw [addI_len, ch.len], by rw [addI_len, ch.len], fun t r e => ?_⟩
  rw [addI_getD (by rw [ch.len]; exact h.li), addI_getD (by rw [ch.len]; exact h.li)]
  by_cases z : i = t
  · subst z
    rw [es] at e
    cases e
    rw [if_pos rfl, if_pos rfl]
    refine ⟨k * hs.getD j 0, ?_⟩
    show hs.getD i 0 + (c + k * s) * hs.getD j 0 - (hs.getD i 0 + c * hs.getD j 0) = s * (k * hs.getD j 0)
    rw [Int.add_mul, show s * (k * hs.getD j 0) = k * s * hs.getD j 0 by rw [Int.mul_comm k s, Int.mul_assoc]]
    omega
  · rw [if_neg z, if_neg z, Int.sub_self]
    exact Int.dvd_zero _
/-- two deeds on one wire do what one with the sum does -/
theorem run_two {ss hs : List Int} (ok : ∀ s ∈ ss, SizeOk s) {j i : Nat} {c e : Int} (h1 : DIn ss (j, i, c)) (h2 : DIn ss (j, i, e)) (ch : COk ss hs) : runP ss [(j, i, c), (j, i, e)] hs = doneI ss hs (j, i, c + e) := by
  rw [runP_eq ok (fun d hd => by
    rcases List.mem_cons.mp hd with z | hd
    · rw [z]; exact h1
    · rw [List.mem_singleton.mp hd]; exact h2) ch (Cg.refl ch.len)]
  unfold runI doneI
  congr 1
  show addI (addI hs (j, i, c)) (j, i, e) = _
  have li : i < hs.length := by rw [ch.len]; exact h1.li
  refine ext_getD (by rw [addI_len, addI_len, addI_len]) fun k hk => ?_
  rw [addI_getD (by rw [addI_len]; exact li), addI_getD li, addI_getD li, addI_getD li, addI_getD li]
  have ne : i ≠ j := Ne.symm h1.ne
  by_cases z : i = k
  · rw [if_pos z, if_pos rfl, if_neg ne, if_pos z]
    show hs.getD i 0 + c * hs.getD j 0 + e * hs.getD j 0 = hs.getD i 0 + (c + e) * hs.getD j 0
    rw [Int.add_mul]
    omega
  · rw [if_neg z, if_neg z, if_neg z]
/-- deeds neither of which takes where the other gives change places -/
theorem run_swap {ss hs : List Int} (ok : ∀ s ∈ ss, SizeOk s) {d e : Nat × Nat × Int} (h1 : DIn ss d) (h2 : DIn ss e) (n1 : e.2.1 ≠ d.1) (n2 : e.1 ≠ d.2.1) (ch : COk ss hs) : runP ss [d, e] hs = runP ss [e, d] hs := by
  have two : ∀ {a b : Nat × Nat × Int}, DIn ss a → DIn ss b → ∀ x ∈ [a, b], DIn ss x := fun ha hb x hx => by
    rcases List.mem_cons.mp hx with z | hx
    · rw [z]; exact ha
    · rw [List.mem_singleton.mp hx]; exact hb
  rw [runP_eq ok (two h1 h2) ch (Cg.refl ch.len), runP_eq ok (two h2 h1) ch (Cg.refl ch.len)]
  unfold runI
  congr 1
  show addI (addI hs d) e = addI (addI hs e) d
  have l1 : d.2.1 < hs.length := by rw [ch.len]; exact h1.li
  have l2 : e.2.1 < hs.length := by rw [ch.len]; exact h2.li
  refine ext_getD (by rw [addI_len, addI_len, addI_len, addI_len]) fun k hk => ?_
  rw [addI_getD (by rw [addI_len]; exact l2), addI_getD (ns := addI hs e) (by rw [addI_len]; exact l1), addI_getD l1, addI_getD l1, addI_getD l1, addI_getD l2, addI_getD l2, addI_getD l2]
  rw [if_neg (c := d.2.1 = e.1) (Ne.symm n2), if_neg (c := e.2.1 = d.1) n1]
  by_cases a : d.2.1 = k <;> by_cases b : e.2.1 = k
  · have z : d.2.1 = e.2.1 := a.trans b.symm
    rw [if_pos b, if_pos a, if_pos z, if_pos z.symm, z]
    omega
  · have z : ¬ d.2.1 = e.2.1 := fun q => b (q ▸ a)
    rw [if_neg b, if_pos a, if_pos a, if_neg (fun q => z q.symm)]
  · have z : ¬ d.2.1 = e.2.1 := fun q => a (q ▸ b)
    rw [if_pos b, if_neg z, if_neg a, if_pos b]
  · rw [if_neg b, if_neg a, if_neg a, if_neg b]
end NA
namespace NA
/-! ### good tables, powers -/
structure GT (ss : List Int) (t : List (List Int)) : Prop where
  sq : Sq ss.length t
  low : Low ss t
  hit : Hit ss t
theorem TOk.gt {ss : List Int} {t : List (List Int)} (h : TOk ss t) : GT ss t := ⟨h.sq, h.lowE, h.hit⟩
theorem GT.still {ss : List Int} (ok : ∀ s ∈ ss, SizeOk s) : GT ss (stillI ss.length) := (TOk.still ok).gt
theorem GT.both {ss : List Int} {one other : List (List Int)} (ok : ∀ s ∈ ss, SizeOk s) (a : GT ss one) (b : GT ss other) : GT ss (bothI ss one other) := ⟨both_sq b.sq, both_low ok a.sq b.sq, both_hit a.sq b.sq a.hit b.hit⟩
theorem GT.deed {ss : List Int} (ok : ∀ s ∈ ss, SizeOk s) {d : Nat × Nat × Int} (h : DIn ss d) : GT ss (deedI ss d) := by
  refine ⟨deed_sq h, fun i j s hs hj => ?_, deed_hit h⟩
  rw [deed_en h hs hj]
  obtain ⟨m, rfl, m2, _⟩ := (ok s (List.mem_of_getElem? hs)).nat
  split
  · exact ⟨Int.emod_nonneg _ (by omega), Int.emod_lt_of_pos _ (by omega)⟩
  · split <;> omega
theorem GT.led {ss : List Int} {t : List (List Int)} {hs : List Int} (ok : ∀ s ∈ ss, SizeOk s) (h : GT ss t) (c : COk ss hs) : COk ss (ledI ss t hs) := by
  refine ⟨led_len h.sq, fun i x s ex es => ?_⟩
  have := led_getD h.sq c.len es
  rw [List.getD_eq_getElem?_getD, ex] at this
  obtain ⟨m, rfl, m2, _⟩ := (ok s (List.mem_of_getElem? es)).nat
  have e : x = (sumF ss.length fun j => en t i j * hs.getD j 0) % (m : Int) := this
  rw [e]
  exact ⟨Int.emod_nonneg _ (by omega), Int.emod_lt_of_pos _ (by omega)⟩
theorem GT.sh {ss : List Int} {t : List (List Int)} (ok : ∀ s ∈ ss, SizeOk s) (h : GT ss t) : TSh ss.length t := by
  refine ⟨h.sq.len, h.sq.row, fun r hr n hn => ?_⟩
  obtain ⟨i, hi, rfl⟩ := List.getElem_of_mem hr
  obtain ⟨j, hj, rfl⟩ := List.getElem_of_mem hn
  have li : i < ss.length := by rw [← h.sq.len]; exact hi
  have lj : j < ss.length := by rw [← h.sq.row _ (List.getElem_mem hi)]; exact hj
  obtain ⟨s, es⟩ := get_some li
  have e : en t i j = t[i][j] := by
    rw [en_of (List.getElem?_eq_getElem hi), List.getD_eq_getElem?_getD, List.getElem?_eq_getElem hj]
    rfl
  obtain ⟨a, b⟩ := h.low i j s es lj
  obtain ⟨m, rfl, _, m30⟩ := (ok s (List.mem_of_getElem? es)).nat
  rw [e] at a b
  exact Nat.lt_of_le_of_lt (show t[i][j].natAbs ≤ 10 ^ 30 by omega) (by decide)
def powI (ss : List Int) (t : List (List Int)) : Nat → List (List Int)
  | 0 => stillI ss.length
  | k + 1 => bothI ss (powI ss t k) t
section
variable {ss : List Int} {t : List (List Int)}
theorem powI_gt (ok : ∀ s ∈ ss, SizeOk s) (h : GT ss t) : ∀ k, GT ss (powI ss t k)
  | 0 => GT.still ok
  | k + 1 => GT.both ok (powI_gt ok h k) h
theorem powI_add (ok : ∀ s ∈ ss, SizeOk s) (h : GT ss t) (a : Nat) : ∀ b, bothI ss (powI ss t a) (powI ss t b) = powI ss t (a + b)
  | 0 => both_still (powI_gt ok h a).sq (powI_gt ok h a).low
  | b + 1 => by
    show bothI ss (powI ss t a) (bothI ss (powI ss t b) t) = bothI ss (powI ss t (a + b)) t
    rw [← both_assoc (powI_gt ok h a).sq (powI_gt ok h b).sq h.sq h.hit, powI_add ok h a b]
theorem powI_one (ok : ∀ s ∈ ss, SizeOk s) (h : GT ss t) : powI ss t 1 = t := still_both h.sq h.low
theorem powI_mul (ok : ∀ s ∈ ss, SizeOk s) (h : GT ss t) (k : Nat) : ∀ m, powI ss (powI ss t k) m = powI ss t (k * m)
  | 0 => by rw [Nat.mul_zero]; rfl
  | m + 1 => by
    show bothI ss (powI ss (powI ss t k) m) (powI ss t k) = _
    rw [powI_mul ok h k m, powI_add ok h, Nat.mul_succ]
theorem powI_two (ok : ∀ s ∈ ss, SizeOk s) (h : GT ss t) (m : Nat) : powI ss (bothI ss t t) m = powI ss t (2 * m) := by
  have e : bothI ss t t = powI ss t 2 := by
    show bothI ss t t = bothI ss (powI ss t 1) t
    rw [powI_one ok h]
  rw [e, powI_mul ok h]
theorem powI_succ' (ok : ∀ s ∈ ss, SizeOk s) (h : GT ss t) (k : Nat) : bothI ss t (powI ss t k) = powI ss t (k + 1) := by
  have := powI_add ok h 1 k
  rw [powI_one ok h] at this
  rw [this, Nat.add_comm]
theorem led_pow (ok : ∀ s ∈ ss, SizeOk s) (h : GT ss t) (k : Nat) {hs : List Int} (c : COk ss hs) : ledI ss (powI ss t (k + 1)) hs = ledI ss t (ledI ss (powI ss t k) hs) := led_both (powI_gt ok h k).sq h.sq h.hit c.len
/-- one deed more in front of the table -/
theorem tabI_gt (ok : ∀ s ∈ ss, SizeOk s) {l : List (Nat × Nat × Int)} (hl : ∀ d ∈ l, DIn ss d) : GT ss (tabI ss l) := by
  unfold tabI
  have : ∀ (l : List (Nat × Nat × Int)), (∀ d ∈ l, DIn ss d) → ∀ t, GT ss t → GT ss (l.foldl (fun t d => bothI ss t (deedI ss d)) t) := by
    intro l
    induction l with
    | nil => exact fun _ t h => h
    | cons d l ih => exact fun hl t h => ih (fun x hx => hl x (List.mem_cons_of_mem _ hx)) _ (GT.both ok h (GT.deed ok (hl d List.mem_cons_self)))
  exact this l hl _ (GT.still ok)
theorem tab_from2 (ok : ∀ s ∈ ss, SizeOk s) : ∀ {l : List (Nat × Nat × Int)}, (∀ d ∈ l, DIn ss d) → ∀ {t : List (List Int)}, GT ss t → l.foldl (fun t d => bothI ss t (deedI ss d)) t = bothI ss t (tabI ss l)
  | [], _, t, h => (both_still h.sq h.low).symm
  | d :: l, hl, t, h => by
    have dd := GT.deed ok (hl d List.mem_cons_self)
    have hl' : ∀ x ∈ l, DIn ss x := fun x hx => hl x (List.mem_cons_of_mem _ hx)
    have gt := tabI_gt ok hl'
    show l.foldl (fun t d => bothI ss t (deedI ss d)) (bothI ss t (deedI ss d)) = bothI ss t (l.foldl (fun t d => bothI ss t (deedI ss d)) (bothI ss (stillI ss.length) (deedI ss d)))
    rw [tab_from2 ok hl' (GT.both ok h dd), tab_from2 ok hl' (GT.both ok (GT.still ok) dd), still_both dd.sq dd.low, both_assoc h.sq dd.sq gt.sq gt.hit]
/-- the table of two programs one behind the other -/
theorem tab_app (ok : ∀ s ∈ ss, SizeOk s) {l m : List (Nat × Nat × Int)} (hl : ∀ d ∈ l, DIn ss d) (hm : ∀ d ∈ m, DIn ss d) : tabI ss (l ++ m) = bothI ss (tabI ss l) (tabI ss m) := by
  have e : tabI ss (l ++ m) = m.foldl (fun t d => bothI ss t (deedI ss d)) (tabI ss l) := List.foldl_append
  rw [e, tab_from2 ok hm (tabI_gt ok hl)]
end
end NA
namespace NA
open PySem PySem.Spec PyProof.Rows L2
/-! ### a deed's rows -/
def rowI (s c : Int) (r1 r2 : List Int) : List Int := List.zipWith (fun item mate => (item + c * mate) % s) r1 r2
def madeI (ss : List Int) (t : List (List Int)) (d : Nat × Nat × Int) : List (List Int) := t.set d.2.1 (rowI (ss.getD d.2.1 1) d.2.2 (t.getD d.2.1 []) (t.getD d.1 []))
theorem rowI_len {s c : Int} {r1 r2 : List Int} {n : Nat} (a : r1.length = n) (b : r2.length = n) : (rowI s c r1 r2).length = n := by
  unfold rowI
  rw [List.length_zipWith]
  omega
theorem made_both {ss : List Int} {t : List (List Int)} {d : Nat × Nat × Int} (ok : ∀ s ∈ ss, SizeOk s) (h : GT ss t) (dd : DIn ss d) : madeI ss t d = bothI ss t (deedI ss d) := by
  obtain ⟨ri, eri, lri⟩ := h.sq.get dd.li
  obtain ⟨rj, erj, lrj⟩ := h.sq.get dd.lj
  have gi : t.getD d.2.1 [] = ri := by rw [List.getD_eq_getElem?_getD, eri]; rfl
  have gj : t.getD d.1 [] = rj := by rw [List.getD_eq_getElem?_getD, erj]; rfl
  have sq : Sq ss.length (madeI ss t d) := by
    unfold madeI
    refine ⟨by rw [List.length_set, h.sq.len], fun r hr => ?_⟩
    rcases List.mem_or_eq_of_mem_set hr with m | m
    · exact h.sq.row r m
    · rw [m, gi, gj]
      exact rowI_len lri lrj
  refine sq_ext sq (both_sq (deed_sq dd)) fun a k ha hk => ?_
  obtain ⟨s, es⟩ := get_some ha
  rw [both_en h.sq (deed_sq dd) es hk]
  by_cases e : d.2.1 = a
  · subst e
    have gs : ss.getD d.2.1 1 = s := by rw [List.getD_eq_getElem?_getD, es]; rfl
    have em : (madeI ss t d)[d.2.1]? = some (rowI s d.2.2 ri rj) := by
      unfold madeI
      rw [gi, gj, gs, List.getElem?_set_self (by rw [h.sq.len]; exact ha)]
    have ek : (rowI s d.2.2 ri rj).getD k 0 = (en t d.2.1 k + d.2.2 * en t d.1 k) % s := by
      unfold rowI
      rw [List.getD_eq_getElem?_getD, List.getElem?_zipWith, List.getElem?_eq_getElem (by omega), List.getElem?_eq_getElem (by omega), en_of eri, en_of erj, List.getD_eq_getElem?_getD, List.getD_eq_getElem?_getD, List.getElem?_eq_getElem (by omega), List.getElem?_eq_getElem (by omega)]
      rfl
    rw [en_of em, ek]
    have f : ∀ l, l < ss.length → en (deedI ss d) d.2.1 l * en t l k = (if d.2.1 = l then 1 else 0) * en t l k + (if d.1 = l then 1 else 0) * (d.2.2 % s * en t l k) := fun l hl => by
      rw [deed_en dd es hl]
      by_cases z : l = d.1
      · subst z
        rw [if_pos ⟨rfl, rfl⟩, if_neg (Ne.symm dd.ne), if_pos rfl]
        omega
      · rw [if_neg (fun q => z q.2), if_neg (c := d.1 = l) (Ne.symm z)]
        omega
    rw [sumF_congr f, sumF_add, sumF_one _ _ (fun l => en t l k) dd.li, sumF_one _ _ (fun l => d.2.2 % s * en t l k) dd.lj]
    refine mod_congr ?_
    rw [show ∀ x y z : Int, x + y - (x + z) = y - z from fun x y z => by omega, ← Int.sub_mul]
    exact Int.dvd_trans (dvd_sub_comm (mod_sub _ _)) (Int.dvd_mul_right _ _)
  · obtain ⟨ra, era, _⟩ := h.sq.get ha
    have em : (madeI ss t d)[a]? = some ra := by
      unfold madeI
      rw [List.getElem?_set_ne e, era]
    rw [en_of em, ← en_of era, sumF_congr (G := fun l => (if a = l then 1 else 0) * en t l k) fun l hl => by rw [deed_en dd es hl, if_neg (fun q => e q.1.symm)], sumF_one _ _ _ ha]
    obtain ⟨x, y⟩ := h.low a k s es hk
    exact (Int.emod_eq_of_lt x y).symm
/-- rows of which one is told anew -/
theorem Rws.swap {p q R g : Addr} {H : Hp} {rs : List Addr} {t : List (List Int)} {r : List Int} {i : Nat} (h : Rws p q R H rs t) (hi : i < rs.length) (hg : H g = some (.lst (r.map V.int))) (n1 : g ∉ rs) (n2 : g ≠ R ∧ g ≠ p ∧ g ≠ q) : Rws p q R (upd H R (.lst ((rs.map V.ref).set i (.ref g)))) (rs.set i g) (t.set i r) := by
  refine ⟨by rw [upd_same, List.map_set], by rw [List.length_set, List.length_set]; exact h.len, fun j b eb => ?_, ?_, fun b hb => ?_⟩
  · by_cases e : i = j
    · subst e
      rw [List.getElem?_set_self hi] at eb
      cases eb
      exact ⟨r, by rw [List.getElem?_set_self (by rw [← h.len]; exact hi)], by rw [upd_ne n2.1]; exact hg⟩
    · rw [List.getElem?_set_ne e] at eb
      obtain ⟨r', a, c⟩ := h.row j b eb
      exact ⟨r', by rw [List.getElem?_set_ne e]; exact a, by rw [upd_ne (h.off b (List.mem_of_getElem? eb)).1]; exact c⟩
  · refine List.pairwise_iff_getElem.mpr fun a b ha hb lt => ?_
    rw [List.length_set] at ha hb
    rw [List.getElem_set, List.getElem_set]
    by_cases e1 : i = a <;> by_cases e2 : i = b
    · omega
    · rw [if_pos e1, if_neg e2]
      exact fun z => n1 (z ▸ List.getElem_mem _)
    · rw [if_neg e1, if_pos e2]
      exact fun z => n1 (z ▸ List.getElem_mem _)
    · rw [if_neg e1, if_neg e2]
      exact List.pairwise_iff_getElem.mp h.nd a b ha hb lt
  · rcases List.mem_or_eq_of_mem_set hb with m | m
    · exact h.off b m
    · rw [m]
      exact n2
def spMade : Sp := fun vs H Q _ => ∃ (x y : V) (ss : List Int) (l : List (Nat × Nat × Int)), vs = [x, y] ∧ Im H x (sD ss) ∧ Im H y (pD l) ∧ (∀ s ∈ ss, SizeOk s) ∧ ss.length ≤ 100 ∧ (∀ d ∈ l, DIn ss d) ∧ (∀ d ∈ l, d.2.2.natAbs ≤ 10 ^ 60) ∧
  ∀ (u : V) (H' : Hp), Im H' u (tD (tabI ss l)) → Same H H' → Q u H'
theorem tabI_next {ss : List Int} {l : List (Nat × Nat × Int)} {i : Nat} {d : Nat × Nat × Int} (h : l[i]? = some d) : tabI ss (l.take (i + 1)) = bothI ss (tabI ss (l.take i)) (deedI ss d) := by
  unfold tabI
  rw [List.take_add_one, h, List.foldl_append]
  rfl
end NA
namespace NA
/-! ### programs backward, as tables -/
section
variable {ss : List Int}
theorem deed_back (ok : ∀ s ∈ ss, SizeOk s) {d : Nat × Nat × Int} (h : DIn ss d) : bothI ss (deedI ss d) (deedI ss (d.1, d.2.1, -d.2.2)) = stillI ss.length := by
  have gd := GT.deed ok h
  have hn := h.neg
  refine sq_ext (both_sq (deed_sq hn)) (still_sq _) fun a k ha hk => ?_
  obtain ⟨s, es⟩ := get_some ha
  obtain ⟨m, hm, m2, _⟩ := (ok s (List.mem_of_getElem? es)).nat
  rw [both_en gd.sq (deed_sq hn) es hk, still_en ha hk]
  by_cases e : a = d.2.1
  · subst e
    obtain ⟨r, er⟩ := get_some h.lj
    have f : ∀ l, l < ss.length → en (deedI ss (d.1, d.2.1, -d.2.2)) d.2.1 l * en (deedI ss d) l k = (if d.2.1 = l then 1 else 0) * en (deedI ss d) l k + (if d.1 = l then 1 else 0) * (-d.2.2 % s * en (deedI ss d) l k) := fun l hl => by
      rw [deed_en hn es hl]
      by_cases z : l = d.1
      · subst z
        rw [if_pos ⟨rfl, rfl⟩, if_neg (Ne.symm h.ne), if_pos rfl]
        dsimp only
        omega
      · rw [if_neg (fun q => z q.2), if_neg (c := d.1 = l) (Ne.symm z)]
        omega
    rw [sumF_congr f, sumF_add, sumF_one _ _ (fun l => en (deedI ss d) l k) h.li, sumF_one _ _ (fun l => -d.2.2 % s * en (deedI ss d) l k) h.lj, deed_en h es hk, deed_en h er hk, if_neg (c := d.1 = d.2.1 ∧ k = d.1) (fun q => h.ne q.1)]
    by_cases z : k = d.1
    · subst z
      rw [if_pos ⟨rfl, rfl⟩, if_pos rfl, if_neg (Ne.symm h.ne), Int.mul_one]
      refine Int.emod_eq_zero_of_dvd ?_
      have a := Int.dvd_add (mod_sub d.2.2 s) (mod_sub (-d.2.2) s)
      rwa [show ∀ x y z : Int, x - y + (z - -y) = x + z from fun x y z => by omega] at a
    · rw [if_neg (c := d.2.1 = d.2.1 ∧ k = d.1) (fun q => z q.2), if_neg (c := d.1 = k) (Ne.symm z), Int.mul_zero, Int.add_zero]
      split
      · exact Int.emod_eq_of_lt (by omega) (by omega)
      · exact Int.zero_emod _
  · rw [sumF_congr (G := fun l => (if a = l then 1 else 0) * en (deedI ss d) l k) fun l hl => by rw [deed_en hn es hl, if_neg (fun q => e q.1)], sumF_one _ _ _ ha, deed_en h es hk, if_neg (fun q => e q.1)]
    split
    · exact Int.emod_eq_of_lt (by omega) (by omega)
    · exact Int.zero_emod _
theorem tab_one (ok : ∀ s ∈ ss, SizeOk s) {d : Nat × Nat × Int} (h : DIn ss d) : tabI ss [d] = deedI ss d := still_both (GT.deed ok h).sq (GT.deed ok h).low
theorem backI_cons (d : Nat × Nat × Int) (l : List (Nat × Nat × Int)) : backI (d :: l) = backI l ++ [(d.1, d.2.1, -d.2.2)] := by
  unfold backI
  rw [List.map_cons, List.reverse_cons]
/-- a program, then itself backward, does nothing -/
theorem tab_back (ok : ∀ s ∈ ss, SizeOk s) : ∀ {l : List (Nat × Nat × Int)}, (∀ d ∈ l, DIn ss d) → bothI ss (tabI ss l) (tabI ss (backI l)) = stillI ss.length
  | [], _ => both_still (GT.still ok).sq (GT.still ok).low
  | d :: l, hl => by
    have dd := hl d List.mem_cons_self
    have hl' : ∀ x ∈ l, DIn ss x := fun x hx => hl x (List.mem_cons_of_mem _ hx)
    have g1 := GT.deed ok dd
    have g1' := GT.deed ok dd.neg
    have g2 := tabI_gt ok hl'
    have g3 := tabI_gt ok (back_din hl')
    have e1 : tabI ss (d :: l) = bothI ss (deedI ss d) (tabI ss l) := by
      rw [show d :: l = [d] ++ l from rfl, tab_app ok (fun x hx => by rw [List.mem_singleton.mp hx]; exact dd) hl', tab_one ok dd]
    have e2 : tabI ss (backI (d :: l)) = bothI ss (tabI ss (backI l)) (deedI ss (d.1, d.2.1, -d.2.2)) := by
      rw [backI_cons, tab_app ok (back_din hl') (fun x hx => by rw [List.mem_singleton.mp hx]; exact dd.neg), tab_one ok dd.neg]
    rw [e1, e2, both_assoc g1.sq g2.sq (GT.both ok g3 g1').sq (GT.both ok g3 g1').hit, ← both_assoc g2.sq g3.sq g1'.sq g1'.hit, tab_back ok hl', still_both g1'.sq g1'.low]
    exact deed_back ok dd
theorem back_back (l : List (Nat × Nat × Int)) : backI (backI l) = l := by
  unfold backI
  rw [List.map_reverse, List.reverse_reverse, List.map_map]
  refine (List.map_congr_left (g := id) fun d _ => ?_).trans (List.map_id l)
  show (d.1, d.2.1, - -d.2.2) = d
  rw [Int.neg_neg]
theorem back_tab (ok : ∀ s ∈ ss, SizeOk s) {l : List (Nat × Nat × Int)} (hl : ∀ d ∈ l, DIn ss d) : bothI ss (tabI ss (backI l)) (tabI ss l) = stillI ss.length := by
  have := tab_back ok (back_din hl)
  rwa [back_back] at this
end
end NA
namespace NA
open PySem PySem.Spec PyProof.Rows L2
/-! ### a deed as often as the size -/
section
variable {ss : List Int}
theorem deed_add (ok : ∀ s ∈ ss, SizeOk s) {j i : Nat} {c e : Int} (h : DIn ss (j, i, c)) (g : DIn ss (j, i, e)) : bothI ss (deedI ss (j, i, c)) (deedI ss (j, i, e)) = deedI ss (j, i, c + e) := by
  have gd := GT.deed ok h
  have hs : DIn ss (j, i, c + e) := ⟨h.lj, h.li, h.ne, fun a b ha hb => by
    show b ∣ (c + e) * a
    rw [Int.add_mul]
    exact Int.dvd_add (h.hit a b ha hb) (g.hit a b ha hb)⟩
  have ne : j ≠ i := h.ne
  refine sq_ext (both_sq (deed_sq g)) (deed_sq hs) fun a k ha hk => ?_
  obtain ⟨s, es⟩ := get_some ha
  obtain ⟨m, hm, m2, _⟩ := (ok s (List.mem_of_getElem? es)).nat
  rw [both_en gd.sq (deed_sq g) es hk, deed_en hs es hk]
  by_cases z : a = i
  · subst z
    obtain ⟨r, er⟩ := get_some h.lj
    have f : ∀ l, l < ss.length → en (deedI ss (j, a, e)) a l * en (deedI ss (j, a, c)) l k = (if a = l then 1 else 0) * en (deedI ss (j, a, c)) l k + (if j = l then 1 else 0) * (e % s * en (deedI ss (j, a, c)) l k) := fun l hl => by
      rw [deed_en g es hl]
      dsimp only
      by_cases y : l = j
      · subst y
        rw [if_pos ⟨rfl, rfl⟩, if_neg (Ne.symm ne), if_pos rfl]
        omega
      · rw [if_neg (fun q => y q.2), if_neg (c := j = l) (Ne.symm y)]
        omega
    rw [sumF_congr f, sumF_add, sumF_one _ _ (fun l => en (deedI ss (j, a, c)) l k) h.li, sumF_one _ _ (fun l => e % s * en (deedI ss (j, a, c)) l k) h.lj, deed_en h es hk, deed_en h er hk]
    dsimp only
    rw [if_neg (c := j = a ∧ k = j) (fun q => ne q.1)]
    by_cases y : k = j
    · subst y
      rw [if_pos ⟨rfl, rfl⟩, if_pos rfl, if_pos ⟨rfl, rfl⟩, Int.mul_one]
      refine mod_congr ?_
      have a := Int.dvd_add (mod_sub c s) (mod_sub e s)
      rwa [show ∀ x y z u : Int, x - y + (z - u) = x + z - (y + u) from fun x y z u => by omega] at a
    · rw [if_neg (c := a = a ∧ k = j) (fun q => y q.2), if_neg (c := j = k) (Ne.symm y), if_neg (c := a = a ∧ k = j) (fun q => y q.2), Int.mul_zero, Int.add_zero]
      split
      · exact Int.emod_eq_of_lt (by omega) (by omega)
      · exact Int.zero_emod _
  · rw [sumF_congr (G := fun l => (if a = l then 1 else 0) * en (deedI ss (j, i, c)) l k) fun l hl => by rw [deed_en g es hl, if_neg (fun q => z q.1)], sumF_one _ _ _ ha, deed_en h es hk]
    dsimp only
    rw [if_neg (c := a = i ∧ k = j) (fun q => z q.1), if_neg (c := a = i ∧ k = j) (fun q => z q.1)]
    split
    · exact Int.emod_eq_of_lt (by omega) (by omega)
    · exact Int.zero_emod _
theorem deed_null {j i : Nat} {c : Int} (h : DIn ss (j, i, c)) (n : ∀ s, ss[i]? = some s → s ∣ c) : deedI ss (j, i, c) = stillI ss.length := by
  refine sq_ext (deed_sq h) (still_sq _) fun a k ha hk => ?_
  obtain ⟨s, es⟩ := get_some ha
  rw [deed_en h es hk, still_en ha hk]
  by_cases e : a = i ∧ k = j
  · rw [if_pos e]
    obtain ⟨rfl, rfl⟩ := e
    have ne : k ≠ a := h.ne
    rw [if_neg (Ne.symm ne)]
    exact Int.emod_eq_zero_of_dvd (n s es)
  · rw [if_neg e]
theorem din_mul {j i : Nat} {c : Int} (h : DIn ss (j, i, c)) (k : Int) : DIn ss (j, i, k * c) := ⟨h.lj, h.li, h.ne, fun a b ha hb => by
  show b ∣ k * c * a
  rw [Int.mul_assoc]
  exact Int.dvd_trans (h.hit a b ha hb) (Int.dvd_mul_left _ _)⟩
theorem tab_often (ok : ∀ s ∈ ss, SizeOk s) {j i : Nat} {c : Int} (h : DIn ss (j, i, c)) : ∀ n : Nat, tabI ss (List.replicate n (j, i, c)) = deedI ss (j, i, (n : Int) * c)
  | 0 => by
    rw [deed_null (din_mul h _) fun s _ => by
      show s ∣ ((0 : Nat) : Int) * c
      rw [Int.natCast_zero, Int.zero_mul]
      exact Int.dvd_zero _]
    rfl
  | n + 1 => by
    rw [List.replicate_succ', tab_app ok (fun d hd => by rw [List.eq_of_mem_replicate hd]; exact h) (fun d hd => by rw [List.mem_singleton.mp hd]; exact h), tab_often ok h n, tab_one ok h, deed_add ok (din_mul h _) h]
    congr 3
    rw [Int.natCast_add, Int.add_mul]
    omega
theorem tab_size (ok : ∀ s ∈ ss, SizeOk s) {j i n : Nat} {c : Int} (h : DIn ss (j, i, c)) (es : ss[i]? = some (n : Int)) : tabI ss (List.replicate n (j, i, c)) = stillI ss.length := by
  rw [tab_often ok h]
  refine deed_null (din_mul h _) fun s hs => ?_
  rw [es] at hs
  cases hs
  exact Int.dvd_mul_right _ _
end
end NA
namespace NA
open PySem PySem.Spec PyProof.Rows L2
/-! ### the program's functions: small facts, levels -/
theorem Cal.up {P : Program} {w : World} {K : PySem.W.Frag} {mg : Str → Option Value} {base : Heap} {x : Str} {k j : Nat} {sp : Sp} (h : k ≤ j) (c : Cal P w K mg base k x sp) : Cal P w K mg base j x sp := by
  obtain ⟨a, fd, ps, F, r⟩ := c.ex
  exact ⟨a, fd, ps, ⟨F.len, fun A outer s H args us vs Q E hr he hb hv h' => F.run A outer s H args us vs Q E (hr.mono h) he hb hv h'⟩, r⟩
theorem CalK.up {P : Program} {w : World} {K : PySem.W.Frag} {mg : Str → Option Value} {base : Heap} {x : Str} {k j : Nat} {sp : Sp} {ks : List Str} {gV : List V → List V → List V} (h : k ≤ j) (c : CalK P w K mg base k x sp ks gV) : CalK P w K mg base j x sp ks gV := by
  obtain ⟨a, fd, ps, g, F, r⟩ := c.ex
  exact ⟨a, fd, ps, g, ⟨F.len, fun A outer s H args us vs Q E hr he hb hv h' => F.run A outer s H args us vs Q E (hr.mono h) he hb hv h'⟩, r⟩
theorem doneI_set {ss hs : List Int} (ok : ∀ s ∈ ss, SizeOk s) (h : COk ss hs) {d : Nat × Nat × Int} {s : Int} (e : ss[d.2.1]? = some s) : doneI ss hs d = hs.set d.2.1 ((hs.getD d.2.1 0 + d.2.2 * hs.getD d.1 0) % s) := by
  have li := (List.getElem?_eq_some_iff.mp e).1
  have l1 : (addI hs d).length = ss.length := by rw [addI_len, h.len]
  unfold doneI
  refine ext_getD (by rw [remI_length l1, List.length_set, h.len]) fun i hi => ?_
  rw [remI_length l1] at hi
  obtain ⟨t, et⟩ := get_some hi
  rw [remI_getD l1 et, addI_getD (by rw [h.len]; exact li), getD_set (by rw [h.len]; exact li)]
  by_cases z : d.2.1 = i
  · subst z
    rw [if_pos rfl, if_pos rfl]
    rw [e] at et
    cases et
    rfl
  · rw [if_neg z, if_neg z]
    obtain ⟨x, ex⟩ := get_some (show i < hs.length by rw [h.len]; exact hi)
    obtain ⟨a, b⟩ := h.low i x t ex et
    rw [List.getD_eq_getElem?_getD, ex]
    exact Int.emod_eq_of_lt a b
theorem runP_next {ss : List Int} {l : List (Nat × Nat × Int)} {hs : List Int} {i : Nat} {d : Nat × Nat × Int} (h : l[i]? = some d) : runP ss (l.take (i + 1)) hs = doneI ss (runP ss (l.take i) hs) d := by
  unfold runP
  rw [List.take_add_one, h, List.foldl_append]
  rfl
theorem COk.most {ss hs : List Int} (ok : ∀ s ∈ ss, SizeOk s) (h : COk ss hs) (i : Nat) : (hs.getD i 0).natAbs < 2 ^ 110 := by
  rw [List.getD_eq_getElem?_getD]
  cases e : hs[i]? with
  | none => exact Nat.pow_pos (by decide)
  | some x =>
    have li := (List.getElem?_eq_some_iff.mp e).1
    obtain ⟨s, es⟩ := get_some (show i < ss.length by rw [← h.len]; exact li)
    obtain ⟨a, b⟩ := h.low i x s e es
    obtain ⟨m, rfl, _, d⟩ := (ok s (List.mem_of_getElem? es)).nat
    exact Nat.lt_of_le_of_lt (show x.natAbs ≤ 10 ^ 30 by omega) (by decide)
end NA
namespace NA
open PySem
open Sem (wp)
abbrev ZObj (f0 : Value) (b : Bool) (TI TO : Addr) : Obj := { cls := .type "zip", dict := none, data := .fields #[f0, .bool b, .bool false, .ref TI, .ref TO], slots := #[] }
abbrev IsTupN (h : Heap) (T : Addr) (vs : List Value) : Prop := h.get? T = some { cls := .type "tuple", data := .seq vs.toArray }
def Srcs (h : Heap) (B : Addr) (ts : List (Addr × Array Value)) (i m : Nat) : Prop := ∀ (k : Nat) (t : Addr) (its : Array Value), ts[k]? = some (t, its) → t < B ∧ h.IsTupleIter (B + k) t (if k < m then i + 1 else i) ∧ h.IsTuple t its
abbrev itRefs (B : Addr) (n : Nat) : List Value := (List.range n).map fun k => Value.ref (B + k)
def colV (ts : List (Addr × Array Value)) (i : Nat) : List Value := ts.map fun t => t.2.getD i .none
section
variable {prog : Program} {w : World} {A : Around} {E : Value → Shared → Prop} {s : Shared}
theorem wpAny_loadAlive {a : Addr} {Q : Option Obj → Shared → Prop} (h : Q (s.heap.get? a) s) : wpAny (model prog w) A (loadIfAlive a) Q E s := fun Γ p hΓ => by
  unfold loadIfAlive
  rw [Sem.wp_loadIfAlive]
  exact (wpAny_pure h) Γ p hΓ
theorem srcs_get {h : Heap} {B : Addr} {ts : List (Addr × Array Value)} {i m k : Nat} (S : Srcs h B ts i m) (hk : k < ts.length) : ∃ t its, ts[k]? = some (t, its) ∧ t < B ∧ h.IsTupleIter (B + k) t (if k < m then i + 1 else i) ∧ h.IsTuple t its :=
  ⟨ts[k].1, ts[k].2, by rw [List.getElem?_eq_getElem hk], S k _ _ (by rw [List.getElem?_eq_getElem hk])⟩
theorem drop_refs {B n m : Nat} {x : Value} {rest : List Value} (h : x :: rest = (itRefs B n).drop m) : m < n ∧ x = .ref (B + m) ∧ rest = (itRefs B n).drop (m + 1) := by
  have l : m < n := Nat.lt_of_not_le fun z => by
    rw [List.drop_eq_nil_of_le (by simp [itRefs]; exact z)] at h
    cases h
  rw [List.drop_eq_getElem_cons (by simp [itRefs]; exact l)] at h
  cases h
  exact ⟨l, by simp [itRefs], rfl⟩
theorem srcs_step {h h' : Heap} {B : Addr} {ts : List (Addr × Array Value)} {i m : Nat} {t : Addr} {its : Array Value} (S : Srcs h B ts i m) (e : ts[m]? = some (t, its)) (hi : h'.IsTupleIter (B + m) t (i + 1)) (hs : Heap.SameBut (B + m) h h') : Srcs h' B ts i (m + 1) := fun k t' its' e' => by
  obtain ⟨a, b, c⟩ := S k t' its' e'
  have lt : t' ≠ B + m := Nat.ne_of_lt (Nat.lt_of_lt_of_le a (Nat.le_add_right B m))
  refine ⟨a, ?_, c.extBut hs.extBut lt⟩
  by_cases q : k = m
  · subst q
    rw [e] at e'
    cases e'
    rw [if_pos (Nat.lt_succ_self k)]
    exact hi
  · have b' := b.extBut hs.extBut (fun z => q (Nat.add_left_cancel z))
    by_cases z : k < m
    · rw [if_pos z] at b'
      rw [if_pos (by omega)]
      exact b'
    · rw [if_neg z] at b'
      rw [if_neg (by omega)]
      exact b'
theorem srcs_all {h : Heap} {B : Addr} {ts : List (Addr × Array Value)} {i : Nat} (S : Srcs h B ts i ts.length) : Srcs h B ts (i + 1) 0 := fun k t its e => by
  obtain ⟨a, b, c⟩ := S k t its e
  rw [if_pos (List.getElem?_eq_some_iff.mp e).1] at b
  exact ⟨a, by rw [if_neg (Nat.not_lt_zero k)]; exact b, c⟩
theorem srcs_keep {h h' : Heap} {B : Addr} {ts : List (Addr × Array Value)} {i m : Nat} (S : Srcs h B ts i m) (hk : ∀ c o, c < B + ts.length → h.get? c = some o → h'.get? c = some o) : Srcs h' B ts i m := fun k t its e => by
  obtain ⟨a, b, c⟩ := S k t its e
  have lk := (List.getElem?_eq_some_iff.mp e).1
  exact ⟨a, b.at fun o q => hk _ _ (Nat.add_lt_add_left lk B) q, c.at fun o q => hk _ _ (Nat.lt_of_lt_of_le a (Nat.le_add_right B _)) q⟩
theorem colV_take {ts : List (Addr × Array Value)} {i m : Nat} {t : Addr} {its : Array Value} {x : Value} (e : ts[m]? = some (t, its)) (hx : its[i]? = some x) : (colV ts i).take (m + 1) = (colV ts i).take m ++ [x] := by
  unfold colV
  rw [List.take_add_one, List.getElem?_map, e]
  simp [Array.getD, hx]
  obtain ⟨l, g⟩ := Array.getElem?_eq_some_iff.mp hx
  simp [l, g]
theorem zipN_slow {B z TI TO a : Addr} {b : Bool} {ts : List (Addr × Array Value)} {i n : Nat} {Q : Value → Shared → Prop}
    (hz : s.heap.get? z = some (ZObj (rawInt a) b TI TO)) (hTI : IsTupN s.heap TI (itRefs B ts.length)) (ha : ∃ o, s.heap.get? a = some o) (S : Srcs s.heap B ts i 0) (hi : i < n) (hn : ∀ t ∈ ts, t.2.size = n)
    (hlen : ts.length ≤ sizeLine) (ne : ts ≠ []) (hzB : B + ts.length ≤ z) (hTB : B + ts.length ≤ TI) (zT : TI ≠ z)
    (hQ : ∀ h', h'.get? z = some (ZObj (rawInt a) true TI TO) → Srcs h' B ts (i + 1) 0 → IsTupN h' s.heap.objs.size (colV ts i) → h'.objs.size = s.heap.objs.size + 1 →
      (∀ c o, c ≠ z → (c < B ∨ B + ts.length ≤ c) → s.heap.get? c = some o → h'.get? c = some o) → Q (.ref s.heap.objs.size) { s with heap := h' }) :
    wpAny (model prog w) A (Builtin.«zip.__next__» ⟨[.ref z], []⟩) (fun fin s' => ∃ v, fin = .done (.ret v) ∧ Q v s') E s := by
  show wpAny _ _ (field (.ref z) 2 >>= _) _ _ _
  refine wpAny_bind (wpAny_field hz rfl (x := .bool false) rfl ?_)
  show wpAny _ _ (field (.ref z) 3 >>= _) _ _ _
  refine wpAny_bind (wpAny_field hz rfl (x := .ref TI) rfl ?_)
  refine wpAny_bind (wpAny_seqItems hTI rfl ?_)
  dsimp only
  have hne : (itRefs B ts.length).toArray.isEmpty = false := by
    cases ts with
    | nil => exact absurd rfl ne
    | cons x xs => simp [itRefs]
  rw [if_neg (by rw [hne]; exact Bool.false_ne_true)]
  have free : wpAny (model prog w) A (Builtin.SmallTypes.ownedTupleIsFree (.ref z)) (fun r s' => r = false ∧ ∃ h1, s' = { s with heap := h1 } ∧ h1.get? z = some (ZObj (rawInt a) true TI TO) ∧ Heap.SameBut z s.heap h1) E s := by
    unfold Builtin.SmallTypes.ownedTupleIsFree
    refine wpAny_bind (wpAny_field hz rfl (x := rawInt a) rfl ?_)
    unfold rawInt
    dsimp only
    refine wpAny_bind (wpAny_loadAlive ?_)
    obtain ⟨oa, hoa⟩ := ha
    rw [Int.toNat_natCast, hoa]
    simp only [Option.isNone_some, Bool.false_eq_true, if_false]
    refine wpAny_bind (wpAny_field hz rfl (x := .bool b) rfl ?_)
    cases b with
    | true => exact wpAny_pure ⟨rfl, s.heap, rfl, hz, Heap.SameBut.refl ..⟩
    | false =>
      rw [if_pos (by decide)]
      refine wpAny_bind (wpAny_setField_rec hz (by simp) fun h1 hz1 hs1 => wpAny_pure ⟨rfl, h1, rfl, hz1, hs1⟩)
  refine wpAny_bind (wpAny_mono free (fun r s' hr => ?_) fun _ _ h => h)
  obtain ⟨rfl, h1, rfl, hz1, hs1⟩ := hr
  rw [if_neg Bool.false_ne_true]
  have S1 : Srcs h1 B ts i 0 := srcs_keep S fun c o hc q => hs1.extBut _ _ (fun e => by subst e; exact absurd hzB (Nat.not_le_of_lt hc)) q
  refine wpAny_bind (MeetsSeq2.wpAny_forIn_array _ (fun rest b s' => b.1 = none ∧ ∃ m h2, s' = { s with heap := h2 } ∧ rest = (itRefs B ts.length).drop m ∧ m ≤ ts.length ∧ b.2.toList = (colV ts i).take m ∧ Srcs h2 B ts i m ∧ h2.objs.size = h1.objs.size ∧
    ∀ c o, (c < B ∨ B + ts.length ≤ c) → h1.get? c = some o → h2.get? c = some o) _ (fun x rest b s' hI => ?_) (fun b s' hI => ?_) _ _ ⟨rfl, 0, h1, rfl, rfl, Nat.zero_le _, rfl, S1, rfl, fun _ _ _ q => q⟩)
  · obtain ⟨b1, m, h2, rfl, er, lm, eb, S2, z2, k2⟩ := hI
    obtain ⟨l, rfl, rfl⟩ := drop_refs er
    obtain ⟨t, its, et, a1, a2, a3⟩ := srcs_get S2 l
    rw [if_neg (Nat.lt_irrefl m)] at a2
    have hsz : its.size = n := hn _ (List.mem_of_getElem? et)
    have hx : its[i]? = some its[i] := Array.getElem?_eq_getElem (by omega)
    refine wpAny_bind (wpAny_holding ?_)
    show wpAny _ _ (Builtin.SmallTypes.nextOf (.ref (B + m)) >>= _) _ _ _
    refine wpAny_bind (wpAny_nextOf_tuple_item a2 a3 hx fun h3 i3 s3 => wpAny_pure ?_)
    refine wpAny_pure ⟨rfl, m + 1, h3, rfl, rfl, l, ?_, srcs_step S2 et i3 s3, s3.1.trans z2, fun c o hc q => s3.extBut _ _ (fun e => ?_) (k2 c o hc q)⟩
    · rw [Array.toList_push, eb, colV_take et hx]
    · subst e
      rcases hc with hc | hc
      · exact absurd hc (Nat.not_lt_of_le (Nat.le_add_right B m))
      · exact absurd l (Nat.not_lt_of_le (Nat.le_of_add_le_add_left hc))
  · obtain ⟨b1, m, h2, rfl, er, lm, eb, S2, z2, k2⟩ := hI
    have em : m = ts.length := by
      have := congrArg List.length er
      rw [List.length_drop, List.length_nil] at this
      simp [itRefs] at this
      omega
    subst em
    rw [b1]
    dsimp only
    refine wpAny_bind (wpAny_newTuple ?_ ?_)
    · have hz2 := k2 z _ (.inr hzB) hz1
      have sz : h2.objs.size = s.heap.objs.size := z2.trans hs1.1
      refine wpAny_pure ⟨_, rfl, ?_⟩
      show Q (.ref h2.objs.size) _
      rw [sz]
      refine hQ _ (Heap.get?_push_of_some _ hz2) (srcs_keep (srcs_all S2) fun c o _ q => Heap.get?_push_of_some _ q) ?_ (by rw [Heap.size_push, sz]) fun c o cz hc q => Heap.get?_push_of_some _ (k2 c o hc (hs1.extBut _ _ cz q))
      have e : b.snd.toList = colV ts i := by rw [eb, List.take_of_length_le (by unfold colV; rw [List.length_map]; exact Nat.le_refl _)]
      rw [← sz]
      show (Heap.push h2 _).get? _ = _
      rw [e]
      exact Heap.get?_push_size _ rfl
    · rw [eb]
      have : ts.length ≤ sizeLine := hlen
      unfold colV
      rw [List.length_take, List.length_map]
      omega
theorem drop_zip {B n m : Nat} {x : Value × Nat} {rest : List (Value × Nat)} (h : x :: rest = ((itRefs B n).zipIdx).drop m) : m < n ∧ x = (.ref (B + m), m) ∧ rest = ((itRefs B n).zipIdx).drop (m + 1) := by
  have l : m < n := Nat.lt_of_not_le fun z => by
    rw [List.drop_eq_nil_of_le (by simp [itRefs]; exact z)] at h
    cases h
  rw [List.drop_eq_getElem_cons (by simp [itRefs]; exact l)] at h
  cases h
  exact ⟨l, by simp [itRefs], rfl⟩
theorem zipN_first {B z TI TO : Addr} {ts : List (Addr × Array Value)} {i n : Nat} {os : List Value} {Q : Value → Shared → Prop}
    (hz : s.heap.get? z = some (ZObj .none false TI TO)) (hTI : IsTupN s.heap TI (itRefs B ts.length)) (hTO : IsTupN s.heap TO os) (los : os.length = ts.length) (S : Srcs s.heap B ts i 0) (hi : i < n) (hn : ∀ t ∈ ts, t.2.size = n)
    (hlen : ts.length ≤ sizeLine) (ne : ts ≠ []) (hzB : B + ts.length ≤ z) (hTB : B + ts.length ≤ TI) (hOB : B + ts.length ≤ TO) (zT : TI ≠ z) (zO : TO ≠ z) (TO' : TI ≠ TO)
    (hQ : ∀ h', h'.get? z = some (ZObj (rawInt s.heap.objs.size) false TI TO) → Srcs h' B ts (i + 1) 0 → IsTupN h' s.heap.objs.size (colV ts i) → h'.objs.size = s.heap.objs.size + 1 →
      (∀ c o, c ≠ z → c ≠ TO → (c < B ∨ B + ts.length ≤ c) → s.heap.get? c = some o → h'.get? c = some o) → Q (.ref s.heap.objs.size) { s with heap := h' }) :
    wpAny (model prog w) A (Builtin.«zip.__next__» ⟨[.ref z], []⟩) (fun fin s' => ∃ v, fin = .done (.ret v) ∧ Q v s') E s := by
  show wpAny _ _ (field (.ref z) 2 >>= _) _ _ _
  refine wpAny_bind (wpAny_field hz rfl (x := .bool false) rfl ?_)
  show wpAny _ _ (field (.ref z) 3 >>= _) _ _ _
  refine wpAny_bind (wpAny_field hz rfl (x := .ref TI) rfl ?_)
  refine wpAny_bind (wpAny_seqItems hTI rfl ?_)
  dsimp only
  have hne : (itRefs B ts.length).toArray.isEmpty = false := by
    cases ts with
    | nil => exact absurd rfl ne
    | cons x xs => simp [itRefs]
  rw [if_neg (by rw [hne]; exact Bool.false_ne_true)]
  refine wpAny_bind ?_
  unfold Builtin.SmallTypes.ownedTupleIsFree
  refine wpAny_bind (wpAny_field hz rfl (x := .none) rfl (wpAny_pure ?_))
  simp only [if_true]
  refine wpAny_bind (wpAny_rule ?_)
  refine wpAny_bind (wpAny_field hz rfl (x := .ref TO) rfl ?_)
  refine wpAny_bind (wpAny_setField_rec hz (by simp) fun h1 hz1 hs1 => ?_)
  replace hz1 : h1.get? z = some (ZObj .ellipsis false TI TO) := hz1
  replace hs1 : Heap.SameBut z s.heap h1 := hs1
  have S1 : Srcs h1 B ts i 0 := srcs_keep S fun c o hc q => hs1.extBut _ _ (fun e => by subst e; exact absurd hzB (Nat.not_le_of_lt hc)) q
  have hO1 : IsTupN h1 TO os := hs1.extBut _ _ zO hTO
  refine wpAny_bind (wpAny_forIn_list _ (fun rest b s' => b.1 = none ∧ ∃ m h2 vs, s' = { s with heap := h2 } ∧ rest = ((itRefs B ts.length).zipIdx).drop m ∧ m ≤ ts.length ∧ IsTupN h2 TO vs ∧ vs.length = ts.length ∧ vs.take m = (colV ts i).take m ∧ Srcs h2 B ts i m ∧ h2.objs.size = h1.objs.size ∧
    ∀ c o, c ≠ TO → (c < B ∨ B + ts.length ≤ c) → h1.get? c = some o → h2.get? c = some o) _ (fun x rest b s' hI => ?_) (fun b s' hI => ?_) _ _ ⟨rfl, 0, h1, os, rfl, rfl, Nat.zero_le _, hO1, los, rfl, S1, rfl, fun _ _ _ _ q => q⟩)
  · obtain ⟨b1, m, h2, vs, rfl, er, lm, hO2, lv, ev, S2, z2, k2⟩ := hI
    obtain ⟨l, rfl, rfl⟩ := drop_zip er
    obtain ⟨t, its, et, a1, a2, a3⟩ := srcs_get S2 l
    rw [if_neg (Nat.lt_irrefl m)] at a2
    have hsz : its.size = n := hn _ (List.mem_of_getElem? et)
    have hx : its[i]? = some its[i] := Array.getElem?_eq_getElem (by omega)
    have nO : TO ≠ B + m := fun e => by subst e; exact absurd l (Nat.not_lt_of_le (Nat.le_of_add_le_add_left hOB))
    dsimp only
    refine wpAny_bind (wpAny_onRaise ?_)
    show wpAny _ _ (Builtin.SmallTypes.nextOf (.ref (B + m)) >>= _) _ _ _
    refine wpAny_bind (wpAny_nextOf_tuple_item a2 a3 hx fun h3 i3 s3 => wpAny_pure ?_)
    replace s3 : Heap.SameBut (B + m) h2 h3 := s3
    have hO3 : IsTupN h3 TO vs := s3.extBut _ _ nO hO2
    dsimp only
    refine wpAny_bind (wpAny_seqItems (s := { s with heap := h3 }) hO3 rfl ?_)
    dsimp only
    refine wpAny_bind (wpAny_updateSeq (s := { s with heap := h3 }) hO3 rfl ?_)
    have hO4 := Heap.get?_update_self (Obj.mapSeq (·.setIfInBounds m its[i])) hO3 rfl
    have s4 : Heap.SameBut TO h3 (h3.update TO (Obj.mapSeq (·.setIfInBounds m its[i]))) := Heap.SameBut.update ..
    refine wpAny_bind (wpAny_letGo (wpAny_pure ⟨rfl, m + 1, _, vs.set m its[i], rfl, rfl, l, ?_, by rw [List.length_set, lv], ?_, ?_, s4.1.trans (s3.1.trans z2), fun c o cO hc q => s4.extBut _ _ cO (s3.extBut _ _ (fun e => ?_) (k2 c o cO hc q))⟩))
    · refine hO4.trans ?_
      simp [Obj.mapSeq]
    · have hm : m < vs.length := by omega
      rw [List.take_succ_eq_append_getElem (by rw [List.length_set]; exact hm), List.take_set_of_le (Nat.le_refl m), ev, colV_take et hx, List.getElem_set_self]
    · refine srcs_keep (srcs_step S2 et i3 s3) fun c o hc q => s4.extBut _ _ (fun e => ?_) q
      subst e
      exact absurd hOB (Nat.not_le_of_lt hc)
    · subst e
      rcases hc with hc | hc
      · exact absurd hc (Nat.not_lt_of_le (Nat.le_add_right B m))
      · exact absurd l (Nat.not_lt_of_le (Nat.le_of_add_le_add_left hc))
  · obtain ⟨b1, m, h2, vs, rfl, er, lm, hO2, lv, ev, S2, z2, k2⟩ := hI
    have em : m = ts.length := by
      have := congrArg List.length er
      rw [List.length_drop, List.length_nil] at this
      simp [itRefs] at this
      omega
    subst em
    have evs : vs = colV ts i := by
      rw [List.take_of_length_le (by omega), List.take_of_length_le (by unfold colV; rw [List.length_map]; exact Nat.le_refl _)] at ev
      exact ev
    subst evs
    rw [b1]
    dsimp only
    refine wpAny_bind (wpAny_seqItems (s := { s with heap := h2 }) hO2 rfl ?_)
    dsimp only
    have hz2 := k2 z _ (Ne.symm zO) (.inr hzB) hz1
    have sz : h2.objs.size = s.heap.objs.size := z2.trans hs1.1
    refine wpAny_bind (wpAny_newTuple ?_ ?_)
    · show wpAny _ _ (Builtin.SmallTypes.ownedTupleHandOut (.ref z) (.ref h2.objs.size) >>= _) _ _ _
      refine wpAny_bind ?_
      unfold Builtin.SmallTypes.ownedTupleHandOut
      have hz3 : (h2.push { cls := .type "tuple", data := .seq (colV ts i).toArray }).get? z = some (ZObj .ellipsis false TI TO) := Heap.get?_push_of_some _ hz2
      refine wpAny_bind (wpAny_setField_rec (s := { s with heap := h2.push { cls := .type "tuple", data := .seq (colV ts i).toArray } }) hz3 (by simp) fun h4 hz4 hs4 => ?_)
      replace hz4 : h4.get? z = some (ZObj (rawInt h2.objs.size) false TI TO) := hz4
      replace hs4 : Heap.SameBut z (h2.push { cls := .type "tuple", data := .seq (colV ts i).toArray }) h4 := hs4
      refine wpAny_setField_rec (s := { s with heap := h4 }) hz4 (by simp) fun h5 hz5 hs5 => ?_
      replace hz5 : h5.get? z = some (ZObj (rawInt h2.objs.size) false TI TO) := hz5
      replace hs5 : Heap.SameBut z h4 h5 := hs5
      have lz : z < h2.objs.size := Heap.lt_size hz2
      have up : ∀ c o, c ≠ z → h2.get? c = some o → h5.get? c = some o := fun c o c1 e => hs5.extBut _ _ c1 (hs4.extBut _ _ c1 (Heap.get?_push_of_some _ e))
      have hT5 : IsTupN h5 h2.objs.size (colV ts i) := hs5.extBut _ _ (Nat.ne_of_gt lz) (hs4.extBut _ _ (Nat.ne_of_gt lz) (Heap.get?_push_size _ rfl))
      have s5 : h5.objs.size = h2.objs.size + 1 := by rw [hs5.1, hs4.1, Heap.size_push]
      rw [sz] at hz5 hT5 s5
      refine wpAny_pure ⟨_, rfl, ?_⟩
      show Q (.ref h2.objs.size) _
      rw [sz]
      exact hQ h5 hz5 (srcs_keep (srcs_all S2) fun c o hc q => up c o (fun e => by subst e; exact absurd hzB (Nat.not_le_of_lt hc)) q) hT5 s5 fun c o cz cO hc q => up c o cz (k2 c o cO hc (hs1.extBut _ _ cz q))
    · have : ts.length ≤ sizeLine := hlen
      unfold colV
      simp
      omega
theorem zipN_end {B z TI TO a : Addr} {b : Bool} {ts : List (Addr × Array Value)} {n : Nat} {Q : Fin → Shared → Prop} (hh : A.handled = none)
    (hz : s.heap.get? z = some (ZObj (rawInt a) b TI TO)) (hTI : IsTupN s.heap TI (itRefs B ts.length)) (ha : ∃ o, s.heap.get? a = some o) (S : Srcs s.heap B ts n 0) (hn : ∀ t ∈ ts, t.2.size = n)
    (ne : ts ≠ []) (hzB : B + ts.length ≤ z)
    (hE : ∀ h' e, (∀ c o, c ≠ z → (c < B ∨ B + ts.length ≤ c) → s.heap.get? c = some o → h'.get? c = some o) → (∃ o, h'.get? e = some o ∧ o.cls = .type "StopIteration") → E (.ref e) { s with heap := h' }) :
    wpAny (model prog w) A (Builtin.«zip.__next__» ⟨[.ref z], []⟩) Q E s := by
  show wpAny _ _ (field (.ref z) 2 >>= _) _ _ _
  refine wpAny_bind (wpAny_field hz rfl (x := .bool false) rfl ?_)
  show wpAny _ _ (field (.ref z) 3 >>= _) _ _ _
  refine wpAny_bind (wpAny_field hz rfl (x := .ref TI) rfl ?_)
  refine wpAny_bind (wpAny_seqItems hTI rfl ?_)
  dsimp only
  obtain ⟨src, ts', rfl⟩ := List.exists_cons_of_ne_nil ne
  have hne : (itRefs B (src :: ts').length).toArray.isEmpty = false := by simp [itRefs]
  rw [if_neg (by rw [hne]; exact Bool.false_ne_true)]
  have free : wpAny (model prog w) A (Builtin.SmallTypes.ownedTupleIsFree (.ref z)) (fun r s' => r = false ∧ ∃ h1, s' = { s with heap := h1 } ∧ h1.get? z = some (ZObj (rawInt a) true TI TO) ∧ Heap.SameBut z s.heap h1) E s := by
    unfold Builtin.SmallTypes.ownedTupleIsFree
    refine wpAny_bind (wpAny_field hz rfl (x := rawInt a) rfl ?_)
    unfold rawInt
    dsimp only
    refine wpAny_bind (wpAny_loadAlive ?_)
    obtain ⟨oa, hoa⟩ := ha
    rw [Int.toNat_natCast, hoa]
    simp only [Option.isNone_some, Bool.false_eq_true, if_false]
    refine wpAny_bind (wpAny_field hz rfl (x := .bool b) rfl ?_)
    cases b with
    | true => exact wpAny_pure ⟨rfl, s.heap, rfl, hz, Heap.SameBut.refl ..⟩
    | false =>
      rw [if_pos (by decide)]
      refine wpAny_bind (wpAny_setField_rec hz (by simp) fun h1 hz1 hs1 => wpAny_pure ⟨rfl, h1, rfl, hz1, hs1⟩)
  refine wpAny_bind (wpAny_mono free (fun r s' hr => ?_) fun _ _ h => h)
  obtain ⟨rfl, h1, rfl, hz1, hs1⟩ := hr
  rw [if_neg Bool.false_ne_true]
  have S1 : Srcs h1 B (src :: ts') n 0 := srcs_keep S fun c o hc q => hs1.extBut _ _ (fun e => by subst e; exact absurd hzB (Nat.not_le_of_lt hc)) q
  obtain ⟨a1, a2, a3⟩ := S1 0 src.1 src.2 rfl
  rw [if_neg (Nat.lt_irrefl 0)] at a2
  refine wpAny_bind ?_
  rw [← Array.forIn_toList, List.toList_toArray, show itRefs B (src :: ts').length = .ref (B + 0) :: (itRefs B (src :: ts').length).drop 1 from by simp [itRefs, List.range_succ_eq_map], List.forIn_cons]
  refine wpAny_bind (wpAny_bind (wpAny_holding ?_))
  show wpAny _ _ (Builtin.SmallTypes.nextOf (.ref (B + 0)) >>= _) _ _ _
  refine wpAny_bind (wpAny_nextOf_tuple_end (s := { s with heap := h1 }) hh a2 a3 ?_ fun h2 e k2 he => ?_)
  · exact Array.getElem?_eq_none (by rw [hn src List.mem_cons_self]; exact Nat.le_refl _)
  · refine hE h2 e (fun c o cz hc q => k2 _ _ (fun z => ?_) (hs1.extBut _ _ cz q)) he
    rw [z] at hc
    rcases hc with hc | hc
    · exact absurd hc (Nat.not_lt_of_le (Nat.le_add_right B 0))
    · exact absurd hc (Nat.not_le_of_lt (Nat.add_lt_add_left (by rw [List.length_cons]; exact Nat.succ_pos _) B))
end
end NA
namespace NA
open PySem PySem.Spec PyProof.Rows L2
theorem F_zip_no_len : typeLookup (.type "zip") "__len__" = pure none := by rw [typeLookup_type, builtinLookup_eq_fast]; kernel_rfl
theorem F_zip_no_hint : typeLookup (.type "zip") "__length_hint__" = pure none := by rw [typeLookup_type, builtinLookup_eq_fast]; kernel_rfl
theorem typeCall_zipN (us : List Value) : checkTypeCall "zip" ⟨us, []⟩ = pure () := by kernel_rfl
theorem newCall_zip1 (a : Value) : checkBuiltinCall "zip.__new__" ⟨[.type "zip", a], []⟩ = pure () := by kernel_rfl
theorem newCall_zip3 (a b c : Value) : checkBuiltinCall "zip.__new__" ⟨[.type "zip", a, b, c], []⟩ = pure () := by kernel_rfl
theorem newCall_zip4 (a b c d : Value) : checkBuiltinCall "zip.__new__" ⟨[.type "zip", a, b, c, d], []⟩ = pure () := by kernel_rfl
theorem newCall_zip5 (a b c d e : Value) : checkBuiltinCall "zip.__new__" ⟨[.type "zip", a, b, c, d, e], []⟩ = pure () := by kernel_rfl
theorem newCall_zip6 (a b c d e f : Value) : checkBuiltinCall "zip.__new__" ⟨[.type "zip", a, b, c, d, e, f], []⟩ = pure () := by kernel_rfl
theorem newCall_zipN : ∀ us : List Value, us ≠ [] → us.length ≤ 6 → checkBuiltinCall "zip.__new__" ⟨.type "zip" :: us, []⟩ = pure ()
  | [], h, _ => absurd rfl h
  | [a], _, _ => newCall_zip1 a
  | [a, b], _, _ => F.newCall_zip_2 a b
  | [a, b, c], _, _ => newCall_zip3 a b c
  | [a, b, c, d], _, _ => newCall_zip4 a b c d
  | [a, b, c, d, e], _, _ => newCall_zip5 a b c d e
  | [a, b, c, d, e, f], _, _ => newCall_zip6 a b c d e f
  | _ :: _ :: _ :: _ :: _ :: _ :: _ :: _, _, h => by simp at h
theorem args_init_N (obj : Value) (us : List Value) : argsOk "object.__init__" ⟨obj :: us, []⟩ := by
  unfold argsOk; rw [signature?_of (id := "object.__init__") (n := ['_', '_', 't', 'i', 'n', 'i', '_', '_']) (o := ['t', 'c', 'e', 'j', 'b', 'o']) (by kernel_rfl) F.owner_object]; kernel_rfl
end NA
namespace NA
open PySem PySem.Spec PyProof.Rows L2
/-- as many new iterators, one behind the other -/
def pushIts (h : Heap) : List Addr → Heap
  | [] => h
  | t :: ts => pushIts (h.push { cls := .type "tuple_iterator", data := .fields #[.ref t, .int 0 0] }) ts
theorem pushIts_size : ∀ (ts : List Addr) (h : Heap), (pushIts h ts).objs.size = h.objs.size + ts.length
  | [], _ => rfl
  | t :: ts, h => by
    show (pushIts (h.push _) ts).objs.size = _
    rw [pushIts_size ts, Heap.size_push, List.length_cons]
    exact Nat.add_right_comm _ _ _
theorem pushIts_keep : ∀ (ts : List Addr) (h : Heap) (b : Addr) (o : Obj), h.get? b = some o → (pushIts h ts).get? b = some o
  | [], _, _, _, e => e
  | t :: ts, h, b, o, e => pushIts_keep ts _ b o (Heap.get?_push_of_some _ e)
theorem pushIts_at : ∀ (ts : List Addr) (h : Heap) (k : Nat) (t : Addr), ts[k]? = some t → (pushIts h ts).IsTupleIter (h.objs.size + k) t 0
  | [], _, _, _, e => by simp at e
  | t :: ts, h, 0, t', e => by
    cases Option.some.inj e
    exact ⟨_, pushIts_keep ts _ _ _ (Heap.get?_push_size h rfl), rfl, rfl⟩
  | t :: ts, h, k + 1, t', e => by
    have q := pushIts_at ts (h.push { cls := .type "tuple_iterator", data := .fields #[.ref t, .int 0 0] }) k t' (by simpa using e)
    rw [Heap.size_push] at q
    rwa [show h.objs.size + (k + 1) = h.objs.size + 1 + k from (by omega : h.objs.size + (k + 1) = h.objs.size + 1 + k)]
section
variable {prog : Program} {w : World} {A : Around} {E : Value → Shared → Prop} {s : Shared}
theorem iterAll_tuples {ts : List (Addr × Array Value)} {Q : List Value → Shared → Prop} (ht : ∀ t ∈ ts, s.heap.IsTuple t.1 t.2) (hQ : Q (itRefs s.heap.objs.size ts.length) { s with heap := pushIts s.heap (ts.map (·.1)) }) :
    wpAny (model prog w) A (Builtin.SmallTypes.iterAll (ts.map fun t => .ref t.1)) Q E s := by
  unfold Builtin.SmallTypes.iterAll
  refine wpAny_bind (wpAny_forIn_list _ (fun rest b s' => ∃ m, m ≤ ts.length ∧ rest = (ts.drop m).map (fun t => Value.ref t.1) ∧ b.toList = itRefs s.heap.objs.size m ∧ s' = { s with heap := pushIts s.heap ((ts.take m).map (·.1)) }) _ (fun x rest b s' hI => ?_) (fun b s' hI => ?_) _ _ ⟨0, Nat.zero_le _, rfl, rfl, rfl⟩)
  · obtain ⟨m, lm, er, eb, rfl⟩ := hI
    have l : m < ts.length := Nat.lt_of_not_le fun z => by
      rw [List.drop_eq_nil_of_le z] at er
      cases er
    rw [List.drop_eq_getElem_cons l, List.map_cons] at er
    cases er
    have hm : ts[m]? = some ts[m] := List.getElem?_eq_getElem l
    obtain ⟨o, ho, r⟩ := ht _ (List.getElem_mem l)
    refine wpAny_bind (wpAny_holding (wpAny_pyIter_tuple (s := { s with heap := pushIts s.heap ((ts.take m).map (·.1)) }) ⟨o, pushIts_keep _ _ _ _ ho, r⟩ (wpAny_pure ⟨m + 1, l, rfl, ?_, ?_⟩)))
    · show (b.push _).toList = _
      rw [Array.toList_push, eb, pushIts_size, List.length_map, List.length_take, Nat.min_eq_left lm]
      simp [itRefs, List.range_succ]
    · show (⟨Heap.push (pushIts s.heap _) _, _, _, _, _⟩ : Shared) = _
      have e : ∀ (l : List Addr) (h : Heap) (t : Addr), (pushIts h l).push { cls := .type "tuple_iterator", data := .fields #[.ref t, .int 0 0] } = pushIts h (l ++ [t]) := by
        intro l
        induction l with
        | nil => intro h t; rfl
        | cons y l ih => intro h t; exact ih _ t
      rw [e, List.take_add_one, hm, List.map_append]
      rfl
  · obtain ⟨m, lm, er, eb, rfl⟩ := hI
    have em : m = ts.length := by
      have := congrArg List.length er
      rw [List.length_map, List.length_drop, List.length_nil] at this
      omega
    subst em
    rw [List.take_length]
    show wpAny _ _ (pure b.toList) _ _ _
    rw [eb]
    exact wpAny_pure hQ
theorem newClass_zip (us : List Value) : Builtin.SmallTypes.newClass "zip" ⟨.type "zip" :: us, []⟩ = pure (.type "zip", us) := by
  unfold Builtin.SmallTypes.newClass
  simp only [isType, sub_zip, pure_bind, Bool.not_true, Bool.false_eq_true, if_false]
/-- the heap behind zip(*ts) -/
def zipHp (h : Heap) (ts : List (Addr × Array Value)) : Heap :=
  (((pushIts h (ts.map (·.1))).push { cls := .type "tuple", data := .seq (itRefs h.objs.size ts.length).toArray }).push { cls := .type "tuple", data := .seq (List.replicate ts.length Value.none).toArray }).push
    { cls := .type "zip", data := .fields #[.none, .bool false, .bool false, .ref (h.objs.size + ts.length), .ref (h.objs.size + ts.length + 1)] }
theorem zip_new_N (ts : List (Addr × Array Value)) (l6 : ts.length ≤ 6) : Meets (Builtin.«zip.__new__» ⟨.type "zip" :: ts.map (fun t => Value.ref t.1), []⟩)
    (fun _ R s => (∀ t ∈ ts, s.heap.IsTuple t.1 t.2) ∧ R (.ok (.ret (.ref (s.heap.objs.size + ts.length + 2)))) { s with heap := zipHp s.heap ts }) :=
  .of_wp fun prog w A R s h => by
    obtain ⟨ht, h⟩ := h
    unfold Builtin.«zip.__new__»
    refine wpAny_bind (wpAny_of_eq (newClass_zip _) ?_)
    dsimp only
    rw [if_neg (by decide)]
    refine wpAny_bind (iterAll_tuples ht ?_)
    have z0 : (pushIts s.heap (ts.map (·.1))).objs.size = s.heap.objs.size + ts.length := by rw [pushIts_size, List.length_map]
    refine wpAny_bind (wpAny_newTuple ?_ (by simp [itRefs]; exact Nat.le_trans l6 (by decide)))
    rw [show (itRefs s.heap.objs.size ts.length).map (fun _ => Value.none) = List.replicate ts.length Value.none from by rw [List.map_map]; exact List.ext_getElem (by simp) (by simp)]
    refine wpAny_bind (wpAny_newTuple ?_ (by simp; exact Nat.le_trans l6 (by decide)))
    show wpAny _ _ (newObj (.type "zip") (.fields #[.none, .bool false, .bool false, _, _]) >>= _) _ _ _
    refine wpAny_bind (wpAny_newObj_type ?_)
    refine wpAny_pure ⟨_, rfl, ?_⟩
    have z1 : ((pushIts s.heap (ts.map (·.1))).push { cls := .type "tuple", data := .seq (itRefs s.heap.objs.size ts.length).toArray }).objs.size = s.heap.objs.size + ts.length + 1 := by rw [Heap.size_push, z0]
    have z2 : (((pushIts s.heap (ts.map (·.1))).push { cls := .type "tuple", data := .seq (itRefs s.heap.objs.size ts.length).toArray }).push { cls := .type "tuple", data := .seq (List.replicate ts.length Value.none).toArray }).objs.size = s.heap.objs.size + ts.length + 2 := by rw [Heap.size_push, z1]
    rw [z2, z1, z0]
    exact h
theorem call_zipN {ts : List (Addr × Array Value)} {Q : Value → Shared → Prop} (ne : ts ≠ []) (l6 : ts.length ≤ 6) (ht : ∀ t ∈ ts, s.heap.IsTuple t.1 t.2)
    (h : ∀ h', h'.get? (s.heap.objs.size + ts.length + 2) = some (ZObj .none false (s.heap.objs.size + ts.length) (s.heap.objs.size + ts.length + 1)) → IsTupN h' (s.heap.objs.size + ts.length) (itRefs s.heap.objs.size ts.length) → IsTupN h' (s.heap.objs.size + ts.length + 1) (List.replicate ts.length Value.none) →
      Srcs h' s.heap.objs.size ts 0 0 → h'.objs.size = s.heap.objs.size + ts.length + 3 → (∀ c o, s.heap.get? c = some o → h'.get? c = some o) → Q (.ref (s.heap.objs.size + ts.length + 2)) { s with heap := h' }) :
    wpAny (model prog w) A (call (.type "zip") (ts.map fun t => Value.ref t.1)) Q E s := by
  refine callType_new F.called_zip (by decide) (typeCall_zipN _) (newCall_zipN _ (by simpa using ne) (by rw [List.length_map]; exact l6)) (fun obj => args_init_N obj _) F.entry_zip_new (zip_new_N ts l6) ⟨ht, ?_⟩
  have z0 : (pushIts s.heap (ts.map (·.1))).objs.size = s.heap.objs.size + ts.length := by rw [pushIts_size, List.length_map]
  have z1 : ((pushIts s.heap (ts.map (·.1))).push { cls := .type "tuple", data := .seq (itRefs s.heap.objs.size ts.length).toArray }).objs.size = s.heap.objs.size + ts.length + 1 := by rw [Heap.size_push, z0]
  have z2 : (((pushIts s.heap (ts.map (·.1))).push { cls := .type "tuple", data := .seq (itRefs s.heap.objs.size ts.length).toArray }).push { cls := .type "tuple", data := .seq (List.replicate ts.length Value.none).toArray }).objs.size = s.heap.objs.size + ts.length + 2 := by rw [Heap.size_push, z1]
  have g1 : IsTupN (zipHp s.heap ts) (s.heap.objs.size + ts.length) (itRefs s.heap.objs.size ts.length) := by
    have z := Heap.get?_push_size (pushIts s.heap (ts.map (·.1))) (o := { cls := .type "tuple", data := .seq (itRefs s.heap.objs.size ts.length).toArray }) rfl
    rw [z0] at z
    exact Heap.get?_push_of_some _ (Heap.get?_push_of_some _ z)
  have g2 : IsTupN (zipHp s.heap ts) (s.heap.objs.size + ts.length + 1) (List.replicate ts.length Value.none) := by
    have z := Heap.get?_push_size ((pushIts s.heap (ts.map (·.1))).push { cls := .type "tuple", data := .seq (itRefs s.heap.objs.size ts.length).toArray }) (o := { cls := .type "tuple", data := .seq (List.replicate ts.length Value.none).toArray }) rfl
    rw [z1] at z
    exact Heap.get?_push_of_some _ z
  have g3 : (zipHp s.heap ts).get? (s.heap.objs.size + ts.length + 2) = some (ZObj .none false (s.heap.objs.size + ts.length) (s.heap.objs.size + ts.length + 1)) := by
    have z := Heap.get?_push_size (((pushIts s.heap (ts.map (·.1))).push { cls := .type "tuple", data := .seq (itRefs s.heap.objs.size ts.length).toArray }).push { cls := .type "tuple", data := .seq (List.replicate ts.length Value.none).toArray }) (o := { cls := .type "zip", data := .fields #[.none, .bool false, .bool false, .ref (s.heap.objs.size + ts.length), .ref (s.heap.objs.size + ts.length + 1)] }) rfl
    rw [z2] at z
    exact z
  have kp : ∀ c o, (pushIts s.heap (ts.map (·.1))).get? c = some o → (zipHp s.heap ts).get? c = some o := fun c o e => Heap.get?_push_of_some _ (Heap.get?_push_of_some _ (Heap.get?_push_of_some _ e))
  show _ ∧ _
  refine ⟨⟨_, g3, rfl⟩, h _ g3 g1 g2 (fun k t its e => ?_) (by unfold zipHp; rw [Heap.size_push, z2]) fun c o e => kp c o (pushIts_keep _ _ _ _ e)⟩
  obtain ⟨o, ho, r⟩ := ht _ (List.mem_of_getElem? e)
  rw [if_neg (Nat.not_lt_zero k)]
  exact ⟨Heap.lt_size ho, (pushIts_at (ts.map (·.1)) s.heap k t (by rw [List.getElem?_map, e]; rfl)).at fun o q => kp _ o q, ⟨o, kp _ _ (pushIts_keep _ _ _ _ ho), r⟩⟩
/-- a turn of a zip, whatever turn it is -/
structure ZSt (h : Heap) (B : Addr) (ts : List (Addr × Array Value)) (i : Nat) : Prop where
  z : (i = 0 ∧ h.get? (B + ts.length + 2) = some (ZObj .none false (B + ts.length) (B + ts.length + 1)) ∧ ∃ os, os.length = ts.length ∧ IsTupN h (B + ts.length + 1) os) ∨ ∃ (a : Addr) (b : Bool), B + ts.length + 2 < a ∧ (∃ o, h.get? a = some o) ∧ h.get? (B + ts.length + 2) = some (ZObj (rawInt ((a : Nat) : Int)) b (B + ts.length) (B + ts.length + 1))
  ti : IsTupN h (B + ts.length) (itRefs B ts.length)
  src : Srcs h B ts i 0
theorem ZSt.typeIs {B : Addr} {ts : List (Addr × Array Value)} {i : Nat} (Z : ZSt s.heap B ts i) : s.TypeIs (.ref (B + ts.length + 2)) "zip" := by
  rcases Z.z with ⟨_, e, _⟩ | ⟨a, b, _, _, e⟩
  · exact ⟨_, e, rfl⟩
  · exact ⟨_, e, rfl⟩
theorem ZSt.keep {h h' : Heap} {B : Addr} {ts : List (Addr × Array Value)} {i : Nat} (Z : ZSt h B ts i) (k : ∀ c o, h.get? c = some o → h'.get? c = some o) : ZSt h' B ts i := by
  refine ⟨?_, k _ _ Z.ti, srcs_keep Z.src fun c o _ q => k c o q⟩
  rcases Z.z with ⟨e0, e, os, lo, e2⟩ | ⟨a, b, ab, ⟨o, ho⟩, e⟩
  · exact .inl ⟨e0, k _ _ e, os, lo, k _ _ e2⟩
  · exact .inr ⟨a, b, ab, ⟨o, k _ _ ho⟩, k _ _ e⟩
theorem ZSt.next {B : Addr} {ts : List (Addr × Array Value)} {i n : Nat} {Q : Option Value → Shared → Prop} (Z : ZSt s.heap B ts i) (hi : i < n) (hn : ∀ t ∈ ts, t.2.size = n) (l6 : ts.length ≤ 6) (ne : ts ≠ [])
    (hQ : ∀ h', ZSt h' B ts (i + 1) → IsTupN h' s.heap.objs.size (colV ts i) → h'.objs.size = s.heap.objs.size + 1 → (∀ c o, (c < B ∨ B + ts.length + 2 < c) → s.heap.get? c = some o → h'.get? c = some o) → Q (some (.ref s.heap.objs.size)) { s with heap := h' }) :
    wpAny (model prog w) A (pyNext (.ref (B + ts.length + 2))) Q E s := by
  have hT := Z.typeIs
  have l7 : ts.length ≤ sizeLine := Nat.le_trans l6 (by decide)
  have c1 : B + ts.length ≤ B + ts.length + 2 := Nat.le_add_right _ _
  have c2 : B + ts.length ≤ B + ts.length + 1 := Nat.le_add_right _ _
  have n1 : B + ts.length ≠ B + ts.length + 2 := Nat.ne_of_lt (Nat.lt_add_of_pos_right (by decide))
  have n2 : B + ts.length + 1 ≠ B + ts.length + 2 := Nat.ne_of_lt (Nat.lt_succ_self _)
  have n3 : B + ts.length ≠ B + ts.length + 1 := Nat.ne_of_lt (Nat.lt_succ_self _)
  have lz : B + ts.length + 2 < s.heap.objs.size := by
    obtain ⟨o, e, _⟩ := hT
    exact Heap.lt_size e
  have off : ∀ c, (c < B ∨ B + ts.length + 2 < c) → c ≠ B + ts.length + 2 ∧ c ≠ B + ts.length + 1 ∧ (c < B ∨ B + ts.length ≤ c) := fun c hc => by
    rcases hc with hc | hc
    · have a : c < B + ts.length := Nat.lt_of_lt_of_le hc (Nat.le_add_right B ts.length)
      exact ⟨Nat.ne_of_lt (Nat.lt_of_lt_of_le a c1), Nat.ne_of_lt (Nat.lt_of_lt_of_le a c2), .inl hc⟩
    · exact ⟨Nat.ne_of_gt hc, Nat.ne_of_gt (Nat.lt_trans (Nat.lt_succ_self _) hc), .inr (Nat.le_of_lt (Nat.lt_of_le_of_lt c1 hc))⟩
  unfold pyNext
  refine wpAny_bind (wpAny_attempt (wpAny_callSpecial?_slot (name := Str.ofString "__next__") hT F.slot_zip_next (wpAny_call_entry F.slot_zip_next hT F.entry_zip_next ?_ (F.args_zip_next_1 _))))
  rcases Z.z with ⟨e0, e, os, lo, e2⟩ | ⟨a, b, ab, ha, e⟩
  · subst e0
    refine zipN_first e Z.ti e2 lo Z.src hi hn l7 ne c1 (Nat.le_refl _) c2 n1 n2 n3 fun h' q1 q2 q3 q4 q5 => wpAny_pure (hQ h' ⟨.inr ⟨_, _, lz, ⟨_, q3⟩, q1⟩, q5 _ _ n1 n3 (.inr (Nat.le_refl _)) Z.ti, q2⟩ q3 q4 fun c o hc q => ?_)
    obtain ⟨d1, d2, d3⟩ := off c hc
    exact q5 c o d1 d2 d3 q
  · refine zipN_slow e Z.ti ha Z.src hi hn l7 ne c1 (Nat.le_refl _) n1 fun h' q1 q2 q3 q4 q5 => wpAny_pure (hQ h' ⟨.inr ⟨a, true, ab, ?_, q1⟩, q5 _ _ n1 (.inr (Nat.le_refl _)) Z.ti, q2⟩ q3 q4 fun c o hc q => ?_)
    · obtain ⟨o, ho⟩ := ha
      obtain ⟨d1, d2, d3⟩ := off a (.inr ab)
      exact ⟨o, q5 _ _ d1 d3 ho⟩
    · obtain ⟨d1, d2, d3⟩ := off c hc
      exact q5 c o d1 d3 q
theorem ZSt.stop {B : Addr} {ts : List (Addr × Array Value)} {n : Nat} {Q : Option Value → Shared → Prop} (hh : A.handled = none) (Z : ZSt s.heap B ts n) (n0 : n ≠ 0) (hn : ∀ t ∈ ts, t.2.size = n) (ne : ts ≠ [])
    (hQ : ∀ h', (∀ c o, (c < B ∨ B + ts.length + 2 < c) → s.heap.get? c = some o → h'.get? c = some o) → Q none { s with heap := h' }) :
    wpAny (model prog w) A (pyNext (.ref (B + ts.length + 2))) Q E s := by
  have hT := Z.typeIs
  unfold pyNext
  refine wpAny_bind (wpAny_attempt (wpAny_callSpecial?_slot (name := Str.ofString "__next__") hT F.slot_zip_next (wpAny_call_entry F.slot_zip_next hT F.entry_zip_next ?_ (F.args_zip_next_1 _))))
  rcases Z.z with ⟨e0, _⟩ | ⟨a, b, ab, ha, e⟩
  · exact absurd e0 n0
  · refine zipN_end hh e Z.ti ha Z.src hn ne (Nat.le_add_right _ _) fun h' x k hx => ?_
    obtain ⟨o, ho, hc⟩ := hx
    refine wpAny_bind (wpAny_isInstance (T := "StopIteration") (b := true) ⟨o, ho, hc⟩ isSubtype_stop ?_)
    refine wpAny_pure (hQ _ fun c o hc q => k c o ?_ ?_ q)
    · rcases hc with hc | hc
      · exact Nat.ne_of_lt (Nat.lt_of_lt_of_le hc (Nat.le_trans (Nat.le_add_right _ _) (Nat.le_add_right _ _)))
      · exact Nat.ne_of_gt hc
    · exact hc.elim .inl fun hc => .inr (Nat.le_of_lt (Nat.lt_of_le_of_lt (Nat.le_add_right _ _) hc))
/-- the refs of what is made, one behind the other -/
abbrev madeRefs (L : Addr) (n : Nat) : List Value := (List.range n).map fun k => Value.ref (L + 1 + k)
theorem codeAny_extendZ {R : Result → Shared → Prop} {B L : Addr} {ts : List (Addr × Array Value)} {n : Nat} (hh : A.handled = none) (n0 : n ≠ 0) (n9 : n ≤ 1000) (hn : ∀ t ∈ ts, t.2.size = n) (l6 : ts.length ≤ 6) (ne : ts ≠ []) (hL : B + ts.length + 2 < L) (res : Value) :
    ∀ (k i : Nat) (s : Shared), n - i = k → i ≤ n → ZSt s.heap B ts i → s.heap.objs.size = L + 1 + i → (∃ c, s.heap.get? L = some { cls := .type "list", dict := none, data := .seq (madeRefs L i).toArray c, slots := #[] }) →
      (∀ j, j < i → IsTupN s.heap (L + 1 + j) (colV ts j)) →
      (∀ h' c', h'.get? L = some { cls := .type "list", dict := none, data := .seq (madeRefs L n).toArray c', slots := #[] } → (∀ j, j < n → IsTupN h' (L + 1 + j) (colV ts j)) → (∀ b o, b < B → s.heap.get? b = some o → h'.get? b = some o) → R (.ok (.ret res)) { s with heap := h' }) →
      codeAny (model prog w) A (.builtin "list.extend.loop" ⟨[.ref L, .ref (B + ts.length + 2), res], []⟩) R s := by
  have bL : ∀ b, b < B → b ≠ L := fun b hb => Nat.ne_of_lt (Nat.lt_trans (Nat.lt_of_lt_of_le hb (Nat.le_trans (Nat.le_add_right B ts.length) (Nat.le_add_right _ 2))) hL)
  intro k
  induction k with
  | zero =>
    intro i s hk hi Z hsz ⟨c, hS⟩ hm hR
    have hin : i = n := by omega
    subst hin
    refine codeAny_builtin F.entry_extend_loop ?_
    rw [Around.under_plainId F.plain_extend_loop _]
    show wpAny _ A.in1 (pyNext (.ref (B + ts.length + 2)) >>= _) _ _ s
    refine wpAny_bind (Z.stop (A := A.in1) hh n0 hn ne fun h' kp => ?_)
    exact wpAny_pure (hR h' c (kp _ _ (.inr hL) hS) (fun j hj => kp _ _ (.inr (Nat.lt_trans hL (Nat.lt_of_lt_of_le (Nat.lt_succ_self L) (Nat.le_add_right _ _)))) (hm j hj)) fun b o hb q => kp b o (.inl hb) q)
  | succ k ih =>
    intro i s hk hi Z hsz ⟨c, hS⟩ hm hR
    have hlt : i < n := by omega
    refine codeAny_builtin F.entry_extend_loop ?_
    rw [Around.under_plainId F.plain_extend_loop _]
    show wpAny _ A.in1 (pyNext (.ref (B + ts.length + 2)) >>= _) _ _ s
    refine wpAny_bind (Z.next (A := A.in1) hlt hn l6 ne fun h1 Z1 q2 q3 kp => ?_)
    have hS1 := kp _ _ (.inr hL) hS
    have len : (madeRefs L i).length = i := by simp [madeRefs]
    show wpAny _ A.in1 (updateSeq L (·.push (.ref s.heap.objs.size)) >>= _) _ _ _
    refine wpAny_bind ?_
    have oth : ∀ b o, b ≠ L → h1.get? b = some o → (h1.update L (Obj.mapSeq (·.push (.ref s.heap.objs.size)))).get? b = some o := fun b o hb e => (Heap.get?_update_other _ _ (Ne.symm hb)).trans e
    have hS5 := (Heap.get?_update_self (Obj.mapSeq (·.push (.ref s.heap.objs.size))) hS1 rfl).trans (congrArg some (show Obj.mapSeq (·.push (.ref s.heap.objs.size)) { cls := .type "list", dict := none, data := .seq (madeRefs L i).toArray c, slots := #[] } = { cls := .type "list", dict := none, data := .seq ((madeRefs L i).toArray.push (.ref s.heap.objs.size)) _, slots := #[] } from rfl))
    have zL : ∀ j, L + 1 + j ≠ L := fun j => Nat.ne_of_gt (Nat.lt_of_lt_of_le (Nat.lt_succ_self L) (Nat.le_add_right _ _))
    refine wpAny_updateSeq (s := { s with heap := h1 }) hS1 rfl (wpAny_pure ⟨plainId_quiet F.plain_extend_loop _, ih (i + 1) { s with heap := h1.update L (Obj.mapSeq (·.push (.ref s.heap.objs.size))) } (by omega) hlt ?_ ?_ ?_ ?_ fun h2 c' e1 e2 e3 => ?_⟩) (by rw [List.size_toArray, len]; exact Nat.le_trans (Nat.le_of_lt hlt) (Nat.le_trans n9 (by decide))) (by show ((madeRefs L i).toArray.push _).size ≤ sizeLine + 1; rw [Array.size_push, List.size_toArray, len]; exact Nat.succ_le_succ (Nat.le_trans (Nat.le_of_lt hlt) (Nat.le_trans n9 (by decide))))
    · refine ⟨?_, oth _ _ ?_ Z1.ti, srcs_keep Z1.src fun c o hc q => oth c o ?_ q⟩
      · rcases Z1.z with ⟨e0, _⟩ | ⟨a, b, ab, ⟨o, ho⟩, e⟩
        · exact absurd e0 (Nat.succ_ne_zero i)
        · refine .inr ⟨a, b, ab, ?_, oth _ _ (Nat.ne_of_lt hL) e⟩
          by_cases z : a = L
          · subst z
            exact ⟨_, Heap.get?_update_self _ hS1 rfl⟩
          · exact ⟨o, oth _ _ z ho⟩
      · exact Nat.ne_of_lt (Nat.lt_of_le_of_lt (Nat.le_add_right _ 2) hL)
      · exact Nat.ne_of_lt (Nat.lt_trans (Nat.lt_of_lt_of_le hc (Nat.le_add_right _ 2)) hL)
    · show (h1.update _ _).objs.size = _
      rw [(Heap.SameBut.update ..).1, q3, hsz]
      exact Nat.add_assoc _ _ _
    · have e : (madeRefs L (i + 1)).toArray = (madeRefs L i).toArray.push (.ref s.heap.objs.size) := by
        rw [hsz]
        simp [madeRefs, List.range_succ]
      rw [e]
      exact ⟨_, hS5⟩
    · intro j hj
      by_cases e : j = i
      · subst e
        have := q2
        rw [hsz] at this
        exact oth _ _ (zL j) this
      · exact oth _ _ (zL j) (kp _ _ (.inr (Nat.lt_trans hL (Nat.lt_of_lt_of_le (Nat.lt_succ_self L) (Nat.le_add_right _ _)))) (hm j (by omega)))
    · exact hR h2 c' e1 e2 fun b o hb q => e3 b o hb (oth b o (bL b hb) (kp b o (.inl hb) q))
/-- list(z), z a zip that was just made -/
theorem call_listZ {B : Addr} {ts : List (Addr × Array Value)} {n : Nat} {Q : Value → Shared → Prop} (hh : A.handled = none) (n0 : n ≠ 0) (n9 : n ≤ 1000) (hn : ∀ t ∈ ts, t.2.size = n) (l6 : ts.length ≤ 6) (ne : ts ≠ []) (Z : ZSt s.heap B ts 0) (hsz : s.heap.objs.size = B + ts.length + 3)
    (hQ : ∀ h' c, h'.get? (B + ts.length + 3) = some { cls := .type "list", dict := none, data := .seq (madeRefs (B + ts.length + 3) n).toArray c, slots := #[] } → (∀ j, j < n → IsTupN h' (B + ts.length + 3 + 1 + j) (colV ts j)) → (∀ b o, b < B → s.heap.get? b = some o → h'.get? b = some o) → Q (.ref (B + ts.length + 3)) { s with heap := h' }) :
    wpAny (model prog w) A (call (.type "list") [.ref (B + ts.length + 2)]) Q E s := by
  refine callType_codes (Q₁ := fun obj s₁ => obj = .ref s.heap.objs.size ∧ s₁ = { s with heap := s.heap.push { cls := .type "list", data := .seq #[] } }) F.called_list (F.typeCall_list_1 _) F.entry_list_init
    (code_list_new _ ⟨rfl, rfl⟩) fun obj s₁ h₁ => ?_
  obtain ⟨rfl, rfl⟩ := h₁
  have hS : (s.heap.push { cls := .type "list", data := .seq #[] }).get? s.heap.objs.size = some { cls := .type "list", data := .seq #[] } := Heap.get?_push_size _ rfl
  refine ⟨⟨_, hS, rfl⟩, F.args_list_init_2 _ _, ?_⟩
  have hSa : s.heap.objs.size ≠ B + ts.length + 2 := by rw [hsz]; exact Nat.ne_of_gt (Nat.lt_succ_self _)
  show wpAny _ A.in1.in1 (do let old ← Builtin.List.listItems (.ref s.heap.objs.size); Builtin.List.listUpdate (.ref s.heap.objs.size) (fun _ => #[]); letGo old.toList.reverse; Builtin.List.listExtendWith (.ref s.heap.objs.size) (.ref (B + ts.length + 2)) .none) _ _ _
  refine wpAny_bind ?_
  unfold Builtin.List.listItems
  refine wpAny_bind (wpAny_seqItems hS rfl (wpAny_pure ?_))
  show wpAny _ A.in1.in1 (updateSeq s.heap.objs.size (fun _ => #[]) >>= fun _ => letGo (#[] : Array Value).toList.reverse >>= fun _ => Builtin.List.listExtendWith (.ref s.heap.objs.size) (.ref (B + ts.length + 2)) .none) _ _ _
  refine wpAny_bind (wpAny_updateSeq hS rfl ?_)
  have hS2 := Heap.get?_update_self (Obj.mapSeq (fun _ => (#[] : Array Value))) hS rfl
  refine wpAny_bind (wpAny_letGo ?_)
  unfold Builtin.List.listExtendWith
  have up : ∀ (h : Heap) (f : Obj → Obj), (∀ b o, s.heap.get? b = some o → h.get? b = some o) → ∀ b o, s.heap.get? b = some o → (h.update s.heap.objs.size f).get? b = some o := fun h f q b o e =>
    (Heap.get?_update_other _ _ (Ne.symm (Nat.ne_of_lt (Heap.lt_size e)))).trans (q b o e)
  have k1 : ∀ b o, s.heap.get? b = some o → (s.heap.push { cls := .type "list", data := .seq #[] }).get? b = some o := fun b o e => Heap.get?_push_of_some _ e
  have k2 := up _ (Obj.mapSeq (fun _ => (#[] : Array Value))) k1
  refine wpAny_bind (wpAny_typeOf (ZSt.typeIs (s := { s with heap := _ }) (Z.keep k2)) ?_)
  have h1 : Builtin.List.listSameRef (.ref s.heap.objs.size) (.ref (B + ts.length + 2)) = false := by simp [Builtin.List.listSameRef, hSa]
  have h2 : (Value.type "zip" == Value.type "list") = false := by decide
  have h3 : (Value.type "zip" == Value.type "tuple") = false := by decide
  simp only [h1, h2, h3, Bool.or_false, Bool.false_eq_true, if_false]
  have zobj := (Z.keep k2).z
  have goIter : ∀ {Q' : Value → Shared → Prop} {E' : Value → Shared → Prop} {A' : Around} {h : Heap}, ZSt h B ts 0 → Q' (.ref (B + ts.length + 2)) { s with heap := h } → wpAny (model prog w) A' (pyIter (.ref (B + ts.length + 2))) Q' E' { s with heap := h } := fun {Q' E' A' h} z q => by
    have hT : (({ s with heap := h } : Shared)).TypeIs (.ref (B + ts.length + 2)) "zip" := ZSt.typeIs (s := { s with heap := h }) z
    refine wpAny_pyIter_slot hT F.slot_zip_iter (wpAny_call_entry F.slot_zip_iter hT F.entry_zip_iter ?_ (F.args_zip_iter_1 _))
    show wpAny _ _ (ret (.ref (B + ts.length + 2))) _ _ _
    exact wpAny_pure ⟨_, rfl, "zip", _, hT, F.slot_zip_next.lookup, q⟩
  refine wpAny_bind (goIter (Z.keep k2) ?_)
  refine wpAny_bind (wpAny_holding ?_)
  unfold Builtin.List.listLengthHint
  refine wpAny_bind (wpAny_specialOf (ZSt.typeIs (s := { s with heap := _ }) (Z.keep k2)) F_zip_no_len ?_)
  show wpAny _ A.in1.in1 (specialOf (Value.ref (B + ts.length + 2)) (Str.ofString "__length_hint__") >>= _) _ _ _
  refine wpAny_bind (wpAny_specialOf (ZSt.typeIs (s := { s with heap := _ }) (Z.keep k2)) F_zip_no_hint ?_)
  refine wpAny_pure ?_
  show wpAny _ A.in1.in1 (rule "list.extend.makes-room" >>= fun _ => Builtin.List.listTouch (.ref s.heap.objs.size) >>= fun _ =>
    again (.builtin "list.extend.loop" ⟨[.ref s.heap.objs.size, .ref (B + ts.length + 2), .none], []⟩)) _ _ _
  refine wpAny_bind (wpAny_rule ?_)
  refine wpAny_bind ?_
  show wpAny _ A.in1.in1 (updateSeq s.heap.objs.size (·.push .none) >>= fun _ => updateSeq s.heap.objs.size (·.pop)) _ _ _
  refine wpAny_bind (wpAny_updateSeq hS2 rfl ?_)
  have hS3 := Heap.get?_update_self (Obj.mapSeq (·.push Value.none)) hS2 rfl
  refine wpAny_updateSeq (hz := by seq_fits) hS3 rfl ?_
  have hS4 := Heap.get?_update_self (Obj.mapSeq (·.pop)) hS3 rfl
  have k4 := up _ (Obj.mapSeq (·.pop)) (up _ (Obj.mapSeq (·.push Value.none)) k2)
  refine wpAny_pure ⟨plainId_quiet F.plain_extend_loop _, ?_⟩
  refine codeAny_extendZ (A := A.in1) (L := s.heap.objs.size) hh n0 n9 hn l6 ne (by rw [hsz]; exact Nat.lt_succ_self _) _ n 0 _ rfl (Nat.zero_le _) (Z.keep k4) ?_ ⟨_, hS4⟩ (fun j hj => absurd hj (Nat.not_lt_zero j)) fun h' c' e1 e2 e3 => ⟨rfl, ?_⟩
  · show (Heap.update (Heap.update (Heap.update (Heap.push s.heap _) _ _) _ _) _ _).objs.size = _
    rw [(Heap.SameBut.update ..).1, (Heap.SameBut.update ..).1, (Heap.SameBut.update ..).1, Heap.size_push]
  · rw [hsz] at e1 e2 ⊢
    exact hQ h' c' e1 e2 fun b o hb q => e3 b o hb (k4 b o q)
end
end NA
namespace NA
open PySem PySem.Spec PyProof.Rows L2
/-! ### list(zip(*t)), t a tuple of tuples of one length -/
theorem Inv.many {X : Cx} {pins : List (Addr × Obj)} {σ : L2.St} {H : Hp} {s : Shared} {h' : Heap} {tk : Nat} (I : Inv X pins σ H s) (N : Addr → Option HO)
    (hk : ∀ b o, s.heap.get? b = some o → h'.get? b = some o) (hN : ∀ b u, N b = some u → s.heap.objs.size ≤ b) (new : ∀ (H' : Hp) b u, N b = some u → ObjOk X.prog X.w H' h' b u) :
    Inv X pins σ (fun b => (N b).or (H b)) { s with heap := h', toks := tk } := by
  have low : ∀ b o, s.heap.get? b = some o → N b = none := fun b o e => by
    cases z : N b with
    | none => rfl
    | some u => exact absurd (Heap.lt_size e) (Nat.not_lt.mpr (hN b u z))
  have fr : ∀ b u, N b = some u → H b = none := fun b u z => I.hok.fresh (hN b u z)
  have kp : ∀ b u, H b = some u → ((N b).or (H b)) = some u := fun b u e => by
    cases z : N b with
    | none => exact e
    | some v => rw [fr b v z] at e; cases e
  refine I.call' (ch := []) rfl ⟨fun b o q _ _ _ => hk b o q, fun b o q _ _ _ => ⟨o.slots, hk b o q⟩, fun b o q n _ => ?_, fun b o q _ => ⟨o, hk b o q⟩, fun b xs q => kp b _ q, fun b o u q => kp b _ q, fun b ps q => ⟨#[], by rw [kp b _ q]; simp⟩⟩ (fun b u q => ?_) I.bare fun b z => by simp at z
  · show (N b).or (H b) = none
    rw [low b o q]
    exact n
  · cases z : N b with
    | none =>
      have q' : H b = some u := by
        have : (N b).or (H b) = some u := q
        rw [z] at this
        exact this
      exact (I.hok b u q').stay (fun d v _ y => hk d v y) (fun d y => kp d _ y) fun d xs y => kp d _ y
    | some v =>
      have q' : (N b).or (H b) = some u := q
      rw [z] at q'
      cases q'
      exact new _ b _ z
/-- the column j of rows -/
def colOf (rows : List (Addr × List V)) (j : Nat) : List V := rows.map fun r => r.2.getD j .non
def tLZ (K : PySem.W.Frag) (te : TE) : TE := fun σ H Q => te σ H fun y H1 => ∃ (a : Addr) (rows : List (Addr × List V)) (n : Nat), y = .ref a ∧ SqT K H1 a (rows.map fun r => V.ref r.1) ∧ (∀ r ∈ rows, SqT K H1 r.1 r.2 ∧ r.2.length = n) ∧ n ≠ 0 ∧ n ≤ 1000 ∧ rows ≠ [] ∧ rows.length ≤ 6 ∧
  ∀ (as : List Addr) (l : Addr) (H2 : Hp), as.length = n → Same H1 H2 → H1 l = none → (∀ b ∈ as, H1 b = none) → H2 l = some (.lst (as.map V.ref)) → (∀ (j : Nat) (b : Addr), as[j]? = some b → H2 b = some (.tup (colOf rows j))) → Q (.ref l) H2
theorem rows_src {X : Cx} {pins : List (Addr × Obj)} {σ : L2.St} {H : Hp} {s : Shared} {n : Nat} (I : Inv X pins σ H s) : ∀ (rows : List (Addr × List V)), (∀ r ∈ rows, SqT X.K H r.1 r.2 ∧ r.2.length = n) →
    ∃ ts : List (Addr × Array Value), ts.map (·.1) = rows.map (·.1) ∧ (∀ t ∈ ts, s.heap.IsTuple t.1 t.2 ∧ t.2.size = n) ∧ ∀ (j : Nat), j < n → Vals (colOf rows j) (colV ts j)
  | [], _ => ⟨[], rfl, (fun t h => absurd h List.not_mem_nil), fun j _ => .nil⟩
  | r :: rows, h => by
    obtain ⟨ts, e1, e2, e3⟩ := rows_src I rows fun x hx => h x (List.mem_cons_of_mem _ hx)
    obtain ⟨sq, ln⟩ := h r List.mem_cons_self
    obtain ⟨its, rv, o⟩ := src_of (k := .t) I sq
    have lv := rv.length
    refine ⟨(r.1, its.toArray) :: ts, by rw [List.map_cons, List.map_cons, e1], fun t ht => ?_, fun j hj => ?_⟩
    · rcases List.mem_cons.mp ht with e | ht
      · rw [e]
        exact ⟨o, by show its.toArray.size = n; rw [List.size_toArray]; omega⟩
      · exact e2 t ht
    · refine .cons ?_ (e3 j hj)
      have hj' : r.2[j]? = some r.2[j] := List.getElem?_eq_getElem (by omega)
      obtain ⟨u, hu, ru⟩ := rv.get hj'
      show RelV (r.2.getD j .non) (its.toArray.getD j .none)
      have a1 : r.2.getD j .non = r.2[j] := by rw [List.getD_eq_getElem?_getD, hj']; rfl
      obtain ⟨l, g⟩ := List.getElem?_eq_some_iff.mp hu
      have a2 : its.toArray.getD j .none = u := by simp [Array.getD, l, g]
      rw [a1, a2]
      exact ru
theorem vals_refs_eq : ∀ {as : List Addr} {us : List Value}, Vals (as.map V.ref) us → us = as.map Value.ref
  | [], _, h => by cases h; rfl
  | a :: as, _, h => by
    cases h with
    | cons r t =>
      have e : _ = Value.ref a := r
      rw [e, vals_refs_eq t]
      rfl
theorem pe_listZipS {X : Cx} (K : PySem.W.Frag) (hK : X.K = K) {e : Expr} {te : TE} {p p2 p3 sp pos : Pos} (hc : X.calm = true) (hg : Gl X "list") (hm : X.mg "list" = none) (hg2 : Gl X "zip") (hm2 : X.mg "zip" = none) (he : PE X e te)
    (hs : starEach [.Call (.Name "zip" p2) [.Starred e sp] [] p3] X.env = (false, eval (.Call (.Name "zip" p2) [.Starred e sp] [] p3) X.env) :: starEach [] X.env := by rfl)
    (hst : starEach [.Starred e sp] X.env = [(true, eval e X.env)] := by rfl) :
    PE X (.Call (.Name "list" p) [.Call (.Name "zip" p2) [.Starred e sp] [] p3] [] pos) (tLZ K te) := by
  subst hK
  refine ⟨fun pins s σ H Q I h => ?_⟩
  refine wpAny_Call_Name_kw (ld_blt I hg hm (show bootBuiltins "list" = some (.type "list") by decide +kernel) ?_)
  refine PyProof.Rows.callWith_type1 ?_ hs rfl
  rw [hs]
  show wpAny _ _ (spliced ((false, eval (.Call (.Name "zip" p2) [.Starred e sp] [] p3) X.env) :: backTo pos (starEach [] X.env))) _ _ s
  refine Calls.spliced_cons ?_
  refine wpAny_Call_Name_kw (ld_blt I hg2 hm2 boot_zip ?_)
  rw [hst]
  refine PySem.W.ks_call (P := fun _ => True) rfl (fun h _ => ⟨.machine, .inr (.inl rfl), PySem.W.Looks.of_pure rfl⟩) (PySem.W.ks_lone (thn (he.run pins s σ H _ I h) fun v s1 ⟨y, H1, I1, ry, a, rows, n, ey, hx, hr, n0, n9, ne, l6, q⟩ => ?_))
  subst ey
  obtain rfl : v = Value.ref a := ry
  refine StX.star_any I1 (.inl hx) fun us s2 I2 rv => ⟨trivial, ?_⟩
  obtain ⟨ts, t1, t2, t3⟩ := rows_src I2 rows hr
  have eus : us = ts.map fun t => Value.ref t.1 := by
    have : rows.map (fun r => V.ref r.1) = (rows.map (·.1)).map V.ref := by rw [List.map_map]; rfl
    rw [this] at rv
    rw [vals_refs_eq rv, ← t1, List.map_map]
    rfl
  have lts : ts.length = rows.length := by
    have := congrArg List.length t1
    rwa [List.length_map, List.length_map] at this
  have nets : ts ≠ [] := fun z => by
    rw [z] at lts
    exact ne (List.eq_nil_of_length_eq_zero lts.symm)
  subst eus
  refine call_zipN nets (by omega) (fun t ht => (t2 t ht).1) fun h1 z1 z2 z3 z4 z5 kp => ?_
  refine Calls.spliced_nil ?_
  have Z : ZSt h1 s2.heap.objs.size ts 0 := ⟨.inl ⟨rfl, z1, _, List.length_replicate .., z3⟩, z2, z4⟩
  refine call_listZ (s := { s2 with heap := h1 }) (I.ok.hd hc) n0 n9 (fun t ht => (t2 t ht).2) (by omega) nets Z z5 fun h2 c e1 e2 e3 => ?_
  have kp2 : ∀ b o, s2.heap.get? b = some o → h2.get? b = some o := fun b o e => e3 b o (Heap.lt_size e) (kp b o e)
  generalize hL : s2.heap.objs.size + ts.length + 3 = L at *
  have lL : s2.heap.objs.size ≤ L := by rw [← hL]; exact Nat.le_trans (Nat.le_add_right _ _) (Nat.le_add_right _ _)
  -- what is new
  have hN : ∃ N : Addr → Option HO, N L = some (.lst ((List.range n).map fun k => V.ref (L + 1 + k))) ∧ (∀ j, j < n → N (L + 1 + j) = some (.tup (colOf rows j))) ∧ ∀ b u, N b = some u → (b = L ∧ u = .lst ((List.range n).map fun k => V.ref (L + 1 + k))) ∨ ∃ j, j < n ∧ b = L + 1 + j ∧ u = .tup (colOf rows j) := by
    refine ⟨fun b => if b = L then some (.lst ((List.range n).map fun k => V.ref (L + 1 + k))) else if L < b ∧ b < L + 1 + n then some (.tup (colOf rows (b - L - 1))) else none, if_pos rfl, fun j hj => ?_, fun b u hb => ?_⟩
    · have a1 : L + 1 + j ≠ L := Nat.ne_of_gt (Nat.lt_of_lt_of_le (Nat.lt_succ_self L) (Nat.le_add_right _ _))
      have a2 : L < L + 1 + j := Nat.lt_of_lt_of_le (Nat.lt_succ_self L) (Nat.le_add_right _ _)
      have a3 : L + 1 + j < L + 1 + n := Nat.add_lt_add_left hj _
      have a4 : L + 1 + j - L - 1 = j := by rw [Nat.sub_sub, Nat.add_sub_cancel_left]
      simp only [if_neg a1, if_pos (And.intro a2 a3), a4]
    · dsimp only at hb
      by_cases b1 : b = L
      · rw [if_pos b1] at hb
        exact .inl ⟨b1, (Option.some.inj hb).symm⟩
      · rw [if_neg b1] at hb
        by_cases b2 : L < b ∧ b < L + 1 + n
        · rw [if_pos b2] at hb
          refine .inr ⟨b - L - 1, ?_, ?_, (Option.some.inj hb).symm⟩
          · rw [Nat.sub_sub]
            exact Nat.sub_lt_left_of_lt_add b2.1 b2.2
          · rw [Nat.sub_sub, Nat.add_sub_cancel' b2.1]
        · rw [if_neg b2] at hb
          cases hb
  obtain ⟨N, N1, N2, N3⟩ := hN
  have lowN : ∀ b u, N b = some u → s2.heap.objs.size ≤ b := fun b u z => by
    rcases N3 b u z with ⟨rfl, _⟩ | ⟨j, _, rfl, _⟩
    · exact lL
    · exact Nat.le_trans lL (Nat.le_trans (Nat.le_succ L) (Nat.le_add_right _ _))
  have J := Inv.many (tk := s2.toks) I2 N kp2 lowN (fun H' b u z => by
    rcases N3 b u z with ⟨eb, rfl⟩ | ⟨j, hj, rfl, rfl⟩
    · rw [eb]
      refine ⟨by rw [List.length_map, List.length_range]; exact Nat.le_trans n9 (by decide), madeRefs L n, c, ?_, ?_⟩
      · have : ∀ m, Vals ((List.range m).map fun k => V.ref (L + 1 + k)) ((List.range m).map fun k => Value.ref (L + 1 + k)) := fun m => by
          have := LiI.vals_refs ((List.range m).map fun k => L + 1 + k)
          rw [List.map_map, List.map_map] at this
          exact this
        exact this n
      · exact e1
    · have lc : (colOf rows j).length ≤ sizeLine := by
        unfold colOf
        rw [List.length_map]
        exact Nat.le_trans l6 (by decide)
      exact ⟨lc, colV ts j, t3 j hj, ⟨_, e2 j hj, rfl, _, rfl⟩⟩)
  have fr : ∀ b u, N b = some u → H1 b = none := fun b u z => I2.hok.fresh (lowN b u z)
  refine ⟨.ref L, _, J, rfl, ?_⟩
  have q' := q ((List.range n).map fun k => L + 1 + k) L (fun b => (N b).or (H1 b)) (by rw [List.length_map, List.length_range]) (fun b u e => by
    show (N b).or (H1 b) = some u
    cases z : N b with
    | none => exact e
    | some v => rw [fr b v z] at e; cases e) (fr L _ N1) (fun b hb => by
      obtain ⟨j, hj, rfl⟩ := List.mem_map.mp hb
      exact fr _ _ (N2 j (List.mem_range.mp hj))) (by
      show (N L).or (H1 L) = _
      rw [N1, List.map_map]
      rfl) (fun j b hb => by
      rw [List.getElem?_map] at hb
      have lj : j < n := Nat.lt_of_not_le fun z => by
        rw [List.getElem?_eq_none (by rw [List.length_range]; exact z)] at hb
        cases hb
      rw [List.getElem?_eq_getElem (by rw [List.length_range]; exact lj), List.getElem_range] at hb
      cases hb
      show (N (L + 1 + j)).or _ = _
      rw [N2 j lj]
      rfl)
  exact q'
end NA
namespace NA
open PySem PySem.Spec PyProof.Rows L2
/-! ### a range kept in a name -/
theorem cr_rangeV1 {X : Cx} : CallR X (.type "range") (fun vs H Q => ∃ j, vs = [V.int j] ∧ ∀ p, H p = none → Q (.ref p) (upd H p (.rng 0 j))) := by
  intro pins s σ H vs us Q I r h
  obtain ⟨j, rfl, q⟩ := h
  obtain ⟨u, rfl, rv⟩ := r.one
  obtain ⟨t, rfl⟩ := (show ∃ t, u = Value.int j t from rv)
  refine call_range_1 ⟨.ref s.heap.objs.size, upd H s.heap.objs.size (.rng 0 j), I.laid (t' := s.toks + 1 + 1) (fun b o e => Heap.get?_push_of_some _ e) (Nat.le_refl _) ?_, rfl, q _ (I.hok.fresh (Nat.le_refl _))⟩
  exact ⟨s.toks, t, s.toks + 1, Heap.get?_push_size _ rfl⟩
def iRngV (te : TE) : TI := fun σ H R => te σ H fun v H1 => ∃ (a : Addr) (lo hi : Int), v = .ref a ∧ H1 a = some (.rng lo hi) ∧ (-(2 ^ 62) ≤ lo ∧ lo < 2 ^ 62 ∧ -(2 ^ 62) ≤ hi ∧ hi < 2 ^ 62) ∧ R (Itr lo (hi - lo).toNat) H1
theorem pi_rngVK {X : Cx} (K : PySem.W.Frag) (hK : X.K = K) {tg e : Expr} {te : TE} (he : PE X e te) : PI X tg e (iRngV te) := by
  refine ⟨fun pins s σ H R I h => ?_⟩
  refine thn (he.run pins s σ H _ I h) fun v s1 ⟨x, H1, I1, r1, q1⟩ => ?_
  obtain ⟨a, lo, hi, e, ha, ⟨b1, b2, b3, b4⟩, q⟩ := q1
  subst e
  cases r1
  obtain ⟨t, u, v, hr⟩ := I1.hok a _ ha
  refine wpAny_pyIter_range (show IsRange s1.heap a lo hi 1 t u v from hr) (small_one b1 b2 b3 b4) ?_
  refine ⟨s1.heap.objs.size, [s1.heap.objs.size], _, _, H1, rfl, I1.kept (t' := s1.toks) fun b o e => Heap.get?_push_of_some _ e, turn_range _ lo (hi - lo).toNat, ?_, fun b hb => ?_, q⟩
  · have e1 : lo + ((0 : Nat) : Int) * 1 = lo := by simp
    have e2 : (((hi - lo).toNat : Nat) : Int) - ((0 : Nat) : Int) = Builtin.Range.rangeSize lo hi 1 := by rw [rangeSize_one]; split <;> omega
    show IsRangeIter _ _ (lo + ((0 : Nat) : Int) * 1) ((((hi - lo).toNat : Nat) : Int) - ((0 : Nat) : Int)) 1
    rw [e1, e2]
    exact Heap.get?_push_size _ rfl
  · have e : b = s1.heap.objs.size := by simpa using hb
    subst e
    exact I1.fpOk (Nat.le_refl _) (I1.hok.fresh (Nat.le_refl _))
end NA
namespace NA
open PySem PySem.Spec PyProof.Rows L2
/-! ### max of a tuple of ints -/
section
variable {prog : Program} {w : World} {A : Around} {E : Value → Shared → Prop} {s : Shared} {l : Addr}
theorem max_intTup {xs : Array (Int × Tok)} {Q : Value → Shared → Prop} (hh : A.handled = none) (hl : s.heap.IsTuple l (intItems xs)) (hne : 0 < xs.size)
    (h : ∀ v h' tk, (intItems xs)[argBest (fun i j => decide (numAt xs i > numAt xs j)) (xs.size - 1)]? = some v → (∀ b o, s.heap.get? b = some o → h'.get? b = some o) → Q v { s with heap := h', toks := tk }) :
    wpAny (model prog w) A (call (.builtin "max") [.ref l]) Q E s := by
  have hlt : l < s.heap.objs.size := by obtain ⟨_, e, _⟩ := hl; exact Heap.lt_size e
  refine call_max_walk (wpAny_pyIter_tuple hl ?_)
  refine ⟨_, [_, l], [_], _, _, _, _, rfl, Walks.tuple (A := A.in1) hh _ l (Nat.ne_of_lt hlt) (intItems xs), ⟨⟨_, Heap.get?_push_size _ rfl, rfl, rfl⟩, hl.push _⟩, fun b hb => ?_, by simpa [intItems] using hne, CmpOf.ints_gt (numAt xs) (fun _ _ => intItems_at), fun v h' tk hP hk => ?_⟩
  · show b < (s.heap.push _).objs.size
    rw [Heap.size_push]
    rcases List.mem_cons.mp hb with rfl | hb
    · exact Nat.lt_succ_self _
    · rw [List.mem_singleton.mp hb]
      exact Nat.lt_succ_of_lt hlt
  · refine h v h' tk (by simpa [intItems] using hP) fun b o e => hk b o (fun hm => ?_) (Heap.get?_push_of_some _ e)
    rw [List.mem_singleton.mp hm] at e
    exact absurd (Heap.lt_size e) (Nat.lt_irrefl _)
theorem max_rawT {its : List Value} {ns : List Int} {Q : Value → Shared → Prop} (hh : A.handled = none) (hl : s.heap.IsTuple l its.toArray) (hi : IntsAre its ns) (hne : 0 < ns.length)
    (h : ∀ h' tk M t', (∀ b o, s.heap.get? b = some o → h'.get? b = some o) → M ∈ ns → (∀ a, a ∈ ns → a ≤ M) → Q (.int M t') { s with heap := h', toks := tk }) : wpAny (model prog w) A (call (.builtin "max") [.ref l]) Q E s := by
  obtain ⟨xs, e⟩ := hi.allInts.items
  have hn : numsOf (intItems xs).toList = ns := by rw [← e]; exact hi.numsOf
  rw [nums_intItems] at hn
  subst hn
  rw [e] at hl
  have hsz : 0 < xs.size := by simpa using hne
  refine max_intTup hh hl hsz fun v h' tk hv hk => ?_
  obtain ⟨t, rfl⟩ := intItems_at hv
  obtain ⟨h1, h2⟩ := argBest_gt (numAt xs) (xs.size - 1)
  refine h h' tk _ t hk ?_ fun a ha => ?_
  · rw [numAt_eq]; exact PySem.getD_mem (by rw [List.length_map, Array.length_toList]; omega)
  · obtain ⟨j, hj, rfl⟩ := mem_getD ha
    rw [List.length_map, Array.length_toList] at hj
    rw [← numAt_eq]; exact h2 j (by omega)
end
def rMaxT (K : PySem.W.Frag) : List V → Hp → VK → Prop := fun vs H Q => ∃ (a : Addr) (ns : List Int), vs = [V.ref a] ∧ SqT K H a (ns.map V.int) ∧ 0 < ns.length ∧ ∀ m, m ∈ ns → (∀ y, y ∈ ns → y ≤ m) → Q (.int m) H
theorem cr_maxTK {X : Cx} (K : PySem.W.Frag) (hK : X.K = K) (hc : X.calm = true) : CallR X (.builtin "max") (rMaxT K) := by
  subst hK
  intro pins s σ H vs us Q I r h
  obtain ⟨a, ns, rfl, hs, hne, q⟩ := h
  obtain ⟨its, rv, hl⟩ := src_of (k := .t) I hs
  rw [Vals.ref1 r]
  exact max_rawT (I.ok.hd hc) hl rv.ints hne fun h' tk m t' hk h1 h2 => ⟨.int _, H, I.kept hk, ⟨_, rfl⟩, q m h1 h2⟩
end NA
namespace NA
open PySem PySem.Spec PyProof.Rows L2
/-! ### all contents of a small machine -/
def exI (s : Int) (found : List (List Int)) : List (List Int) := found.flatMap fun h => (List.range s.toNat).map fun i : Nat => h ++ [(i : Int)]
def everyI (ss : List Int) : List (List Int) := ss.foldl (fun found s => exI s found) [[]]
def prodN (ss : List Int) : Nat := ss.foldl (fun a s => a * s.toNat) 1
theorem every_next {ss : List Int} {i : Nat} {s : Int} (h : ss[i]? = some s) : everyI (ss.take (i + 1)) = exI s (everyI (ss.take i)) := by
  unfold everyI
  rw [List.take_add_one, h, List.foldl_append]
  rfl
theorem prod_next {ss : List Int} {i : Nat} {s : Int} (h : ss[i]? = some s) : prodN (ss.take (i + 1)) = prodN (ss.take i) * s.toNat := by
  unfold prodN
  rw [List.take_add_one, h, List.foldl_append]
  rfl
theorem prod_snoc (ss : List Int) (s : Int) : prodN (ss ++ [s]) = prodN ss * s.toNat := by
  unfold prodN
  rw [List.foldl_append]
  rfl
theorem ex_len (s : Int) (f : List (List Int)) : (exI s f).length = f.length * s.toNat := by
  unfold exI
  rw [List.length_flatMap]
  have : ∀ l : List (List Int), (l.map fun h => ((List.range s.toNat).map fun i : Nat => h ++ [(i : Int)]).length).sum = l.length * s.toNat := by
    intro l
    induction l with
    | nil => rw [List.map_nil, List.length_nil, Nat.zero_mul]; rfl
    | cons h l ih =>
      rw [List.map_cons, List.sum_cons, ih, List.length_map, List.length_range, List.length_cons, Nat.succ_mul, Nat.add_comm]
  exact this f
structure EvOk (ss : List Int) (f : List (List Int)) : Prop where
  cok : ∀ h ∈ f, COk ss h
  nd : f.Nodup
  len : f.length = prodN ss
theorem every_ok (ss : List Int) (ok : ∀ s ∈ ss, SizeOk s) : ∀ i, i ≤ ss.length → EvOk (ss.take i) (everyI (ss.take i)) := by
  intro i
  induction i with
  | zero =>
    intro _
    refine ⟨fun h hh => ?_, List.pairwise_singleton _ _, rfl⟩
    rw [List.take_zero] at hh ⊢
    rw [List.mem_singleton.mp hh]
    exact ⟨rfl, fun i h s e _ => by simp at e⟩
  | succ i ih =>
    intro hi
    have e := ih (by omega)
    obtain ⟨s, hs⟩ := get_some (ss := ss) (show i < ss.length by omega)
    rw [every_next hs]
    refine ⟨fun h hh => ?_, ?_, by rw [ex_len, e.len, prod_next hs]⟩
    · obtain ⟨g, hg, hx⟩ := List.mem_flatMap.mp hh
      obtain ⟨x, hx', rfl⟩ := List.mem_map.mp hx
      have cg := e.cok g hg
      have lx := List.mem_range.mp hx'
      have lt : (ss.take i).length = i := by rw [List.length_take]; omega
      refine ⟨by rw [List.length_append, cg.len, lt, List.length_take, List.length_singleton]; omega, fun k y t hy ht => ?_⟩
      by_cases z : k < i
      · rw [List.getElem?_append_left (by rw [cg.len, lt]; exact z)] at hy
        refine cg.low k y t hy ?_
        rw [List.getElem?_take_of_lt z]
        rwa [List.getElem?_take_of_lt (by omega)] at ht
      · have lk : k < i + 1 := by
          have := (List.getElem?_eq_some_iff.mp ht).1
          rw [List.length_take] at this
          omega
        have ek : k = i := by omega
        subst ek
        rw [List.getElem?_append_right (by rw [cg.len, lt]; exact Nat.le_refl _), cg.len, lt, Nat.sub_self] at hy
        cases Option.some.inj hy
        rw [List.getElem?_take_of_lt (by omega), hs] at ht
        cases Option.some.inj ht
        omega
    · unfold exI
      refine List.pairwise_flatMap.mpr ⟨fun h _ => ?_, ?_⟩
      · rw [List.pairwise_map]
        refine List.Pairwise.imp (fun {a b} (z : a < b) q => ?_) List.pairwise_lt_range
        have q' := List.append_cancel_left q
        have q'' : (a : Int) = b := List.head_eq_of_cons_eq q'
        omega
      · refine List.Pairwise.imp_of_mem (fun {a b} ha hb z x hx y hy q => z ?_) e.nd
        obtain ⟨i1, _, rfl⟩ := List.mem_map.mp hx
        obtain ⟨i2, _, rfl⟩ := List.mem_map.mp hy
        exact (List.append_inj q (by rw [(e.cok a ha).len, (e.cok b hb).len])).1
theorem every_full (ss : List Int) (ok : ∀ s ∈ ss, SizeOk s) : EvOk ss (everyI ss) := by
  have := every_ok ss ok ss.length (Nat.le_refl _)
  rwa [List.take_length] at this
theorem prod_pos {ss : List Int} (ok : ∀ s ∈ ss, SizeOk s) : ∀ i, i ≤ ss.length → 0 < prodN (ss.take i) := by
  intro i
  induction i with
  | zero => intro _; exact Nat.one_pos
  | succ i ih =>
    intro hi
    obtain ⟨s, hs⟩ := get_some (ss := ss) (show i < ss.length by omega)
    rw [prod_next hs]
    obtain ⟨m, rfl, m2, _⟩ := (ok s (List.mem_of_getElem? hs)).nat
    exact Nat.mul_pos (ih (by omega)) (by omega)
theorem prod_le {ss : List Int} (ok : ∀ s ∈ ss, SizeOk s) : ∀ k i, i + k ≤ ss.length → prodN (ss.take i) ≤ prodN (ss.take (i + k)) := by
  intro k
  induction k with
  | zero => intro i _; exact Nat.le_refl _
  | succ k ih =>
    intro i hi
    obtain ⟨s, hs⟩ := get_some (ss := ss) (show i + k < ss.length by omega)
    rw [show i + (k + 1) = i + k + 1 by omega, prod_next hs]
    obtain ⟨m, rfl, m2, _⟩ := (ok s (List.mem_of_getElem? hs)).nat
    exact Nat.le_trans (ih i (by omega)) (Nat.le_mul_of_pos_right _ (by omega))
def spEvery : Sp := fun vs H Q _ => ∃ (x : V) (ss : List Int), vs = [x] ∧ Im H x (sD ss) ∧ (∀ s ∈ ss, SizeOk s) ∧ prodN ss ≤ 1000 ∧
  ∀ (a : Addr) (us : List V) (H' : Hp), H a = none → H' a = some (.lst us) → ImAll H' us ((everyI ss).map sD) → Same H H' → Q (.ref a) H'
def spSmall : Sp := fun vs H Q _ => ∃ (p q : Addr) (m : Nat), vs = [.ref p, .int (m : Int)] ∧ Pt H p q ∧ 2 ≤ m ∧ m ≤ 1000 ∧
  ∀ (v : V) (ss : List Int) (ws : List (Nat × Nat)) (H' : Hp), Im H' v (mD ss ws) → MOk ss ws → prodN ss ≤ m → Pt H' p q → Kp p q H H' → Q v H'
theorem pow_prod {ss : List Int} (ok : ∀ s ∈ ss, SizeOk s) : ∀ k, k ≤ ss.length → 2 ^ k ≤ prodN (ss.take k) := by
  intro k
  induction k with
  | zero => intro _; exact Nat.le_refl _
  | succ k ih =>
    intro hk
    obtain ⟨s', hs'⟩ := get_some (ss := ss) (show k < ss.length by omega)
    rw [prod_next hs', Nat.pow_succ]
    obtain ⟨m', rfl, m2', _⟩ := (ok s' (List.mem_of_getElem? hs')).nat
    exact Nat.mul_le_mul (ih (by omega)) (by omega)
theorem op_catAK {X : Cx} (K : PySem.W.Frag) (hK : X.K = K) : OpR X (binaryOp .Add) (rCatA K) := hK ▸ op_catA
end NA
namespace NA
open PySem PySem.Spec PyProof.Rows L2
/-! ### unlike tables have unlike texts -/
abbrev sg (t : Str) : List Nat := t.cps.toList
theorem sg_app (a b : Str) : sg (a ++ b) = sg a ++ sg b := by
  show (a.cps ++ b.cps).toList = _
  rw [Array.toList_append]
def dig (c : Nat) : Bool := decide (48 ≤ c ∧ c ≤ 57)
def runsGo : List Nat → List Nat → List (List Nat)
  | cur, [] => if cur = [] then [] else [cur.reverse]
  | cur, c :: cs => if dig c = true then runsGo (c :: cur) cs else (if cur = [] then [] else [cur.reverse]) ++ runsGo [] cs
theorem runs_dig : ∀ (d cur rest : List Nat), (∀ c ∈ d, dig c = true) → runsGo cur (d ++ rest) = runsGo (d.reverse ++ cur) rest
  | [], _, _, _ => rfl
  | c :: d, cur, rest, h => by
    show runsGo cur (c :: (d ++ rest)) = _
    rw [runsGo, if_pos (h c List.mem_cons_self), runs_dig d _ _ fun x hx => h x (List.mem_cons_of_mem _ hx), List.reverse_cons, List.append_assoc]
    rfl
theorem runs_no {c : Nat} (h : dig c = false) (rest : List Nat) : runsGo [] (c :: rest) = runsGo [] rest := by
  rw [runsGo, if_neg (by rw [h]; decide), if_pos rfl, List.nil_append]
/-- whatever sign but a digit follows: these runs of digits, then what is behind -/
def Gives (t : Str) (e : List (List Nat)) : Prop := ∀ (c : Nat) (rest : List Nat), dig c = false → runsGo [] (sg t ++ c :: rest) = e ++ runsGo [] rest
theorem gives_int {n : Int} (h : 0 ≤ n) : Gives (PyData.int n).shown [sg (PyData.int n).shown] := by
  intro c rest hc
  have dg : ∀ x ∈ sg (PyData.int n).shown, dig x = true := fun x hx => by
    obtain ⟨m, rfl⟩ : ∃ m : Nat, n = (m : Int) := ⟨n.toNat, by omega⟩
    rw [PyData.shown_int] at hx
    have e : (toString (m : Int) : String) = Nat.repr m := rfl
    rw [e] at hx
    have hx' : x ∈ (Str.ofString (Nat.repr m)).cps.toList := hx
    rw [signs_ofString] at hx'
    obtain ⟨ch, hch, rfl⟩ := List.mem_map.mp hx'
    rw [Nat.toList_repr] at hch
    have := digit_range (Nat.isDigit_of_mem_toDigits (by decide) (by decide) hch)
    exact decide_eq_true this
  have ne : sg (PyData.int n).shown ≠ [] := fun z => by
    obtain ⟨m, rfl⟩ : ∃ m : Nat, n = (m : Int) := ⟨n.toNat, by omega⟩
    rw [PyData.shown_int] at z
    have z' : (Str.ofString (Nat.repr m)).cps.toList = [] := z
    rw [signs_ofString, Nat.toList_repr, List.map_eq_nil_iff] at z'
    exact Nat.toDigits_ne_nil z'
  rw [runs_dig _ _ _ dg, List.append_nil, runsGo, if_neg (by rw [hc]; decide), if_neg (fun z => ne (List.reverse_eq_nil_iff.mp z)), List.reverse_reverse]
theorem gives_join : ∀ (ts : List Str) (es : List (List (List Nat))), ts ≠ [] → Paired (fun t e => Gives t e) ts es → Gives (Str.join ", " ts) es.flatten
  | [t], [e], _, h => by
    cases h with
    | cons a b =>
      intro c rest hc
      have := a c rest hc
      rw [show Str.join ", " [t] = t from rfl, this]
      simp
  | t :: t2 :: ts, e :: e2 :: es, _, h => by
    cases h with
    | cons a b =>
      intro c rest hc
      have ih := gives_join (t2 :: ts) (e2 :: es) (List.cons_ne_nil _ _) b c rest hc
      have j : Str.join ", " (t :: t2 :: ts) = t ++ ", " ++ Str.join ", " (t2 :: ts) := rfl
      have cm : sg (", " : Str) = [44, 32] := by decide
      rw [j, sg_app, sg_app, cm, List.append_assoc, List.append_assoc]
      show runsGo [] (sg t ++ (44 :: (32 :: (sg (Str.join ", " (t2 :: ts)) ++ c :: rest)))) = _
      rw [a 44 _ (by decide), runs_no (by decide), ih]
      simp [List.append_assoc]
  | [], _, h, _ => absurd rfl h
  | [_], [], _, h => by cases h
  | [_], _ :: _ :: _, _, h => by cases h with | cons a b => cases b
  | _ :: _ :: _, [], _, h => by cases h
  | _ :: _ :: _, [_], _, h => by cases h with | cons a b => cases b
theorem gives_tuple {ts : List Str} {es : List (List (List Nat))} (ne : ts ≠ []) (h : Paired (fun t e => Gives t e) ts es) : Gives (tupleText ts) es.flatten := by
  intro c rest hc
  have j := gives_join ts es ne h
  have p : sg ("(" : Str) = [40] := by decide
  unfold tupleText
  rw [sg_app, sg_app, p, List.append_assoc, List.append_assoc]
  show runsGo [] (40 :: (sg (Str.join ", " ts) ++ (sg _ ++ c :: rest))) = _
  rw [runs_no (by decide)]
  by_cases l : (ts.length == 1) = true
  · rw [if_pos l]
    have q : sg ((",)" : String) : Str) = [44, 41] := by decide
    rw [q]
    show runsGo [] (sg (Str.join ", " ts) ++ 44 :: (41 :: (c :: rest))) = _
    rw [j 44 _ (by decide), runs_no (by decide), runs_no hc]
  · rw [if_neg l]
    have q : sg ((")" : String) : Str) = [41] := by decide
    rw [q]
    show runsGo [] (sg (Str.join ", " ts) ++ 41 :: (c :: rest)) = _
    rw [j 41 _ (by decide), runs_no hc]
def rowSg (r : List Int) : List (List Nat) := r.map fun n => sg (PyData.int n).shown
theorem shownAll_map {α : Type} (f : α → PyData) : ∀ l : List α, PyData.shownAll (l.map f) = l.map fun x => (f x).shown
  | [] => rfl
  | x :: l => by
    rw [List.map_cons, List.map_cons, ← shownAll_map f l]
    rfl
theorem gives_row {r : List Int} (ne : r ≠ []) (h : ∀ n ∈ r, 0 ≤ n) : Gives (sD r).shown (rowSg r) := by
  have p : Paired (fun t e => Gives t e) (r.map fun n => (PyData.int n).shown) (r.map fun n => [sg (PyData.int n).shown]) := by
    clear ne
    induction r with
    | nil => exact .nil
    | cons n r ih => exact .cons (gives_int (h n List.mem_cons_self)) (ih fun x hx => h x (List.mem_cons_of_mem _ hx))
  have g := gives_tuple (by simpa using ne) p
  have e1 : (sD r).shown = tupleText (r.map fun n => (PyData.int n).shown) := by
    unfold sD
    rw [← shownAll_map PyData.int]
    simp only [PyData.shown]
  have e2 : ∀ l : List Int, (l.map fun n => [sg (PyData.int n).shown]).flatten = rowSg l := by
    intro l
    induction l with
    | nil => rfl
    | cons n l ih =>
      rw [List.map_cons, List.flatten_cons, ih]
      rfl
  rw [e1, ← e2]
  exact g
theorem gives_tab {t : List (List Int)} (ne : t ≠ []) (h : ∀ r ∈ t, r ≠ [] ∧ ∀ n ∈ r, 0 ≤ n) : Gives (tD t).shown (t.map rowSg).flatten := by
  have p : Paired (fun t e => Gives t e) (t.map fun r => (sD r).shown) (t.map rowSg) := by
    clear ne
    induction t with
    | nil => exact .nil
    | cons r t ih =>
      obtain ⟨a, b⟩ := h r List.mem_cons_self
      exact .cons (gives_row a b) (ih fun x hx => h x (List.mem_cons_of_mem _ hx))
  have g := gives_tuple (by simpa using ne) p
  have e1 : (tD t).shown = tupleText (t.map fun r => (sD r).shown) := by
    unfold tD
    rw [← shownAll_map sD]
    simp only [PyData.shown]
  rw [e1]
  exact g
theorem sg_int_inj {a b : Int} (ha : 0 ≤ a) (hb : 0 ≤ b) (h : sg (PyData.int a).shown = sg (PyData.int b).shown) : a = b := by
  obtain ⟨m, rfl⟩ : ∃ m : Nat, a = (m : Int) := ⟨a.toNat, by omega⟩
  obtain ⟨k, rfl⟩ : ∃ m : Nat, b = (m : Int) := ⟨b.toNat, by omega⟩
  rw [PyData.shown_int, PyData.shown_int] at h
  have h' : (Str.ofString (Nat.repr m)).cps.toList = (Str.ofString (Nat.repr k)).cps.toList := h
  rw [signs_ofString, signs_ofString] at h'
  have inj : ∀ {x y : List Char}, x.map Char.toNat = y.map Char.toNat → x = y := by
    intro x
    induction x with
    | nil => intro y e; cases y with | nil => rfl | cons _ _ => cases e
    | cons c x ih =>
      intro y e
      cases y with
      | nil => cases e
      | cons d y =>
        rw [List.map_cons, List.map_cons, List.cons.injEq] at e
        rw [ih e.2, Char.ext (UInt32.toNat_inj.mp e.1)]
  have e := inj h'
  have : Nat.repr m = Nat.repr k := String.ext e
  rw [Nat.repr_injective this]
theorem rowSg_inj {r q : List Int} (hr : ∀ n ∈ r, 0 ≤ n) (hq : ∀ n ∈ q, 0 ≤ n) (h : rowSg r = rowSg q) : r = q := by
  induction r generalizing q with
  | nil => cases q with | nil => rfl | cons _ _ => cases h
  | cons n r ih =>
    cases q with
    | nil => cases h
    | cons m q =>
      have h' : sg (PyData.int n).shown :: rowSg r = sg (PyData.int m).shown :: rowSg q := h
      rw [List.cons.injEq] at h'
      rw [sg_int_inj (hr n List.mem_cons_self) (hq m List.mem_cons_self) h'.1, ih (fun x hx => hr x (List.mem_cons_of_mem _ hx)) (fun x hx => hq x (List.mem_cons_of_mem _ hx)) h'.2]
theorem tab_inj {t u : List (List Int)} {n : Nat} (n0 : 0 < n) (lt : t.length = n) (lu : u.length = n) (ht : ∀ r ∈ t, r.length = n ∧ ∀ x ∈ r, 0 ≤ x) (hu : ∀ r ∈ u, r.length = n ∧ ∀ x ∈ r, 0 ≤ x) (h : (tD t).shown = (tD u).shown) : t = u := by
  have nr : ∀ {v : List (List Int)}, (∀ r ∈ v, r.length = n ∧ ∀ x ∈ r, 0 ≤ x) → ∀ r ∈ v, r ≠ [] ∧ ∀ x ∈ r, 0 ≤ x := fun hv r hr => ⟨List.length_pos_iff.mp (by rw [(hv r hr).1]; exact n0), (hv r hr).2⟩
  have g1 := gives_tab (List.length_pos_iff.mp (by omega)) (nr ht) 32 [] (by decide)
  have g2 := gives_tab (List.length_pos_iff.mp (by omega)) (nr hu) 32 [] (by decide)
  rw [h, g2] at g1
  have e := List.append_cancel_right g1
  clear g1 g2 h
  have : ∀ (t u : List (List Int)), t.length = u.length → (∀ r ∈ t, r.length = n ∧ ∀ x ∈ r, 0 ≤ x) → (∀ r ∈ u, r.length = n ∧ ∀ x ∈ r, 0 ≤ x) → (u.map rowSg).flatten = (t.map rowSg).flatten → t = u := by
    intro t
    induction t with
    | nil => intro u l _ _ _; exact (List.eq_nil_of_length_eq_zero l.symm).symm
    | cons r t ih =>
      intro u l a b c
      cases u with
      | nil => cases l
      | cons q u =>
        rw [List.map_cons, List.map_cons, List.flatten_cons, List.flatten_cons] at c
        have ra := a r List.mem_cons_self
        have qa := b q List.mem_cons_self
        obtain ⟨c1, c2⟩ := List.append_inj c (by unfold rowSg; rw [List.length_map, List.length_map, ra.1, qa.1])
        rw [rowSg_inj qa.2 ra.2 c1, ih u (by simpa using l) (fun x hx => a x (List.mem_cons_of_mem _ hx)) (fun x hx => b x (List.mem_cons_of_mem _ hx)) c2]
  exact this t u (by omega) ht hu e
end NA
namespace NA
open PySem PySem.Spec PyProof.Rows L2
def topS (i : Nat) : Stmt := PySem.Challenge.pw_narrowadds_k10_whole_tables_by_own_sums.main.body.getD i (.Pass ⟨0, 0, 0, 0⟩)
abbrev s_still : Stmt := topS 1
abbrev s_deed_table : Stmt := topS 2
abbrev s_table_of : Stmt := topS 3
abbrev s_both : Stmt := topS 4
abbrev s_moved : Stmt := topS 5
abbrev s_product_sum : Stmt := topS 6
abbrev s_done : Stmt := topS 8
abbrev s_run : Stmt := topS 9
abbrev s_l_pot : Stmt := topS 11
abbrev s_l_dip : Stmt := topS 12
abbrev s_l_pick : Stmt := topS 13
abbrev s_l_primes : Stmt := topS 14
abbrev s_l_common : Stmt := topS 15
abbrev s_l_step : Stmt := topS 16
abbrev s_l_great : Stmt := topS 17
abbrev s_l_sizes : Stmt := topS 18
abbrev s_l_wires : Stmt := topS 19
abbrev s_l_machine : Stmt := topS 20
abbrev s_l_contents : Stmt := topS 21
abbrev s_l_deed : Stmt := topS 22
abbrev s_l_program : Stmt := topS 23
abbrev s_l_run : Stmt := topS 24
abbrev s_l_every : Stmt := topS 25
abbrev s_l_small : Stmt := topS 26
abbrev s_l_table : Stmt := topS 27
abbrev s_l_led : Stmt := topS 28
abbrev s_l_both : Stmt := topS 29
abbrev s_l_still : Stmt := topS 30
abbrev s_l_single : Stmt := topS 31
abbrev s_l_is_led : Stmt := topS 32
abbrev s_l_is_deed : Stmt := topS 33
abbrev s_l_are_unlike : Stmt := topS 34
abbrev s_law : Stmt := topS 35
section
variable {P : Program} {w : World} {K : PySem.W.Frag} {mg : Str → Option Value} {base : Heap}

/-! ### _law_dip, for great sizes too -/
abbrev sc_l_dipN : List Str := ["pot", "size", "cell", "mixed"]
theorem sc_l_dip : FnScope sc_l_dipN ["pot", "size"] (defScope s_l_dip) := ⟨rfl, rfl, rfl, by decide +kernel, rfl, by decide +kernel, by decide +kernel⟩
theorem ok_dipW {f : Addr} {fd : FuncData} (D : DefAt K mg "_law_dip" s_l_dip ["pot", "size"] f fd) (T : Blt mg) : Cal P w K mg base 1 "_law_dip" spDipW := by
  refine cal_of D sc_l_dip (fun vs H Q E h => ?_) (fun cdv A outer s H vs Q E hr h => ?_)
  · obtain ⟨p, q, n, rfl, _⟩ := h
    rfl
  · obtain ⟨p, q, n, rfl, hP, n0, n1, k⟩ := h
    obtain ⟨cs, a, b, m, hp, hq, hc, a0, a1, b0, b1⟩ := hP
    have npq : p ≠ q := pq_ne hp hq
    refine ⟨_, (pss_cons (ps_if (pt_cmpR (op_neDK K rfl hr.units) (pe_ix (ix_listK K rfl) (pv 0) pe_int (fun _ _ => rfl)) (pe_lst pa_nil) (nomark _)) (pss_cons (ps_set (i := 2) sc_l_dip.nd rfl (.inl rfl) (pe_bm0 PySem.F.plainAttrs_list PySem.F.slot_list_pop PySem.F.type_list_pop mt_pop (pe_ix (ix_listK K rfl) (pv 0) pe_int (fun _ _ => rfl))))
      (pss_cons (ps_if (pt_cmpR op_ge (pv 2) (pv 1) (nomark _)) (pss_one (ps_expr (pe_bm PySem.F.plainAttrs_list PySem.F.slot_list_append PySem.F.type_list_append mt_append (pe_ix (ix_listK K rfl) (pv 0) pe_int (fun _ _ => rfl)) (pa_cons (pe_op op_fdivW (pv 2) (pv 1)) pa_nil)))) pss_nil)
      (pss_one (ps_ret (pe_op op_mod (pe_callTy call_int1 (by rfl) T.int (by decide +kernel) (pa_cons (pv 2) pa_nil)) (pv 1)))))) pss_nil)
      (pss_cons (ps_asg (pe_op op_add (pe_ix (ix_listK K rfl) (pv 0) pe_int (fun _ _ => rfl)) pe_int) (pg_sub (pv 0) pe_int set_list))
      (pss_cons (ps_set (i := 3) sc_l_dip.nd rfl (.inl rfl) (pe_op op_mod (pe_op op_add (pe_ix (ix_listK K rfl) (pv 0) pe_int (fun _ _ => rfl)) (pe_op op_mul (pe_ix (ix_listK K rfl) (pv 0) pe_int (fun _ _ => rfl)) pe_int)) pe_int))
      (pss_cons (ps_set (i := 3) sc_l_dip.nd rfl (.inl rfl) (pe_op op_mod (pe_op op_add (pe_op op_add (pe_op op_mul (pv 3) (pv 3)) (pe_op op_mul (pe_ix (ix_listK K rfl) (pv 0) pe_int (fun _ _ => rfl)) (pe_ix (ix_listK K rfl) (pv 0) pe_int (fun _ _ => rfl)))) pe_int) pe_int))
      (pss_one (ps_ret (pe_op op_mod (pe_op op_fdiv (pe_op op_mod (pe_op op_mul (pv 3) pe_int) pe_int) pe_int) (pv 1)))))))), ?_⟩
    refine ⟨_, rfl, p, _, 0, _, rfl, rfl, SqL.of hp, atI_nat (j := 0) rfl, Nat.zero_le _, fun l nl => ?_⟩
    have nlp : p ≠ l := ne_of_none hp nl
    have nlq : q ≠ l := ne_of_none hq nl
    have hp1 : (upd H l (.lst [])) p = some (.lst [.ref q, .int a, .int b, .int m]) := by rw [upd_ne nlp]; exact hp
    have hq1 : (upd H l (.lst [])) q = some (.lst (cs.map V.int)) := by rw [upd_ne nlq]; exact hq
    have kp1 : Kp p q H (upd H l (.lst [])) := (Kp.refl p q H).new nl
    refine ⟨.list (cs.map PyData.int), .list [], .lst (SqL.of hq1) (DpAll.ints K _ cs), .lst (SqL.of upd_same) .nil, shaped_ints cs, rfl, _, rfl, ?_⟩
    have keep : ∀ (H' H'' : Hp) (c : Addr) (o : HO), Kp p q H H' → (c = p ∨ c = q) → Kp p q H (upd H' c o) := fun H' _ c o e hcq b u n1 n2 z => by
      have nb : b ≠ c := fun e => by
        rcases hcq with h | h
        · exact n1 (e.trans h)
        · exact n2 (e.trans h)
      rw [upd_ne nb]
      exact e b u n1 n2 z
    cases cs with
    | nil =>
      refine iteF ?_
      refine ⟨_, rfl, p, _, 3, _, rfl, rfl, SqL.of hp1, atI_nat (j := 3) rfl, m, 1, rfl, rfl, _, rfl, p, _, 3, 3, rfl, rfl, hp1, rfl, ?_⟩
      have hp2 : (upd (upd H l (.lst [])) p (.lst [.ref q, .int a, .int b, .int (m + 1)])) p = some (.lst [.ref q, .int a, .int b, .int (m + 1)]) := upd_same
      have hq2 : (upd (upd H l (.lst [])) p (.lst [.ref q, .int a, .int b, .int (m + 1)])) q = some (.lst []) := by rw [upd_ne npq.symm]; exact hq1
      have kp2 : Kp p q H (upd (upd H l (.lst [])) p (.lst [.ref q, .int a, .int b, .int (m + 1)])) := keep _ H _ _ kp1 (.inl rfl)
      refine ⟨_, rfl, p, _, 1, _, rfl, rfl, SqL.of hp2, atI_nat (j := 1) rfl, _, rfl, p, _, 3, _, rfl, rfl, SqL.of hp2, atI_nat (j := 3) rfl, _, _, rfl, rfl, .inr ⟨by decide, by decide⟩, _, _, rfl, rfl, _, _, rfl, rfl, (by decide : (0 : Int) < 4294967291), ?_⟩
      have m1 := Int.emod_nonneg (a + (m + 1) * 2654435761) (show (4294967291 : Int) ≠ 0 by decide)
      have m2 := Int.emod_lt_of_pos (a + (m + 1) * 2654435761) (show (0 : Int) < 4294967291 by decide)
      refine ⟨_, rfl, _, rfl, _, _, rfl, rfl, .inl ⟨by omega, by omega⟩, _, rfl, p, _, 2, _, rfl, rfl, SqL.of hp2, atI_nat (j := 2) rfl, _, rfl, p, _, 3, _, rfl, rfl, SqL.of hp2, atI_nat (j := 3) rfl, _, _, rfl, rfl, .inl ⟨by omega, by omega⟩, _, _, rfl, rfl, _, _, rfl, rfl, _, _, rfl, rfl, (by decide : (0 : Int) < 4294967279), ?_⟩
      refine ⟨_, rfl, _, _, rfl, rfl, .inl ⟨Int.lt_of_lt_of_le (by decide) (Int.emod_nonneg _ (by decide)), Int.lt_trans (Int.emod_lt_of_pos _ (by decide)) (by decide)⟩, _, _, rfl, rfl, (by decide : (0 : Int) < 4294967231), _, _, rfl, rfl, ⟨by decide, by decide⟩, _, rfl, _, _, rfl, rfl, n0, ?_⟩
      refine k _ _ (Int.emod_nonneg _ (by omega)) (Int.emod_lt_of_pos _ n0) ⟨[], a, b, m + 1, hp2, hq2, by decide, a0, a1, b0, b1⟩ kp2
    | cons c0 cs0 =>
      refine iteT ?_
      generalize hcs : c0 :: cs0 = cs at *
      have ne : cs ≠ [] := by rw [← hcs]; exact List.cons_ne_nil _ _
      obtain ⟨ini, z, rfl⟩ : ∃ (ini : List Int) (z : Int), cs = ini ++ [z] := ⟨cs.dropLast, cs.getLast ne, (List.dropLast_concat_getLast ne).symm⟩
      have hq1' : (upd H l (.lst [])) q = some (.lst (ini.map V.int ++ [V.int z])) := by rw [hq1, List.map_append]; rfl
      have hlast : (ini.map V.int ++ [V.int z])[(ini.map V.int ++ [V.int z]).length - 1]? = some (V.int z) := by simp
      have hdrop : (ini.map V.int ++ [V.int z]).dropLast = ini.map V.int := by simp
      refine ⟨_, rfl, p, _, 0, _, rfl, rfl, SqL.of hp1, atI_nat (j := 0) rfl, .inl ⟨rfl, _, SqL.of hq1'⟩, q, _, _, rfl, rfl, hq1', hlast, ?_⟩
      rw [hdrop]
      have hp2 : (upd (upd H l (.lst [])) q (.lst (ini.map V.int))) p = some (.lst [.ref q, .int a, .int b, .int m]) := by rw [upd_ne npq]; exact hp1
      have hq2 : (upd (upd H l (.lst [])) q (.lst (ini.map V.int))) q = some (.lst (ini.map V.int)) := upd_same
      have kp2 : Kp p q H (upd (upd H l (.lst [])) q (.lst (ini.map V.int))) := keep _ H _ _ kp1 (.inr rfl)
      have li : ini.length + 1 ≤ 60 := by simpa using hc
      refine ⟨_, rfl, _, rfl, _, _, rfl, rfl, _, rfl, ?_⟩
      refine ite2 (fun _ => ?_) (fun _ => ?_)
      · refine ⟨_, rfl, p, _, 0, _, rfl, rfl, SqL.of hp2, atI_nat (j := 0) rfl, .inl ⟨rfl, _, SqL.of hq2⟩, _, rfl, _, rfl, _, _, rfl, rfl, wide_div (b := 4000) n0 n1 (by decide) (by decide), q, _, _, rfl, rfl, hq2, small1000 (by rw [List.length_map]; omega), ?_⟩
        have hp3 : ∀ o, (upd (upd (upd H l (.lst [])) q (.lst (ini.map V.int))) q o) p = some (.lst [.ref q, .int a, .int b, .int m]) := fun o => by rw [upd_ne npq]; exact hp2
        refine ⟨_, rfl, .inl ⟨_, rfl, _, rfl, _, _, rfl, rfl, n0, ?_⟩⟩
        refine k _ _ (Int.emod_nonneg _ (by omega)) (Int.emod_lt_of_pos _ n0) ⟨ini ++ [z / n], a, b, m, hp3 _, by rw [upd_same, List.map_append]; rfl, by rw [List.length_append, List.length_singleton]; omega, a0, a1, b0, b1⟩ (keep _ H _ _ kp2 (.inr rfl))
      · refine ⟨_, rfl, .inl ⟨_, rfl, _, rfl, _, _, rfl, rfl, n0, ?_⟩⟩
        refine k _ _ (Int.emod_nonneg _ (by omega)) (Int.emod_lt_of_pos _ n0) ⟨ini, a, b, m, hp2, hq2, by omega, a0, a1, b0, b1⟩ kp2

/-! ### _law_pick, lists and tuples -/
abbrev sc_l_pickN : List Str := ["pot", "items"]
theorem sc_l_pick : FnScope sc_l_pickN ["pot", "items"] (defScope s_l_pick) := ⟨rfl, rfl, rfl, by decide +kernel, rfl, by decide +kernel, by decide +kernel⟩
theorem ok_pickA {f : Addr} {fd : FuncData} (D : DefAt K mg "_law_pick" s_l_pick ["pot", "items"] f fd) (T : Blt mg) (c_l_dip : Cal P w K mg base 1 "_law_dip" spDip) : Cal P w K mg base 2 "_law_pick" spPickA := by
  refine cal_of D sc_l_pick (fun vs H Q E h => ?_) (fun cdv A outer s H vs Q E hr h => ?_)
  · obtain ⟨p, q, a, xs, o, rfl, _⟩ := h
    rfl
  · obtain ⟨p, q, a, xs, o, rfl, hP, ha, ho, ne, lt, k⟩ := h
    refine ⟨_, (pss_one (ps_ret (pe_ix (ix_anyK K rfl) (pv 1) (pe_c c_l_dip hr (by decide) rfl (pa_cons (pv 0) (pa_cons (pe_callB (call_lenK K rfl) (by rfl) T.len PySem.boot_len (pa_cons (pv 1) pa_nil)) pa_nil))) (fun _ _ => rfl)))), ?_⟩
    have l0 : 0 < xs.length := List.length_pos_iff.mpr ne
    have sq : SqL K H a xs ∨ SqT K H a xs := by
      rcases ho with ⟨e, _⟩ | e
      · exact .inl (SqL.of (e ▸ ha))
      · exact .inr (SqT.of (e ▸ ha))
    refine ⟨_, rfl, _, rfl, _, rfl, a, xs, rfl, sq, p, q, _, rfl, hP, by omega, by omega, fun r H' r0 r1 hP' hk => ?_⟩
    obtain ⟨j, rfl⟩ : ∃ j : Nat, r = (j : Int) := ⟨r.toNat, by omega⟩
    have hj : j < xs.length := by omega
    have kk := k _ _ (List.getElem_mem hj) hP' hk
    rcases ho with ⟨e, n1, n2⟩ | e
    · exact .inl ⟨a, xs, j, _, rfl, rfl, SqL.of (hk a _ n1 n2 (e ▸ ha)), atI_nat (List.getElem?_eq_getElem hj), kk⟩
    · exact .inr ⟨a, xs, j, _, rfl, rfl, SqT.of ((hk.tk hP) _ _ (e ▸ ha)), atI_nat (List.getElem?_eq_getElem hj), kk⟩

/-! ### _law_dip, _law_pick, _law_primes, _law_common -/
abbrev sc_l_primesN : List Str := []
theorem sc_l_primes : FnScope sc_l_primesN [] (defScope s_l_primes) := ⟨rfl, rfl, rfl, by decide +kernel, rfl, by decide +kernel, by decide +kernel⟩
theorem ok_primes {f : Addr} {fd : FuncData} (D : DefAt K mg "_law_primes" s_l_primes [] f fd) : Cal P w K mg base 1 "_law_primes" spPrimes := by
  refine cal_of D sc_l_primes (fun vs H Q E h => ?_) (fun cdv A outer s H vs Q E hr h => ?_)
  · obtain ⟨rfl, _⟩ := h
    rfl
  · obtain ⟨rfl, k⟩ := h
    refine ⟨_, (pss_one (ps_ret (pe_lst (pa_cons pe_int (pa_cons pe_int (pa_cons pe_int (pa_cons pe_int (pa_cons pe_int (pa_cons pe_int (pa_cons pe_int (pa_cons pe_int (pa_cons pe_int (pa_cons pe_int (pa_cons pe_int (pa_cons pe_int (pa_cons pe_int (pa_cons pe_int (pa_cons pe_int (pa_cons pe_int (pa_cons pe_int (pa_cons pe_int (pa_cons pe_int (pa_cons pe_int (pa_cons pe_int (pa_cons pe_int (pa_cons pe_int (pa_cons pe_int (pa_cons pe_int pa_nil)))))))))))))))))))))))))))), ?_⟩
    exact ⟨by show 25 ≤ sizeLine; decide, fun a na => k a na⟩
abbrev sc_l_commonN : List Str := ["one", "other"]
theorem sc_l_common : FnScope sc_l_commonN ["one", "other"] (defScope s_l_common) := ⟨rfl, rfl, rfl, by decide +kernel, rfl, by decide +kernel, by decide +kernel⟩
theorem ok_common {f : Addr} {fd : FuncData} (D : DefAt K mg "_law_common" s_l_common ["one", "other"] f fd) : Cal P w K mg base 1 "_law_common" spCommon := by
  refine cal_of D sc_l_common (fun vs H Q E h => ?_) (fun cdv A outer s H vs Q E hr h => ?_)
  · obtain ⟨a, b, rfl, _⟩ := h
    rfl
  · obtain ⟨a, b, rfl, hb, k⟩ := h
    refine ⟨_, (pss_cons (ps_while PassesOwn.never (pt_cmpR op_gt (pv 1) pe_int (nomark _)) (pss_one (ps_par (i := 0) (j := 1) rfl sc_l_common.nd rfl rfl (by decide) rfl rfl (pa_cons (pv 1) (pa_cons (pe_op op_mod (pv 0) (pv 1)) pa_nil)) (by rfl))))
      (pss_one (ps_ret (pv 0)))), ?_⟩
    refine ⟨fun m σ H' => ∃ x y : Nat, σ = [some (.int x), some (.int y)] ∧ Nat.gcd x y = Nat.gcd a b ∧ m = y ∧ H' = H, ⟨b, a, b, rfl, rfl, rfl, rfl⟩, ?_⟩
    rintro m σ H' ⟨x, y, rfl, hg, rfl, rfl⟩
    refine ⟨_, rfl, _, _, rfl, rfl, _, rfl, ?_⟩
    refine ite2 (fun hy => ?_) (fun hy => ?_)
    · have hy' : (0 : Int) < (m : Int) := of_decide_eq_true hy
      refine ⟨fun σ' H'' => ∃ x' y' : Nat, σ' = [some (.int x'), some (.int y')] ∧ Nat.gcd x' y' = Nat.gcd a b ∧ y' < m ∧ H'' = H', fun σ' H'' ⟨x', y', e1, e2, e3, e4⟩ => ⟨y', e3, x', y', e1, e2, rfl, e4⟩, ?_⟩
      refine ⟨_, rfl, _, rfl, _, rfl, _, _, rfl, rfl, hy', _, _, rfl, m, x % m, rfl, ?_, Nat.mod_lt _ (by omega), rfl⟩
      rw [Nat.gcd_comm, ← Nat.gcd_rec, Nat.gcd_comm, hg]
    · have hy' : ¬ (0 : Int) < (m : Int) := of_decide_eq_false (by simpa using hy)
      have m0 : m = 0 := by omega
      subst m0
      refine ⟨_, rfl, ?_⟩
      rw [Nat.gcd_zero_right] at hg
      rw [hg]
      exact k

/-! ### _law_great, _law_sizes, _law_wires, _law_machine -/
abbrev sc_l_greatN : List Str := ["pot", "some", "found", "turn", "prime"]
theorem sc_l_great : FnScope sc_l_greatN ["pot"] (defScope s_l_great) := ⟨rfl, rfl, rfl, by decide +kernel, rfl, by decide +kernel, by decide +kernel⟩
theorem ok_great {f : Addr} {fd : FuncData} (D : DefAt K mg "_law_great" s_l_great ["pot"] f fd) (T : Blt mg) (c_l_dip : Cal P w K mg base 1 "_law_dip" spDip) (c_l_pick : Cal P w K mg base 2 "_law_pick" spPick) (c_l_primes : Cal P w K mg base 1 "_law_primes" spPrimes) :
    Cal P w K mg base 3 "_law_great" spGreat := by
  refine cal_of D sc_l_great (fun vs H Q E h => ?_) (fun cdv A outer s H vs Q E hr h => ?_)
  · obtain ⟨p, q, rfl, _⟩ := h
    rfl
  · obtain ⟨p, q, rfl, hP, k⟩ := h
    refine ⟨_, (pss_cons (ps_set (i := 1) sc_l_great.nd rfl (.inl rfl) (pe_lst (pa_cons (pe_op op_pow pe_int pe_int) (pa_cons (pe_op op_pow pe_int pe_int) (pa_cons (pe_op op_pow pe_int pe_int) (pa_cons (pe_op op_pow pe_int pe_int) (pa_cons (pe_op op_pow pe_int pe_int) (pa_cons (pe_op op_pow pe_int pe_int) (pa_cons (pe_op op_pow (pe_op op_pow pe_int pe_int) pe_int) (pa_cons (pe_op op_pow pe_int pe_int) (pa_cons (pe_op op_pow pe_int pe_int) (pa_cons pe_int (pa_cons pe_int pa_nil)))))))))))))
      (pss_cons (ps_set (i := 2) sc_l_great.nd rfl (.inl rfl) (pe_c c_l_pick hr (by decide) rfl (pa_cons (pv 0) (pa_cons (pv 1) pa_nil))))
      (pss_cons (ps_for PassesOwn.never rfl (pi_range1 (by rfl) T.range (pa_cons (pe_c c_l_dip hr (by decide) rfl (pa_cons (pv 0) (pa_cons pe_int pa_nil))) pa_nil)) (pg_name (i := 3) sc_l_great.nd rfl (.inl rfl)) (pss_cons (ps_set (i := 4) sc_l_great.nd rfl (.inl rfl) (pe_c c_l_pick hr (by decide) rfl (pa_cons (pv 0) (pa_cons (pe_lst (pa_cons pe_int (pa_cons pe_int (pa_cons pe_int (pa_cons pe_int (pa_cons (pe_c c_l_pick hr (by decide) rfl (pa_cons (pv 0) (pa_cons (pe_c0 c_l_primes hr (by decide) rfl) pa_nil))) pa_nil)))))) pa_nil))))
      (pss_one (ps_set (i := 2) sc_l_great.nd rfl (.inl rfl) (pe_ifExp (pt_cmpR op_le (pe_op op_mulW (pv 2) (pv 4)) (pe_op op_pow pe_int pe_int) (nomark _)) (pe_op op_mulW (pv 2) (pv 4)) (pv 2))))))
      (pss_one (ps_ret (pe_callB (call_max2 rfl) (by rfl) T.max boot_max (pa_cons (pv 2) (pa_cons pe_int pa_nil)))))))), ?_⟩
    refine ⟨_, _, rfl, rfl, ⟨by decide, by decide, by decide⟩, _, _, rfl, rfl, ⟨by decide, by decide, by decide⟩, _, _, rfl, rfl, ⟨by decide, by decide, by decide⟩, _, _, rfl, rfl, ⟨by decide, by decide, by decide⟩, _, _, rfl, rfl, ⟨by decide, by decide, by decide⟩, _, _, rfl, rfl, ⟨by decide, by decide, by decide⟩,
      _, _, rfl, rfl, ⟨by decide, by decide, by decide⟩, _, _, rfl, rfl, ⟨by decide, by decide, by decide⟩, _, _, rfl, rfl, ⟨by decide, by decide, by decide⟩, _, _, rfl, rfl, ⟨by decide, by decide, by decide⟩, by show 11 ≤ sizeLine; decide, fun c nc => ?_⟩
    refine ⟨_, rfl, _, rfl, p, q, c, _, rfl, hP.new nc, upd_same, (hP.np nc).1, (hP.np nc).2, List.cons_ne_nil _ _, by show 11 < 1000; decide, fun v H2 hv P2 k2 => ?_⟩
    have kp2 : Kp p q H H2 := ((Kp.refl p q H).new nc).trans k2
    have ov : okV v = true := by
      have all : ∀ l : List V, l.all okV = true → v ∈ l → okV v = true := fun l h => List.all_eq_true.mp h v
      exact all _ (by decide +kernel) hv
    obtain ⟨m, rfl, m1, m2, m3⟩ := okV_of ov
    refine ⟨_, rfl, p, q, _, rfl, P2, by decide, by decide, fun r H3 r0 r1 P3 k3 => ⟨r, rfl, by omega, by omega, for_range (lo := 0) (n := r.toNat) (fun i σ H' => ∃ (x : Nat) (v3 v4 : Option V), σ = [some (.ref p), some (.ref c), some (.int x), v3, v4] ∧ 1 ≤ x ∧ x ≤ 10 ^ 30 ∧ Smo x ∧ Pt H' p q ∧ Kp p q H H')
      ⟨m, none, none, rfl, m1, m2, m3, P3, kp2.trans k3⟩ ?_ ?_⟩⟩
    · rintro i σ H' hi ⟨x, v3, v4, rfl, x1, x2, x3, P4, k4⟩
      refine ⟨_, rfl, _, rfl, rfl, fun a na => ⟨p, q, a, _, rfl, P4.new na, upd_same, (P4.np na).1, (P4.np na).2, by decide, by decide, fun v H5 hv P5 k5 => ⟨by show 5 ≤ sizeLine; decide, fun b nb => ?_⟩⟩⟩
      refine ⟨p, q, b, _, rfl, P5.new nb, upd_same, (P5.np nb).1, (P5.np nb).2, List.cons_ne_nil _ _, by show 5 < 1000; decide, fun u H6 hu P6 k6 => ?_⟩
      have k06 : Kp p q H H6 := ((((k4.new na).trans k5).new nb)).trans k6
      obtain ⟨pr, rfl, hpr⟩ : ∃ pr : Nat, u = .int pr ∧ pr ∈ PRn := by
        have fromPR : ∀ y : V, y ∈ PR.map V.int → ∃ pr : Nat, y = .int pr ∧ pr ∈ PRn := fun y hy => by
          obtain ⟨z, hz, rfl⟩ := List.mem_map.mp hy
          have e : PR = PRn.map (fun n : Nat => (n : Int)) := by decide +kernel
          rw [e] at hz
          obtain ⟨n, hn, rfl⟩ := List.mem_map.mp hz
          exact ⟨n, rfl, hn⟩
        rcases List.mem_cons.mp hu with e | hu
        · exact ⟨2, e, by decide⟩
        rcases List.mem_cons.mp hu with e | hu
        · exact ⟨2, e, by decide⟩
        rcases List.mem_cons.mp hu with e | hu
        · exact ⟨3, e, by decide⟩
        rcases List.mem_cons.mp hu with e | hu
        · exact ⟨5, e, by decide⟩
        rcases List.mem_cons.mp hu with e | hu
        · exact fromPR _ (e ▸ hv)
        · cases hu
      have wide : CMulW (x : Int) (pr : Int) := wide_mul (a := 100) (b := 10) (by
        have : (10 : Nat) ^ 30 < 2 ^ 100 := by decide
        omega) (by
        have := PRn_le hpr
        omega) (by decide) (by decide) (by decide)
      refine ⟨_, rfl, _, rfl, _, _, rfl, rfl, wide, _, _, rfl, rfl, ⟨by decide, by decide, by decide⟩, _, _, rfl, rfl, _, rfl, ?_⟩
      refine ite2 (fun le => ?_) (fun _ => ?_)
      · have le' : (x : Int) * (pr : Int) ≤ 10 ^ 30 := of_decide_eq_true le
        have le2 : x * pr ≤ 10 ^ 30 := by
          have z : ((x * pr : Nat) : Int) ≤ 10 ^ 30 := by rw [Int.natCast_mul]; exact le'
          omega
        refine ⟨_, rfl, _, rfl, _, _, rfl, rfl, wide, x * pr, some (.int (0 + (i : Int))), some (.int pr), ?_, ?_, le2, x3.mulr hpr, P6, k06⟩
        · rw [Int.natCast_mul]
          rfl
        · exact Nat.mul_pos x1 (Nat.lt_of_lt_of_le (by decide) (PRn_two hpr))
      · exact ⟨_, rfl, x, _, _, rfl, x1, x2, x3, P6, k06⟩
    · rintro σ H' ⟨x, v3, v4, rfl, x1, x2, x3, P4, k4⟩
      refine ⟨_, rfl, _, _, rfl, ?_⟩
      have so : SizeOk (if (2 : Int) > (x : Int) then 2 else (x : Int)) := by
        by_cases h2 : (2 : Int) > (x : Int)
        · rw [if_pos h2]
          exact ⟨2, rfl, by decide, by decide, smo_of (by decide +kernel)⟩
        · rw [if_neg h2]
          exact ⟨x, rfl, by omega, x2, x3⟩
      exact k _ _ so P4 k4
abbrev sc_l_sizesN : List Str := ["pot", "is_great", "few", "base", "turn"]
theorem sc_l_sizes : FnScope sc_l_sizesN ["pot", "is_great"] (defScope s_l_sizes) := ⟨rfl, rfl, rfl, by decide +kernel, rfl, by decide +kernel, by decide +kernel⟩
theorem ok_sizes {f : Addr} {fd : FuncData} (D : DefAt K mg "_law_sizes" s_l_sizes ["pot", "is_great"] f fd) (T : Blt mg) (c_l_dip : Cal P w K mg base 1 "_law_dip" spDip) (c_l_pick : Cal P w K mg base 2 "_law_pick" spPick) (c_l_great : Cal P w K mg base 3 "_law_great" spGreat) :
    Cal P w K mg base 4 "_law_sizes" spSizes := by
  refine cal_of D sc_l_sizes (fun vs H Q E h => ?_) (fun cdv A outer s H vs Q E hr h => ?_)
  · obtain ⟨p, q, g, rfl, _⟩ := h
    rfl
  · obtain ⟨p, q, g, rfl, hP, k⟩ := h
    refine ⟨_, (pss_cons (ps_set (i := 2) sc_l_sizes.nd rfl (.inr rfl) (pe_lst (pa_cons pe_int (pa_cons pe_int (pa_cons pe_int (pa_cons pe_int (pa_cons pe_int (pa_cons pe_int (pa_cons pe_int (pa_cons pe_int (pa_cons pe_int (pa_cons pe_int (pa_cons pe_int (pa_cons pe_int (pa_cons pe_int pa_nil)))))))))))))))
      (pss_cons (ps_set (i := 3) sc_l_sizes.nd rfl (.inr rfl) (pe_lc (own := [("turn", 4)]) rfl sc_l_sizes.nd (pi_range1 (by rfl) T.range (pa_cons pe_int pa_nil)) (blkOk_by (N := sc_l_sizesN) (sc := defScope s_l_sizes) (by decide +kernel)) (fun _ _ _ _ _ => (pg_name (i := 4) sc_l_sizes.nd rfl (by first | exact .inl rfl | exact .inr rfl))) (fun _ _ _ _ _ => pts_nil) (fun _ _ _ _ _ => (pe_ifExp (pt_val (pv 1)) (pe_c c_l_great hr (by decide) rfl (pa_cons (pv 0) pa_nil)) (pe_c c_l_pick hr (by decide) rfl (pa_cons (pv 0) (pa_cons (pv 2) pa_nil)))))))
      (pss_one (ps_ret (pe_callTy (call_tupleK K rfl) (by rfl) T.tuple (by decide +kernel) (pa_cons (pe_lc (own := [("turn", 4)]) rfl sc_l_sizes.nd (pi_range1 (by rfl) T.range (pa_cons (pe_op op_add pe_int (pe_c c_l_dip hr (by decide) rfl (pa_cons (pv 0) (pa_cons pe_int pa_nil)))) pa_nil)) (blkOk_by (N := sc_l_sizesN) (sc := defScope s_l_sizes) (by decide +kernel)) (fun _ _ _ _ _ => (pg_name (i := 4) sc_l_sizes.nd rfl (by first | exact .inl rfl | exact .inr rfl))) (fun _ _ _ _ _ => pts_nil) (fun _ _ _ _ _ => (pe_c c_l_pick hr (by decide) rfl (pa_cons (pv 0) (pa_cons (pv 3) pa_nil))))) pa_nil)))))), ?_⟩
    refine ⟨by show 13 ≤ sizeLine; decide, fun c nc => ?_⟩
    have P1 : Pt (upd H c (.lst fewV)) p q := hP.new nc
    have k1 : Kp p q H (upd H c (.lst fewV)) := (Kp.refl p q H).new nc
    obtain ⟨nc1, nc2⟩ := hP.np nc
    refine ⟨3, rfl, by decide, by decide, fun b nb => ?_⟩
    have nbH : H b = none := by
      by_cases e : b = c
      · rw [e, upd_same] at nb
        cases nb
      · rw [upd_ne e] at nb
        exact nb
    obtain ⟨nb1, nb2⟩ := hP.np nbH
    have ncb : c ≠ b := ne_of_none upd_same nb
    refine lc_range (lo := 0) (n := 3) (fun i H' => Pt H' p q ∧ Kp p q H H' ∧ H' c = some (.lst fewV) ∧ ∃ acc : List Int, H' b = some (.lst (acc.map V.int)) ∧ acc.length = i ∧ ∀ s ∈ acc, SizeOk s)
      ⟨P1.new nb, k1.new nb, by rw [upd_ne ncb]; exact upd_same, [], upd_same, rfl, fun s hs => by cases hs⟩ ?_ ?_
    · rintro i H' hi ⟨P2, k2, hc, acc, hb, hl, ok⟩
      have fin : ∀ (n : Int) (H3 : Hp), SizeOk n → Pt H3 p q → Kp p q H' H3 → ∃ acc' : List V, H3 b = some (.lst acc') ∧ acc'.length < sizeLine ∧ (Pt (upd H3 b (.lst (acc' ++ [V.int n]))) p q ∧ Kp p q H (upd H3 b (.lst (acc' ++ [V.int n]))) ∧ (upd H3 b (.lst (acc' ++ [V.int n]))) c = H' c ∧ ∃ acc : List Int, (upd H3 b (.lst (acc' ++ [V.int n]))) b = some (.lst (acc.map V.int)) ∧ acc.length = i + 1 ∧ ∀ s ∈ acc, SizeOk s) := fun n H3 hn P3 k3 => by
        refine ⟨acc.map V.int, k3 _ _ nb1 nb2 hb, small1000 (by rw [List.length_map]; omega), P3.put nb1 nb2, (k2.trans k3).put nbH, ?_, acc ++ [n], by rw [upd_same, List.map_append]; rfl, by rw [List.length_append, List.length_singleton, hl], fun s hs => ?_⟩
        · rw [upd_ne ncb, hc]
          exact k3 _ _ nc1 nc2 hc
        · rcases List.mem_append.mp hs with h | h
          · exact ok s h
          · rw [List.mem_singleton.mp h]
            exact hn
      refine ⟨rfl, ⟨_, rfl, _, rfl, ?_⟩⟩
      cases g with
      | true =>
        refine iteT ⟨_, rfl, p, q, rfl, P2, fun n H3 hn P3 k3 => ?_⟩
        obtain ⟨acc', a1, a2, a3, a4, a5, a6⟩ := fin n H3 hn P3 k3
        exact ⟨acc', a1, a2, a3, a4, a5.trans hc, a6⟩
      | false =>
        refine iteF ⟨_, rfl, _, rfl, p, q, c, _, rfl, P2, hc, nc1, nc2, List.cons_ne_nil _ _, by show 13 < 1000; decide, fun v H3 hv P3 k3 => ?_⟩
        have ov : okV v = true := by
          have all : ∀ l : List V, l.all okV = true → v ∈ l → okV v = true := fun l h => List.all_eq_true.mp h v
          exact all _ (by decide +kernel) hv
        have big : ∀ l : List V, l.all (fun v => match v with | .int i => decide (2 ≤ i) | _ => false) = true → v ∈ l → ∀ i, v = V.int i → 2 ≤ i := fun l h m i e => by
          have z := List.all_eq_true.mp h v m
          rw [e] at z
          exact of_decide_eq_true z
        obtain ⟨n, rfl, n1, n2, n3⟩ := okV_of ov
        have n4 := big _ (by decide +kernel) hv _ rfl
        obtain ⟨acc', a1, a2, a3, a4, a5, a6⟩ := fin n H3 ⟨n, rfl, by omega, n2, n3⟩ P3 k3
        exact ⟨acc', a1, a2, a3, a4, a5.trans hc, a6⟩
    · rintro H' ⟨P2, k2, hc, acc, hb, hl, ok⟩
      refine ⟨_, rfl, p, q, _, rfl, P2, by decide, by decide, fun r H3 r0 r1 P3 k3 => ⟨1, r, rfl, rfl, _, rfl, by omega, by omega, fun d nd => ?_⟩⟩
      have hb3 : H3 b = some (.lst (acc.map V.int)) := k3 _ _ nb1 nb2 hb
      obtain ⟨nd1, nd2⟩ := P3.np nd
      have nbd : b ≠ d := ne_of_none hb3 nd
      have ndH : H d = none := (k2.trans k3).fresh nd1 nd2 nd
      refine lc_range (lo := 0) (n := (1 + r).toNat) (fun i H' => Pt H' p q ∧ Kp p q H H' ∧ H' b = some (.lst (acc.map V.int)) ∧ ∃ ac : List Int, H' d = some (.lst (ac.map V.int)) ∧ ac.length = i ∧ ∀ s ∈ ac, SizeOk s)
        ⟨P3.new nd, (k2.trans k3).new nd, by rw [upd_ne nbd]; exact hb3, [], upd_same, rfl, fun s hs => by cases hs⟩ ?_ ?_
      · rintro i H4 hi ⟨P4, k4, hb4, ac, hd, hl4, ok4⟩
        refine ⟨rfl, ⟨_, rfl, _, rfl, p, q, b, _, rfl, P4, hb4, nb1, nb2, ?_, ?_, fun v H5 hv P5 k5 => ?_⟩⟩
        · intro z
          have z' := congrArg List.length z
          rw [List.length_map, hl] at z'
          cases z'
        · rw [List.length_map, hl]
          decide
        · obtain ⟨n, hn, rfl⟩ := List.mem_map.mp hv
          refine ⟨ac.map V.int, k5 _ _ nd1 nd2 hd, small1000 (by rw [List.length_map]; omega), P5.put nd1 nd2, (k4.trans k5).put ndH, ?_, ac ++ [n], by rw [upd_same, List.map_append]; rfl, by rw [List.length_append, List.length_singleton, hl4], fun s hs => ?_⟩
          · rw [upd_ne nbd]
            exact k5 _ _ nb1 nb2 hb4
          · rcases List.mem_append.mp hs with h | h
            · exact ok4 s h
            · rw [List.mem_singleton.mp h]
              exact ok n hn
      · rintro H4 ⟨P4, k4, hb4, ac, hd, hl4, ok4⟩
        refine ⟨d, _, rfl, .inl ⟨SqL.of hd, fun t nt => ?_⟩⟩
        refine k _ ac _ (.tup upd_same ?_) (by omega) (by omega) ok4 (P4.new nt) (k4.new nt)
        exact ImAll.of_ints _ ac

abbrev sc_l_wiresN : List Str := ["pot", "many", "chance", "found", "j", "i"]
theorem sc_l_wires : FnScope sc_l_wiresN ["pot", "many"] (defScope s_l_wires) := ⟨rfl, rfl, rfl, by decide +kernel, rfl, by decide +kernel, by decide +kernel⟩
theorem wlt_low {ws : List (Nat × Nat)} {j i : Nat} {acc : List (Nat × Nat)} (h1 : ws.Pairwise wlt) (h2 : ∀ w ∈ ws, w.1 < j) (h3 : acc.Pairwise wlt) (h4 : ∀ w ∈ acc, w.1 = j) : (ws ++ acc).Pairwise wlt :=
  List.pairwise_append.mpr ⟨h1, h3, fun a ha b hb => .inl (by rw [h4 b hb]; exact h2 a ha)⟩
theorem ok_wires {f : Addr} {fd : FuncData} (D : DefAt K mg "_law_wires" s_l_wires ["pot", "many"] f fd) (T : Blt mg) (c_l_dip : Cal P w K mg base 1 "_law_dip" spDip) (c_l_pick : Cal P w K mg base 2 "_law_pick" spPick) :
    Cal P w K mg base 3 "_law_wires" spWires := by
  refine cal_of D sc_l_wires (fun vs H Q E h => ?_) (fun cdv A outer s H vs Q E hr h => ?_)
  · obtain ⟨p, q, m, rfl, _⟩ := h
    rfl
  · obtain ⟨p, q, m, rfl, hm, hP, k⟩ := h
    refine ⟨_, (pss_cons (ps_asg (pe_tup (pa_cons (pe_c c_l_pick hr (by decide) rfl (pa_cons (pv 0) (pa_cons (pe_lst (pa_cons pe_int (pa_cons pe_int (pa_cons pe_int (pa_cons pe_int (pa_cons pe_int (pa_cons pe_int pa_nil))))))) pa_nil))) (pa_cons (pe_lst pa_nil) pa_nil))) (pg_tup rfl (pgs_cons (pg_name (i := 2) sc_l_wires.nd rfl (.inr rfl)) (pgs_cons (pg_name (i := 3) sc_l_wires.nd rfl (.inl rfl)) pgs_nil))))
      (pss_cons (ps_for PassesOwn.never rfl (pi_range1 (by rfl) T.range (pa_cons (pv 1) pa_nil)) (pg_name (i := 4) sc_l_wires.nd rfl (.inr rfl)) (pss_one (ps_expr (pe_bm PySem.F.plainAttrs_list PySem.F.slot_list_extend PySem.F.type_list_extend mt_extend (pv 3) (pa_cons (pe_lc (own := [("i", 5)]) rfl sc_l_wires.nd (pi_range1 (by rfl) T.range (pa_cons (pv 1) pa_nil)) (blkOk_by (N := sc_l_wiresN) (sc := defScope s_l_wires) (by decide +kernel)) (fun _ _ _ _ _ => (pg_name (i := 5) sc_l_wires.nd rfl (by first | exact .inl rfl | exact .inr rfl))) (fun _ _ _ _ _ => (pts_one (PW.pt (pw_and (pt_cmpR op_ne (pv 5) (pv 4) (nomark _)) (pw_and1 (pt_cmpR op_lt (pe_c c_l_dip hr (by decide) rfl (pa_cons (pv 0) (pa_cons pe_int pa_nil))) (pv 2) (nomark _))))))) (fun _ _ _ _ _ => (pe_tup (pa_cons (pv 4) (pa_cons (pv 5) pa_nil))))) pa_nil)))))
      (pss_one (ps_ret (pe_callTy (call_tupleK K rfl) (by rfl) T.tuple (by decide +kernel) (pa_cons (pv 3) pa_nil)))))), ?_⟩
    refine ⟨_, rfl, by show 6 ≤ sizeLine; decide, fun a na => ⟨p, q, a, _, rfl, hP.new na, upd_same, (hP.np na).1, (hP.np na).2, List.cons_ne_nil _ _, by show 6 < 1000; decide, fun v H1 hv P1 k1 => ?_⟩⟩
    have k01 : Kp p q H H1 := ((Kp.refl p q H).new na).trans k1
    obtain ⟨ch, rfl⟩ : ∃ ch : Int, v = .int ch := by
      have all : ∀ l : List V, l.all (fun v => match v with | .int _ => true | _ => false) = true → v ∈ l → ∃ ch : Int, v = .int ch := fun l h m => by
        have z := List.all_eq_true.mp h v m
        cases v with
        | int c => exact ⟨c, rfl⟩
        | _ => cases z
      exact all _ (by decide +kernel) hv
    refine ⟨Nat.zero_le _, fun fo nfo => ⟨by show 2 ≤ sizeLine; decide, fun t nt => ?_⟩⟩
    obtain ⟨nf1, nf2⟩ := P1.np nfo
    have nfoH : H fo = none := k01.fresh nf1 nf2 nfo
    have nft : fo ≠ t := ne_of_none upd_same nt
    refine ⟨t, _, rfl, .inl (.inl upd_same), rfl, _, _, rfl, _, _, rfl, rfl, ?_⟩
    refine ⟨_, rfl, m, rfl, by omega, by omega, for_range (lo := 0) (n := (m : Int).toNat) (fun j σ H' => ∃ (v4 v5 : Option V) (ws : List (Nat × Nat)) (rs : List V), σ = [some (.ref p), some (.int m), some (.int ch), some (.ref fo), v4, v5] ∧
        Pt H' p q ∧ Kp p q H H' ∧ H' fo = some (.lst rs) ∧ ImAll H' rs (ws.map wD) ∧ ws.length ≤ 6 * j ∧ WOk m ws ∧ ∀ w ∈ ws, w.1 < j)
      ⟨none, none, [], [], rfl, (P1.new nfo).new nt, (k01.new nfo).new nt, by rw [upd_ne nft]; exact upd_same, .nil, by decide, ⟨.nil, fun w hw => by cases hw⟩, fun w hw => by cases hw⟩ ?_ ?_⟩
    · rintro j σ H2 hj ⟨v4, v5, ws, rs, rfl, P2, k2, hf, im, hlen, wok, low⟩
      have hj' : j < m := by omega
      have hrs : rs.length = ws.length := by rw [im.length, List.length_map]
      refine ⟨_, rfl, .inl ⟨rfl, _, SqL.of hf⟩, _, rfl, m, rfl, by omega, by omega, fun d nd => ?_⟩
      obtain ⟨nd1, nd2⟩ := P2.np nd
      have nfd : fo ≠ d := ne_of_none hf nd
      have ndH : H d = none := k2.fresh nd1 nd2 nd
      refine lc_range (lo := 0) (n := (m : Int).toNat) (fun i H' => ∃ (ac : List (Nat × Nat)) (rc : List V), Pt H' p q ∧ Kp p q H H' ∧ H' fo = some (.lst rs) ∧ ImAll H' rs (ws.map wD) ∧ H' d = some (.lst rc) ∧ ImAll H' rc (ac.map wD) ∧ ac.length ≤ i ∧ WOk m ac ∧ (∀ w ∈ ac, w.1 = j ∧ w.2 < i))
        ⟨[], [], P2.new nd, k2.new nd, by rw [upd_ne nfd]; exact hf, im.k ((Tk.refl H2).new nd), upd_same, .nil, Nat.le_refl _, ⟨.nil, fun w hw => by cases hw⟩, fun w hw => by cases hw⟩ ?_ ?_
      · rintro i H3 hi ⟨ac, rc, P3, k3, hf3, im3, hd, imc, hac, wac, lac⟩
        have hi' : i < m := by omega
        have hrc : rc.length = ac.length := by rw [imc.length, List.length_map]
        refine ⟨rfl, ?_⟩
        refine ⟨_, rfl, _, rfl, rfl, _, rfl, ?_⟩
        refine ite2 (fun ne => ?_) (fun _ => ?_)
        · have nij : i ≠ j := fun e => by
            subst e
            have z : (!decide (V.int (0 + (i : Int)) = V.int (0 + (i : Int)))) = true := ne
            rw [decide_eq_true rfl] at z
            cases z
          refine ⟨_, rfl, p, q, _, rfl, P3, by decide, by decide, fun r H4 r0 r1 P4 k4 => ⟨_, rfl, _, _, rfl, rfl, _, rfl, ?_⟩⟩
          have hf4 : H4 fo = some (.lst rs) := k4 _ _ nf1 nf2 hf3
          have hd4 : H4 d = some (.lst rc) := k4 _ _ nd1 nd2 hd
          have tk4 : Tk H3 H4 := k4.tk P3
          refine ite2 (fun _ => ?_) (fun _ => ?_)
          · refine ⟨_, rfl, _, rfl, by show 2 ≤ sizeLine; decide, fun t2 nt2 => ?_⟩
            obtain ⟨nt21, nt22⟩ := P4.np nt2
            have nft2 : fo ≠ t2 := ne_of_none hf4 nt2
            have ndt2 : d ≠ t2 := ne_of_none hd4 nt2
            have hdn : (upd H4 t2 (.tup [V.int (0 + (j : Int)), V.int (0 + (i : Int))])) d = some (.lst rc) := by rw [upd_ne ndt2]; exact hd4
            have tk5 : Tk H4 (upd (upd H4 t2 (.tup [V.int (0 + (j : Int)), V.int (0 + (i : Int))])) d (.lst (rc ++ [V.ref t2]))) := ((Tk.refl H4).new nt2).put hdn
            refine ⟨rc, hdn, small1000 (by omega), ac ++ [(j, i)], rc ++ [V.ref t2], (P4.new nt2).put nd1 nd2, ((k3.trans k4).new nt2).put ndH, ?_, (im3.k tk4).k tk5, upd_same, ?_, by rw [List.length_append, List.length_singleton]; omega, ⟨?_, fun w hw => ?_⟩, fun w hw => ?_⟩
            · rw [upd_ne nfd, upd_ne nft2]
              exact hf4
            · rw [List.map_append]
              refine ((imc.k tk4).k tk5).append (.cons (.tup (xs := [V.int (0 + (j : Int)), V.int (0 + (i : Int))]) ?_ (.cons ?_ (.cons ?_ .nil))) .nil)
              · rw [upd_ne ndt2.symm, upd_same]
              · exact Im.int0 j
              · exact Im.int0 i
            · refine List.pairwise_append.mpr ⟨wac.asc, List.pairwise_singleton _ _, fun a ha b hb => ?_⟩
              rw [List.mem_singleton.mp hb]
              obtain ⟨z1, z2⟩ := lac a ha
              exact .inr ⟨z1, z2⟩
            · rcases List.mem_append.mp hw with h | h
              · exact wac.low w h
              · rw [List.mem_singleton.mp h]
                exact ⟨hj', hi', Ne.symm nij⟩
            · rcases List.mem_append.mp hw with h | h
              · obtain ⟨z1, z2⟩ := lac w h
                exact ⟨z1, by omega⟩
              · rw [List.mem_singleton.mp h]
                exact ⟨rfl, Nat.lt_succ_self _⟩
          · exact ⟨ac, rc, P4, k3.trans k4, hf4, im3.k tk4, hd4, imc.k tk4, by omega, wac, fun w hw => ⟨(lac w hw).1, Nat.lt_succ_of_lt (lac w hw).2⟩⟩
        · exact ⟨ac, rc, P3, k3, hf3, im3, hd, imc, by omega, wac, fun w hw => ⟨(lac w hw).1, Nat.lt_succ_of_lt (lac w hw).2⟩⟩
      · rintro H3 ⟨ac, rc, P3, k3, hf3, im3, hd, imc, hac, wac, lac⟩
        have hrc : rc.length = ac.length := by rw [imc.length, List.length_map]
        refine ⟨fo, d, rs, rc, rfl, rfl, hf3, hd, Nat.le_of_lt (small1000 (by omega)), ?_⟩
        have tk : Tk H3 (upd H3 fo (.lst (rs ++ rc))) := (Tk.refl H3).put hf3
        refine ⟨_, _, ws ++ ac, rs ++ rc, rfl, P3.put nf1 nf2, k3.put nfoH, upd_same, by rw [List.map_append]; exact (im3.k tk).append (imc.k tk), by rw [List.length_append]; omega, ⟨?_, fun w hw => ?_⟩, fun w hw => ?_⟩
        · exact wlt_low (i := 0) wok.asc low wac.asc fun w hw => (lac w hw).1
        · rcases List.mem_append.mp hw with h | h
          · exact wok.low w h
          · exact wac.low w h
        · rcases List.mem_append.mp hw with h | h
          · have := low w h
            omega
          · have := (lac w h).1
            omega
    · rintro σ H2 ⟨v4, v5, ws, rs, rfl, P2, k2, hf, im, hlen, wok, low⟩
      refine ⟨_, rfl, fo, rs, rfl, .inl ⟨SqL.of hf, fun t2 nt2 => ?_⟩⟩
      exact k _ ws _ (.tup upd_same (im.k ((Tk.refl H2).new nt2))) wok (P2.new nt2) (k2.new nt2)
abbrev sc_l_machineN : List Str := ["pot", "is_great", "sizes"]
theorem sc_l_machine : FnScope sc_l_machineN ["pot", "is_great"] (defScope s_l_machine) := ⟨rfl, rfl, rfl, by decide +kernel, rfl, by decide +kernel, by decide +kernel⟩
theorem ok_machine {f : Addr} {fd : FuncData} (D : DefAt K mg "_law_machine" s_l_machine ["pot", "is_great"] f fd) (T : Blt mg) (c_l_sizes : Cal P w K mg base 4 "_law_sizes" spSizes) (c_l_wires : Cal P w K mg base 3 "_law_wires" spWires) :
    Cal P w K mg base 5 "_law_machine" spMachine := by
  refine cal_of D sc_l_machine (fun vs H Q E h => ?_) (fun cdv A outer s H vs Q E hr h => ?_)
  · obtain ⟨p, q, g, rfl, _⟩ := h
    rfl
  · obtain ⟨p, q, g, rfl, hP, k⟩ := h
    refine ⟨_, (pss_cons (ps_set (i := 2) sc_l_machine.nd rfl (.inl rfl) (pe_c c_l_sizes hr (by decide) rfl (pa_cons (pv 0) (pa_cons (pv 1) pa_nil))))
      (pss_one (ps_ret (pe_tup (pa_cons (pv 2) (pa_cons (pe_c c_l_wires hr (by decide) rfl (pa_cons (pv 0) (pa_cons (pe_callB (call_lenK K rfl) (by rfl) T.len PySem.boot_len (pa_cons (pv 2) pa_nil)) pa_nil))) pa_nil)))))), ?_⟩
    refine ⟨_, rfl, _, rfl, p, q, g, rfl, hP, fun v ss H1 im l1 l6 ok P1 k1 => ?_⟩
    obtain ⟨a, xs, rfl, ha, ia⟩ := im.tuple
    have hx : xs.length = ss.length := by rw [ia.length, List.length_map]
    refine ⟨_, rfl, _, rfl, _, rfl, a, xs, rfl, .inr (SqT.of ha), p, q, ss.length, by rw [hx]; rfl, l6, P1, fun v ws H2 iw wok P2 k2 => ⟨by show 2 ≤ sizeLine; decide, fun t nt => ?_⟩⟩
    have tk : Tk H1 (upd H2 t (.tup [V.ref a, v])) := (k2.tk P1).new nt
    refine k _ ss ws _ (.tup upd_same (.cons (im.k tk) (.cons (iw.k ((Tk.refl H2).new nt)) .nil))) ⟨l1, l6, ok, wok⟩ (P2.new nt) ((k1.trans k2).new nt)

/-! ### _law_pot -/
abbrev sc_l_potN : List Str := ["script", "cell", "cells", "first", "last"]
theorem sc_l_pot : FnScope sc_l_potN ["script"] (defScope s_l_pot) := ⟨rfl, rfl, rfl, by decide +kernel, rfl, by decide +kernel, by decide +kernel⟩
theorem pot_le {xs : List V} (h : xs.length ≤ 63) : (cutV xs none (some 60)).length ≤ 60 := by
  unfold cutV
  rw [HT.sIx_none, show HT.sIx xs.length xs.length (some 60) = min 60 xs.length from HT.sIx_nat xs.length xs.length 60]
  rw [List.drop_zero, List.length_take]
  omega
theorem cut_ints (ns : List Int) (a b : Option Int) : ∃ ms : List Int, cutV (ns.map V.int) a b = ms.map V.int := by
  unfold cutV
  exact ⟨_, by rw [← List.map_drop, ← List.map_take]⟩
theorem ok_pot {f : Addr} {fd : FuncData} (D : DefAt K mg "_law_pot" s_l_pot ["script"] f fd) (T : Blt mg) : Cal P w K mg base 1 "_law_pot" (spPot K) := by
  refine cal_of D sc_l_pot (fun vs H Q E h => ?_) (fun cdv A outer s H vs Q E hr h => ?_)
  · obtain ⟨a, ns, rfl, _⟩ := h
    rfl
  · obtain ⟨a, ns, rfl, hS, len, k⟩ := h
    refine ⟨_, (pss_cons (ps_setLc (i := 2) (own := [("cell", 1)]) rfl sc_l_pot.nd rfl rfl (sw_true rfl rfl rfl (by decide +kernel)) (pi_listK K rfl (pe_slice (sl_listK K rfl) (pv 0) po_none (po_some pe_int))) (blkOk_by (N := sc_l_potN) (sc := defScope s_l_pot) (by decide +kernel)) (fun _ _ _ _ _ => (pg_name (i := 1) sc_l_pot.nd rfl (by first | exact .inl rfl | exact .inr rfl))) (fun _ _ _ _ _ => pts_nil) (fun _ _ _ _ _ => (pe_ifExp (pt_cmpR op_ge (pv 1) pe_int (nomark _)) (pe_op op_mul pe_int (pv 1)) (pe_op op_sub (pe_un un_neg pe_int) (pe_op op_mul pe_int (pv 1))))))
      (pss_cons (ps_par (i := 3) (j := 4) rfl sc_l_pot.nd rfl rfl (by decide) rfl rfl (pa_cons pe_int (pa_cons (pe_op op_add pe_int (pe_callB (call_lenK K rfl) (by rfl) T.len PySem.boot_len (pa_cons (pv 2) pa_nil))) pa_nil)) (by rfl))
      (pss_cons (ps_for PassesOwn.never rfl (pi_listK K rfl (pv 2)) (pg_name (i := 1) sc_l_pot.nd rfl (.inl rfl)) (pss_one (ps_par (i := 3) (j := 4) rfl sc_l_pot.nd rfl rfl (by decide) rfl rfl (pa_cons (pe_op op_mod (pe_callTy call_int1 (by rfl) T.int (by decide +kernel) (pa_cons (pe_op op_add (pe_op op_add (pe_op op_mul (pv 3) pe_int) (pv 1)) pe_int) pa_nil)) pe_int) (pa_cons (pe_op op_mod (pe_callTy call_int1 (by rfl) T.int (by decide +kernel) (pa_cons (pe_op op_add (pe_op op_add (pe_op op_mul (pv 4) pe_int) (pe_op op_mul pe_int (pv 1))) pe_int) pa_nil)) pe_int) pa_nil)) (by rfl))))
      (pss_one (ps_ret (pe_lst (pa_cons (pe_lc (own := [("cell", 1)]) rfl sc_l_pot.nd (pi_listK K rfl (pv 2)) (blkOk_by (N := sc_l_potN) (sc := defScope s_l_pot) (by decide +kernel)) (fun _ _ _ _ _ => (pg_name (i := 1) sc_l_pot.nd rfl (by first | exact .inl rfl | exact .inr rfl))) (fun _ _ _ _ _ => (pts_one (pt_cmpR op_gt (pv 1) (pe_op op_pow pe_int pe_int) (nomark _)))) (fun _ _ _ _ _ => (pv 1))) (pa_cons (pv 3) (pa_cons (pv 4) (pa_cons pe_int pa_nil)))))))))), ?_⟩
    obtain ⟨ms, em⟩ := cut_ints ns none (some 60)
    have ml : ms.length ≤ 60 := by
      have z := pot_le (xs := ns.map V.int) (by rw [List.length_map]; exact len)
      rw [em, List.length_map] at z
      exact z
    refine ⟨_, rfl, 60, rfl, a, ns.map V.int, rfl, hS, fun c nc => ?_⟩
    rw [em]
    refine ⟨c, rfl, ⟨_, SqL.of upd_same⟩, fun D nD => ?_⟩
    have ncD : c ≠ D := ne_of_none upd_same nD
    have nDH : H D = none := by
      rw [upd_ne (Ne.symm ncD)] at nD
      exact nD
    refine lc_list (K := K) (a := c) (xs := ms.map V.int) (fun i H' => Same H H' ∧ H' c = some (.lst (ms.map V.int)) ∧ ∃ cs : List Int, H' D = some (.lst (cs.map V.int)) ∧ cs.length = i) ⟨Same.new (Same.new (Same.refl H) nc) nD, by rw [upd_ne ncD]; exact upd_same, [], upd_same, rfl⟩ (fun i H' _ z => SqL.of z.2.1) ?_ ?_
    · rintro i x H' hx ⟨sm, hc, cs, hD, hl⟩
      obtain ⟨z, hz, rfl⟩ := map_get hx
      have il : i < ms.length := (List.getElem?_eq_some_iff.mp hz).1
      have next : ∀ y : Int, ∃ acc : List V, H' D = some (.lst acc) ∧ acc.length < sizeLine ∧ (Same H (upd H' D (.lst (acc ++ [V.int y]))) ∧ (upd H' D (.lst (acc ++ [V.int y]))) c = some (.lst (ms.map V.int)) ∧ ∃ cs : List Int, (upd H' D (.lst (acc ++ [V.int y]))) D = some (.lst (cs.map V.int)) ∧ cs.length = i + 1) := fun y =>
        ⟨cs.map V.int, hD, small1000 (by rw [List.length_map]; omega), Same.put sm nDH, by rw [upd_ne ncD]; exact hc, cs ++ [y], by rw [upd_same, List.map_append]; rfl, by rw [List.length_append, List.length_singleton, hl]⟩
      refine ⟨rfl, ⟨_, rfl, _, _, rfl, rfl, _, rfl, ?_⟩⟩
      refine ite2 (fun _ => ?_) (fun _ => ?_)
      · exact ⟨_, rfl, _, _, rfl, rfl, .inl ⟨by decide, by decide⟩, next _⟩
      · exact ⟨_, rfl, _, rfl, _, _, rfl, rfl, .inl ⟨by decide, by decide⟩, _, _, rfl, rfl, next _⟩
    rintro H1 ⟨sm, hc, cs, hD, hl⟩
    rw [List.length_map] at hl
    have cl : cs.length ≤ 60 := by omega
    refine ⟨_, rfl, D, _, rfl, .inl (SqL.of hD), _, _, rfl, rfl, _, _, rfl, ?_⟩
    refine ⟨_, rfl, D, rfl, ⟨_, SqL.of hD⟩, for_list (K := K) (a := D) (xs := cs.map V.int) (fun i σ H' => ∃ (v1 : Option V) (x y : Int), σ = [some (.ref a), v1, some (.ref D), some (.int x), some (.int y)] ∧ H' = H1 ∧ 0 ≤ x ∧ x < 4294967296 ∧ 0 ≤ y ∧ y < 4294967296)
      ⟨none, _, _, rfl, rfl, by decide, by decide, by rw [List.length_map]; omega, by rw [List.length_map]; omega⟩ (fun i σ H' _ z => by obtain ⟨_, _, _, _, e, _⟩ := z; rw [e]; exact SqL.of hD) ?_ ?_⟩
    · rintro i v σ H' hv ⟨v1, x, y, rfl, rfl, x0, x1, y0, y1⟩
      obtain ⟨z, hz, rfl⟩ := map_get hv
      refine ⟨_, rfl, _, _, rfl, rfl, .inl ⟨by omega, by omega⟩, _, rfl, _, _, rfl, rfl, _, _, rfl, rfl, .inl ⟨_, rfl, _, _, rfl, rfl, (by decide : (0 : Int) < 4294967291), ?_⟩⟩
      refine ⟨_, rfl, _, _, rfl, rfl, .inl ⟨by omega, by omega⟩, _, rfl, _, _, rfl, rfl, .inl ⟨by decide, by decide⟩, _, _, rfl, rfl, _, _, rfl, rfl, .inl ⟨_, rfl, _, _, rfl, rfl, (by decide : (0 : Int) < 4294967279), ?_⟩⟩
      refine ⟨_, _, rfl, some (V.int z), _, _, rfl, rfl, Int.emod_nonneg _ (by decide), Int.lt_trans (Int.emod_lt_of_pos _ (by decide)) (by decide), Int.emod_nonneg _ (by decide), Int.lt_trans (Int.emod_lt_of_pos _ (by decide)) (by decide)⟩
    · rintro σ H' ⟨v1, x, y, rfl, rfl, x0, x1, y0, y1⟩
      refine ⟨_, rfl, D, rfl, ⟨_, SqL.of hD⟩, fun q nq => ?_⟩
      have nDq : D ≠ q := ne_of_none hD nq
      have nqH : H q = none := Same.free sm nq
      refine lc_list (K := K) (a := D) (xs := cs.map V.int) (fun i H2 => Same H H2 ∧ H2 D = some (.lst (cs.map V.int)) ∧ ∃ gs : List Int, H2 q = some (.lst (gs.map V.int)) ∧ gs.length ≤ i) ⟨Same.new sm nq, by rw [upd_ne nDq]; exact hD, [], upd_same, Nat.le_refl _⟩ (fun i H2 _ z => SqL.of z.2.1) ?_ ?_
      · rintro i v H2 hv ⟨sm2, hD2, gs, hq, gl⟩
        obtain ⟨z, hz, rfl⟩ := map_get hv
        have il : i < cs.length := (List.getElem?_eq_some_iff.mp hz).1
        refine ⟨rfl, ⟨_, rfl, _, _, rfl, rfl, ⟨by decide, by decide, by decide⟩, _, _, rfl, rfl, _, rfl, ?_⟩⟩
        refine ite2 (fun _ => ?_) (fun _ => ?_)
        · exact ⟨_, rfl, gs.map V.int, hq, small1000 (by rw [List.length_map]; omega), Same.put sm2 nqH, by rw [upd_ne nDq]; exact hD2, gs ++ [z], by rw [upd_same, List.map_append]; rfl, by rw [List.length_append, List.length_singleton]; omega⟩
        · exact ⟨sm2, hD2, gs, hq, by omega⟩
      · rintro H2 ⟨sm2, hD2, gs, hq, gl⟩
        rw [List.length_map] at gl
        refine ⟨_, rfl, _, rfl, by show 4 ≤ sizeLine; decide, fun p np => ?_⟩
        have npq : q ≠ p := ne_of_none hq np
        exact k p q _ ⟨gs, x, y, 0, upd_same, by rw [upd_ne npq]; exact hq, by omega, x0, x1, y0, y1⟩ (Same.new sm2 np) (Same.free sm2 np) nqH

/-! ### the law's own dividing -/
abbrev sc_l_stepN : List Str := ["sizes", "j", "i"]
theorem sc_l_step : FnScope sc_l_stepN ["sizes", "j", "i"] (defScope s_l_step) := ⟨rfl, rfl, rfl, by decide +kernel, rfl, by decide +kernel, by decide +kernel⟩
theorem ok_lstep {f : Addr} {fd : FuncData} (D : DefAt K mg "_law_step" s_l_step ["sizes", "j", "i"] f fd) (c_l_common : Cal P w K mg base 1 "_law_common" spCommon) : Cal P w K mg base 2 "_law_step" spLStep := by
  refine cal_of D sc_l_step (fun vs H Q E h => ?_) (fun cdv A outer s H vs Q E hr h => ?_)
  · obtain ⟨v, ss, j, i, a, b, rfl, _⟩ := h
    rfl
  · obtain ⟨v, ss, j, i, x, y, rfl, im, hj, hi, y0, y1, k⟩ := h
    refine ⟨_, (pss_one (ps_ret (pe_op op_fdivW (pe_ix (ix_tupK K rfl) (pv 0) (pv 2) (fun _ _ => rfl)) (pe_c c_l_common hr (by decide) rfl (pa_cons (pe_ix (ix_tupK K rfl) (pv 0) (pv 1) (fun _ _ => rfl)) (pa_cons (pe_ix (ix_tupK K rfl) (pv 0) (pv 2) (fun _ _ => rfl)) pa_nil)))))), ?_⟩
    obtain ⟨b, ys, rfl, hb, ib⟩ := im.tuple
    have ey := ib.ints
    subst ey
    have hi' : (ss.map V.int)[i]? = some (V.int (y : Int)) := by rw [List.getElem?_map, hi]; rfl
    have hj' : (ss.map V.int)[j]? = some (V.int (x : Int)) := by rw [List.getElem?_map, hj]; rfl
    have gp : 0 < Nat.gcd y x := gcd_pos' y0
    have gl : Nat.gcd y x < 2 ^ 4000 := Nat.lt_of_le_of_lt (Nat.le_of_dvd y0 (Nat.gcd_dvd_left y x)) y1
    refine ⟨_, rfl, _, rfl, b, _, i, _, rfl, rfl, SqT.of hb, atI_nat hi', _, rfl, _, rfl, b, _, j, _, rfl, rfl, SqT.of hb, atI_nat hj', _, rfl, _, rfl, b, _, i, _, rfl, rfl, SqT.of hb, atI_nat hi', x, y, rfl, y1, ?_⟩
    rw [Nat.gcd_comm]
    exact ⟨_, _, rfl, rfl, wide_div (b := 4000) (by omega) (by simpa using gl) (by decide) (by decide), k⟩

/-! ### small facts -/
theorem SizeOk.bnd {s : Int} (h : SizeOk s) : 2 ≤ s ∧ s ≤ 10 ^ 30 := by
  obtain ⟨m, rfl, a, b⟩ := h.nat
  omega
theorem ixN_of {n j : Nat} (h : j < n) : ixN n (j : Int) = some j := by
  unfold ixN
  simp [h]
theorem remI_get {ns ss : List Int} {i : Nat} {n s : Int} (h1 : ns[i]? = some n) (h2 : ss[i]? = some s) : (remI ns ss)[i]? = some (n % s) := by
  unfold remI
  rw [List.getElem?_zipWith, h1, h2]
theorem remI_take {ns ss : List Int} {i : Nat} {n s : Int} (h1 : ns[i]? = some n) (h2 : ss[i]? = some s) : (remI ns ss).take (i + 1) = (remI ns ss).take i ++ [n % s] := by
  rw [List.take_add_one, remI_get h1 h2]
  rfl
theorem remI_len {ns ss : List Int} (h : ns.length = ss.length) : (remI ns ss).length = ss.length := by
  unfold remI
  rw [List.length_zipWith]
  omega
theorem map_int_get {ns : List Int} {i : Nat} {x : V} (h : (ns.map V.int)[i]? = some x) : ∃ n, ns[i]? = some n ∧ x = .int n := map_get h
theorem getD_get {ns : List Int} {i : Nat} (h : i < ns.length) : (ns.map V.int)[i]? = some (.int (ns.getD i 0)) := by
  rw [List.getElem?_map, List.getElem?_eq_getElem h, List.getD_eq_getElem?_getD, List.getElem?_eq_getElem h]
  rfl
theorem farI_len (l : List (Nat × Nat × Int)) (ns : List Int) : (farI l ns).length = ns.length := by
  unfold farI
  induction l generalizing ns with
  | nil => rfl
  | cons d l ih => exact (ih _).trans (addI_len ns d)
theorem farI_most {l : List (Nat × Nat × Int)} (hl : ∀ d ∈ l, d.2.2.natAbs < 2 ^ 200) {B : Nat} {ns : List Int} (h : mostI B ns) : mostI (B + 201 * l.length) (farI l ns) := by
  induction l generalizing ns B with
  | nil => exact h
  | cons d l ih =>
    have a := ih (fun x hx => hl x (List.mem_cons_of_mem _ hx)) (addI_most h (hl d List.mem_cons_self))
    rw [show B + 201 * (d :: l).length = B + 201 + 201 * l.length by rw [List.length_cons]; omega]
    exact a

/-! ### _law_contents, _law_deed, _law_program -/
abbrev sc_l_contentsN : List Str := ["pot", "sizes", "size"]
theorem sc_l_contents : FnScope sc_l_contentsN ["pot", "sizes"] (defScope s_l_contents) := ⟨rfl, rfl, rfl, by decide +kernel, rfl, by decide +kernel, by decide +kernel⟩
theorem ok_contents {f : Addr} {fd : FuncData} (D : DefAt K mg "_law_contents" s_l_contents ["pot", "sizes"] f fd) (T : Blt mg) (c_l_dip : Cal P w K mg base 1 "_law_dip" spDipW) (c_l_pick : Cal P w K mg base 2 "_law_pick" spPick) : Cal P w K mg base 3 "_law_contents" spContents := by
  refine cal_of D sc_l_contents (fun vs H Q E h => ?_) (fun cdv A outer s H vs Q E hr h => ?_)
  · obtain ⟨p, q, v, ss, rfl, _⟩ := h
    rfl
  · obtain ⟨p, q, v, ss, rfl, hP, im, ok, l9, k⟩ := h
    refine ⟨_, (pss_one (ps_ret (pe_callTy (call_tupleK K rfl) (by rfl) T.tuple (by decide +kernel) (pa_cons (pe_lc (own := [("size", 2)]) rfl sc_l_contents.nd (pi_tupK K rfl (pv 1)) (blkOk_by (N := sc_l_contentsN) (sc := defScope s_l_contents) (by decide +kernel)) (fun _ _ _ _ _ => (pg_name (i := 2) sc_l_contents.nd rfl (by first | exact .inl rfl | exact .inr rfl))) (fun _ _ _ _ _ => pts_nil) (fun _ _ _ _ _ => (pe_op op_mod (pe_c c_l_pick hr (by decide) rfl (pa_cons (pv 0) (pa_cons (pe_lst (pa_cons pe_int (pa_cons pe_int (pa_cons (pe_op op_sub (pv 2) pe_int) (pa_cons (pe_c c_l_dip hr (by decide) rfl (pa_cons (pv 0) (pa_cons (pv 2) pa_nil))) (pa_cons (pe_op op_fdivW (pv 2) pe_int) pa_nil)))))) pa_nil))) (pv 2)))) pa_nil)))), ?_⟩
    obtain ⟨b, ys, rfl, hb, ib⟩ := im.tuple
    have ey := ib.ints
    subst ey
    refine ⟨_, rfl, b, rfl, ⟨_, SqT.of hb⟩, fun d nd => ?_⟩
    obtain ⟨nd1, nd2⟩ := hP.np nd
    refine lc_tup (K := K) (a := b) (xs := ss.map V.int) (fun i H' => Pt H' p q ∧ Kp p q H H' ∧ ∃ hs : List Int, H' d = some (.lst (hs.map V.int)) ∧ hs.length = i ∧ ∀ (j : Nat) (h s : Int), hs[j]? = some h → ss[j]? = some s → 0 ≤ h ∧ h < s)
      ⟨hP.new nd, (Kp.refl p q H).new nd, [], upd_same, rfl, fun j h s e => by simp at e⟩ (fun i H' _ z => SqT.of ((z.2.1.tk hP) _ _ hb)) ?_ ?_
    · rintro i x H1 hx ⟨P1, k1, hs, hd, hl, low⟩
      obtain ⟨s, hs', rfl⟩ := map_get hx
      obtain ⟨s2, s30⟩ := (ok s (List.mem_of_getElem? hs')).bnd
      have il : i < ss.length := (List.getElem?_eq_some_iff.mp hs').1
      have s4 : s.natAbs < 2 ^ 4000 := Nat.lt_of_le_of_lt (show s.natAbs ≤ 10 ^ 30 by omega) (by decide)
      refine ⟨rfl, _, rfl, _, rfl, _, _, rfl, rfl, _, rfl, _, rfl, p, q, _, rfl, P1, by omega, s4, fun r H2 r0 r1 P2 k2 => ?_⟩
      refine ⟨_, rfl, _, _, rfl, rfl, wide_div (b := 10) (by decide) (by decide) (by decide) (by decide), by show 5 ≤ sizeLine; decide, fun c nc => ?_⟩
      obtain ⟨nc1, nc2⟩ := P2.np nc
      have hd2 : H2 d = some (.lst (hs.map V.int)) := k2 _ _ nd1 nd2 hd
      refine ⟨p, q, c, _, rfl, P2.new nc, upd_same, nc1, nc2, List.cons_ne_nil _ _, by show 5 < 1000; decide, fun v H3 hv P3 k3 => ?_⟩
      obtain ⟨y, rfl⟩ : ∃ y : Int, v = .int y := by
        rcases List.mem_cons.mp hv with e | hv
        · exact ⟨_, e⟩
        rcases List.mem_cons.mp hv with e | hv
        · exact ⟨_, e⟩
        rcases List.mem_cons.mp hv with e | hv
        · exact ⟨_, e⟩
        rcases List.mem_cons.mp hv with e | hv
        · exact ⟨_, e⟩
        · exact ⟨_, List.mem_singleton.mp hv⟩
      have hd3 : H3 d = some (.lst (hs.map V.int)) := k3 _ _ nd1 nd2 (keepN hd2 nc)
      refine ⟨_, rfl, _, _, rfl, rfl, (show (0 : Int) < s by omega), _, hd3, small1000 (by rw [List.length_map]; omega), P3.put nd1 nd2, (((k1.trans k2).new nc).trans k3).put nd, hs ++ [y % s], by rw [upd_same, List.map_append]; rfl, by rw [List.length_append, List.length_singleton, hl], ?_⟩
      intro j h t e1 e2
      rcases Nat.lt_trichotomy j hs.length with e | e | e
      · rw [List.getElem?_append_left e] at e1
        exact low j h t e1 e2
      · subst e
        rw [List.getElem?_append_right (Nat.le_refl _), Nat.sub_self] at e1
        rw [hl] at e2
        rw [hs'] at e2
        cases e1
        cases e2
        exact ⟨Int.emod_nonneg _ (by omega), Int.emod_lt_of_pos _ (by omega)⟩
      · rw [List.getElem?_eq_none (by rw [List.length_append, List.length_singleton]; omega)] at e1
        cases e1
    · rintro H1 ⟨P1, k1, hs, hd, hl, low⟩
      rw [List.length_map] at hl
      exact ⟨d, _, rfl, .inl ⟨SqL.of hd, fun t nt => k _ hs _ (.tup upd_same (ImAll.of_ints _ hs)) ⟨hl, low⟩ (P1.new nt) (k1.new nt)⟩⟩

/-! ### _law_deed, _law_program -/
abbrev sc_l_deedN : List Str := ["pot", "machine", "j", "i", "ask", "most"]
theorem sc_l_deed : FnScope sc_l_deedN ["pot", "machine"] (defScope s_l_deed) := ⟨rfl, rfl, rfl, by decide +kernel, rfl, by decide +kernel, by decide +kernel⟩
theorem ok_deed {f : Addr} {fd : FuncData} (D : DefAt K mg "_law_deed" s_l_deed ["pot", "machine"] f fd) (T : Blt mg) (c_l_dip : Cal P w K mg base 1 "_law_dip" spDip) (c_l_pick : Cal P w K mg base 2 "_law_pick" spPickA) (c_l_step : Cal P w K mg base 2 "_law_step" spLStep) : Cal P w K mg base 3 "_law_deed" spDeed := by
  refine cal_of D sc_l_deed (fun vs H Q E h => ?_) (fun cdv A outer s H vs Q E hr h => ?_)
  · obtain ⟨p, q, v, ss, ws, rfl, _⟩ := h
    rfl
  · obtain ⟨p, q, v, ss, ws, rfl, hP, im, ok, ne, k⟩ := h
    refine ⟨_, (pss_cons (ps_asg (pe_c c_l_pick hr (by decide) rfl (pa_cons (pv 0) (pa_cons (pe_ix (ix_tupK K rfl) (pv 1) pe_int (fun _ _ => rfl)) pa_nil))) (pg_tup rfl (pgs_cons (pg_name (i := 2) sc_l_deed.nd rfl (.inl rfl)) (pgs_cons (pg_name (i := 3) sc_l_deed.nd rfl (.inl rfl)) pgs_nil))))
      (pss_cons (ps_set (i := 4) sc_l_deed.nd rfl (.inl rfl) (pe_c c_l_step hr (by decide) rfl (pa_cons (pe_ix (ix_tupK K rfl) (pv 1) pe_int (fun _ _ => rfl)) (pa_cons (pv 2) (pa_cons (pv 3) pa_nil)))))
      (pss_cons (ps_set (i := 5) sc_l_deed.nd rfl (.inl rfl) (pe_op op_fdivW (pe_op op_pow pe_int pe_int) (pv 4)))
      (pss_one (ps_ret (pe_tup (pa_cons (pv 2) (pa_cons (pv 3) (pa_cons (pe_op op_mulW (pv 4) (pe_c c_l_pick hr (by decide) rfl (pa_cons (pv 0) (pa_cons (pe_lst (pa_cons pe_int (pa_cons pe_int (pa_cons (pe_un un_neg pe_int) (pa_cons pe_int (pa_cons (pe_un un_neg pe_int) (pa_cons (pe_op op_sub (pe_c c_l_dip hr (by decide) rfl (pa_cons (pv 0) (pa_cons pe_int pa_nil))) pe_int) (pa_cons (pv 5) (pa_cons (pe_un un_neg (pv 5)) (pa_cons (pe_op op_fdivW (pv 5) pe_int) (pa_cons (pe_op op_pow pe_int pe_int) pa_nil))))))))))) pa_nil)))) pa_nil))))))))), ?_⟩
    obtain ⟨a, xs, rfl, ha, ia⟩ := id im.tuple
    obtain ⟨b0, g0, im0⟩ := ia.get (i := 0) rfl
    obtain ⟨c0, g1, im1⟩ := ia.get (i := 1) rfl
    obtain ⟨c, ys, rfl, hc, ic⟩ := im1.tuple
    have ly : ys.length = ws.length := by rw [ic.length, List.length_map]
    have wl := ok.wires.len ok.six
    have wp := List.length_pos_iff.mpr ne
    refine ⟨_, rfl, _, rfl, a, _, 1, _, rfl, rfl, SqT.of ha, atI_nat (j := 1) g1, p, q, c, ys, _, rfl, hP, hc, .inr rfl, List.length_pos_iff.mp (by omega), by omega, fun v H1 hv P1 k1 => ?_⟩
    obtain ⟨wt, hw, imw⟩ : ∃ w ∈ ws, Im H1 v (wD w) := by
      obtain ⟨i, hi, rfl⟩ := List.getElem_of_mem hv
      obtain ⟨w, hw⟩ : ∃ w, ws[i]? = some w := ⟨ws[i]'(by omega), by simp⟩
      obtain ⟨v', e1, e2⟩ := ic.get (i := i) (d := wD w) (by rw [List.getElem?_map, hw]; rfl)
      rw [List.getElem?_eq_getElem hi] at e1
      cases e1
      exact ⟨w, List.mem_of_getElem? hw, e2.k (k1.tk hP)⟩
    obtain ⟨j, i⟩ := wt
    obtain ⟨lj, li, nji⟩ := ok.wires.low _ hw
    obtain ⟨e, zs, rfl, he, ie⟩ := imw.tuple
    have ez : zs = [.int (j : Int), .int (i : Int)] := by
      match zs, ie with
      | _, .cons (.int _) (.cons (.int _) .nil) => rfl
    subst ez
    refine ⟨e, _, rfl, SqT.of he, rfl, _, _, rfl, _, _, rfl, rfl, ?_⟩
    have okk : ∀ (n : Nat), n < ss.length → ∃ m : Nat, ss[n]? = some (m : Int) ∧ 0 < m ∧ m ≤ 10 ^ 30 := fun n hn => by
      obtain ⟨m, e, m2, m3, _⟩ := ok.size ss[n] (List.getElem_mem hn)
      exact ⟨m, by rw [List.getElem?_eq_getElem hn, e], by omega, m3⟩
    obtain ⟨x, hx, x0, xl⟩ := okk j lj
    obtain ⟨y, hy, y0, yl⟩ := okk i li
    have im' := im.k (k1.tk hP)
    have ha1 := (k1.tk hP) _ _ ha
    refine ⟨_, rfl, a, _, 0, _, rfl, rfl, SqT.of ha1, atI_nat (j := 0) g0, _, rfl, _, rfl, b0, ss, j, i, x, y, rfl, im0.k (k1.tk hP), hx, hy, y0, Nat.lt_of_le_of_lt yl (by decide), ?_⟩
    obtain ⟨s0, sl⟩ := stp_le (a := x) y0
    have sl30 : stp x y ≤ 10 ^ 30 := Nat.le_trans sl yl
    have hit : ((stp x y : Nat) : Int) ∣ ((stp x y : Nat) : Int) := ⟨1, by omega⟩
    generalize hst : stp x y = st at *
    have st4 : ((st : Nat) : Int).natAbs < 2 ^ 4000 := by
      rw [Int.natAbs_natCast]
      exact Nat.lt_of_le_of_lt sl30 (by decide)
    refine ⟨_, _, rfl, rfl, ⟨by decide, by decide, by decide⟩, _, rfl, _, _, rfl, rfl, wide_div (b := 4000) (by omega) st4 (by decide) (by decide), ?_⟩
    refine ⟨_, rfl, _, rfl, _, rfl, _, rfl, _, rfl, _, rfl, _, rfl, p, q, _, rfl, P1, by decide, by decide, fun r H2 r0 r1 P2 k2 => ⟨_, _, rfl, rfl, _, rfl, _, rfl, _, rfl, _, rfl, _, _, rfl, rfl, wide_div (b := 10) (by decide) (by decide) (by decide) (by decide), _, _, rfl, rfl, ⟨by decide, by decide, by decide⟩, by show 10 ≤ sizeLine; decide, fun l nl => ?_⟩⟩
    obtain ⟨nl1, nl2⟩ := P2.np nl
    refine ⟨p, q, l, _, _, rfl, P2.new nl, upd_same, .inl ⟨rfl, nl1, nl2⟩, List.cons_ne_nil _ _, by show 10 < 1000; decide, fun v H3 hv P3 k3 => ?_⟩
    obtain ⟨z, rfl, hz⟩ : ∃ z : Int, v = .int z ∧ (((st : Nat) : Int) * z).natAbs ≤ 10 ^ 60 := by
      have small : ∀ z : Int, z.natAbs ≤ 10 ^ 29 → (((st : Nat) : Int) * z).natAbs ≤ 10 ^ 60 := fun z hz => by
        rw [Int.natAbs_mul, Int.natAbs_natCast]
        exact Nat.le_trans (Nat.mul_le_mul sl30 hz) (by decide)
      have m0 : (0 : Int) ≤ 10 ^ 60 / (st : Int) := Int.ediv_nonneg (by decide) (by omega)
      have m1 : (st : Int) * (10 ^ 60 / (st : Int)) ≤ 10 ^ 60 := by
        have := Int.mul_ediv_self_le (x := 10 ^ 60) (k := (st : Int)) (by omega)
        exact this
      have ms : 0 ≤ (st : Int) * (10 ^ 60 / (st : Int)) := Int.mul_nonneg (by omega) m0
      rcases List.mem_cons.mp hv with e | hv
      · exact ⟨_, e, small _ (by decide)⟩
      rcases List.mem_cons.mp hv with e | hv
      · exact ⟨_, e, small _ (by decide)⟩
      rcases List.mem_cons.mp hv with e | hv
      · exact ⟨_, e, small _ (by decide)⟩
      rcases List.mem_cons.mp hv with e | hv
      · exact ⟨_, e, small _ (by decide)⟩
      rcases List.mem_cons.mp hv with e | hv
      · exact ⟨_, e, small _ (by decide)⟩
      rcases List.mem_cons.mp hv with e | hv
      · exact ⟨_, e, small _ (by show (r - 20).natAbs ≤ _; omega)⟩
      rcases List.mem_cons.mp hv with e | hv
      · refine ⟨_, e, ?_⟩
        show ((st : Int) * (10 ^ 60 / (st : Int))).natAbs ≤ _
        omega
      rcases List.mem_cons.mp hv with e | hv
      · refine ⟨_, e, ?_⟩
        show ((st : Int) * -(10 ^ 60 / (st : Int))).natAbs ≤ _
        rw [Int.mul_neg, Int.natAbs_neg]
        omega
      rcases List.mem_cons.mp hv with e | hv
      · refine ⟨_, e, ?_⟩
        show ((st : Int) * (10 ^ 60 / (st : Int) / 3)).natAbs ≤ _
        have a1 : (10 ^ 60 / (st : Int)) / 3 ≤ 10 ^ 60 / (st : Int) := by omega
        have a2 : 0 ≤ (10 ^ 60 / (st : Int)) / 3 := by omega
        have a3 := Int.mul_le_mul_of_nonneg_left a1 (show (0 : Int) ≤ (st : Int) by omega)
        have a4 := Int.mul_nonneg (show (0 : Int) ≤ (st : Int) by omega) a2
        omega
      · exact ⟨_, List.mem_singleton.mp hv, small _ (by decide)⟩
    have wide : CMulW (st : Int) z := by
      by_cases z0 : z.natAbs = 0
      · have : z = 0 := by omega
        subst this
        exact wide_mul (a := 4000) (b := 10) st4 (by decide) (by decide) (by decide) (by decide)
      · refine wide_mul (a := 4000) (b := 4000) st4 ?_ (by decide) (by decide) (by decide)
        rw [Int.natAbs_mul, Int.natAbs_natCast] at hz
        have := Nat.le_mul_of_pos_left z.natAbs (show 0 < st from s0)
        exact Nat.lt_of_le_of_lt (Nat.le_trans this hz) (by decide)
    refine ⟨_, _, rfl, rfl, wide, by show 3 ≤ sizeLine; decide, fun t nt => ?_⟩
    refine k _ (j, i, (st : Int) * z) _ (.tup upd_same (.cons (.int _) (.cons (.int _) (.cons (.int _) .nil)))) ⟨hw, hz, ⟨x, y, hx, hy, ?_⟩⟩ (P3.new nt) ((((k1.trans k2).new nl).trans k3).new nt)
    rw [hst]
    exact Int.dvd_mul_right _ _
abbrev sc_l_programN : List Str := ["pot", "machine", "most", "turn"]
theorem sc_l_program : FnScope sc_l_programN ["pot", "machine", "most"] (defScope s_l_program) := ⟨rfl, rfl, rfl, by decide +kernel, rfl, by decide +kernel, by decide +kernel⟩
theorem shaped_wires (ws : List (Nat × Nat)) : SeqAt.shaped (.tuple (ws.map wD)) = true := by
  have a : ∀ ws : List (Nat × Nat), PyData.canLayAll0 (ws.map wD) = true := by
    intro ws
    induction ws with
    | nil => rfl
    | cons w ws ih =>
      rw [List.map_cons]
      simp only [PyData.canLayAll0, wD, PyData.canLay0, ih, Bool.and_self]
  have b := depth_wires ws
  unfold SeqAt.shaped
  simp only [PyData.canLay0, PyData.depth, a, Bool.true_and]
  exact decide_eq_true (by omega)
theorem eqv_nilT (ws : List (Nat × Nat)) : PyData.eqv (.tuple (ws.map wD)) (.tuple []) = ws.isEmpty := by
  cases ws with
  | nil => rfl
  | cons n ns => rfl
theorem ok_program {f : Addr} {fd : FuncData} (D : DefAt K mg "_law_program" s_l_program ["pot", "machine", "most"] f fd) (T : Blt mg) (c_l_dip : Cal P w K mg base 1 "_law_dip" spDip) (c_l_deed : Cal P w K mg base 3 "_law_deed" spDeed) : Cal P w K mg base 4 "_law_program" spProgram := by
  refine cal_of D sc_l_program (fun vs H Q E h => ?_) (fun cdv A outer s H vs Q E hr h => ?_)
  · obtain ⟨p, q, v, ss, ws, m, rfl, _⟩ := h
    rfl
  · obtain ⟨p, q, v, ss, ws, m, rfl, hP, im, ok, m9, k⟩ := h
    refine ⟨_, (pss_cons (ps_if (pt_cmpR (op_eqDK K rfl hr.units) (pe_ix (ix_tupK K rfl) (pv 1) pe_int (fun _ _ => rfl)) (pe_tup pa_nil) (nomark _)) (pss_one (ps_ret (pe_tup pa_nil))) pss_nil)
      (pss_one (ps_ret (pe_callTy (call_tupleK K rfl) (by rfl) T.tuple (by decide +kernel) (pa_cons (pe_lc (own := [("turn", 3)]) rfl sc_l_program.nd (pi_range1 (by rfl) T.range (pa_cons (pe_c c_l_dip hr (by decide) rfl (pa_cons (pv 0) (pa_cons (pe_op op_add (pv 2) pe_int) pa_nil))) pa_nil)) (blkOk_by (N := sc_l_programN) (sc := defScope s_l_program) (by decide +kernel)) (fun _ _ _ _ _ => (pg_name (i := 3) sc_l_program.nd rfl (by first | exact .inl rfl | exact .inr rfl))) (fun _ _ _ _ _ => pts_nil) (fun _ _ _ _ _ => (pe_c c_l_deed hr (by decide) rfl (pa_cons (pv 0) (pa_cons (pv 1) pa_nil))))) pa_nil))))), ?_⟩
    obtain ⟨a, xs, rfl, ha, ia⟩ := id im.tuple
    obtain ⟨c0, g1, im1⟩ := ia.get (i := 1) rfl
    refine ⟨_, rfl, a, _, 1, _, rfl, rfl, SqT.of ha, atI_nat (j := 1) g1, by show 0 ≤ sizeLine; decide, fun t nt => ?_⟩
    refine ⟨.tuple (ws.map wD), .tuple [], (im1.k ((Tk.refl H).new nt)).dp, .tup (SqT.of upd_same) .nil, shaped_wires ws, rfl, _, rfl, ?_⟩
    rw [eqv_nilT]
    have P1 := hP.new (o := .tup []) nt
    have k1 := (Kp.refl p q H).new (o := .tup []) nt
    cases ws with
    | nil =>
      refine iteT ⟨by show 0 ≤ sizeLine; decide, fun u nu => ?_⟩
      exact k _ [] _ (.tup upd_same .nil) (fun d hd => by cases hd) (Nat.zero_le _) (P1.new nu) (k1.new nu)
    | cons w0 ws0 =>
      refine iteF ?_
      have ne : w0 :: ws0 ≠ [] := List.cons_ne_nil _ _
      generalize w0 :: ws0 = ws at *
      refine ⟨_, rfl, _, rfl, _, _, rfl, rfl, p, q, _, rfl, P1, by omega, by omega, fun r H2 r0 r1 P2 k2 => ⟨r, rfl, by omega, by omega, fun d nd => ?_⟩⟩
      obtain ⟨nd1, nd2⟩ := P2.np nd
      have ndH : H d = none := (k1.trans k2).fresh nd1 nd2 nd
      have im2 := (im.k ((Tk.refl H).new (o := .tup []) nt)).k (k2.tk P1)
      generalize hT : upd H t (.tup []) = HT at *
      refine lc_range (lo := 0) (n := r.toNat) (fun i H' => Pt H' p q ∧ Kp p q H2 H' ∧ ∃ (vs : List V) (ds : List (Nat × Nat × Int)), H' d = some (.lst vs) ∧ ImAll H' vs (ds.map dD) ∧ ds.length = i ∧ ∀ x ∈ ds, DOk ss ws x)
        ⟨P2.new nd, (Kp.refl p q H2).new nd, [], [], upd_same, .nil, rfl, fun x hx => by cases hx⟩ ?_ ?_
      · rintro i H3 hi ⟨P3, k3, vs, ds, hd, ia3, hl, ok3⟩
        have lv : vs.length = ds.length := by rw [ia3.length, List.length_map]
        refine ⟨rfl, _, rfl, _, rfl, p, q, _, ss, ws, rfl, P3, im2.k (k3.tk P2), ok, ne, fun u dd H4 imu dok P4 k4 => ?_⟩
        have hd4 : H4 d = some (.lst vs) := k4 _ _ nd1 nd2 hd
        have tk5 : Tk H4 (upd H4 d (.lst (vs ++ [u]))) := (Tk.refl H4).put hd4
        refine ⟨vs, hd4, small1000 (by omega), P4.put nd1 nd2, (k3.trans k4).put nd, vs ++ [u], ds ++ [dd], upd_same, ?_, by rw [List.length_append, List.length_singleton, hl], fun x hx => ?_⟩
        · rw [List.map_append]
          exact ((ia3.k (k4.tk P3)).k tk5).append (.cons (imu.k tk5) .nil)
        · rcases List.mem_append.mp hx with h | h
          · exact ok3 x h
          · rw [List.mem_singleton.mp h]
            exact dok
      · rintro H3 ⟨P3, k3, vs, ds, hd, ia3, hl, ok3⟩
        refine ⟨d, _, rfl, .inl ⟨SqL.of hd, fun u nu => ?_⟩⟩
        refine k _ ds _ (.tup upd_same (ia3.k ((Tk.refl H3).new nu))) ok3 (by omega) (P3.new nu) (((k1.trans k2).trans k3).new nu)

/-! ### _law_led, _law_still -/
theorem zw_get {α β γ : Type} {f : α → β → γ} {l : List α} {m : List β} {i : Nat} {x : α} {y : β} (h1 : l[i]? = some x) (h2 : m[i]? = some y) : (List.zipWith f l m)[i]? = some (f x y) := by
  rw [List.getElem?_zipWith, h1, h2]
theorem take_get {α : Type} {l : List α} {i : Nat} {x : α} (h : l[i]? = some x) : l.take (i + 1) = l.take i ++ [x] := by
  rw [List.take_add_one, h]
  rfl
theorem zw_len {α β γ : Type} {f : α → β → γ} {l : List α} {m : List β} {n : Nat} (h1 : l.length = n) (h2 : m.length = n) : (List.zipWith f l m).length = n := by
  rw [List.length_zipWith]
  omega
abbrev sc_l_ledN : List Str := ["sizes", "table", "held", "row", "size", "entry", "item"]
theorem sc_l_led : FnScope sc_l_ledN ["sizes", "table", "held"] (defScope s_l_led) := ⟨rfl, rfl, rfl, by decide +kernel, rfl, by decide +kernel, by decide +kernel⟩
def cs_l_led : Scope := match defBody s_l_led with
  | [.Return (some (.Call _ [.ListComp _ _ sc _] _ _)) _] => sc
  | _ => defScope s_l_led
theorem ok_led {f : Addr} {fd : FuncData} (D : DefAt K mg "_law_led" s_l_led ["sizes", "table", "held"] f fd) (T : Blt mg) (T_zip : mg "zip" = none) (T_sum : mg "sum" = none) : Cal P w K mg base 1 "_law_led" spLed := by
  refine cal_of D sc_l_led (fun vs H Q E h => ?_) (fun cdv A outer s H vs Q E hr h => ?_)
  · obtain ⟨x, y, z, ss, t, hs, rfl, _⟩ := h
    rfl
  · obtain ⟨x, y, z, ss, t, hs, rfl, imx, imy, imz, ok, l100, tsh, lh, mh, k⟩ := h
    refine ⟨_, (pss_one (ps_ret (pe_callTy (call_tupleK K rfl) (by rfl) T.tuple (by decide +kernel) (pa_cons (pe_lc (own := [("row", 3), ("size", 4)]) rfl sc_l_led.nd (pi_zipG K rfl .t .t (by rfl) T_zip (pa_cons (pv 1) (pa_cons (pv 0) pa_nil))) (blkOk_by (N := sc_l_ledN) (sc := defScope s_l_led) (by decide +kernel)) (fun _ _ _ _ _ => (pg_tupK (n := 2) K rfl rfl (pgs_cons (pg_name (i := 3) sc_l_led.nd rfl (by first | exact .inl rfl | exact .inr rfl)) (pgs_cons (pg_name (i := 4) sc_l_led.nd rfl (by first | exact .inl rfl | exact .inr rfl)) pgs_nil)))) (fun _ _ _ _ _ => pts_nil) (fun _ _ _ _ _ => (pe_op op_mod (pe_callB (cr_sumK K rfl rfl) (by rfl) T_sum (by decide +kernel) (pa_cons (pe_lc (own := [("entry", 5), ("item", 6)]) rfl sc_l_led.nd (pi_zipG K rfl .t .t (by rfl) T_zip (pa_cons (pv 3) (pa_cons (pv 2) pa_nil))) (blkOk_by (N := sc_l_ledN) (sc := relS cs_l_led (defScope s_l_led)) (by decide +kernel)) (fun _ _ _ _ _ => (pg_tupK (n := 2) K rfl rfl (pgs_cons (pg_name (i := 5) sc_l_led.nd rfl (by first | exact .inl rfl | exact .inr rfl)) (pgs_cons (pg_name (i := 6) sc_l_led.nd rfl (by first | exact .inl rfl | exact .inr rfl)) pgs_nil)))) (fun _ _ _ _ _ => pts_nil) (fun _ _ _ _ _ => (pe_op op_mulW (pv 5) (pv 6)))) pa_nil)) (pv 4)))) pa_nil)))), ?_⟩
    obtain ⟨b, bs, rfl, hb, ib⟩ := imx.tuple
    have ey := ib.ints
    subst ey
    obtain ⟨c, cs, rfl, hc, ic⟩ := imy.tuple
    obtain ⟨e, es, rfl, he, ie⟩ := imz.tuple
    have ey := ie.ints
    subst ey
    have lc0 : cs.length = ss.length := by rw [ic.length, List.length_map, tsh.len]
    refine ⟨_, rfl, _, rfl, c, b, _, _, rfl, SqS.of_t hc, SqS.of_t hb, fun d nd => ?_⟩
    refine lc_it (walk_zipG (n := ss.length) (by rw [List.length_map]; omega)) (fun i H' => Same H H' ∧ H' d = some (.lst (((ledI ss t hs).take i).map V.int))) ⟨Same.new (Same.refl H) nd, upd_same⟩ (fun i H' _ z => ⟨SqS.of_t (z.1 _ _ hc), SqS.of_t (z.1 _ _ hb)⟩) ?_ ?_
    · rintro i x H2 H3 hi ⟨sm, hd⟩ ⟨T1, x1, x2, rfl, nT, rfl, e1, e2⟩
      obtain ⟨s, hs', rfl⟩ := map_get e2
      obtain ⟨s2, _⟩ := (ok s (List.mem_of_getElem? hs')).bnd
      obtain ⟨r, hr'⟩ : ∃ r, t[i]? = some r := ⟨t[i]'(by rw [tsh.len]; exact hi), List.getElem?_eq_getElem _⟩
      obtain ⟨a, e1', ha⟩ := Im.row (H := H) ic hr'
      rw [show cs[i]? = some x1 from e1] at e1'
      cases e1'
      have rl := tsh.row r (List.mem_of_getElem? hr')
      have rm := tsh.most r (List.mem_of_getElem? hr')
      have sm3 : Same H (upd H2 T1 (.tup [.ref a, .int s])) := Same.new sm nT
      have hd3 : (upd H2 T1 (.tup [.ref a, .int s])) d = some (.lst (((ledI ss t hs).take i).map V.int)) := keepN hd nT
      refine ⟨T1, _, rfl, SqT.of upd_same, rfl, _, _, rfl, _, _, rfl, rfl, rfl, ?_⟩
      generalize upd H2 T1 (.tup [.ref a, .int s]) = H3 at *
      refine ⟨_, rfl, _, rfl, a, e, _, _, rfl, SqS.of_t (sm3 _ _ ha), SqS.of_t (sm3 _ _ he), fun g ng => ?_⟩
      refine lc_it (walk_zipG (n := ss.length) (by rw [List.length_map, List.length_map]; omega)) (fun j H' => Same H3 H' ∧ H' g = some (.lst (((List.zipWith (fun e h => e * h) r hs).take j).map V.int))) ⟨Same.new (Same.refl H3) ng, upd_same⟩ (fun j H' _ z => ⟨SqS.of_t (z.1 _ _ (sm3 _ _ ha)), SqS.of_t (z.1 _ _ (sm3 _ _ he))⟩) ?_ ?_
      · rintro j y H4 H5 hj ⟨sm4, hg⟩ ⟨T2, y1, y2, rfl, nT2, rfl, f1, f2⟩
        obtain ⟨en, hen, rfl⟩ := map_get f1
        obtain ⟨ho, hho, rfl⟩ := map_get f2
        have w := mul_wide (rm en (List.mem_of_getElem? hen)) (mh ho (List.mem_of_getElem? hho)) (by decide)
        refine ⟨T2, _, rfl, SqT.of upd_same, rfl, _, _, rfl, _, _, rfl, rfl, rfl, ?_⟩
        refine ⟨_, rfl, _, rfl, _, _, rfl, rfl, w, _, keepN hg nT2, small1000 (by rw [List.length_map, List.length_take]; omega), Same.put (Same.new sm4 nT2) ng, ?_⟩
        rw [upd_same, take_get (zw_get (f := fun e h : Int => e * h) hen hho), List.map_append]
        rfl
      · rintro H4 ⟨sm4, hg⟩
        have full : (List.zipWith (fun e h : Int => e * h) r hs).take ss.length = List.zipWith (fun e h => e * h) r hs := List.take_of_length_le (Nat.le_of_eq (zw_len rl lh))
        rw [full] at hg
        have ndH : H d = none := nd
        refine ⟨g, _, rfl, SqL.of hg, _, rfl, _, _, rfl, rfl, (show (0 : Int) < s by omega), _, sm4 _ _ hd3, small1000 (by rw [List.length_map, List.length_take]; omega), Same.put (sm3.trans sm4) ndH, ?_⟩
        unfold ledI
        rw [upd_same, take_get (zw_get (f := fun (row : List Int) (s : Int) => dot row hs % s) hr' hs'), List.map_append]
        rfl
    · rintro H2 ⟨sm, hd⟩
      have full : (ledI ss t hs).take ss.length = ledI ss t hs := List.take_of_length_le (Nat.le_of_eq (zw_len tsh.len rfl))
      rw [full] at hd
      exact ⟨d, _, rfl, .inl ⟨SqL.of hd, fun u nu => k _ _ (.tup upd_same (ImAll.of_ints _ _)) (Same.new sm nu)⟩⟩
abbrev sc_l_stillN : List Str := ["sizes", "i", "j"]
theorem sc_l_still : FnScope sc_l_stillN ["sizes"] (defScope s_l_still) := ⟨rfl, rfl, rfl, by decide +kernel, rfl, by decide +kernel, by decide +kernel⟩
def cs_l_still : Scope := match defBody s_l_still with
  | [.Return (some (.Call _ [.ListComp _ _ sc _] _ _)) _] => sc
  | _ => defScope s_l_still
theorem range_get {n i : Nat} (h : i < n) : (List.range n)[i]? = some i := by
  rw [List.getElem?_eq_getElem (by rw [List.length_range]; exact h), List.getElem_range]
theorem rm_get {α : Type} {n i : Nat} (f : Nat → α) (h : i < n) : ((List.range n).map f)[i]? = some (f i) := by
  rw [List.getElem?_map, range_get h]
  rfl
theorem rm_full {α : Type} {n : Nat} (f : Nat → α) : ((List.range n).map f).take n = (List.range n).map f := List.take_of_length_le (by rw [List.length_map, List.length_range]; exact Nat.le_refl _)
theorem int_if (i j : Nat) : (if decide (V.int ((0 : Int) + (i : Int)) = V.int ((0 : Int) + (j : Int))) = true then (1 : Int) else 0) = if i = j then 1 else 0 := by
  rw [dec_int0]
  by_cases h : i = j
  · subst h
    rw [decide_eq_true rfl, if_pos rfl, if_pos rfl]
  · rw [decide_eq_false (by omega), if_neg (by decide), if_neg h]
theorem ok_still {f : Addr} {fd : FuncData} (D : DefAt K mg "_law_still" s_l_still ["sizes"] f fd) (T : Blt mg) : Cal P w K mg base 1 "_law_still" spStill := by
  refine cal_of D sc_l_still (fun vs H Q E h => ?_) (fun cdv A outer s H vs Q E hr h => ?_)
  · obtain ⟨x, ss, rfl, _⟩ := h
    rfl
  · obtain ⟨x, ss, rfl, imx, l100, k⟩ := h
    refine ⟨_, (pss_one (ps_ret (pe_callTy (call_tupleK K rfl) (by rfl) T.tuple (by decide +kernel) (pa_cons (pe_lc (own := [("i", 1)]) rfl sc_l_still.nd (pi_range1 (by rfl) T.range (pa_cons (pe_callB (call_lenK K rfl) (by rfl) T.len PySem.boot_len (pa_cons (pv 0) pa_nil)) pa_nil)) (blkOk_by (N := sc_l_stillN) (sc := defScope s_l_still) (by decide +kernel)) (fun _ _ _ _ _ => (pg_name (i := 1) sc_l_still.nd rfl (by first | exact .inl rfl | exact .inr rfl))) (fun _ _ _ _ _ => pts_nil) (fun _ _ _ _ _ => (pe_callTy (call_tupleK K rfl) (by rfl) T.tuple (by decide +kernel) (pa_cons (pe_lc (own := [("j", 2)]) rfl sc_l_still.nd (pi_range1 (by rfl) T.range (pa_cons (pe_callB (call_lenK K rfl) (by rfl) T.len PySem.boot_len (pa_cons (pv 0) pa_nil)) pa_nil)) (blkOk_by (N := sc_l_stillN) (sc := relS cs_l_still (defScope s_l_still)) (by decide +kernel)) (fun _ _ _ _ _ => (pg_name (i := 2) sc_l_still.nd rfl (by first | exact .inl rfl | exact .inr rfl))) (fun _ _ _ _ _ => pts_nil) (fun _ _ _ _ _ => (pe_callTy call_int1 (by rfl) T.int (by decide +kernel) (pa_cons (pe_cmpR op_eq (pv 1) (pv 2) (nomark _)) pa_nil)))) pa_nil)))) pa_nil)))), ?_⟩
    obtain ⟨b, bs, rfl, hb, ib⟩ := imx.tuple
    have ey := ib.ints
    subst ey
    have lb : (ss.map V.int).length = ss.length := List.length_map ..
    refine ⟨_, rfl, b, _, rfl, .inr (SqT.of hb), _, rfl, by omega, by omega, fun d nd => ?_⟩
    rw [lb, Int.toNat_natCast]
    refine lc_range (lo := 0) (n := ss.length) (fun i H' => Same H H' ∧ ∃ vs : List V, H' d = some (.lst vs) ∧ ImAll H' vs (((stillI ss.length).take i).map sD)) ⟨Same.new (Same.refl H) nd, [], upd_same, .nil⟩ ?_ ?_
    · rintro i H2 hi ⟨sm, vs, hd, ia⟩
      have lv : vs.length ≤ 100 := by
        rw [ia.length, List.length_map, List.length_take]
        omega
      refine ⟨rfl, _, rfl, b, _, rfl, .inr (SqT.of (sm _ _ hb)), _, rfl, by omega, by omega, fun g ng => ?_⟩
      rw [lb, Int.toNat_natCast]
      refine lc_range (lo := 0) (n := ss.length) (fun j H' => Same H2 H' ∧ H' g = some (.lst ((((List.range ss.length).map fun j => if i = j then (1 : Int) else 0).take j).map V.int))) ⟨Same.new (Same.refl H2) ng, upd_same⟩ ?_ ?_
      · rintro j H3 hj ⟨sm3, hg⟩
        refine ⟨rfl, _, rfl, _, rfl, rfl, .inr ⟨_, rfl, _, hg, small1000 (by rw [List.length_map, List.length_take]; omega), Same.put sm3 ng, ?_⟩⟩
        rw [upd_same, int_if, take_get (rm_get _ hj), List.map_append]
        rfl
      · rintro H3 ⟨sm3, hg⟩
        rw [rm_full] at hg
        refine ⟨g, _, rfl, .inl ⟨SqL.of hg, fun u nu => ?_⟩⟩
        have sm4 : Same H2 (upd H3 u (.tup (((List.range ss.length).map fun j => if i = j then (1 : Int) else 0).map V.int))) := Same.new sm3 nu
        have hd4 := sm4 _ _ hd
        have tk : Tk (upd H3 u (.tup (((List.range ss.length).map fun j => if i = j then (1 : Int) else 0).map V.int))) (upd (upd H3 u (.tup (((List.range ss.length).map fun j => if i = j then (1 : Int) else 0).map V.int))) d (.lst (vs ++ [.ref u]))) := (Tk.refl _).put hd4
        refine ⟨_, hd4, small1000 (by omega), Same.put (sm.trans sm4) nd, _, upd_same, ?_⟩
        unfold stillI
        rw [take_get (rm_get _ hi), List.map_append]
        exact ((ia.k (Tk.same sm4)).k tk).append (.cons (Im.k (.tup upd_same (ImAll.of_ints _ _)) tk) .nil)
    · rintro H2 ⟨sm, vs, hd, ia⟩
      unfold stillI at ia
      rw [rm_full] at ia
      refine ⟨d, _, rfl, .inl ⟨SqL.of hd, fun u nu => k _ _ (.tup upd_same (ia.k ((Tk.refl H2).new nu))) (Same.new sm nu)⟩⟩

/-! ### _law_both -/
abbrev sc_l_bothN : List Str := ["sizes", "one", "other", "found", "row", "size", "j", "entry", "own"]
theorem sc_l_both : FnScope sc_l_bothN ["sizes", "one", "other"] (defScope s_l_both) := ⟨rfl, rfl, rfl, by decide +kernel, rfl, by decide +kernel, by decide +kernel⟩
def cs_l_both : Scope := match defBody s_l_both with
  | [_, .For _ _ [.Expr (.Call _ [.Call _ [.ListComp _ _ sc _] _ _] _ _) _] _ _, _] => sc
  | _ => defScope s_l_both
theorem col_get {one : List (List Int)} {i j : Nat} {r : List Int} (h : one[i]? = some r) : (colI one j)[i]? = some (r.getD j 0) := by
  unfold colI
  rw [List.getElem?_map, h]
  rfl
theorem ok_both {f : Addr} {fd : FuncData} (D : DefAt K mg "_law_both" s_l_both ["sizes", "one", "other"] f fd) (T : Blt mg) (T_zip : mg "zip" = none) (T_sum : mg "sum" = none) : Cal P w K mg base 1 "_law_both" spBoth := by
  refine cal_of D sc_l_both (fun vs H Q E h => ?_) (fun cdv A outer s H vs Q E hr h => ?_)
  · obtain ⟨x, y, z, ss, one, other, rfl, _⟩ := h
    rfl
  · obtain ⟨x, y, z, ss, one, other, rfl, imx, imy, imz, ok, l100, ts1, ts2, k⟩ := h
    refine ⟨_, (pss_cons (ps_set (i := 3) sc_l_both.nd rfl (.inl rfl) (pe_lst pa_nil))
      (pss_cons (ps_for PassesOwn.never rfl (pi_zipG K rfl .t .t (by rfl) T_zip (pa_cons (pv 2) (pa_cons (pv 0) pa_nil))) (pg_tup rfl (pgs_cons (pg_name (i := 4) sc_l_both.nd rfl (.inr rfl)) (pgs_cons (pg_name (i := 5) sc_l_both.nd rfl (.inr rfl)) pgs_nil))) (pss_one (ps_expr (pe_bm PySem.F.plainAttrs_list PySem.F.slot_list_append PySem.F.type_list_append mt_append (pv 3) (pa_cons (pe_callTy (call_tupleK K rfl) (by rfl) T.tuple (by decide +kernel) (pa_cons (pe_lc (own := [("j", 6)]) rfl sc_l_both.nd (pi_range1 (by rfl) T.range (pa_cons (pe_callB (call_lenK K rfl) (by rfl) T.len PySem.boot_len (pa_cons (pv 0) pa_nil)) pa_nil)) (blkOk_by (N := sc_l_bothN) (sc := defScope s_l_both) (by decide +kernel)) (fun _ _ _ _ _ => (pg_name (i := 6) sc_l_both.nd rfl (by first | exact .inl rfl | exact .inr rfl))) (fun _ _ _ _ _ => pts_nil) (fun _ _ _ _ _ => (pe_op op_mod (pe_callB (cr_sumK K rfl rfl) (by rfl) T_sum (by decide +kernel) (pa_cons (pe_lc (own := [("entry", 7), ("own", 8)]) rfl sc_l_both.nd (pi_zipG K rfl .t .t (by rfl) T_zip (pa_cons (pv 4) (pa_cons (pv 1) pa_nil))) (blkOk_by (N := sc_l_bothN) (sc := relS cs_l_both (defScope s_l_both)) (by decide +kernel)) (fun _ _ _ _ _ => (pg_tupK (n := 2) K rfl rfl (pgs_cons (pg_name (i := 7) sc_l_both.nd rfl (by first | exact .inl rfl | exact .inr rfl)) (pgs_cons (pg_name (i := 8) sc_l_both.nd rfl (by first | exact .inl rfl | exact .inr rfl)) pgs_nil)))) (fun _ _ _ _ _ => pts_nil) (fun _ _ _ _ _ => (pe_op op_mulW (pv 7) (pe_ix (ix_tupK K rfl) (pv 8) (pv 6) (fun _ _ => rfl))))) pa_nil)) (pv 5)))) pa_nil)) pa_nil)))))
      (pss_one (ps_ret (pe_callTy (call_tupleK K rfl) (by rfl) T.tuple (by decide +kernel) (pa_cons (pv 3) pa_nil)))))), ?_⟩
    obtain ⟨b, bs, rfl, hb, ib⟩ := imx.tuple
    have ey := ib.ints
    subst ey
    obtain ⟨c, cs, rfl, hc, ic⟩ := imy.tuple
    obtain ⟨e, es, rfl, he, ie⟩ := imz.tuple
    have lb : (ss.map V.int).length = ss.length := List.length_map ..
    have lc0 : cs.length = ss.length := by rw [ic.length, List.length_map, ts1.len]
    have le0 : es.length = ss.length := by rw [ie.length, List.length_map, ts2.len]
    refine ⟨by show 0 ≤ sizeLine; decide, fun g ng => ?_⟩
    have sm0 : Same H (upd H g (.lst [])) := Same.new (Same.refl H) ng
    refine ⟨_, rfl, _, rfl, e, b, _, _, rfl, SqS.of_t (sm0 _ _ he), SqS.of_t (sm0 _ _ hb), ?_⟩
    refine for_it (walk_zipG (n := ss.length) (by rw [List.length_map]; omega)) (fun i σ H' => ∃ v4 v5 : Option V, σ = [some (.ref b), some (.ref c), some (.ref e), some (.ref g), v4, v5, none, none, none] ∧ Same H H' ∧ ∃ vs : List V, H' g = some (.lst vs) ∧ ImAll H' vs (((bothI ss one other).take i).map sD))
      ⟨none, none, rfl, sm0, [], upd_same, .nil⟩ (fun i σ H' _ ⟨_, _, _, z, _⟩ => ⟨SqS.of_t (z _ _ he), SqS.of_t (z _ _ hb)⟩) ?_ ?_
    · rintro i x σ H2 H3 hi ⟨v4, v5, rfl, sm, vs, hg, ia⟩ ⟨T1, x1, x2, rfl, nT, rfl, e1, e2⟩
      have lv : vs.length ≤ 100 := by
        rw [ia.length, List.length_map, List.length_take]
        omega
      obtain ⟨s, hs', rfl⟩ := map_get e2
      obtain ⟨s2, _⟩ := (ok s (List.mem_of_getElem? hs')).bnd
      obtain ⟨r, hr'⟩ : ∃ r, other[i]? = some r := ⟨other[i]'(by rw [ts2.len]; exact hi), List.getElem?_eq_getElem _⟩
      obtain ⟨a, e1', ha⟩ := Im.row (H := H) ie hr'
      rw [show es[i]? = some x1 from e1] at e1'
      cases e1'
      have rl := ts2.row r (List.mem_of_getElem? hr')
      have rm := ts2.most r (List.mem_of_getElem? hr')
      have sm3 : Same H (upd H2 T1 (.tup [.ref a, .int s])) := Same.new sm nT
      have ia3 := ia.k ((Tk.refl H2).new (o := .tup [.ref a, .int s]) nT)
      have hg3 : (upd H2 T1 (.tup [.ref a, .int s])) g = some (.lst vs) := keepN hg nT
      refine ⟨T1, _, rfl, SqT.of upd_same, rfl, _, _, rfl, _, _, rfl, rfl, ?_⟩
      generalize upd H2 T1 (.tup [.ref a, .int s]) = H3 at *
      refine ⟨_, rfl, .inl ⟨rfl, _, SqL.of hg3⟩, _, rfl, b, _, rfl, .inr (SqT.of (sm3 _ _ hb)), _, rfl, by omega, by omega, fun d nd => ?_⟩
      rw [lb, Int.toNat_natCast]
      refine lc_range (lo := 0) (n := ss.length) (fun j H' => Same H3 H' ∧ H' d = some (.lst ((((List.range ss.length).map fun j => dot r (colI one j) % s).take j).map V.int))) ⟨Same.new (Same.refl H3) nd, upd_same⟩ ?_ ?_
      · rintro j H4 hj ⟨sm4, hd⟩
        have sm4H := sm3.trans sm4
        refine ⟨rfl, _, rfl, _, rfl, a, c, _, _, rfl, SqS.of_t (sm4H _ _ ha), SqS.of_t (sm4H _ _ hc), fun h nh => ?_⟩
        have cl : (colI one j).length = ss.length := by unfold colI; rw [List.length_map, ts1.len]
        refine lc_it (walk_zipG (n := ss.length) (by rw [List.length_map]; omega)) (fun t H' => Same H4 H' ∧ H' h = some (.lst (((List.zipWith (fun e h => e * h) r (colI one j)).take t).map V.int))) ⟨Same.new (Same.refl H4) nh, upd_same⟩ (fun t H' _ z => ⟨SqS.of_t (z.1 _ _ (sm4H _ _ ha)), SqS.of_t (z.1 _ _ (sm4H _ _ hc))⟩) ?_ ?_
        · rintro t y H5 H6 ht ⟨sm5, hh⟩ ⟨T2, y1, y2, rfl, nT2, rfl, f1, f2⟩
          obtain ⟨en, hen, rfl⟩ := map_get f1
          obtain ⟨o, ho⟩ : ∃ o, one[t]? = some o := ⟨one[t]'(by rw [ts1.len]; exact ht), List.getElem?_eq_getElem _⟩
          obtain ⟨a2, f2', ha2⟩ := Im.row (H := H) ic ho
          rw [show cs[t]? = some y2 from f2] at f2'
          cases f2'
          have ol := ts1.row o (List.mem_of_getElem? ho)
          have om := ts1.most o (List.mem_of_getElem? ho)
          have wd := mul_wide (rm en (List.mem_of_getElem? hen)) (getD_most om j) (by decide)
          refine ⟨T2, _, rfl, SqT.of upd_same, rfl, _, _, rfl, _, _, rfl, rfl, rfl, ?_⟩
          have e0 : (0 : Int) + (j : Int) = (j : Int) := by omega
          refine ⟨_, rfl, _, rfl, _, rfl, a2, _, j, _, rfl, by rw [e0], SqT.of (Same.new (sm4H.trans sm5) nT2 _ _ ha2), atI_nat (getD_get (by omega)), _, _, rfl, rfl, wd, _, keepN hh nT2, small1000 (by rw [List.length_map, List.length_take]; omega), Same.put (Same.new sm5 nT2) nh, ?_⟩
          rw [upd_same, take_get (zw_get (f := fun e h : Int => e * h) hen (col_get ho)), List.map_append]
          rfl
        · rintro H5 ⟨sm5, hh⟩
          have full : (List.zipWith (fun e h : Int => e * h) r (colI one j)).take ss.length = List.zipWith (fun e h => e * h) r (colI one j) := List.take_of_length_le (Nat.le_of_eq (zw_len rl cl))
          rw [full] at hh
          refine ⟨h, _, rfl, SqL.of hh, _, rfl, _, _, rfl, rfl, (show (0 : Int) < s by omega), _, sm5 _ _ hd, small1000 (by rw [List.length_map, List.length_take]; omega), Same.put (sm4.trans sm5) nd, ?_⟩
          rw [upd_same, take_get (rm_get (fun j => dot r (colI one j) % s) hj), List.map_append]
          rfl
      · rintro H4 ⟨sm4, hd⟩
        rw [rm_full] at hd
        refine ⟨d, _, rfl, .inl ⟨SqL.of hd, fun u nu => ?_⟩⟩
        have sm5 : Same H3 (upd H4 u (.tup (((List.range ss.length).map fun j => dot r (colI one j) % s).map V.int))) := Same.new sm4 nu
        have hg5 := sm5 _ _ hg3
        generalize hU : upd H4 u (.tup (((List.range ss.length).map fun j => dot r (colI one j) % s).map V.int)) = H5 at *
        have hu5 : H5 u = some (.tup (((List.range ss.length).map fun j => dot r (colI one j) % s).map V.int)) := by rw [← hU]; exact upd_same
        have tk : Tk H5 (upd H5 g (.lst (vs ++ [.ref u]))) := (Tk.refl _).put hg5
        refine ⟨g, _, _, rfl, rfl, hg5, small1000 (by omega), some (.ref a), some (.int s), rfl, Same.put (sm3.trans sm5) ng, vs ++ [.ref u], upd_same, ?_⟩
        unfold bothI
        rw [take_get (zw_get (f := fun (row : List Int) (s : Int) => (List.range ss.length).map fun j => dot row (colI one j) % s) hr' hs'), List.map_append]
        exact ((ia3.k (Tk.same sm5)).k tk).append (.cons (Im.k (.tup hu5 (ImAll.of_ints _ _)) tk) .nil)
    · rintro σ H2 ⟨v4, v5, rfl, sm, vs, hg, ia⟩
      have full : (bothI ss one other).take ss.length = bothI ss one other := List.take_of_length_le (Nat.le_of_eq (zw_len ts2.len rfl))
      rw [full] at ia
      refine ⟨_, rfl, g, _, rfl, .inl ⟨SqL.of hg, fun u nu => k _ _ (.tup upd_same (ia.k ((Tk.refl H2).new nu))) (Same.new sm nu)⟩⟩

/-! ### _law_table -/
abbrev sc_l_tableN : List Str := ["pot", "sizes", "i", "j", "rows", "chance", "size", "ask", "row"]
theorem sc_l_table : FnScope sc_l_tableN ["pot", "sizes"] (defScope s_l_table) := ⟨rfl, rfl, rfl, by decide +kernel, rfl, by decide +kernel, by decide +kernel⟩
def cs_l_table : Scope := match defBody s_l_table with
  | .Assign _ (.ListComp _ _ sc _) _ :: _ => sc
  | _ => defScope s_l_table
theorem ok_table {f : Addr} {fd : FuncData} (D : DefAt K mg "_law_table" s_l_table ["pot", "sizes"] f fd) (T : Blt mg) (c_l_dip : Cal P w K mg base 1 "_law_dip" spDipW) (c_l_pick : Cal P w K mg base 2 "_law_pick" spPick) (c_l_step : Cal P w K mg base 2 "_law_step" spLStep) : Cal P w K mg base 3 "_law_table" spTable := by
  refine cal_of D sc_l_table (fun vs H Q E h => ?_) (fun cdv A outer s H vs Q E hr h => ?_)
  · obtain ⟨p, q, v, ss, rfl, _⟩ := h
    rfl
  · obtain ⟨p, q, v, ss, rfl, hP, im, ok, l100, k⟩ := h
    refine ⟨_, (pss_cons (ps_setLc (i := 4) (own := [("i", 2)]) rfl sc_l_table.nd rfl rfl (sw_true rfl rfl rfl (by decide +kernel)) (pi_range1 (by rfl) T.range (pa_cons (pe_callB (call_lenK K rfl) (by rfl) T.len PySem.boot_len (pa_cons (pv 1) pa_nil)) pa_nil)) (blkOk_by (N := sc_l_tableN) (sc := defScope s_l_table) (by decide +kernel)) (fun _ _ _ _ _ => (pg_name (i := 2) sc_l_table.nd rfl (by first | exact .inl rfl | exact .inr rfl))) (fun _ _ _ _ _ => pts_nil) (fun _ _ _ _ _ => (pe_lc (own := [("j", 3)]) rfl sc_l_table.nd (pi_range1 (by rfl) T.range (pa_cons (pe_callB (call_lenK K rfl) (by rfl) T.len PySem.boot_len (pa_cons (pv 1) pa_nil)) pa_nil)) (blkOk_by (N := sc_l_tableN) (sc := relS cs_l_table (defScope s_l_table)) (by decide +kernel)) (fun _ _ _ _ _ => (pg_name (i := 3) sc_l_table.nd rfl (by first | exact .inl rfl | exact .inr rfl))) (fun _ _ _ _ _ => pts_nil) (fun _ _ _ _ _ => (pe_callTy call_int1 (by rfl) T.int (by decide +kernel) (pa_cons (pe_cmpR op_eq (pv 2) (pv 3) (nomark _)) pa_nil))))))
      (pss_cons (ps_set (i := 5) sc_l_table.nd rfl (.inl rfl) (pe_c c_l_pick hr (by decide) rfl (pa_cons (pv 0) (pa_cons (pe_lst (pa_cons pe_int (pa_cons pe_int (pa_cons pe_int (pa_cons pe_int pa_nil))))) pa_nil))))
      (pss_cons (ps_for PassesOwn.never rfl (pi_enumTK K rfl (by rfl) T.enumerate (pa_cons (pv 1) pa_nil)) (pg_tup rfl (pgs_cons (pg_name (i := 2) sc_l_table.nd rfl (.inl rfl)) (pgs_cons (pg_name (i := 6) sc_l_table.nd rfl (.inl rfl)) pgs_nil))) (pss_one (ps_for PassesOwn.never rfl (pi_range1 (by rfl) T.range (pa_cons (pe_callB (call_lenK K rfl) (by rfl) T.len PySem.boot_len (pa_cons (pv 1) pa_nil)) pa_nil)) (pg_name (i := 3) sc_l_table.nd rfl (.inl rfl)) (pss_cons (ps_set (i := 7) sc_l_table.nd rfl (.inl rfl) (pe_ifExp (pt_cmpR op_eq (pv 2) (pv 3) (nomark _)) pe_int (pe_c c_l_step hr (by decide) rfl (pa_cons (pv 1) (pa_cons (pv 3) (pa_cons (pv 2) pa_nil))))))
      (pss_one (ps_if (PW.pt (pw_and (pt_cmpR op_lt (pe_c c_l_dip hr (by decide) rfl (pa_cons (pv 0) (pa_cons pe_int pa_nil))) (pv 5) (nomark _)) (pw_and1 (PW.pt (pw_or (pt_cmpR op_ne (pv 2) (pv 3) (nomark _)) (pw_or1 (pt_cmpR op_eq (pe_c c_l_dip hr (by decide) rfl (pa_cons (pv 0) (pa_cons pe_int pa_nil))) pe_int (nomark _)))))))) (pss_one (ps_asg (pe_op op_mod (pe_op op_mulW (pv 7) (pe_c c_l_pick hr (by decide) rfl (pa_cons (pv 0) (pa_cons (pe_lst (pa_cons pe_int (pa_cons pe_int (pa_cons pe_int (pa_cons pe_int (pa_cons (pe_op op_sub (pv 6) pe_int) (pa_cons (pe_c c_l_dip hr (by decide) rfl (pa_cons (pv 0) (pa_cons (pv 6) pa_nil))) pa_nil))))))) pa_nil)))) (pv 6)) (pg_sub (pe_ix (ix_listK K rfl) (pv 4) (pv 2) (fun _ _ => rfl)) (pv 3) set_list))) pss_nil))))))
      (pss_one (ps_ret (pe_callTy (call_tupleK K rfl) (by rfl) T.tuple (by decide +kernel) (pa_cons (pe_lc (own := [("row", 8)]) rfl sc_l_table.nd (pi_listK K rfl (pv 4)) (blkOk_by (N := sc_l_tableN) (sc := defScope s_l_table) (by decide +kernel)) (fun _ _ _ _ _ => (pg_name (i := 8) sc_l_table.nd rfl (by first | exact .inl rfl | exact .inr rfl))) (fun _ _ _ _ _ => pts_nil) (fun _ _ _ _ _ => (pe_callTy (call_tupleK K rfl) (by rfl) T.tuple (by decide +kernel) (pa_cons (pv 8) pa_nil)))) pa_nil))))))), ?_⟩
    obtain ⟨b, bs, rfl, hb, ib⟩ := id im.tuple
    have ey := ib.ints
    subst ey
    have lb : (ss.map V.int).length = ss.length := List.length_map ..
    refine ⟨_, rfl, b, _, rfl, .inr (SqT.of hb), _, rfl, by omega, by omega, fun R nR0 => ?_⟩
    have nR := hP.np nR0
    rw [lb, Int.toNat_natCast]
    refine lc_range (lo := 0) (n := ss.length) (fun i H' => Same H H' ∧ ∃ rs : List Addr, Rws p q R H' rs ((stillI ss.length).take i) ∧ ∀ a ∈ rs, H a = none) ⟨Same.new (Same.refl H) nR0, [], ⟨upd_same, rfl, fun i a e => by simp at e, List.nodup_nil, fun a h => by cases h⟩, fun a h => by cases h⟩ ?_ ?_
    · rintro i H2 hi ⟨sm, rs, rw1, fr⟩
      have lr : rs.length ≤ 100 := by
        rw [rw1.len, List.length_take]
        omega
      refine ⟨rfl, _, rfl, b, _, rfl, .inr (SqT.of (sm _ _ hb)), _, rfl, by omega, by omega, fun g ng => ?_⟩
      rw [lb, Int.toNat_natCast]
      refine lc_range (lo := 0) (n := ss.length) (fun j H' => Same H2 H' ∧ H' g = some (.lst ((((List.range ss.length).map fun j => if i = j then (1 : Int) else 0).take j).map V.int))) ⟨Same.new (Same.refl H2) ng, upd_same⟩ ?_ ?_
      · rintro j H3 hj ⟨sm3, hg⟩
        refine ⟨rfl, _, rfl, _, rfl, rfl, .inr ⟨_, rfl, _, hg, small1000 (by rw [List.length_map, List.length_take]; omega), Same.put sm3 ng, ?_⟩⟩
        rw [upd_same, int_if, take_get (rm_get _ hj), List.map_append]
        rfl
      · rintro H3 ⟨sm3, hg⟩
        rw [rm_full] at hg
        have rw3 := rw1.same sm3
        have gR : g ≠ R := fun z => by rw [z, rw1.top] at ng; cases ng
        have gP := (hP.same sm).np ng
        have gN : g ∉ rs := fun m => by
          obtain ⟨i, hi, e⟩ := List.getElem_of_mem m
          obtain ⟨r, _, h2⟩ := rw1.row i g (by rw [List.getElem?_eq_getElem hi, e])
          rw [h2] at ng
          cases ng
        refine ⟨_, rw3.top, small1000 (by rw [List.length_map]; omega), Same.put (sm.trans sm3) nR0, rs ++ [g], ?_, fun a ha => ?_⟩
        · unfold stillI
          rw [take_get (rm_get _ hi)]
          exact rw3.put nR hg gN ⟨gR, gP⟩
        · rcases List.mem_append.mp ha with ha | ha
          · exact fr a ha
          · rw [List.mem_singleton.mp ha]
            exact Same.free sm ng
    rintro H2 ⟨sm2, rs, rw2, fr⟩
    unfold stillI at rw2
    rw [rm_full] at rw2
    have P2 := hP.same sm2
    have tok : TOk ss (stillI ss.length) := TOk.still ok
    refine ⟨_, rfl, by show 4 ≤ sizeLine; decide, fun c nc => ?_⟩
    obtain ⟨nc1, nc2⟩ := P2.np nc
    refine ⟨p, q, c, _, rfl, P2.new nc, upd_same, nc1, nc2, List.cons_ne_nil _ _, by show 4 < 1000; decide, fun ch H3 hch P3 k3 => ?_⟩
    obtain ⟨chz, rfl⟩ : ∃ z : Int, ch = .int z := by
      rcases List.mem_cons.mp hch with e | hch
      · exact ⟨_, e⟩
      rcases List.mem_cons.mp hch with e | hch
      · exact ⟨_, e⟩
      rcases List.mem_cons.mp hch with e | hch
      · exact ⟨_, e⟩
      · exact ⟨_, List.mem_singleton.mp hch⟩
    have kp3 : Kp p q H H3 := ((Kp.same sm2).new nc).trans k3
    have rw3 : Rws p q R H3 rs (stillI ss.length) := (rw2.same (Same.new (Same.refl H2) nc)).kp nR k3
    have hb3 := (kp3.tk hP) _ _ hb
    refine ⟨_, rfl, b, _, rfl, SqT.of hb3, for_it walk_enumT (fun i σ H' => ∃ (v2 v3 v6 v7 v8 : Option V) (t : List (List Int)), σ = [some (.ref p), some (.ref b), v2, v3, some (.ref R), some (.int chz), v6, v7, v8] ∧ Pt H' p q ∧ Kp p q H H' ∧ Rws p q R H' rs t ∧ TOk ss t)
      ⟨_, _, _, _, _, _, rfl, P3, kp3, rw3, tok⟩ (fun i σ H' _ ⟨_, _, _, _, _, _, _, _, z, _⟩ => SqT.of ((z.tk hP) _ _ hb)) ?_ ?_⟩
    · rintro i x σ H4 H5 hi ⟨v2, v3, v6, v7, v8, t, rfl, P4, k4, rw4, tok4⟩ ⟨T1, x1, x2, rfl, nT, rfl, e1, e2⟩
      cases e1
      obtain ⟨s, es, rfl⟩ := map_get e2
      obtain ⟨s2, s30⟩ := (ok s (List.mem_of_getElem? es)).bnd
      have hi' : i < ss.length := by rw [← lb]; exact hi
      refine ⟨T1, _, rfl, SqT.of upd_same, rfl, _, _, rfl, _, _, rfl, rfl, ?_⟩
      have P5 := P4.new (o := .tup [.int (i : Nat), .int s]) nT
      have k5 := k4.new (o := .tup [.int (i : Nat), .int s]) nT
      have rw5 := rw4.same (Same.new (o := .tup [.int (i : Nat), .int s]) (Same.refl H4) nT)
      generalize upd H4 T1 (.tup [.int (i : Nat), .int s]) = H5 at *
      refine ⟨_, rfl, b, _, rfl, .inr (SqT.of ((k5.tk hP) _ _ hb)), _, rfl, by omega, by omega, ?_⟩
      rw [lb, Int.toNat_natCast]
      refine for_range (lo := 0) (n := ss.length) (fun j σ H' => ∃ (v3 v7 : Option V) (t : List (List Int)), σ = [some (.ref p), some (.ref b), some (.int (i : Nat)), v3, some (.ref R), some (.int chz), some (.int s), v7, v8] ∧ Pt H' p q ∧ Kp p q H H' ∧ Rws p q R H' rs t ∧ TOk ss t)
        ⟨_, _, _, rfl, P5, k5, rw5, tok4⟩ ?_ ?_
      · rintro j σ H6 hj ⟨v3', v7', t, rfl, P6, k6, rw6, tok6⟩
        have e0 : (0 : Int) + (j : Int) = (j : Int) := by omega
        rw [e0]
        refine ⟨_, rfl, _, rfl, rfl, _, rfl, ?_⟩
        refine ite2 (fun eq => ?_) (fun _ => ?_)
        · have ij : i = j := by
            have := V.int.inj (of_decide_eq_true eq)
            omega
          have askS : (1 : Int).natAbs ≤ 10 ^ 30 := by decide
          have askD : i ≠ j → ∃ a b : Nat, ss[j]? = some (a : Int) ∧ ss[i]? = some (b : Int) ∧ ((stp a b : Nat) : Int) = 1 := fun n => absurd ij n
          refine ⟨_, rfl, p, q, _, rfl, P6, by decide, by decide, fun r1 H7 _ _ P7 k7 => ⟨_, rfl, _, _, rfl, rfl, _, rfl, ?_⟩⟩
          refine ite2 (fun _ => ?_) (fun _ => iteF ⟨_, _, t, rfl, P7, k6.trans k7, rw6.kp nR k7, tok6⟩)
          refine ⟨_, rfl, _, rfl, rfl, _, rfl, ?_⟩
          refine ite2 (fun _ => iteT ?_) (fun _ => ?_)
          · have PB := P7
            have kB := k6.trans k7
            have rwB := rw6.kp nR k7
            have sp : (0 : Int) < s := by omega
            have s4 : s.natAbs < 2 ^ 4000 := Nat.lt_of_le_of_lt (show s.natAbs ≤ 10 ^ 30 by omega) (by decide)
            refine ⟨_, rfl, _, rfl, _, rfl, _, _, rfl, rfl, _, rfl, _, rfl, p, q, _, rfl, PB, sp, s4, fun r3 H9 c0 c1 P9 k9 => ⟨by show 6 ≤ sizeLine; decide, fun l nl => ?_⟩⟩
            obtain ⟨nl1, nl2⟩ := P9.np nl
            refine ⟨p, q, l, _, rfl, P9.new nl, upd_same, nl1, nl2, List.cons_ne_nil _ _, by show 6 < 1000; decide, fun v HA hv PA kA => ?_⟩
            obtain ⟨z, rfl, z0, z1⟩ : ∃ z : Int, v = .int z ∧ 0 ≤ z ∧ z ≤ 10 ^ 30 := by
              rcases List.mem_cons.mp hv with e | hv
              · exact ⟨_, e, by decide, by decide⟩
              rcases List.mem_cons.mp hv with e | hv
              · exact ⟨_, e, by decide, by decide⟩
              rcases List.mem_cons.mp hv with e | hv
              · exact ⟨_, e, by decide, by decide⟩
              rcases List.mem_cons.mp hv with e | hv
              · exact ⟨_, e, by decide, by decide⟩
              rcases List.mem_cons.mp hv with e | hv
              · exact ⟨_, e, by show 0 ≤ s - 1; omega, by show s - 1 ≤ _; omega⟩
              · exact ⟨_, List.mem_singleton.mp hv, c0, by omega⟩
            have kZ : Kp p q H HA := ((kB.trans k9).new nl).trans kA
            have rwZ : Rws p q R HA rs t := ((rwB.kp nR k9).same (Same.new (Same.refl H9) nl)).kp nR kA
            have wd : CMulW 1 z := mul_wide (A := 120) (B := 120) (Nat.lt_of_le_of_lt askS (by decide)) (Nat.lt_of_le_of_lt (show z.natAbs ≤ 10 ^ 30 by omega) (by decide)) (by decide)
            have li : i < rs.length := by
              rw [rwZ.len, tok6.len]
              exact hi'
            obtain ⟨a, ea⟩ : ∃ a, rs[i]? = some a := ⟨rs[i], List.getElem?_eq_getElem li⟩
            obtain ⟨r, er, ha⟩ := rwZ.row i a ea
            have rl := tok6.row r (List.mem_of_getElem? er)
            refine ⟨_, _, rfl, rfl, wd, _, rfl, _, _, rfl, rfl, sp, _, rfl, _, rfl, R, _, i, _, rfl, rfl, SqL.of rwZ.top, atI_nat (by rw [List.getElem?_map, ea]; rfl), _, rfl, a, _, j, j, rfl, rfl, ha, ixN_of (by rw [List.length_map]; omega), ?_⟩
            refine ⟨some (.int (j : Int)), some (.int 1), t.set i (r.set j (1 * z % s)), rfl, PA.put (rwZ.off a (List.mem_of_getElem? ea)).2.1 (rwZ.off a (List.mem_of_getElem? ea)).2.2, kZ.put (fr a (List.mem_of_getElem? ea)), ?_, tok6.set er (fun s' hs' => ?_) (fun n => ?_)⟩
            · have := rwZ.set ea (r.set j (1 * z % s))
              rw [List.map_set] at this
              exact this
            · rw [es] at hs'
              cases hs'
              exact ⟨Int.emod_nonneg _ (by omega), Int.emod_lt_of_pos _ sp⟩
            · obtain ⟨x', y', hx', hy', st'⟩ := askD n
              refine ⟨x', y', hx', hy', ?_⟩
              rw [es] at hy'
              cases hy'
              have d1 : ((stp x' y' : Nat) : Int) ∣ 1 * z := by
                rw [st']
                exact Int.dvd_mul_right _ _
              rw [Int.emod_def]
              exact Int.dvd_sub d1 (Int.dvd_trans (Int.natCast_dvd_natCast.mpr (stp_dvd x' y')) (Int.dvd_mul_right _ _))
          · refine ⟨_, rfl, p, q, _, rfl, P7, by decide, by decide, fun r2 H8 _ _ P8 k8 => ⟨rfl, _, rfl, ?_⟩⟩
            refine ite2 (fun _ => ?_) (fun _ => ⟨_, _, t, rfl, P8, (k6.trans k7).trans k8, (rw6.kp nR k7).kp nR k8, tok6⟩)
            have PB := P8
            have kB := (k6.trans k7).trans k8
            have rwB := (rw6.kp nR k7).kp nR k8
            have sp : (0 : Int) < s := by omega
            have s4 : s.natAbs < 2 ^ 4000 := Nat.lt_of_le_of_lt (show s.natAbs ≤ 10 ^ 30 by omega) (by decide)
            refine ⟨_, rfl, _, rfl, _, rfl, _, _, rfl, rfl, _, rfl, _, rfl, p, q, _, rfl, PB, sp, s4, fun r3 H9 c0 c1 P9 k9 => ⟨by show 6 ≤ sizeLine; decide, fun l nl => ?_⟩⟩
            obtain ⟨nl1, nl2⟩ := P9.np nl
            refine ⟨p, q, l, _, rfl, P9.new nl, upd_same, nl1, nl2, List.cons_ne_nil _ _, by show 6 < 1000; decide, fun v HA hv PA kA => ?_⟩
            obtain ⟨z, rfl, z0, z1⟩ : ∃ z : Int, v = .int z ∧ 0 ≤ z ∧ z ≤ 10 ^ 30 := by
              rcases List.mem_cons.mp hv with e | hv
              · exact ⟨_, e, by decide, by decide⟩
              rcases List.mem_cons.mp hv with e | hv
              · exact ⟨_, e, by decide, by decide⟩
              rcases List.mem_cons.mp hv with e | hv
              · exact ⟨_, e, by decide, by decide⟩
              rcases List.mem_cons.mp hv with e | hv
              · exact ⟨_, e, by decide, by decide⟩
              rcases List.mem_cons.mp hv with e | hv
              · exact ⟨_, e, by show 0 ≤ s - 1; omega, by show s - 1 ≤ _; omega⟩
              · exact ⟨_, List.mem_singleton.mp hv, c0, by omega⟩
            have kZ : Kp p q H HA := ((kB.trans k9).new nl).trans kA
            have rwZ : Rws p q R HA rs t := ((rwB.kp nR k9).same (Same.new (Same.refl H9) nl)).kp nR kA
            have wd : CMulW 1 z := mul_wide (A := 120) (B := 120) (Nat.lt_of_le_of_lt askS (by decide)) (Nat.lt_of_le_of_lt (show z.natAbs ≤ 10 ^ 30 by omega) (by decide)) (by decide)
            have li : i < rs.length := by
              rw [rwZ.len, tok6.len]
              exact hi'
            obtain ⟨a, ea⟩ : ∃ a, rs[i]? = some a := ⟨rs[i], List.getElem?_eq_getElem li⟩
            obtain ⟨r, er, ha⟩ := rwZ.row i a ea
            have rl := tok6.row r (List.mem_of_getElem? er)
            refine ⟨_, _, rfl, rfl, wd, _, rfl, _, _, rfl, rfl, sp, _, rfl, _, rfl, R, _, i, _, rfl, rfl, SqL.of rwZ.top, atI_nat (by rw [List.getElem?_map, ea]; rfl), _, rfl, a, _, j, j, rfl, rfl, ha, ixN_of (by rw [List.length_map]; omega), ?_⟩
            refine ⟨some (.int (j : Int)), some (.int 1), t.set i (r.set j (1 * z % s)), rfl, PA.put (rwZ.off a (List.mem_of_getElem? ea)).2.1 (rwZ.off a (List.mem_of_getElem? ea)).2.2, kZ.put (fr a (List.mem_of_getElem? ea)), ?_, tok6.set er (fun s' hs' => ?_) (fun n => ?_)⟩
            · have := rwZ.set ea (r.set j (1 * z % s))
              rw [List.map_set] at this
              exact this
            · rw [es] at hs'
              cases hs'
              exact ⟨Int.emod_nonneg _ (by omega), Int.emod_lt_of_pos _ sp⟩
            · obtain ⟨x', y', hx', hy', st'⟩ := askD n
              refine ⟨x', y', hx', hy', ?_⟩
              rw [es] at hy'
              cases hy'
              have d1 : ((stp x' y' : Nat) : Int) ∣ 1 * z := by
                rw [st']
                exact Int.dvd_mul_right _ _
              rw [Int.emod_def]
              exact Int.dvd_sub d1 (Int.dvd_trans (Int.natCast_dvd_natCast.mpr (stp_dvd x' y')) (Int.dvd_mul_right _ _))
        · have im6 := im.k (k6.tk hP)
          obtain ⟨x, ex, x2, x30⟩ := (ok ss[j] (List.getElem_mem hj)).nat
          obtain ⟨y, ey, y2, y30⟩ := (ok s (List.mem_of_getElem? es)).nat
          have hx : ss[j]? = some (x : Int) := by rw [List.getElem?_eq_getElem hj, ex]
          have hy : ss[i]? = some (y : Int) := by rw [es, ey]
          refine ⟨_, rfl, _, rfl, _, rfl, .ref b, ss, j, i, x, y, rfl, im6, hx, hy, by omega, Nat.lt_of_le_of_lt y30 (by decide), ?_⟩
          have askS : ((stp x y : Nat) : Int).natAbs ≤ 10 ^ 30 := by
            rw [Int.natAbs_natCast]
            exact Nat.le_trans (stp_le (by omega)).2 y30
          have askD : i ≠ j → ∃ a b : Nat, ss[j]? = some (a : Int) ∧ ss[i]? = some (b : Int) ∧ ((stp a b : Nat) : Int) = ((stp x y : Nat) : Int) := fun _ => ⟨x, y, hx, hy, rfl⟩
          refine ⟨_, rfl, p, q, _, rfl, P6, by decide, by decide, fun r1 H7 _ _ P7 k7 => ⟨_, rfl, _, _, rfl, rfl, _, rfl, ?_⟩⟩
          refine ite2 (fun _ => ?_) (fun _ => iteF ⟨_, _, t, rfl, P7, k6.trans k7, rw6.kp nR k7, tok6⟩)
          refine ⟨_, rfl, _, rfl, rfl, _, rfl, ?_⟩
          refine ite2 (fun _ => iteT ?_) (fun _ => ?_)
          · have PB := P7
            have kB := k6.trans k7
            have rwB := rw6.kp nR k7
            have sp : (0 : Int) < s := by omega
            have s4 : s.natAbs < 2 ^ 4000 := Nat.lt_of_le_of_lt (show s.natAbs ≤ 10 ^ 30 by omega) (by decide)
            refine ⟨_, rfl, _, rfl, _, rfl, _, _, rfl, rfl, _, rfl, _, rfl, p, q, _, rfl, PB, sp, s4, fun r3 H9 c0 c1 P9 k9 => ⟨by show 6 ≤ sizeLine; decide, fun l nl => ?_⟩⟩
            obtain ⟨nl1, nl2⟩ := P9.np nl
            refine ⟨p, q, l, _, rfl, P9.new nl, upd_same, nl1, nl2, List.cons_ne_nil _ _, by show 6 < 1000; decide, fun v HA hv PA kA => ?_⟩
            obtain ⟨z, rfl, z0, z1⟩ : ∃ z : Int, v = .int z ∧ 0 ≤ z ∧ z ≤ 10 ^ 30 := by
              rcases List.mem_cons.mp hv with e | hv
              · exact ⟨_, e, by decide, by decide⟩
              rcases List.mem_cons.mp hv with e | hv
              · exact ⟨_, e, by decide, by decide⟩
              rcases List.mem_cons.mp hv with e | hv
              · exact ⟨_, e, by decide, by decide⟩
              rcases List.mem_cons.mp hv with e | hv
              · exact ⟨_, e, by decide, by decide⟩
              rcases List.mem_cons.mp hv with e | hv
              · exact ⟨_, e, by show 0 ≤ s - 1; omega, by show s - 1 ≤ _; omega⟩
              · exact ⟨_, List.mem_singleton.mp hv, c0, by omega⟩
            have kZ : Kp p q H HA := ((kB.trans k9).new nl).trans kA
            have rwZ : Rws p q R HA rs t := ((rwB.kp nR k9).same (Same.new (Same.refl H9) nl)).kp nR kA
            have wd : CMulW ((stp x y : Nat) : Int) z := mul_wide (A := 120) (B := 120) (Nat.lt_of_le_of_lt askS (by decide)) (Nat.lt_of_le_of_lt (show z.natAbs ≤ 10 ^ 30 by omega) (by decide)) (by decide)
            have li : i < rs.length := by
              rw [rwZ.len, tok6.len]
              exact hi'
            obtain ⟨a, ea⟩ : ∃ a, rs[i]? = some a := ⟨rs[i], List.getElem?_eq_getElem li⟩
            obtain ⟨r, er, ha⟩ := rwZ.row i a ea
            have rl := tok6.row r (List.mem_of_getElem? er)
            refine ⟨_, _, rfl, rfl, wd, _, rfl, _, _, rfl, rfl, sp, _, rfl, _, rfl, R, _, i, _, rfl, rfl, SqL.of rwZ.top, atI_nat (by rw [List.getElem?_map, ea]; rfl), _, rfl, a, _, j, j, rfl, rfl, ha, ixN_of (by rw [List.length_map]; omega), ?_⟩
            refine ⟨some (.int (j : Int)), some (.int ((stp x y : Nat) : Int)), t.set i (r.set j (((stp x y : Nat) : Int) * z % s)), rfl, PA.put (rwZ.off a (List.mem_of_getElem? ea)).2.1 (rwZ.off a (List.mem_of_getElem? ea)).2.2, kZ.put (fr a (List.mem_of_getElem? ea)), ?_, tok6.set er (fun s' hs' => ?_) (fun n => ?_)⟩
            · have := rwZ.set ea (r.set j (((stp x y : Nat) : Int) * z % s))
              rw [List.map_set] at this
              exact this
            · rw [es] at hs'
              cases hs'
              exact ⟨Int.emod_nonneg _ (by omega), Int.emod_lt_of_pos _ sp⟩
            · obtain ⟨x', y', hx', hy', st'⟩ := askD n
              refine ⟨x', y', hx', hy', ?_⟩
              rw [es] at hy'
              cases hy'
              have d1 : ((stp x' y' : Nat) : Int) ∣ ((stp x y : Nat) : Int) * z := by
                rw [st']
                exact Int.dvd_mul_right _ _
              rw [Int.emod_def]
              exact Int.dvd_sub d1 (Int.dvd_trans (Int.natCast_dvd_natCast.mpr (stp_dvd x' y')) (Int.dvd_mul_right _ _))
          · refine ⟨_, rfl, p, q, _, rfl, P7, by decide, by decide, fun r2 H8 _ _ P8 k8 => ⟨rfl, _, rfl, ?_⟩⟩
            refine ite2 (fun _ => ?_) (fun _ => ⟨_, _, t, rfl, P8, (k6.trans k7).trans k8, (rw6.kp nR k7).kp nR k8, tok6⟩)
            have PB := P8
            have kB := (k6.trans k7).trans k8
            have rwB := (rw6.kp nR k7).kp nR k8
            have sp : (0 : Int) < s := by omega
            have s4 : s.natAbs < 2 ^ 4000 := Nat.lt_of_le_of_lt (show s.natAbs ≤ 10 ^ 30 by omega) (by decide)
            refine ⟨_, rfl, _, rfl, _, rfl, _, _, rfl, rfl, _, rfl, _, rfl, p, q, _, rfl, PB, sp, s4, fun r3 H9 c0 c1 P9 k9 => ⟨by show 6 ≤ sizeLine; decide, fun l nl => ?_⟩⟩
            obtain ⟨nl1, nl2⟩ := P9.np nl
            refine ⟨p, q, l, _, rfl, P9.new nl, upd_same, nl1, nl2, List.cons_ne_nil _ _, by show 6 < 1000; decide, fun v HA hv PA kA => ?_⟩
            obtain ⟨z, rfl, z0, z1⟩ : ∃ z : Int, v = .int z ∧ 0 ≤ z ∧ z ≤ 10 ^ 30 := by
              rcases List.mem_cons.mp hv with e | hv
              · exact ⟨_, e, by decide, by decide⟩
              rcases List.mem_cons.mp hv with e | hv
              · exact ⟨_, e, by decide, by decide⟩
              rcases List.mem_cons.mp hv with e | hv
              · exact ⟨_, e, by decide, by decide⟩
              rcases List.mem_cons.mp hv with e | hv
              · exact ⟨_, e, by decide, by decide⟩
              rcases List.mem_cons.mp hv with e | hv
              · exact ⟨_, e, by show 0 ≤ s - 1; omega, by show s - 1 ≤ _; omega⟩
              · exact ⟨_, List.mem_singleton.mp hv, c0, by omega⟩
            have kZ : Kp p q H HA := ((kB.trans k9).new nl).trans kA
            have rwZ : Rws p q R HA rs t := ((rwB.kp nR k9).same (Same.new (Same.refl H9) nl)).kp nR kA
            have wd : CMulW ((stp x y : Nat) : Int) z := mul_wide (A := 120) (B := 120) (Nat.lt_of_le_of_lt askS (by decide)) (Nat.lt_of_le_of_lt (show z.natAbs ≤ 10 ^ 30 by omega) (by decide)) (by decide)
            have li : i < rs.length := by
              rw [rwZ.len, tok6.len]
              exact hi'
            obtain ⟨a, ea⟩ : ∃ a, rs[i]? = some a := ⟨rs[i], List.getElem?_eq_getElem li⟩
            obtain ⟨r, er, ha⟩ := rwZ.row i a ea
            have rl := tok6.row r (List.mem_of_getElem? er)
            refine ⟨_, _, rfl, rfl, wd, _, rfl, _, _, rfl, rfl, sp, _, rfl, _, rfl, R, _, i, _, rfl, rfl, SqL.of rwZ.top, atI_nat (by rw [List.getElem?_map, ea]; rfl), _, rfl, a, _, j, j, rfl, rfl, ha, ixN_of (by rw [List.length_map]; omega), ?_⟩
            refine ⟨some (.int (j : Int)), some (.int ((stp x y : Nat) : Int)), t.set i (r.set j (((stp x y : Nat) : Int) * z % s)), rfl, PA.put (rwZ.off a (List.mem_of_getElem? ea)).2.1 (rwZ.off a (List.mem_of_getElem? ea)).2.2, kZ.put (fr a (List.mem_of_getElem? ea)), ?_, tok6.set er (fun s' hs' => ?_) (fun n => ?_)⟩
            · have := rwZ.set ea (r.set j (((stp x y : Nat) : Int) * z % s))
              rw [List.map_set] at this
              exact this
            · rw [es] at hs'
              cases hs'
              exact ⟨Int.emod_nonneg _ (by omega), Int.emod_lt_of_pos _ sp⟩
            · obtain ⟨x', y', hx', hy', st'⟩ := askD n
              refine ⟨x', y', hx', hy', ?_⟩
              rw [es] at hy'
              cases hy'
              have d1 : ((stp x' y' : Nat) : Int) ∣ ((stp x y : Nat) : Int) * z := by
                rw [st']
                exact Int.dvd_mul_right _ _
              rw [Int.emod_def]
              exact Int.dvd_sub d1 (Int.dvd_trans (Int.natCast_dvd_natCast.mpr (stp_dvd x' y')) (Int.dvd_mul_right _ _))
      · rintro σ H6 ⟨v3', v7', t, rfl, P6, k6, rw6, tok6⟩
        exact ⟨_, _, _, _, _, t, rfl, P6, k6, rw6, tok6⟩
    · rintro σ H4 ⟨v2, v3, v6, v7, v8, t, rfl, P4, k4, rw4, tok4⟩
      have lr : rs.length ≤ 100 := by rw [rw4.len, tok4.len]; exact l100
      refine ⟨_, rfl, R, rfl, ⟨_, SqL.of rw4.top⟩, fun d nd => ?_⟩
      obtain ⟨nd1, nd2⟩ := P4.np nd
      have ndR : R ≠ d := fun z => by rw [← z, rw4.top] at nd; cases nd
      refine lc_list (K := K) (a := R) (xs := rs.map V.ref) (fun i H' => Same H4 H' ∧ ∃ vs : List V, H' d = some (.lst vs) ∧ ImAll H' vs ((t.take i).map sD)) ⟨Same.new (Same.refl H4) nd, [], upd_same, .nil⟩ (fun i H' _ z => SqL.of (z.1 _ _ rw4.top)) ?_ ?_
      · rintro i x H5 hx ⟨sm5, vs, hd, ia⟩
        obtain ⟨a, ea, rfl⟩ := map_get hx
        obtain ⟨r, er, ha⟩ := rw4.row i a ea
        have lv : vs.length ≤ 100 := by
          rw [ia.length, List.length_map, List.length_take, tok4.len]
          omega
        refine ⟨rfl, _, rfl, a, _, rfl, .inl ⟨SqL.of (sm5 _ _ ha), fun u nu => ?_⟩⟩
        have hd5 := keepN (o' := .tup (r.map V.int)) hd nu
        have tk : Tk (upd H5 u (.tup (r.map V.int))) (upd (upd H5 u (.tup (r.map V.int))) d (.lst (vs ++ [.ref u]))) := (Tk.refl _).put hd5
        refine ⟨_, hd5, small1000 (by omega), Same.put (Same.new sm5 nu) nd, _, upd_same, ?_⟩
        rw [take_get er, List.map_append]
        exact ((ia.k ((Tk.refl H5).new nu)).k tk).append (.cons (Im.k (.tup upd_same (ImAll.of_ints _ _)) tk) .nil)
      · rintro H5 ⟨sm5, vs, hd, ia⟩
        rw [show t.take (rs.map V.ref).length = t by rw [List.length_map, rw4.len, List.take_length]] at ia
        refine ⟨d, _, rfl, .inl ⟨SqL.of hd, fun u nu => k _ t _ (.tup upd_same (ia.k ((Tk.refl H5).new nu))) tok4 ((P4.same sm5).new nu) ((k4.trans (Kp.same sm5)).new nu)⟩⟩

/-! ### the program's still, product_sum, moved, both -/
def spStillM : Sp := fun vs H Q _ => ∃ (m : V) (ss : List Int) (ws : List (Nat × Nat)), vs = [m] ∧ Im H m (mD ss ws) ∧ MOk ss ws ∧ ∀ (u : V) (H' : Hp), Im H' u (tD (stillI ss.length)) → Same H H' → Q u H'
def spPS : Sp := fun vs H Q _ => ∃ (a b : Addr) (r hs : List Int) (n : Nat), vs = [.ref a, .ref b] ∧ H a = some (.tup (r.map V.int)) ∧ H b = some (.tup (hs.map V.int)) ∧ r.length = n ∧ hs.length = n ∧ n ≤ 100 ∧ mostI 300 r ∧ mostI 300 hs ∧ ∀ H', Same H H' → Q (.int (dot r hs)) H'
def spMovedM : Sp := fun vs H Q _ => ∃ (m y z : V) (ss : List Int) (ws : List (Nat × Nat)) (t : List (List Int)) (hs : List Int), vs = [m, y, z] ∧ Im H m (mD ss ws) ∧ MOk ss ws ∧ Im H y (tD t) ∧ GT ss t ∧ Im H z (sD hs) ∧ COk ss hs ∧
  ∀ (u : V) (H' : Hp), Im H' u (sD (ledI ss t hs)) → Same H H' → Q u H'
def spBothM : Sp := fun vs H Q _ => ∃ (m y z : V) (ss : List Int) (ws : List (Nat × Nat)) (one other : List (List Int)), vs = [m, y, z] ∧ Im H m (mD ss ws) ∧ MOk ss ws ∧ Im H y (tD one) ∧ Im H z (tD other) ∧ GT ss one ∧ GT ss other ∧
  ∀ (u : V) (H' : Hp), Im H' u (tD (bothI ss one other)) → Same H H' → Q u H'
theorem cok_mostR {ss hs : List Int} (ok : ∀ s ∈ ss, SizeOk s) (h : COk ss hs) : mostI 300 hs := fun n hn => by
  obtain ⟨i, hi, rfl⟩ := List.getElem_of_mem hn
  obtain ⟨s, es⟩ := get_some (show i < ss.length by rw [← h.len]; exact hi)
  obtain ⟨a, b⟩ := h.low i _ s (List.getElem?_eq_getElem hi) es
  obtain ⟨_, c⟩ := (ok s (List.mem_of_getElem? es)).bnd
  exact Nat.lt_of_le_of_lt (show hs[i].natAbs ≤ 10 ^ 30 by omega) (by decide)
abbrev sc_stillN : List Str := ["machine", "registers", "i", "j"]
theorem sc_still : FnScope sc_stillN ["machine"] (defScope s_still) := ⟨rfl, rfl, rfl, by decide +kernel, rfl, by decide +kernel, by decide +kernel⟩
def cs_still : Scope := match defBody s_still with
  | [_, .Return (some (.Call _ [.ListComp _ _ sc _] _ _)) _] => sc
  | _ => defScope s_still
theorem fn_still {f : Addr} {fd : FuncData} (D : DefAt K mg "still" s_still ["machine"] f fd) (T : Blt mg) : FnOk P w K mg base CX0 1 f fd ["machine"] spStillM := by
  refine D.fn.ok sc_still (fun vs H Q E h => ?_) (fun cdv A outer s H vs Q E hr h => ?_)
  · obtain ⟨m, ss, ws, rfl, _⟩ := h
    rfl
  · obtain ⟨m, ss, ws, rfl, imm, ok, k⟩ := h
    refine ⟨_, (pss_cons (ps_set (i := 1) sc_still.nd rfl (.inr rfl) (pe_callTy cr_rangeV1 (by rfl) T.range (by decide +kernel) (pa_cons (pe_callB (call_lenK K rfl) (by rfl) T.len PySem.boot_len (pa_cons (pe_ix (ix_tupK K rfl) (pv 0) pe_int (fun _ _ => rfl)) pa_nil)) pa_nil)))
      (pss_one (ps_ret (pe_callTy (call_tupleK K rfl) (by rfl) T.tuple (by decide +kernel) (pa_cons (pe_lc (own := [("i", 2)]) rfl sc_still.nd (pi_rngVK K rfl (pv 1)) (blkOk_by (N := sc_stillN) (sc := defScope s_still) (by decide +kernel)) (fun _ _ _ _ _ => (pg_name (i := 2) sc_still.nd rfl (by first | exact .inl rfl | exact .inr rfl))) (fun _ _ _ _ _ => pts_nil) (fun _ _ _ _ _ => (pe_callTy (call_tupleK K rfl) (by rfl) T.tuple (by decide +kernel) (pa_cons (pe_lc (own := [("j", 3)]) rfl sc_still.nd (pi_rngVK K rfl (pv 1)) (blkOk_by (N := sc_stillN) (sc := relS cs_still (defScope s_still)) (by decide +kernel)) (fun _ _ _ _ _ => (pg_name (i := 3) sc_still.nd rfl (by first | exact .inl rfl | exact .inr rfl))) (fun _ _ _ _ _ => pts_nil) (fun _ _ _ _ _ => (pe_ifExp (pt_cmpR op_eq (pv 2) (pv 3) (nomark _)) pe_int pe_int))) pa_nil)))) pa_nil))))), ?_⟩
    obtain ⟨a, xs, rfl, ha, ia⟩ := id imm.tuple
    obtain ⟨b0, g0, im0⟩ := ia.get (i := 0) rfl
    obtain ⟨b, bs, rfl, hb, ib⟩ := id im0.tuple
    have ey := ib.ints
    subst ey
    have l6 := ok.six
    have lb : (ss.map V.int).length = ss.length := List.length_map ..
    refine ⟨_, rfl, a, _, 0, _, rfl, rfl, SqT.of ha, atI_nat (j := 0) g0, b, _, rfl, .inr (SqT.of hb), _, rfl, fun r nr => ?_⟩
    have sm0 : Same H (upd H r (.rng 0 ((ss.map V.int).length : Nat))) := Same.new (Same.refl H) nr
    have hr0 : (upd H r (.rng 0 ((ss.map V.int).length : Nat))) r = some (.rng 0 ((ss.map V.int).length : Nat)) := upd_same
    rw [lb] at sm0 hr0 ⊢
    generalize upd H r (.rng 0 (ss.length : Nat)) = H0 at *
    refine ⟨_, rfl, r, _, _, rfl, hr0, by omega, fun d nd => ?_⟩
    have ndH : H d = none := Same.free sm0 nd
    rw [show ((ss.length : Nat) : Int) - 0 = ((ss.length : Nat) : Int) by omega, Int.toNat_natCast]
    refine lc_range (lo := 0) (n := ss.length) (fun i H' => Same H0 H' ∧ ∃ vs : List V, H' d = some (.lst vs) ∧ ImAll H' vs (((stillI ss.length).take i).map sD)) ⟨Same.new (Same.refl H0) nd, [], upd_same, .nil⟩ ?_ ?_
    · rintro i H2 hi ⟨sm, vs, hd, ia⟩
      have lv : vs.length ≤ 100 := by
        rw [ia.length, List.length_map, List.length_take]
        omega
      refine ⟨rfl, _, rfl, r, _, _, rfl, sm _ _ hr0, by omega, fun g ng => ?_⟩
      rw [show ((ss.length : Nat) : Int) - 0 = ((ss.length : Nat) : Int) by omega, Int.toNat_natCast]
      refine lc_range (lo := 0) (n := ss.length) (fun j H' => Same H2 H' ∧ H' g = some (.lst ((((List.range ss.length).map fun j => if i = j then (1 : Int) else 0).take j).map V.int))) ⟨Same.new (Same.refl H2) ng, upd_same⟩ ?_ ?_
      · rintro j H3 hj ⟨sm3, hg⟩
        have nx : ∀ x : Int, (if i = j then (1 : Int) else 0) = x → ∃ l, H3 g = some (.lst l) ∧ l.length < sizeLine ∧ Same H2 (upd H3 g (.lst (l ++ [V.int x]))) ∧ (upd H3 g (.lst (l ++ [V.int x]))) g = some (.lst ((((List.range ss.length).map fun j => if i = j then (1 : Int) else 0).take (j + 1)).map V.int)) := fun x ex => by
          refine ⟨_, hg, small1000 (by rw [List.length_map, List.length_take]; omega), Same.put sm3 ng, ?_⟩
          rw [upd_same, ← ex, take_get (rm_get _ hj), List.map_append]
          rfl
        refine ⟨rfl, _, rfl, _, rfl, rfl, _, rfl, ite2 (fun h => ?_) (fun h => ?_)⟩
        · have e : i = j := by
            have z := V.int.inj (of_decide_eq_true h)
            omega
          exact nx 1 (if_pos e)
        · have e : i ≠ j := fun z => h (by rw [z]; exact decide_eq_true rfl)
          exact nx 0 (if_neg e)
      · rintro H3 ⟨sm3, hg⟩
        rw [rm_full] at hg
        refine ⟨g, _, rfl, .inl ⟨SqL.of hg, fun u nu => ?_⟩⟩
        have sm4 : Same H2 (upd H3 u (.tup (((List.range ss.length).map fun j => if i = j then (1 : Int) else 0).map V.int))) := Same.new sm3 nu
        have hd4 := sm4 _ _ hd
        have tk : Tk (upd H3 u (.tup (((List.range ss.length).map fun j => if i = j then (1 : Int) else 0).map V.int))) (upd (upd H3 u (.tup (((List.range ss.length).map fun j => if i = j then (1 : Int) else 0).map V.int))) d (.lst (vs ++ [.ref u]))) := (Tk.refl _).put hd4
        refine ⟨_, hd4, small1000 (by omega), Same.put (sm.trans sm4) nd, _, upd_same, ?_⟩
        unfold stillI
        rw [take_get (rm_get _ hi), List.map_append]
        exact ((ia.k (Tk.same sm4)).k tk).append (.cons (Im.k (.tup upd_same (ImAll.of_ints _ _)) tk) .nil)
    · rintro H2 ⟨sm, vs, hd, ia⟩
      unfold stillI at ia
      rw [rm_full] at ia
      refine ⟨d, _, rfl, .inl ⟨SqL.of hd, fun u nu => k _ _ (.tup upd_same (ia.k ((Tk.refl H2).new nu))) (Same.new (sm0.trans sm) nu)⟩⟩
theorem k_still {f : Addr} {fd : FuncData} (F : Fun K "still" "still" s_still f fd) : KBinds K fd ["machine"] ["machine"] kg1 kg1 := by
  obtain ⟨oc, od, kV, doc, pm, an, cdv, ct, osl, rfl, lk, hcd⟩ := F.ex
  refine ⟨fun s us ws _ hl => ?_, kg1_rel⟩
  match us, ws, hl with
  | [], [a], _ => exact .of_eq rfl
abbrev sc_product_sumN : List Str := ["row", "column", "entry", "rest"]
theorem sc_product_sum : FnScope sc_product_sumN ["row", "column"] (defScope s_product_sum) := ⟨rfl, rfl, rfl, by decide +kernel, rfl, by decide +kernel, by decide +kernel⟩
theorem ok_ps {f : Addr} {fd : FuncData} (D : DefAt K mg "product_sum" s_product_sum ["row", "column"] f fd) (T : Blt mg) (T_zip : mg "zip" = none) (T_sum : mg "sum" = none) : Cal P w K mg base 1 "product_sum" spPS := by
  refine cal_of D sc_product_sum (fun vs H Q E h => ?_) (fun cdv A outer s H vs Q E hr h => ?_)
  · obtain ⟨a, b, r, hs, n, rfl, _⟩ := h
    rfl
  · obtain ⟨a, e, r, hs, n, rfl, ha, he, rl, lh, n100, rm, mh, k⟩ := h
    refine ⟨_, (pss_one (ps_ret (pe_callB (cr_sumK K rfl rfl) (by rfl) T_sum (by decide +kernel) (pa_cons (pe_lc (own := [("entry", 2), ("rest", 3)]) rfl sc_product_sum.nd (pi_zipG K rfl .t .t (by rfl) T_zip (pa_cons (pv 0) (pa_cons (pv 1) pa_nil))) (blkOk_by (N := sc_product_sumN) (sc := defScope s_product_sum) (by decide +kernel)) (fun _ _ _ _ _ => (pg_tupK (n := 2) K rfl rfl (pgs_cons (pg_name (i := 2) sc_product_sum.nd rfl (by first | exact .inl rfl | exact .inr rfl)) (pgs_cons (pg_name (i := 3) sc_product_sum.nd rfl (by first | exact .inl rfl | exact .inr rfl)) pgs_nil)))) (fun _ _ _ _ _ => pts_nil) (fun _ _ _ _ _ => (pe_op op_mulW (pv 2) (pv 3)))) pa_nil)))), ?_⟩
    refine ⟨_, rfl, _, rfl, a, e, _, _, rfl, SqS.of_t ha, SqS.of_t he, fun g ng => ?_⟩
    refine lc_it (walk_zipG (n := n) (by rw [List.length_map, List.length_map]; omega)) (fun j H' => Same H H' ∧ H' g = some (.lst (((List.zipWith (fun e h => e * h) r hs).take j).map V.int))) ⟨Same.new (Same.refl H) ng, upd_same⟩ (fun j H' _ z => ⟨SqS.of_t (z.1 _ _ ha), SqS.of_t (z.1 _ _ he)⟩) ?_ ?_
    · rintro j y H4 H5 hj ⟨sm4, hg⟩ ⟨T2, y1, y2, rfl, nT2, rfl, f1, f2⟩
      obtain ⟨en, hen, rfl⟩ := map_get f1
      obtain ⟨ho, hho, rfl⟩ := map_get f2
      have w := mul_wide (rm en (List.mem_of_getElem? hen)) (mh ho (List.mem_of_getElem? hho)) (by decide)
      refine ⟨T2, _, rfl, SqT.of upd_same, rfl, _, _, rfl, _, _, rfl, rfl, rfl, ?_⟩
      refine ⟨_, rfl, _, rfl, _, _, rfl, rfl, w, _, keepN hg nT2, small1000 (by rw [List.length_map, List.length_take]; omega), Same.put (Same.new sm4 nT2) ng, ?_⟩
      rw [upd_same, take_get (zw_get (f := fun e h : Int => e * h) hen hho), List.map_append]
      rfl
    · rintro H4 ⟨sm4, hg⟩
      have full : (List.zipWith (fun e h : Int => e * h) r hs).take n = List.zipWith (fun e h => e * h) r hs := List.take_of_length_le (Nat.le_of_eq (zw_len rl lh))
      rw [full] at hg
      exact ⟨g, _, rfl, SqL.of hg, k H4 sm4⟩
abbrev sc_movedN : List Str := ["machine", "table", "contents", "size", "row"]
theorem sc_moved : FnScope sc_movedN ["machine", "table", "contents"] (defScope s_moved) := ⟨rfl, rfl, rfl, by decide +kernel, rfl, by decide +kernel, by decide +kernel⟩
theorem fn_moved {f : Addr} {fd : FuncData} (D : DefAt K mg "moved" s_moved ["machine", "table", "contents"] f fd) (T : Blt mg) (T_zip : mg "zip" = none) (c_product_sum : Cal P w K mg base 1 "product_sum" spPS) : FnOk P w K mg base CX0 2 f fd ["machine", "table", "contents"] spMovedM := by
  refine D.fn.ok sc_moved (fun vs H Q E h => ?_) (fun cdv A outer s H vs Q E hr h => ?_)
  · obtain ⟨m, y, z, ss, ws, t, hs, rfl, _⟩ := h
    rfl
  · obtain ⟨m, y, z, ss, ws, t, hs, rfl, imm, ok, imy, gt, imz, ch, k⟩ := h
    refine ⟨_, (pss_one (ps_ret (pe_callTy (call_tupleK K rfl) (by rfl) T.tuple (by decide +kernel) (pa_cons (pe_lc (own := [("size", 3), ("row", 4)]) rfl sc_moved.nd (pi_zipG K rfl .t .t (by rfl) T_zip (pa_cons (pe_ix (ix_tupK K rfl) (pv 0) pe_int (fun _ _ => rfl)) (pa_cons (pv 1) pa_nil))) (blkOk_by (N := sc_movedN) (sc := defScope s_moved) (by decide +kernel)) (fun _ _ _ _ _ => (pg_tupK (n := 2) K rfl rfl (pgs_cons (pg_name (i := 3) sc_moved.nd rfl (by first | exact .inl rfl | exact .inr rfl)) (pgs_cons (pg_name (i := 4) sc_moved.nd rfl (by first | exact .inl rfl | exact .inr rfl)) pgs_nil)))) (fun _ _ _ _ _ => pts_nil) (fun _ _ _ _ _ => (pe_op op_mod (pe_c c_product_sum hr (by decide) rfl (pa_cons (pv 4) (pa_cons (pv 2) pa_nil))) (pv 3)))) pa_nil)))), ?_⟩
    obtain ⟨a0, xs, rfl, ha0, ia⟩ := id imm.tuple
    obtain ⟨b0, g0, im0⟩ := ia.get (i := 0) rfl
    obtain ⟨b, bs, rfl, hb, ib⟩ := im0.tuple
    have ey := ib.ints
    subst ey
    obtain ⟨c, cs, rfl, hc, ic⟩ := imy.tuple
    obtain ⟨e, es, rfl, he, ie⟩ := imz.tuple
    have ey := ie.ints
    subst ey
    have tsh := gt.sh ok.size
    have l6 := ok.six
    have lc0 : cs.length = ss.length := by rw [ic.length, List.length_map, tsh.len]
    refine ⟨_, rfl, a0, _, 0, _, rfl, rfl, SqT.of ha0, atI_nat (j := 0) g0, _, rfl, b, c, _, _, rfl, SqS.of_t hb, SqS.of_t hc, fun d nd => ?_⟩
    refine lc_it (walk_zipG (n := ss.length) (by rw [List.length_map]; omega)) (fun i H' => Same H H' ∧ H' d = some (.lst (((ledI ss t hs).take i).map V.int))) ⟨Same.new (Same.refl H) nd, upd_same⟩ (fun i H' _ z => ⟨SqS.of_t (z.1 _ _ hb), SqS.of_t (z.1 _ _ hc)⟩) ?_ ?_
    · rintro i x H2 H3 hi ⟨sm, hd⟩ ⟨T1, x1, x2, rfl, nT, rfl, e2, e1⟩
      obtain ⟨s, hs', rfl⟩ := map_get e2
      obtain ⟨s2, _⟩ := (ok.size s (List.mem_of_getElem? hs')).bnd
      obtain ⟨r, hr'⟩ : ∃ r, t[i]? = some r := ⟨t[i]'(by rw [tsh.len]; exact hi), List.getElem?_eq_getElem _⟩
      obtain ⟨a, e1', ha⟩ := Im.row (H := H) ic hr'
      rw [show cs[i]? = some x2 from e1] at e1'
      cases e1'
      have rl := tsh.row r (List.mem_of_getElem? hr')
      have rm := tsh.most r (List.mem_of_getElem? hr')
      have sm3 : Same H (upd H2 T1 (.tup [.int s, .ref a])) := Same.new sm nT
      have hd3 : (upd H2 T1 (.tup [.int s, .ref a])) d = some (.lst (((ledI ss t hs).take i).map V.int)) := keepN hd nT
      refine ⟨T1, _, rfl, SqT.of upd_same, rfl, _, _, rfl, _, _, rfl, rfl, rfl, ?_⟩
      generalize upd H2 T1 (.tup [.int s, .ref a]) = H3 at *
      refine ⟨_, rfl, _, rfl, a, e, r, hs, ss.length, rfl, sm3 _ _ ha, sm3 _ _ he, rl, ch.len, by omega, rm, cok_mostR ok.size ch, fun H4 sm4 => ?_⟩
      refine ⟨_, rfl, _, _, rfl, rfl, (show (0 : Int) < s by omega), _, sm4 _ _ hd3, small1000 (by rw [List.length_map, List.length_take]; omega), Same.put (sm3.trans sm4) nd, ?_⟩
      unfold ledI
      rw [upd_same, take_get (zw_get (f := fun (row : List Int) (s : Int) => dot row hs % s) hr' hs'), List.map_append]
      rfl
    · rintro H2 ⟨sm, hd⟩
      have full : (ledI ss t hs).take ss.length = ledI ss t hs := List.take_of_length_le (Nat.le_of_eq (zw_len tsh.len rfl))
      rw [full] at hd
      exact ⟨d, _, rfl, .inl ⟨SqL.of hd, fun u nu => k _ _ (.tup upd_same (ImAll.of_ints _ _)) (Same.new sm nu)⟩⟩
theorem k_moved {f : Addr} {fd : FuncData} (F : Fun K "moved" "moved" s_moved f fd) : KBinds K fd ["machine", "table", "contents"] ["contents", "table", "machine"] kg321 kg321 := by
  obtain ⟨oc, od, kV, doc, pm, an, cdv, ct, osl, rfl, lk, hcd⟩ := F.ex
  refine ⟨fun s us ws _ hl => ?_, kg321_rel⟩
  match us, ws, hl with
  | [], [a, b, c], _ => exact .of_eq rfl
abbrev sc_bothN : List Str := ["machine", "one", "other", "columns", "size", "row", "column"]
theorem sc_both : FnScope sc_bothN ["machine", "one", "other"] (defScope s_both) := ⟨rfl, rfl, rfl, by decide +kernel, rfl, by decide +kernel, by decide +kernel⟩
def cs_both : Scope := match defBody s_both with
  | [_, .Return (some (.Call _ [.ListComp _ _ sc _] _ _)) _] => sc
  | _ => defScope s_both
theorem colOf_ints (rows : List (Addr × List Int)) (j : Nat) (h : ∀ r ∈ rows, j < r.2.length) : colOf (rows.map fun r => (r.1, r.2.map V.int)) j = (colI (rows.map (·.2)) j).map V.int := by
  unfold colOf colI
  rw [List.map_map, List.map_map, List.map_map]
  refine List.map_congr_left fun r hr => ?_
  show (r.2.map V.int).getD j .non = V.int (r.2.getD j 0)
  rw [List.getD_eq_getElem?_getD, List.getD_eq_getElem?_getD, List.getElem?_map, List.getElem?_eq_getElem (h r hr)]
  rfl
theorem im_rows {H : Hp} : ∀ {vs : List V} {t : List (List Int)}, ImAll H vs (t.map sD) → ∃ as : List Addr, vs = as.map V.ref ∧ as.length = t.length ∧ ∀ (i : Nat) (a : Addr) (r : List Int), as[i]? = some a → t[i]? = some r → H a = some (.tup (r.map V.int))
  | [], [], _ => ⟨[], rfl, rfl, fun i a r h => by simp at h⟩
  | v :: vs, r :: t, h => by
    cases h with
    | cons a b =>
      obtain ⟨as, e1, e2, e3⟩ := im_rows b
      obtain ⟨x, xs, rfl, hx, ix⟩ := a.tuple
      have ey := ix.ints
      subst ey
      refine ⟨x :: as, by rw [e1]; rfl, by rw [List.length_cons, List.length_cons, e2], fun i a' r' h1 h2 => ?_⟩
      cases i with
      | zero =>
        cases Option.some.inj h1
        cases Option.some.inj h2
        exact hx
      | succ i => exact e3 i a' r' (by simpa using h1) (by simpa using h2)
theorem fn_both {f : Addr} {fd : FuncData} (D : DefAt K mg "both" s_both ["machine", "one", "other"] f fd) (T : Blt mg) (T_zip : mg "zip" = none) (c_product_sum : Cal P w K mg base 1 "product_sum" spPS) : FnOk P w K mg base CX0 2 f fd ["machine", "one", "other"] spBothM := by
  refine D.fn.ok sc_both (fun vs H Q E h => ?_) (fun cdv A outer s H vs Q E hr h => ?_)
  · obtain ⟨m, y, z, ss, ws, one, other, rfl, _⟩ := h
    rfl
  · obtain ⟨m, y, z, ss, ws, one, other, rfl, imm, ok, imy, imz, gt1, gt2, k⟩ := h
    refine ⟨_, (pss_cons (ps_set (i := 3) sc_both.nd rfl (.inr rfl) (pe_listZipS K rfl rfl (by rfl) T.list (by rfl) T_zip (pv 1)))
      (pss_one (ps_ret (pe_callTy (call_tupleK K rfl) (by rfl) T.tuple (by decide +kernel) (pa_cons (pe_lc (own := [("size", 4), ("row", 5)]) rfl sc_both.nd (pi_zipG K rfl .t .t (by rfl) T_zip (pa_cons (pe_ix (ix_tupK K rfl) (pv 0) pe_int (fun _ _ => rfl)) (pa_cons (pv 2) pa_nil))) (blkOk_by (N := sc_bothN) (sc := defScope s_both) (by decide +kernel)) (fun _ _ _ _ _ => (pg_tupK (n := 2) K rfl rfl (pgs_cons (pg_name (i := 4) sc_both.nd rfl (by first | exact .inl rfl | exact .inr rfl)) (pgs_cons (pg_name (i := 5) sc_both.nd rfl (by first | exact .inl rfl | exact .inr rfl)) pgs_nil)))) (fun _ _ _ _ _ => pts_nil) (fun _ _ _ _ _ => (pe_callTy (call_tupleK K rfl) (by rfl) T.tuple (by decide +kernel) (pa_cons (pe_lc (own := [("column", 6)]) rfl sc_both.nd (pi_listK K rfl (pv 3)) (blkOk_by (N := sc_bothN) (sc := relS cs_both (defScope s_both)) (by decide +kernel)) (fun _ _ _ _ _ => (pg_name (i := 6) sc_both.nd rfl (by first | exact .inl rfl | exact .inr rfl))) (fun _ _ _ _ _ => pts_nil) (fun _ _ _ _ _ => (pe_op op_mod (pe_c c_product_sum hr (by decide) rfl (pa_cons (pv 5) (pa_cons (pv 6) pa_nil))) (pv 4)))) pa_nil)))) pa_nil))))), ?_⟩
    obtain ⟨a0, xs, rfl, ha0, ia⟩ := id imm.tuple
    obtain ⟨b0, g0, im0⟩ := ia.get (i := 0) rfl
    obtain ⟨b, bs, rfl, hb, ib⟩ := im0.tuple
    have ey := ib.ints
    subst ey
    obtain ⟨c, cs, rfl, hc, ic⟩ := imy.tuple
    obtain ⟨e, es, rfl, he, ie⟩ := imz.tuple
    have ts1 := gt1.sh ok.size
    have ts2 := gt2.sh ok.size
    have l6 := ok.six
    have l1 := ok.one
    have le0 : es.length = ss.length := by rw [ie.length, List.length_map, ts2.len]
    obtain ⟨as, rfl, las, has⟩ := im_rows ic
    have lz : (as.zip one).length = ss.length := by rw [List.length_zip, las, ts1.len]; omega
    have rowsEq : ((as.zip one).map fun r => (r.1, r.2.map V.int)).map (fun r => V.ref r.1) = as.map V.ref := by
      rw [List.map_map]
      have : (as.zip one).map (·.1) = as := List.map_fst_zip (by omega)
      conv => rhs; rw [← this]
      rw [List.map_map]
      rfl
    refine ⟨_, rfl, c, (as.zip one).map (fun r => (r.1, r.2.map V.int)), ss.length, rfl, by rw [rowsEq]; exact SqT.of hc, fun r hr => ?_, by omega, by omega, ?_, by rw [List.length_map, lz]; exact l6, fun cl l H1 lcl sm1 nl ncl hl hcl => ?_⟩
    · obtain ⟨x, hx, rfl⟩ := List.mem_map.mp hr
      obtain ⟨i, hi, rfl⟩ := List.getElem_of_mem hx
      have hi' : i < one.length := by rw [ts1.len]; omega
      rw [List.getElem_zip]
      refine ⟨SqT.of (has i _ _ (List.getElem?_eq_getElem _) (List.getElem?_eq_getElem hi')), ?_⟩
      show ((one[i]).map V.int).length = _
      rw [List.length_map]
      exact ts1.row _ (List.getElem_mem hi')
    · intro z
      have := congrArg List.length z
      rw [List.length_map, lz, List.length_nil] at this
      omega
    have hcol : ∀ (j : Nat) (b : Addr), cl[j]? = some b → H1 b = some (.tup ((colI one j).map V.int)) := fun j b hj => by
      have lj : j < ss.length := by rw [← lcl]; exact (List.getElem?_eq_some_iff.mp hj).1
      rw [hcl j b hj, colOf_ints _ _ fun r hr => ?_, List.map_snd_zip (by omega)]
      obtain ⟨i, hi, rfl⟩ := List.getElem_of_mem hr
      rw [List.getElem_zip]
      show j < (one[i]'(by rw [ts1.len]; omega)).length
      rw [ts1.row _ (List.getElem_mem _)]
      exact lj
    refine ⟨_, rfl, a0, _, 0, _, rfl, rfl, SqT.of (sm1 _ _ ha0), atI_nat (j := 0) g0, _, rfl, b, e, _, _, rfl, SqS.of_t (sm1 _ _ hb), SqS.of_t (sm1 _ _ he), fun D nD => ?_⟩
    have nDH : H D = none := Same.free sm1 nD
    refine lc_it (walk_zipG (n := ss.length) (by rw [List.length_map]; omega)) (fun i H' => Same H1 H' ∧ ∃ vs : List V, H' D = some (.lst vs) ∧ ImAll H' vs (((bothI ss one other).take i).map sD)) ⟨Same.new (Same.refl H1) nD, [], upd_same, .nil⟩ (fun i H' _ z => ⟨SqS.of_t (z.1 _ _ (sm1 _ _ hb)), SqS.of_t (z.1 _ _ (sm1 _ _ he))⟩) ?_ ?_
    · rintro i x H2 H3 hi ⟨sm, vs, hD, iv⟩ ⟨T1, x1, x2, rfl, nT, rfl, e2, e1⟩
      have lv : vs.length ≤ 100 := by
        rw [iv.length, List.length_map, List.length_take]
        omega
      obtain ⟨s, hs', rfl⟩ := map_get e2
      obtain ⟨s2, _⟩ := (ok.size s (List.mem_of_getElem? hs')).bnd
      obtain ⟨r, hr'⟩ : ∃ r, other[i]? = some r := ⟨other[i]'(by rw [ts2.len]; exact hi), List.getElem?_eq_getElem _⟩
      obtain ⟨a, e1', ha⟩ := Im.row (H := H) ie hr'
      rw [show es[i]? = some x2 from e1] at e1'
      cases e1'
      have rl := ts2.row r (List.mem_of_getElem? hr')
      have rm := ts2.most r (List.mem_of_getElem? hr')
      have sm3 : Same H1 (upd H2 T1 (.tup [.int s, .ref a])) := Same.new sm nT
      have iv3 := iv.k ((Tk.refl H2).new (o := .tup [.int s, .ref a]) nT)
      have hD3 : (upd H2 T1 (.tup [.int s, .ref a])) D = some (.lst vs) := keepN hD nT
      refine ⟨T1, _, rfl, SqT.of upd_same, rfl, _, _, rfl, _, _, rfl, rfl, rfl, ?_⟩
      generalize upd H2 T1 (.tup [.int s, .ref a]) = H3 at *
      refine ⟨_, rfl, l, rfl, ⟨_, SqL.of (sm3 _ _ hl)⟩, fun g ng => ?_⟩
      refine lc_list (K := K) (a := l) (xs := cl.map V.ref) (fun j H' => Same H3 H' ∧ H' g = some (.lst ((((List.range ss.length).map fun j => dot r (colI one j) % s).take j).map V.int))) ⟨Same.new (Same.refl H3) ng, upd_same⟩ (fun j H' _ z => SqL.of (z.1 _ _ (sm3 _ _ hl))) ?_ ?_
      · rintro j y H4 hy ⟨sm4, hg⟩
        obtain ⟨cb, hcb, rfl⟩ := map_get hy
        have lj : j < ss.length := by rw [← lcl]; exact (List.getElem?_eq_some_iff.mp hcb).1
        have sm4H := (sm1.trans sm3).trans sm4
        have cl' : (colI one j).length = ss.length := by unfold colI; rw [List.length_map, ts1.len]
        have cm : mostI 300 (colI one j) := fun n hn => by
          unfold colI at hn
          obtain ⟨rr, hrr, rfl⟩ := List.mem_map.mp hn
          exact getD_most (ts1.most rr hrr) j
        refine ⟨rfl, _, rfl, _, rfl, a, cb, r, colI one j, ss.length, rfl, sm4H _ _ ha, (sm3.trans sm4) _ _ (hcol j cb hcb), rl, cl', by omega, rm, cm, fun H5 sm5 => ?_⟩
        refine ⟨_, rfl, _, _, rfl, rfl, (show (0 : Int) < s by omega), _, sm5 _ _ hg, small1000 (by rw [List.length_map, List.length_take]; omega), Same.put (sm4.trans sm5) ng, ?_⟩
        rw [upd_same, take_get (rm_get (fun j => dot r (colI one j) % s) lj), List.map_append]
        rfl
      · rintro H4 ⟨sm4, hg⟩
        rw [List.length_map, lcl, rm_full] at hg
        refine ⟨g, _, rfl, .inl ⟨SqL.of hg, fun u nu => ?_⟩⟩
        have sm5 : Same H3 (upd H4 u (.tup (((List.range ss.length).map fun j => dot r (colI one j) % s).map V.int))) := Same.new sm4 nu
        have hD5 := sm5 _ _ hD3
        generalize hU : upd H4 u (.tup (((List.range ss.length).map fun j => dot r (colI one j) % s).map V.int)) = H5 at *
        have hu5 : H5 u = some (.tup (((List.range ss.length).map fun j => dot r (colI one j) % s).map V.int)) := by rw [← hU]; exact upd_same
        have tk : Tk H5 (upd H5 D (.lst (vs ++ [.ref u]))) := (Tk.refl _).put hD5
        refine ⟨_, hD5, small1000 (by omega), Same.put (sm3.trans sm5) nD, vs ++ [.ref u], upd_same, ?_⟩
        rw [take_get (both_get hr' hs'), List.map_append]
        exact ((iv3.k (Tk.same sm5)).k tk).append (.cons (Im.k (.tup hu5 (ImAll.of_ints _ _)) tk) .nil)
    · rintro H2 ⟨sm, vs, hD, iv⟩
      have full : (bothI ss one other).take ss.length = bothI ss one other := List.take_of_length_le (Nat.le_of_eq (both_sq gt2.sq).len)
      rw [full] at iv
      refine ⟨D, _, rfl, .inl ⟨SqL.of hD, fun u nu => ?_⟩⟩
      exact k _ _ (.tup upd_same (iv.k ((Tk.refl H2).new nu))) (Same.new (sm1.trans sm) nu)
theorem k_both {f : Addr} {fd : FuncData} (F : Fun K "both" "both" s_both f fd) : KBinds K fd ["machine", "one", "other"] ["other", "one", "machine"] kg321 kg321 := by
  obtain ⟨oc, od, kV, doc, pm, an, cdv, ct, osl, rfl, lk, hcd⟩ := F.ex
  refine ⟨fun s us ws _ hl => ?_, kg321_rel⟩
  match us, ws, hl with
  | [], [a, b, c], _ => exact .of_eq rfl

/-! ### the program's table_of, deed_table -/
def spTabOfM : Sp := fun vs H Q _ => ∃ (m y : V) (ss : List Int) (ws : List (Nat × Nat)) (l : List (Nat × Nat × Int)), vs = [m, y] ∧ Im H m (mD ss ws) ∧ MOk ss ws ∧ Im H y (pD l) ∧ (∀ d ∈ l, DOk ss ws d) ∧ l.length ≤ 1100 ∧
  ∀ (u : V) (H' : Hp), Im H' u (tD (tabI ss l)) → Same H H' → Q u H'
def spDeedTab : Sp := fun vs H Q _ => ∃ (m y : V) (ss : List Int) (ws : List (Nat × Nat)) (d : Nat × Nat × Int), vs = [m, y] ∧ Im H m (mD ss ws) ∧ MOk ss ws ∧ Im H y (dD d) ∧ DOk ss ws d ∧
  ∀ (u : V) (H' : Hp), Im H' u (tD (deedI ss d)) → Same H H' → Q u H'
def kg21b {α : Type} : List α → List α → List α
  | [], [a, b] => [b, a]
  | _, _ => []
theorem kg21b_rel {vs zs : List V} {us ws : List Value} (h1 : Vals vs us) (h2 : Vals zs ws) : Vals (kg21b vs zs) (kg21b us ws) := by
  cases h1 with
  | cons _ _ => exact .nil
  | nil =>
    cases h2 with
    | nil => exact .nil
    | cons a h2 =>
      cases h2 with
      | nil => exact .nil
      | cons b h2 =>
        cases h2 with
        | nil => exact .cons b (.cons a .nil)
        | cons _ _ => exact .nil
abbrev sc_table_ofN : List Str := ["machine", "program", "sizes", "rows", "j", "i", "c", "row", "kept", "given"]
theorem sc_table_of : FnScope sc_table_ofN ["machine", "program"] (defScope s_table_of) := ⟨rfl, rfl, rfl, by decide +kernel, rfl, by decide +kernel, by decide +kernel⟩
theorem fn_table_of {f : Addr} {fd : FuncData} (D : DefAt K mg "table_of" s_table_of ["machine", "program"] f fd) (T : Blt mg) (T_zip : mg "zip" = none) (c_still : Cal P w K mg base 1 "still" spStillM) : FnOk P w K mg base CX0 2 f fd ["machine", "program"] spTabOfM := by
  refine D.fn.ok sc_table_of (fun vs H Q E h => ?_) (fun cdv A outer s H vs Q E hr h => ?_)
  · obtain ⟨m, y, ss, ws, l, rfl, _⟩ := h
    rfl
  · obtain ⟨m, y, ss, wsM, l, rfl, imm, mok, imy, dok, l1100, k⟩ := h
    have ok := mok.size
    have l100 : ss.length ≤ 100 := Nat.le_trans mok.six (by decide)
    have dl : ∀ d ∈ l, DIn ss d := fun d hd => (dok d hd).din mok
    have dm : ∀ d ∈ l, d.2.2.natAbs ≤ 10 ^ 60 := fun d hd => (dok d hd).most
    refine ⟨_, (pss_cons (ps_set (i := 2) sc_table_of.nd rfl (.inr rfl) (pe_ix (ix_tupK K rfl) (pv 0) pe_int (fun _ _ => rfl)))
      (pss_cons (ps_setLc (i := 3) (own := [("row", 7)]) rfl sc_table_of.nd rfl rfl (sw_true rfl rfl rfl (by decide +kernel)) (pi_tupK K rfl (pe_c c_still hr (by decide) rfl (pa_cons (pv 0) pa_nil))) (blkOk_by (N := sc_table_ofN) (sc := defScope s_table_of) (by decide +kernel)) (fun _ _ _ _ _ => (pg_name (i := 7) sc_table_of.nd rfl (by first | exact .inl rfl | exact .inr rfl))) (fun _ _ _ _ _ => pts_nil) (fun _ _ _ _ _ => (pe_callTy (call_listK K rfl) (by rfl) T.list (by decide +kernel) (pa_cons (pv 7) pa_nil))))
      (pss_cons (ps_for PassesOwn.never rfl (pi_tupK K rfl (pv 1)) (pg_tup rfl (pgs_cons (pg_name (i := 4) sc_table_of.nd rfl (.inl rfl)) (pgs_cons (pg_name (i := 5) sc_table_of.nd rfl (.inr rfl)) (pgs_cons (pg_name (i := 6) sc_table_of.nd rfl (.inr rfl)) pgs_nil)))) (pss_one (ps_asg (pe_lc (own := [("kept", 8), ("given", 9)]) rfl sc_table_of.nd (pi_zipG K rfl .l .l (by rfl) T_zip (pa_cons (pe_ix (ix_listK K rfl) (pv 3) (pv 5) (fun _ _ => rfl)) (pa_cons (pe_ix (ix_listK K rfl) (pv 3) (pv 4) (fun _ _ => rfl)) pa_nil))) (blkOk_by (N := sc_table_ofN) (sc := defScope s_table_of) (by decide +kernel)) (fun _ _ _ _ _ => (pg_tupK (n := 2) K rfl rfl (pgs_cons (pg_name (i := 8) sc_table_of.nd rfl (by first | exact .inl rfl | exact .inr rfl)) (pgs_cons (pg_name (i := 9) sc_table_of.nd rfl (by first | exact .inl rfl | exact .inr rfl)) pgs_nil)))) (fun _ _ _ _ _ => pts_nil) (fun _ _ _ _ _ => (pe_op op_mod (pe_op op_add (pv 8) (pe_op op_mulW (pv 6) (pv 9))) (pe_ix (ix_tupK K rfl) (pv 2) (pv 5) (fun _ _ => rfl))))) (pg_sub (pv 3) (pv 5) set_list))))
      (pss_one (ps_ret (pe_callTy (call_tupleK K rfl) (by rfl) T.tuple (by decide +kernel) (pa_cons (pe_lc (own := [("row", 7)]) rfl sc_table_of.nd (pi_listK K rfl (pv 3)) (blkOk_by (N := sc_table_ofN) (sc := defScope s_table_of) (by decide +kernel)) (fun _ _ _ _ _ => (pg_name (i := 7) sc_table_of.nd rfl (by first | exact .inl rfl | exact .inr rfl))) (fun _ _ _ _ _ => pts_nil) (fun _ _ _ _ _ => (pe_callTy (call_tupleK K rfl) (by rfl) T.tuple (by decide +kernel) (pa_cons (pv 7) pa_nil)))) pa_nil))))))), ?_⟩
    obtain ⟨a0, xs0, rfl, ha0, ia0⟩ := id imm.tuple
    obtain ⟨b0, g0, im0⟩ := ia0.get (i := 0) rfl
    obtain ⟨b, bs, rfl, hb, ib⟩ := id im0.tuple
    have ey := ib.ints
    subst ey
    obtain ⟨c, cs, rfl, hc, ic⟩ := imy.tuple
    refine ⟨_, rfl, a0, _, 0, _, rfl, rfl, SqT.of ha0, atI_nat (j := 0) g0, ?_⟩
    refine ⟨_, rfl, _, ss, wsM, rfl, imm, mok, fun u H1 iu sm1 => ?_⟩
    obtain ⟨e, es, rfl, he, ie⟩ := iu.tuple
    have el : es.length = ss.length := by rw [ie.length, List.length_map, (still_sq _).len]
    refine ⟨e, rfl, ⟨_, SqT.of he⟩, fun R nR => ?_⟩
    have nRH : H R = none := Same.free sm1 nR
    have nRb : R ≠ b := fun z => by rw [z, sm1 _ _ hb] at nR; cases nR
    refine lc_tup (K := K) (a := e) (xs := es) (fun i H' => Same H1 H' ∧ ∃ rs : List Addr, Rws b b R H' rs ((stillI ss.length).take i) ∧ ∀ a ∈ rs, H1 a = none) ⟨Same.new (Same.refl H1) nR, [], ⟨upd_same, rfl, fun i a z => by simp at z, List.nodup_nil, fun a z => by cases z⟩, fun a z => by cases z⟩ (fun i H' _ z => SqT.of (z.1 _ _ he)) ?_ ?_
    · rintro i v H2 hv ⟨sm, rs, rw1, fr⟩
      have li : i < ss.length := by rw [← el]; exact (List.getElem?_eq_some_iff.mp hv).1
      obtain ⟨r, hr', rl⟩ := (still_sq ss.length).get li
      obtain ⟨a, e1, ha⟩ := Im.row ie hr'
      rw [hv] at e1
      cases e1
      have lr : rs.length ≤ 100 := by
        rw [rw1.len, List.length_take]
        omega
      refine ⟨rfl, _, rfl, a, _, rfl, .inr (SqT.of (sm _ _ ha)), fun g ng => ?_⟩
      have sg : Same H2 (upd H2 g (.lst (r.map V.int))) := Same.new (Same.refl H2) ng
      have rw3 := rw1.same sg
      have gR : g ≠ R := fun z => by rw [z, rw1.top] at ng; cases ng
      have gN : g ∉ rs := fun m => by
        obtain ⟨i, hi, e⟩ := List.getElem_of_mem m
        obtain ⟨r, _, h2⟩ := rw1.row i g (by rw [List.getElem?_eq_getElem hi, e])
        rw [h2] at ng
        cases ng
      refine ⟨_, rw3.top, small1000 (by rw [List.length_map]; omega), Same.put (sm.trans sg) nR, rs ++ [g], ?_, fun a ha => ?_⟩
      · rw [take_get hr']
        have hbg : g ≠ b := fun z => by rw [z, (sm1.trans sm) _ _ hb] at ng; cases ng
        exact rw3.put ⟨nRb, nRb⟩ upd_same gN ⟨gR, hbg, hbg⟩
      · rcases List.mem_append.mp ha with ha | ha
        · exact fr a ha
        · rw [List.mem_singleton.mp ha]
          exact Same.free sm ng
    rintro H2 ⟨sm2, rs, rw2, fr⟩
    rw [show (stillI ss.length).take es.length = stillI ss.length by rw [el]; exact List.take_of_length_le (Nat.le_of_eq (still_sq _).len)] at rw2
    have s02 := sm1.trans sm2
    refine ⟨_, rfl, c, rfl, ⟨_, SqT.of (s02 _ _ hc)⟩, for_tup (K := K) (a := c) (xs := cs) (fun t σ H' => ∃ (v3 v4 v5 : Option V) (rs : List Addr), σ = [some (.ref a0), some (.ref c), some (.ref b), some (.ref R), v3, v4, v5, none, none, none] ∧ Same H H' ∧ Rws b b R H' rs (tabI ss (l.take t)) ∧ ∀ a ∈ rs, H a = none)
      ⟨none, none, none, rs, rfl, s02, rw2, fun a ha => Same.free sm1 (fr a ha)⟩ (fun t σ H' _ ⟨_, _, _, _, _, z, _⟩ => SqT.of (z _ _ hc)) ?_ ?_⟩
    · rintro t y σ H3 hy ⟨v3, v4, v5, rs, rfl, sm3, rw3, fr3⟩
      have lt : t < l.length := by
        have := (List.getElem?_eq_some_iff.mp hy).1
        rw [ic.length, List.length_map] at this
        exact this
      obtain ⟨d, hd⟩ : ∃ d, l[t]? = some d := ⟨l[t], List.getElem?_eq_getElem lt⟩
      have dm' := List.mem_of_getElem? hd
      have dd := dl d dm'
      obtain ⟨y', e1, imd⟩ := ic.get (i := t) (d := dD d) (by rw [List.getElem?_map, hd]; rfl)
      rw [hy] at e1
      cases e1
      obtain ⟨e2, ws, rfl, he2, ie2⟩ := (Same.k sm3 imd).tuple
      have ew : ws = [.int (d.1 : Int), .int (d.2.1 : Int), .int d.2.2] := by
        match ws, ie2 with
        | _, .cons (.int _) (.cons (.int _) (.cons (.int _) .nil)) => rfl
      subst ew
      have gt := tabI_gt ok (l := l.take t) fun x hx => dl x (List.mem_of_mem_take hx)
      have lrs : rs.length = ss.length := by rw [rw3.len, gt.sq.len]
      obtain ⟨a1, ea1⟩ : ∃ a, rs[d.2.1]? = some a := ⟨rs[d.2.1]'(by rw [lrs]; exact dd.li), List.getElem?_eq_getElem _⟩
      obtain ⟨a2, ea2⟩ : ∃ a, rs[d.1]? = some a := ⟨rs[d.1]'(by rw [lrs]; exact dd.lj), List.getElem?_eq_getElem _⟩
      obtain ⟨r1, er1, ha1⟩ := rw3.row _ _ ea1
      obtain ⟨r2, er2, ha2⟩ := rw3.row _ _ ea2
      have l1 := gt.sq.row r1 (List.mem_of_getElem? er1)
      have l2 := gt.sq.row r2 (List.mem_of_getElem? er2)
      have m2 := (gt.sh ok).most r2 (List.mem_of_getElem? er2)
      obtain ⟨s, es⟩ := get_some dd.li
      obtain ⟨s2, s30⟩ := (ok s (List.mem_of_getElem? es)).bnd
      have esV : (ss.map V.int)[d.2.1]? = some (.int s) := by rw [List.getElem?_map, es]; rfl
      refine ⟨e2, _, rfl, SqT.of he2, rfl, _, _, rfl, _, _, rfl, _, _, rfl, rfl, ?_⟩
      refine ⟨_, rfl, _, rfl, R, _, d.2.1, _, rfl, rfl, SqL.of rw3.top, atI_nat (by rw [List.getElem?_map, ea1]; rfl), _, rfl, _, rfl, R, _, d.1, _, rfl, rfl, SqL.of rw3.top, atI_nat (by rw [List.getElem?_map, ea2]; rfl), a1, a2, _, _, rfl, SqS.of_l ha1, SqS.of_l ha2, fun g ng => ?_⟩
      refine lc_it (walk_zipG (n := ss.length) (by rw [List.length_map, List.length_map, l1, l2, Nat.min_self])) (fun i H' => Same H3 H' ∧ H' g = some (.lst (((rowI s d.2.2 r1 r2).take i).map V.int))) ⟨Same.new (Same.refl H3) ng, upd_same⟩ (fun i H' _ z => ⟨SqS.of_l (z.1 _ _ ha1), SqS.of_l (z.1 _ _ ha2)⟩) ?_ ?_
      · rintro i x H4 H5 hi ⟨sm4, hg⟩ ⟨T1, x1, x2, rfl, nT, rfl, f1, f2⟩
        obtain ⟨n1, hn1, rfl⟩ := map_get f1
        obtain ⟨n2, hn2, rfl⟩ := map_get f2
        have wd : CMulW d.2.2 n2 := mul_wide (A := 200) (B := 300) (Nat.lt_of_le_of_lt (dm d dm') (by decide)) (m2 n2 (List.mem_of_getElem? hn2)) (by decide)
        refine ⟨T1, _, rfl, SqT.of upd_same, rfl, _, _, rfl, _, _, rfl, rfl, rfl, ?_⟩
        refine ⟨_, rfl, _, rfl, _, rfl, _, _, rfl, rfl, wd, _, _, rfl, rfl, _, rfl, _, rfl, b, _, d.2.1, _, rfl, rfl, SqT.of (Same.new (sm3.trans sm4) nT _ _ hb), atI_nat esV, _, _, rfl, rfl, (show (0 : Int) < s by omega), _, keepN hg nT, small1000 (by rw [List.length_map, List.length_take]; omega), Same.put (Same.new sm4 nT) ng, ?_⟩
        rw [upd_same, take_get (show (rowI s d.2.2 r1 r2)[i]? = some ((n1 + d.2.2 * n2) % s) from zw_get (f := fun item mate => (item + d.2.2 * mate) % s) hn1 hn2), List.map_append]
        rfl
      · rintro H4 ⟨sm4, hg⟩
        rw [List.take_of_length_le (Nat.le_of_eq (rowI_len l1 l2))] at hg
        have rw4 := rw3.same sm4
        have gR : g ≠ R := fun z => by rw [z, rw3.top] at ng; cases ng
        have gb : g ≠ b := fun z => by rw [z, sm3 _ _ hb] at ng; cases ng
        have gN : g ∉ rs := fun m => by
          obtain ⟨i, hi, e⟩ := List.getElem_of_mem m
          obtain ⟨r, _, h2⟩ := rw3.row i g (by rw [List.getElem?_eq_getElem hi, e])
          rw [h2] at ng
          cases ng
        refine ⟨_, rfl, _, rfl, R, _, _, d.2.1, rfl, rfl, rw4.top, ixN_of (by rw [List.length_map, lrs]; exact dd.li), ?_⟩
        refine ⟨_, _, _, rs.set d.2.1 g, rfl, Same.put (sm3.trans sm4) nRH, ?_, fun a ha => ?_⟩
        · have := rw4.swap (i := d.2.1) (by rw [lrs]; exact dd.li) hg gN ⟨gR, gb, gb⟩
          rw [tabI_next hd, ← made_both ok gt dd]
          unfold madeI
          rw [List.getD_eq_getElem?_getD, List.getD_eq_getElem?_getD, List.getD_eq_getElem?_getD, es, er1, er2]
          exact this
        · rcases List.mem_or_eq_of_mem_set ha with m | m
          · exact fr3 a m
          · rw [m]
            exact Same.free sm3 ng
    · rintro σ H3 ⟨v3, v4, v5, rs, rfl, sm3, rw3, fr3⟩
      rw [show l.take cs.length = l by rw [ic.length, List.length_map, List.take_length]] at rw3
      have gt := tabI_gt ok dl
      have lr : rs.length ≤ 100 := by rw [rw3.len, gt.sq.len]; exact l100
      refine ⟨_, rfl, R, rfl, ⟨_, SqL.of rw3.top⟩, fun d nd => ?_⟩
      refine lc_list (K := K) (a := R) (xs := rs.map V.ref) (fun i H' => Same H3 H' ∧ ∃ vs : List V, H' d = some (.lst vs) ∧ ImAll H' vs (((tabI ss l).take i).map sD)) ⟨Same.new (Same.refl H3) nd, [], upd_same, .nil⟩ (fun i H' _ z => SqL.of (z.1 _ _ rw3.top)) ?_ ?_
      · rintro i x H5 hx ⟨sm5, vs, hd, ia⟩
        obtain ⟨a, ea, rfl⟩ := map_get hx
        obtain ⟨r, er, ha⟩ := rw3.row i a ea
        have lv : vs.length ≤ 100 := by
          rw [ia.length, List.length_map, List.length_take, gt.sq.len]
          omega
        refine ⟨rfl, _, rfl, a, _, rfl, .inl ⟨SqL.of (sm5 _ _ ha), fun u nu => ?_⟩⟩
        have hd5 := keepN (o' := .tup (r.map V.int)) hd nu
        have tk : Tk (upd H5 u (.tup (r.map V.int))) (upd (upd H5 u (.tup (r.map V.int))) d (.lst (vs ++ [.ref u]))) := (Tk.refl _).put hd5
        refine ⟨_, hd5, small1000 (by omega), Same.put (Same.new sm5 nu) nd, _, upd_same, ?_⟩
        rw [take_get er, List.map_append]
        exact ((ia.k ((Tk.refl H5).new nu)).k tk).append (.cons (Im.k (.tup upd_same (ImAll.of_ints _ _)) tk) .nil)
      · rintro H5 ⟨sm5, vs, hd, ia⟩
        rw [show (tabI ss l).take (rs.map V.ref).length = tabI ss l by rw [List.length_map, rw3.len, List.take_length]] at ia
        exact ⟨d, _, rfl, .inl ⟨SqL.of hd, fun u nu => k _ _ (.tup upd_same (ia.k ((Tk.refl H5).new nu))) (sm3.trans (Same.new sm5 nu))⟩⟩
theorem tab_one1 {ss : List Int} {d : Nat × Nat × Int} (h : DIn ss d) (ok : ∀ s ∈ ss, SizeOk s) : tabI ss [d] = deedI ss d := still_both (GT.deed ok h).sq (GT.deed ok h).low
abbrev sc_deed_tableN : List Str := ["machine", "deed"]
theorem sc_deed_table : FnScope sc_deed_tableN ["machine", "deed"] (defScope s_deed_table) := ⟨rfl, rfl, rfl, by decide +kernel, rfl, by decide +kernel, by decide +kernel⟩
theorem fn_deed_table {f : Addr} {fd : FuncData} (D : DefAt K mg "deed_table" s_deed_table ["machine", "deed"] f fd) (c_table_of : Cal P w K mg base 2 "table_of" spTabOfM) : FnOk P w K mg base CX0 3 f fd ["machine", "deed"] spDeedTab := by
  refine D.fn.ok sc_deed_table (fun vs H Q E h => ?_) (fun cdv A outer s H vs Q E hr h => ?_)
  · obtain ⟨m, y, ss, ws, d, rfl, _⟩ := h
    rfl
  · obtain ⟨m, y, ss, ws, d, rfl, imm, ok, ime, dok, k⟩ := h
    refine ⟨_, (pss_one (ps_ret (pe_c c_table_of hr (by decide) rfl (pa_cons (pv 0) (pa_cons (pe_tup (pa_cons (pv 1) pa_nil)) pa_nil))))), ?_⟩
    refine ⟨_, rfl, _, rfl, by show 1 ≤ sizeLine; decide, fun t nt => ?_⟩
    have sm : Same H (upd H t (.tup [y])) := Same.new (Same.refl H) nt
    refine ⟨m, .ref t, ss, ws, [d], rfl, Same.k sm imm, ok, .tup upd_same (.cons (Same.k sm ime) .nil), fun x hx => ?_, by show 1 ≤ 1100; decide, fun u H' im sm' => k u H' ?_ (sm.trans sm')⟩
    · rw [List.mem_singleton.mp hx]
      exact dok
    · rw [tab_one1 (dok.din ok) ok.size] at im
      exact im
theorem k_deed_table {f : Addr} {fd : FuncData} (F : Fun K "deed_table" "deed_table" s_deed_table f fd) : KBinds K fd ["machine", "deed"] ["deed", "machine"] kg21b kg21b := by
  obtain ⟨oc, od, kV, doc, pm, an, cdv, ct, osl, rfl, lk, hcd⟩ := F.ex
  refine ⟨fun s us ws _ hl => ?_, kg21b_rel⟩
  match us, ws, hl with
  | [], [a, b], _ => exact .of_eq rfl

/-! ### _law_sum, _law_is_sum -/
def spRun : Sp := fun vs H Q _ => ∃ (m l h : V) (ss : List Int) (ws : List (Nat × Nat)) (prog : List (Nat × Nat × Int)) (hs : List Int), vs = [m, l, h] ∧ Im H m (mD ss ws) ∧ MOk ss ws ∧ Im H l (pD prog) ∧ (∀ d ∈ prog, DOk ss ws d) ∧ prog.length ≤ 1000 ∧ Im H h (sD hs) ∧ COk ss hs ∧
  ∀ (u : V) (H' : Hp), Im H' u (sD (runP ss prog hs)) → Same H H' → Q u H'
def spDone : Sp := fun vs H Q _ => ∃ (m h e : V) (ss : List Int) (ws : List (Nat × Nat)) (d : Nat × Nat × Int) (hs : List Int), vs = [m, h, e] ∧ Im H m (mD ss ws) ∧ MOk ss ws ∧ Im H e (dD d) ∧ DOk ss ws d ∧ Im H h (sD hs) ∧ COk ss hs ∧
  ∀ (u : V) (H' : Hp), Im H' u (sD (doneI ss hs d)) → Same H H' → Q u H'

/-! ### the program's run, done -/
abbrev sc_runN : List Str := ["machine", "program", "contents", "sizes", "held", "j", "i", "c"]
theorem sc_run : FnScope sc_runN ["machine", "program", "contents"] (defScope s_run) := ⟨rfl, rfl, rfl, by decide +kernel, rfl, by decide +kernel, by decide +kernel⟩
theorem fn_run {f : Addr} {fd : FuncData} (D : DefAt K mg "run" s_run ["machine", "program", "contents"] f fd) (T : Blt mg) : FnOk P w K mg base CX0 1 f fd ["machine", "program", "contents"] spRun := by
  refine D.fn.ok sc_run (fun vs H Q E h => ?_) (fun cdv A outer s H vs Q E hr h => ?_)
  · obtain ⟨m, l, h, ss, ws, prog, hs, rfl, _⟩ := h
    rfl
  · obtain ⟨m, l, h, ss, ws, prog, hs, rfl, imm, ok, iml, dok, p1000, imh, co, k⟩ := h
    refine ⟨_, (pss_cons (ps_set (i := 3) sc_run.nd rfl (.inl rfl) (pe_ix (ix_tupK K rfl) (pv 0) pe_int (fun _ _ => rfl)))
      (pss_cons (ps_set (i := 4) sc_run.nd rfl (.inl rfl) (pe_callTy (call_listK K rfl) (by rfl) T.list (by decide +kernel) (pa_cons (pv 2) pa_nil)))
      (pss_cons (ps_for PassesOwn.never rfl (pi_tupK K rfl (pv 1)) (pg_tup rfl (pgs_cons (pg_name (i := 5) sc_run.nd rfl (.inl rfl)) (pgs_cons (pg_name (i := 6) sc_run.nd rfl (.inl rfl)) (pgs_cons (pg_name (i := 7) sc_run.nd rfl (.inl rfl)) pgs_nil)))) (pss_one (ps_asg (pe_op op_mod (pe_op op_add (pe_ix (ix_listK K rfl) (pv 4) (pv 6) (fun _ _ => rfl)) (pe_op op_mulW (pv 7) (pe_ix (ix_listK K rfl) (pv 4) (pv 5) (fun _ _ => rfl)))) (pe_ix (ix_tupK K rfl) (pv 3) (pv 6) (fun _ _ => rfl))) (pg_sub (pv 4) (pv 6) set_list))))
      (pss_one (ps_ret (pe_callTy (call_tupleK K rfl) (by rfl) T.tuple (by decide +kernel) (pa_cons (pv 4) pa_nil))))))), ?_⟩
    obtain ⟨a, xs, rfl, ha, ia⟩ := id imm.tuple
    obtain ⟨b0, g0, im0⟩ := ia.get (i := 0) rfl
    obtain ⟨b, ys, rfl, hb, ib⟩ := id im0.tuple
    have ey := ib.ints
    subst ey
    obtain ⟨c, zs, rfl, hc, ic⟩ := id iml.tuple
    obtain ⟨e, us, rfl, he, ie⟩ := id imh.tuple
    have ey := ie.ints
    subst ey
    have l6 := ok.six
    refine ⟨_, rfl, a, _, 0, _, rfl, rfl, SqT.of ha, atI_nat (j := 0) g0, ?_⟩
    refine ⟨_, rfl, e, _, rfl, .inr (SqT.of he), fun g ng => ?_⟩
    have sm0 : Same H (upd H g (.lst (hs.map V.int))) := Same.new (Same.refl H) ng
    refine ⟨_, rfl, c, rfl, ⟨_, SqT.of (sm0 _ _ hc)⟩, for_tup (K := K) (a := c) (xs := zs) (fun t σ H' => ∃ v5 v6 v7 : Option V, σ = [some (.ref a), some (.ref c), some (.ref e), some (.ref b), some (.ref g), v5, v6, v7] ∧ Same H H' ∧ H' g = some (.lst ((runP ss (prog.take t) hs).map V.int)))
      ⟨none, none, none, rfl, sm0, upd_same⟩ (fun t σ H' _ ⟨_, _, _, _, z, _⟩ => SqT.of (z _ _ hc)) ?_ ?_⟩
    · rintro t y σ H1 hy ⟨v5, v6, v7, rfl, sm, hg⟩
      have lt : t < prog.length := by
        have := (List.getElem?_eq_some_iff.mp hy).1
        rw [ic.length, List.length_map] at this
        exact this
      obtain ⟨d, hd⟩ : ∃ d, prog[t]? = some d := ⟨prog[t], List.getElem?_eq_getElem lt⟩
      obtain ⟨y', e1, imd⟩ := ic.get (i := t) (d := dD d) (by rw [List.getElem?_map, hd]; rfl)
      rw [hy] at e1
      cases e1
      obtain ⟨q, ws', rfl, hq, iq⟩ := (Same.k sm imd).tuple
      have ew : ws' = [.int (d.1 : Int), .int (d.2.1 : Int), .int d.2.2] := by
        match ws', iq with
        | _, .cons (.int _) (.cons (.int _) (.cons (.int _) .nil)) => rfl
      subst ew
      have dk := dok d (List.mem_of_getElem? hd)
      obtain ⟨dj, di, dn⟩ := ok.wires.low _ dk.wire
      have co' : COk ss (runP ss (prog.take t) hs) := runP_cok ok.size co
      obtain ⟨s, hs'⟩ := get_some (ss := ss) di
      have nx := (runP_next (ss := ss) (hs := hs) hd).trans (doneI_set ok.size co' hs')
      generalize runP ss (prog.take t) hs = fs at *
      have lf := co'.len
      obtain ⟨s2, _⟩ := (ok.size s (List.mem_of_getElem? hs')).bnd
      have hsV : (ss.map V.int)[d.2.1]? = some (V.int s) := by rw [List.getElem?_map, hs']; rfl
      refine ⟨q, _, rfl, SqT.of hq, rfl, _, _, rfl, _, _, rfl, _, _, rfl, rfl, ?_⟩
      refine ⟨_, rfl, _, rfl, g, _, _, _, rfl, rfl, SqL.of hg, atI_nat (getD_get (by omega)), _, rfl, _, rfl, _, rfl, g, _, _, _, rfl, rfl, SqL.of hg, atI_nat (getD_get (by omega)), _, _, rfl, rfl, wide_mul (a := 210) (b := 110) (Nat.lt_of_le_of_lt dk.most (by decide)) (co'.most ok.size _) (by decide) (by decide) (by decide), _, _, rfl, rfl, _, rfl, _, rfl, b, _, _, _, rfl, rfl, SqT.of (sm _ _ hb), atI_nat hsV, _, _, rfl, rfl, (show (0 : Int) < s by omega), ?_⟩
      refine ⟨_, rfl, _, rfl, g, _, _, d.2.1, rfl, rfl, hg, ixN_of (by rw [List.length_map]; omega), some (.int (d.1 : Int)), some (.int (d.2.1 : Int)), some (.int d.2.2), rfl, ?_, ?_⟩
      · intro x o hx
        by_cases e : x = g
        · subst e
          rw [ng] at hx
          cases hx
        · rw [upd_ne e]
          exact sm _ _ hx
      · rw [upd_same, nx, List.map_set]
    · rintro σ H1 ⟨v5, v6, v7, rfl, sm, hg⟩
      have full : prog.take zs.length = prog := by rw [ic.length, List.length_map, List.take_length]
      rw [full] at hg
      refine ⟨_, rfl, g, _, rfl, .inl ⟨SqL.of hg, fun t nt => ?_⟩⟩
      exact k _ _ (.tup upd_same (ImAll.of_ints _ _)) (Same.new sm nt)
theorem k_run {f : Addr} {fd : FuncData} (F : Fun K "run" "run" s_run f fd) : KBinds K fd ["machine", "program", "contents"] ["contents", "program", "machine"] kg321 kg321 := by
  obtain ⟨oc, od, kV, doc, pm, an, cdv, ct, osl, rfl, lk, hcd⟩ := F.ex
  refine ⟨fun s us ws _ hl => ?_, kg321_rel⟩
  match us, ws, hl with
  | [], [a, b, c], _ => exact .of_eq rfl
abbrev sc_doneN : List Str := ["machine", "contents", "deed"]
theorem sc_done : FnScope sc_doneN ["machine", "contents", "deed"] (defScope s_done) := ⟨rfl, rfl, rfl, by decide +kernel, rfl, by decide +kernel, by decide +kernel⟩
theorem fn_done {f : Addr} {fd : FuncData} (D : DefAt K mg "done" s_done ["machine", "contents", "deed"] f fd) (c_run : Cal P w K mg base 1 "run" spRun) : FnOk P w K mg base CX0 2 f fd ["machine", "contents", "deed"] spDone := by
  refine D.fn.ok sc_done (fun vs H Q E h => ?_) (fun cdv A outer s H vs Q E hr h => ?_)
  · obtain ⟨m, h, e, ss, ws, d, hs, rfl, _⟩ := h
    rfl
  · obtain ⟨m, h, e, ss, ws, d, hs, rfl, imm, ok, ime, dok, imh, co, k⟩ := h
    refine ⟨_, (pss_one (ps_ret (pe_c c_run hr (by decide) rfl (pa_cons (pv 0) (pa_cons (pe_tup (pa_cons (pv 2) pa_nil)) (pa_cons (pv 1) pa_nil)))))), ?_⟩
    refine ⟨_, rfl, _, rfl, by show 1 ≤ sizeLine; decide, fun t nt => ⟨_, rfl, ?_⟩⟩
    have sm : Same H (upd H t (.tup [e])) := Same.new (Same.refl H) nt
    refine ⟨m, .ref t, h, ss, ws, [d], hs, rfl, Same.k sm imm, ok, .tup upd_same (.cons (Same.k sm ime) .nil), fun x hx => ?_, by show 1 ≤ 1000; decide, Same.k sm imh, co, fun u H' im sm' => k u H' im (sm.trans sm')⟩
    rw [List.mem_singleton.mp hx]
    exact dok
theorem k_done {f : Addr} {fd : FuncData} (F : Fun K "done" "done" s_done f fd) : KBinds K fd ["machine", "contents", "deed"] ["deed", "contents", "machine"] kg321 kg321 := by
  obtain ⟨oc, od, kV, doc, pm, an, cdv, ct, osl, rfl, lk, hcd⟩ := F.ex
  refine ⟨fun s us ws _ hl => ?_, kg321_rel⟩
  match us, ws, hl with
  | [], [a, b, c], _ => exact .of_eq rfl

/-! ### _law_every, _law_small -/
theorem catJ {K : PySem.W.Frag} {a b : Addr} {xs ys : List V} {H : Hp} {Q : VK} (h : H a = some (.tup xs)) (h2 : H b = some (.tup ys)) (l : xs.length + ys.length ≤ sizeLine) (k : ∀ c H', Same H H' → H' c = some (.tup (xs ++ ys)) → Q (.ref c) H') : rCatA K (.ref a) (.ref b) H Q :=
  ⟨a, b, xs, ys, rfl, rfl, SqT.of h, SqT.of h2, l, fun e => k b H (Same.refl H) (by rw [e, List.nil_append]; exact h2), fun _ e => k a H (Same.refl H) (by rw [e, List.append_nil]; exact h), fun _ _ p n => k p _ (Same.new (Same.refl H) n) upd_same⟩
theorem ImAll.getV {H : Hp} : ∀ {vs : List V} {ds : List PyData} {i : Nat} {v : V}, ImAll H vs ds → vs[i]? = some v → ∃ d, ds[i]? = some d ∧ Im H v d
  | _, _, _, _, .nil, e => by simp at e
  | _, _, 0, _, .cons a _, e => by
    cases Option.some.inj e
    exact ⟨_, rfl, a⟩
  | _, _, i + 1, v, .cons _ b, e => by
    obtain ⟨d, h1, h2⟩ := ImAll.getV (i := i) b (by simpa using e)
    exact ⟨d, by simpa using h1, h2⟩
abbrev sc_l_everyN : List Str := ["sizes", "found", "size", "longer", "held", "item"]
theorem sc_l_every : FnScope sc_l_everyN ["sizes"] (defScope s_l_every) := ⟨rfl, rfl, rfl, by decide +kernel, rfl, by decide +kernel, by decide +kernel⟩
theorem ok_every {f : Addr} {fd : FuncData} (D : DefAt K mg "_law_every" s_l_every ["sizes"] f fd) (T : Blt mg) : Cal P w K mg base 1 "_law_every" spEvery := by
  refine cal_of D sc_l_every (fun vs H Q E h => ?_) (fun cdv A outer s H vs Q E hr h => ?_)
  · obtain ⟨x, ss, rfl, _⟩ := h
    rfl
  · obtain ⟨x, ss, rfl, imx, ok, p1000, k⟩ := h
    refine ⟨_, (pss_cons (ps_set (i := 1) sc_l_every.nd rfl (.inl rfl) (pe_lst (pa_cons (pe_tup pa_nil) pa_nil)))
      (pss_cons (ps_for PassesOwn.never rfl (pi_tupK K rfl (pv 0)) (pg_name (i := 2) sc_l_every.nd rfl (.inl rfl)) (pss_cons (ps_set (i := 3) sc_l_every.nd rfl (.inl rfl) (pe_lst pa_nil))
      (pss_cons (ps_for PassesOwn.never rfl (pi_listK K rfl (pv 1)) (pg_name (i := 4) sc_l_every.nd rfl (.inr rfl)) (pss_one (ps_set (i := 3) sc_l_every.nd rfl (.inl rfl) (pe_op op_cat (pv 3) (pe_lc (own := [("item", 5)]) rfl sc_l_every.nd (pi_range1 (by rfl) T.range (pa_cons (pv 2) pa_nil)) (blkOk_by (N := sc_l_everyN) (sc := defScope s_l_every) (by decide +kernel)) (fun _ _ _ _ _ => (pg_name (i := 5) sc_l_every.nd rfl (by first | exact .inl rfl | exact .inr rfl))) (fun _ _ _ _ _ => pts_nil) (fun _ _ _ _ _ => (pe_op (op_catAK K rfl) (pv 4) (pe_tup (pa_cons (pv 5) pa_nil)))))))))
      (pss_one (ps_set (i := 1) sc_l_every.nd rfl (.inl rfl) (pv 3))))))
      (pss_one (ps_ret (pv 1))))), ?_⟩
    obtain ⟨b, bs, rfl, hb, ib⟩ := imx.tuple
    have ey := ib.ints
    subst ey
    have lb : (ss.map V.int).length = ss.length := List.length_map ..
    have pr : ∀ i, i ≤ ss.length → prodN (ss.take i) ≤ 1000 := fun i hi => by
      have := prod_le ok (ss.length - i) i (by omega)
      rw [show i + (ss.length - i) = ss.length by omega, List.take_length] at this
      omega
    refine ⟨by show 0 ≤ sizeLine; decide, fun t nt => ⟨by show 1 ≤ sizeLine; decide, fun g ng => ?_⟩⟩
    have ngH : H g = none := Same.free (Same.new (Same.refl H) nt) ng
    have s0 : Same H (upd (upd H t (.tup [])) g (.lst [.ref t])) := Same.new (Same.new (Same.refl H) nt) ng
    refine ⟨_, rfl, b, rfl, ⟨_, SqT.of (s0 _ _ hb)⟩, for_tup (K := K) (a := b) (xs := ss.map V.int) (fun i σ H' => ∃ (a : Addr) (v2 v3 v4 : Option V) (us : List V), σ = [some (.ref b), some (.ref a), v2, v3, v4, none] ∧ Same H H' ∧ H a = none ∧ H' a = some (.lst us) ∧ ImAll H' us ((everyI (ss.take i)).map sD))
      ⟨g, none, none, none, [.ref t], rfl, s0, ngH, upd_same, .cons (.tup (by rw [upd_ne (fun z => by rw [← z, upd_same] at ng; cases ng)]; exact upd_same) .nil) .nil⟩ (fun i σ H' _ ⟨_, _, _, _, _, _, z, _⟩ => SqT.of (z _ _ hb)) ?_ ?_⟩
    · rintro i y σ H1 hy ⟨a, v2, v3, v4, us, rfl, sm1, na, ha, iu⟩
      obtain ⟨s, hs, rfl⟩ := map_get hy
      have li := (List.getElem?_eq_some_iff.mp hs).1
      have ev := every_ok ss ok i (by omega)
      have p1 := pr i (by omega)
      have p2 := pr (i + 1) (by omega)
      rw [prod_next hs] at p2
      have pp := prod_pos ok i (by omega)
      obtain ⟨m, rfl, m2, m3⟩ := (ok s (List.mem_of_getElem? hs)).nat
      have lu : us.length = (everyI (ss.take i)).length := by rw [iu.length, List.length_map]
      have lE := ev.len
      have m1000 : m ≤ 1000 := by
        have := Nat.le_mul_of_pos_left m pp
        rw [Int.toNat_natCast] at p2
        omega
      refine ⟨by show 0 ≤ sizeLine; decide, fun l nl => ?_⟩
      have nlH : H l = none := Same.free sm1 nl
      have s2 : Same H1 (upd H1 l (.lst [])) := Same.new (Same.refl H1) nl
      refine ⟨_, rfl, a, rfl, ⟨_, SqL.of (s2 _ _ ha)⟩, for_list (K := K) (a := a) (xs := us) (fun j σ H' => ∃ (c : Addr) (v4 : Option V) (ws : List V), σ = [some (.ref b), some (.ref a), some (.int (m : Int)), some (.ref c), v4, none] ∧ Same H1 H' ∧ H1 c = none ∧ H' c = some (.lst ws) ∧ ImAll H' ws ((exI (m : Int) ((everyI (ss.take i)).take j)).map sD))
        ⟨l, _, [], rfl, s2, nl, upd_same, .nil⟩ (fun j σ H' _ ⟨_, _, _, _, z, _⟩ => SqL.of (z _ _ ha)) ?_ ?_⟩
      · rintro j u σ H2 hu ⟨c, v4', ws, rfl, sm2, nc, hc, iw⟩
        obtain ⟨d, hd, iu'⟩ := ImAll.getV iu hu
        obtain ⟨held, hheld, rfl⟩ := map_get hd
        have ch := ev.cok held (List.mem_of_getElem? hheld)
        obtain ⟨e, es, rfl, he, ie⟩ := (Same.k sm2 iu').tuple
        have ez := ie.ints
        subst ez
        have lh : held.length ≤ 1000 := by
          have := ch.len
          rw [List.length_take] at this
          have h2 := pow_prod ok i (by omega)
          have := Nat.lt_two_pow_self (n := i)
          omega
        have lw : ws.length ≤ 1000 := by
          rw [iw.length, List.length_map, ex_len, List.length_take, Int.toNat_natCast]
          rw [Int.toNat_natCast] at p2
          refine Nat.le_trans ?_ p2
          rw [← lE]
          exact Nat.mul_le_mul_right _ (Nat.min_le_right _ _)
        refine ⟨_, rfl, _, rfl, _, rfl, by omega, by omega, fun D nD => ?_⟩
        have nD1 : H1 D = none := Same.free sm2 nD
        rw [Int.toNat_natCast]
        refine lc_range (lo := 0) (n := m) (fun t H' => Same H2 H' ∧ ∃ xs : List V, H' D = some (.lst xs) ∧ ImAll H' xs ((((List.range m).map fun i : Nat => held ++ [(i : Int)]).take t).map sD)) ⟨Same.new (Same.refl H2) nD, [], upd_same, .nil⟩ ?_ ?_
        · rintro t H3 ht ⟨sm3, xs, hD, ix⟩
          have lx : xs.length ≤ 1000 := by
            rw [ix.length, List.length_map, List.length_take]
            omega
          refine ⟨rfl, _, rfl, _, rfl, by show 1 ≤ sizeLine; decide, fun q nq => ?_⟩
          have s4 : Same H3 (upd H3 q (.tup [.int ((0 : Int) + (t : Int))])) := Same.new (Same.refl H3) nq
          refine catJ ((sm3.trans s4) _ _ he) upd_same (by rw [List.length_map]; exact Nat.le_trans (Nat.add_le_add_right lh _) (by show 1000 + 1 ≤ sizeLine; decide)) fun r H5 sm5 hr5 => ?_
          have s35 := s4.trans sm5
          have hD5 := s35 _ _ hD
          have tk : Tk H5 (upd H5 D (.lst (xs ++ [.ref r]))) := (Tk.refl _).put hD5
          refine ⟨_, hD5, small1000 (by omega), Same.put (sm3.trans s35) nD, _, upd_same, ?_⟩
          rw [take_get (rm_get (fun i : Nat => held ++ [(i : Int)]) ht), List.map_append]
          refine ((ix.k (Tk.same s35)).k tk).append (.cons (Im.k (.tup hr5 ?_) tk) .nil)
          rw [show held.map V.int ++ [V.int ((0 : Int) + (t : Int))] = (held ++ [(t : Int)]).map V.int by rw [List.map_append, Int.zero_add]; rfl]
          exact ImAll.of_ints _ _
        · rintro H3 ⟨sm3, xs, hD, ix⟩
          rw [rm_full] at ix
          have lx : xs.length ≤ 1000 := by
            rw [ix.length, List.length_map, List.length_map, List.length_range]
            exact m1000
          refine ⟨c, D, ws, xs, rfl, rfl, sm3 _ _ hc, hD, Nat.le_trans (Nat.add_le_add lw lx) (by decide), fun r nr => ?_⟩
          have s5 : Same H2 (upd H3 r (.lst (ws ++ xs))) := Same.new sm3 nr
          refine ⟨r, some (.ref e), ws ++ xs, rfl, sm2.trans s5, Same.free (sm2.trans sm3) nr, upd_same, ?_⟩
          have e2 : exI (m : Int) ((everyI (ss.take i)).take (j + 1)) = exI (m : Int) ((everyI (ss.take i)).take j) ++ ((List.range m).map fun i : Nat => held ++ [(i : Int)]) := by
            rw [take_get hheld]
            unfold exI
            rw [List.flatMap_append, List.flatMap_singleton, Int.toNat_natCast]
          rw [e2, List.map_append]
          exact (iw.k (Tk.same s5)).append (ix.k ((Tk.refl H3).new nr))
      · rintro σ H2 ⟨c, v4', ws, rfl, sm2, nc, hc, iw⟩
        rw [lu, List.take_length] at iw
        refine ⟨_, rfl, c, _, _, _, ws, rfl, sm1.trans sm2, Same.free sm1 nc, hc, ?_⟩
        rw [every_next hs]
        exact iw
    · rintro σ H1 ⟨a, v2, v3, v4, us, rfl, sm1, na, ha, iu⟩
      rw [lb, List.take_length] at iu
      exact ⟨_, rfl, k a us H1 na ha iu sm1⟩
abbrev sc_l_smallN : List Str := ["pot", "most", "sizes", "room", "turn", "size"]
theorem sc_l_small : FnScope sc_l_smallN ["pot", "most"] (defScope s_l_small) := ⟨rfl, rfl, rfl, by decide +kernel, rfl, by decide +kernel, by decide +kernel⟩
theorem ok_small {f : Addr} {fd : FuncData} (D : DefAt K mg "_law_small" s_l_small ["pot", "most"] f fd) (T : Blt mg) (c_l_dip : Cal P w K mg base 1 "_law_dip" spDip) (c_l_pick : Cal P w K mg base 2 "_law_pick" spPick) (c_l_wires : Cal P w K mg base 3 "_law_wires" spWires) : Cal P w K mg base 4 "_law_small" spSmall := by
  refine cal_of D sc_l_small (fun vs H Q E h => ?_) (fun cdv A outer s H vs Q E hr h => ?_)
  · obtain ⟨p, q, m, rfl, _⟩ := h
    rfl
  · obtain ⟨p, q, m, rfl, hP, m2, m1000, k⟩ := h
    refine ⟨_, (pss_cons (ps_par (i := 2) (j := 3) rfl sc_l_small.nd rfl rfl (by decide) rfl rfl (pa_cons (pe_lst pa_nil) (pa_cons (pv 1) pa_nil)) (by rfl))
      (pss_cons (ps_for PassesOwn.never rfl (pi_range1 (by rfl) T.range (pa_cons (pe_op op_add pe_int (pe_c c_l_dip hr (by decide) rfl (pa_cons (pv 0) (pa_cons pe_int pa_nil)))) pa_nil)) (pg_name (i := 4) sc_l_small.nd rfl (.inl rfl)) (pss_cons (ps_set (i := 5) sc_l_small.nd rfl (.inl rfl) (pe_c c_l_pick hr (by decide) rfl (pa_cons (pv 0) (pa_cons (pe_lst (pa_cons pe_int (pa_cons pe_int (pa_cons pe_int (pa_cons pe_int (pa_cons pe_int (pa_cons pe_int (pa_cons pe_int (pa_cons pe_int pa_nil))))))))) pa_nil))))
      (pss_one (ps_if (pt_cmpR op_le (pv 5) (pv 3) (nomark _)) (pss_cons (ps_expr (pe_bm PySem.F.plainAttrs_list PySem.F.slot_list_append PySem.F.type_list_append mt_append (pv 2) (pa_cons (pv 5) pa_nil)))
      (pss_one (ps_set (i := 3) sc_l_small.nd rfl (.inl rfl) (pe_op op_fdivW (pv 3) (pv 5))))) pss_nil))))
      (pss_cons (ps_set (i := 2) sc_l_small.nd rfl (.inl rfl) (pe_ifExp (pt_cmpR (op_neDK K rfl hr.units) (pv 2) (pe_lst pa_nil) (nomark _)) (pe_callTy (call_tupleK K rfl) (by rfl) T.tuple (by decide +kernel) (pa_cons (pv 2) pa_nil)) (pe_tup (pa_cons pe_int pa_nil))))
      (pss_one (ps_ret (pe_tup (pa_cons (pv 2) (pa_cons (pe_c c_l_wires hr (by decide) rfl (pa_cons (pv 0) (pa_cons (pe_callB (call_lenK K rfl) (by rfl) T.len PySem.boot_len (pa_cons (pv 2) pa_nil)) pa_nil))) pa_nil)))))))), ?_⟩
    refine ⟨by show 0 ≤ sizeLine; decide, fun g ng => ⟨_, rfl, _, _, rfl, ?_⟩⟩
    obtain ⟨ng1, ng2⟩ := hP.np ng
    have P1 := hP.new (o := .lst []) ng
    have k1 : Kp p q H (upd H g (.lst [])) := (Kp.refl p q H).new ng
    refine ⟨_, rfl, p, q, _, rfl, P1, by decide, by decide, fun r H2 r0 r1 P2 k2 => ⟨_, _, rfl, rfl, _, rfl, by omega, by omega, ?_⟩⟩
    have kt : Kp p q H H2 := k1.trans k2
    have nt1 : (1 + r).toNat ≤ 4 := by omega
    refine for_range (lo := 0) (n := (1 + r).toNat) (fun t σ H' => ∃ (v4 v5 : Option V) (room : Nat) (ns : List Int), σ = [some (.ref p), some (.int (m : Int)), some (.ref g), some (.int (room : Int)), v4, v5] ∧ Pt H' p q ∧ Kp p q H H' ∧ H' g = some (.lst (ns.map V.int)) ∧ 1 ≤ room ∧ prodN ns * room ≤ m ∧ ns.length ≤ t ∧ (∀ s ∈ ns, SizeOk s) ∧ t ≤ 4)
      ⟨none, none, m, [], rfl, P2, kt, k2 _ _ ng1 ng2 upd_same, by omega, by show 1 * m ≤ m; omega, Nat.le_refl _, (fun s hs => absurd hs List.not_mem_nil), Nat.zero_le _⟩ ?_ ?_
    · rintro t σ H3 ht ⟨v4, v5, room, ns, rfl, P3, k3, hg, r1', pr, ln, okn, t4⟩
      refine ⟨_, rfl, by show 8 ≤ sizeLine; decide, fun c nc => ?_⟩
      obtain ⟨nc1, nc2⟩ := P3.np nc
      refine ⟨p, q, c, _, rfl, P3.new nc, upd_same, nc1, nc2, List.cons_ne_nil _ _, by show 8 < 1000; decide, fun v H4 hv P4 k4 => ?_⟩
      obtain ⟨sz, rfl, s2, s9, so⟩ : ∃ z : Nat, v = .int (z : Int) ∧ 2 ≤ z ∧ z ≤ 9 ∧ SizeOk (z : Int) := by
        have all : ([.int 2, .int 2, .int 3, .int 4, .int 4, .int 6, .int 8, .int 9] : List V).all (fun v => okV v && (match v with | .int i => decide (2 ≤ i) && decide (i ≤ 9) | _ => false)) = true := by decide +kernel
        have z := List.all_eq_true.mp all v hv
        rw [Bool.and_eq_true] at z
        obtain ⟨m', e, m1, m2', m3⟩ := okV_of z.1
        subst e
        have z2 := z.2
        rw [Bool.and_eq_true] at z2
        have a1 : (2 : Int) ≤ (m' : Int) := of_decide_eq_true z2.1
        have a2 : (m' : Int) ≤ 9 := of_decide_eq_true z2.2
        exact ⟨m', rfl, by omega, by omega, m', rfl, by omega, m2', m3⟩
      have kc : Kp p q H3 H4 := ((Kp.refl p q H3).new nc).trans k4
      have hg4 := kc _ _ ng1 ng2 hg
      refine ⟨_, rfl, _, rfl, _, _, rfl, rfl, _, rfl, ?_⟩
      refine ite2 (fun h => ?_) (fun h => ?_)
      · have le : sz ≤ room := by
          have := of_decide_eq_true h
          omega
        refine ⟨_, rfl, .inl ⟨rfl, _, SqL.of hg4⟩, _, rfl, g, _, _, rfl, rfl, hg4, small1000 (by rw [List.length_map]; omega), ?_⟩
        have d2 : ((room : Int) / (sz : Int)) = ((room / sz : Nat) : Int) := rfl
        refine ⟨_, rfl, _, rfl, _, _, rfl, rfl, wide_div (b := 20) (by omega) (by omega) (by decide) (by decide), ?_⟩
        refine ⟨_, some (.int (sz : Int)), room / sz, ns ++ [(sz : Int)], by rw [← d2]; rfl, P4.put ng1 ng2, (k3.trans kc).put ng, by rw [upd_same, List.map_append]; rfl, ?_, ?_, by rw [List.length_append, List.length_singleton]; omega, fun s hs => ?_, by omega⟩
        · exact Nat.div_pos le (by omega)
        · rw [prod_snoc, Int.toNat_natCast]
          refine Nat.le_trans ?_ pr
          rw [Nat.mul_assoc]
          exact Nat.mul_le_mul_left _ (Nat.mul_div_le room sz)
        · rcases List.mem_append.mp hs with z | z
          · exact okn s z
          · rw [List.mem_singleton.mp z]
            exact so
      · exact ⟨_, some (.int (sz : Int)), room, ns, rfl, P4, k3.trans kc, hg4, r1', pr, by omega, okn, by omega⟩
    · rintro σ H3 ⟨v4, v5, room, ns, rfl, P3, k3, hg, r1', pr, ln, okn, t4⟩
      have lp : prodN ns ≤ m := Nat.le_trans (Nat.le_mul_of_pos_right _ (by omega)) pr
      refine ⟨_, rfl, by show 0 ≤ sizeLine; decide, fun l nl => ?_⟩
      have s4 : Same H3 (upd H3 l (.lst [])) := Same.new (Same.refl H3) nl
      have P4 := P3.same s4
      have k4 := k3.trans (Kp.same s4)
      refine ⟨.list (ns.map PyData.int), .list [], .lst (SqL.of (s4 _ _ hg)) (DpAll.ints K _ ns), .lst (SqL.of upd_same) .nil, shaped_ints ns, rfl, _, rfl, ?_⟩
      have hg4 := s4 _ _ hg
      rw [eqv_nil]
      generalize upd H3 l (.lst []) = H4 at *
      have rest : ∀ (b : Addr) (ms : List Int) (H5 : Hp), H5 b = some (.tup (ms.map V.int)) → ms ≠ [] → ms.length ≤ 4 → (∀ s ∈ ms, SizeOk s) → prodN ms ≤ m → Pt H5 p q → Kp p q H H5 →
          spWires [.ref p, .int (((ms.map V.int).length : Nat) : Int)] H5 (fun u H6 => 2 ≤ sizeLine ∧ ∀ a, H6 a = none → Q (.ref a) (upd H6 a (.tup [.ref b, u]))) E0 := fun b ms H5 hb ne l4 okm lpm P5 k5 => by
        refine ⟨p, q, ms.length, by rw [List.length_map], by omega, P5, fun v ws H6 iw wok P6 k6 => ⟨by decide, fun a na => ?_⟩⟩
        have t6 := k6.tk P5
        refine k _ ms ws _ (.tup upd_same (.cons (.tup (keepN (t6 _ _ hb) na) (ImAll.of_ints _ _)) (.cons (iw.k ((Tk.refl H6).new na)) .nil))) ⟨List.length_pos_iff.mpr ne, by omega, okm, wok⟩ lpm (P6.new na) ((k5.trans k6).new na)
      cases ns with
      | nil =>
        refine iteF ⟨by show 1 ≤ sizeLine; decide, fun b nb => ?_⟩
        exact ⟨_, rfl, _, rfl, _, rfl, b, _, rfl, .inr (SqT.of upd_same), rest b [2] _ upd_same (List.cons_ne_nil _ _) (by decide) (fun s hs => by rw [List.mem_singleton.mp hs]; exact ⟨2, rfl, by decide, by decide, smo_of (by decide +kernel)⟩) (by show 2 ≤ m; exact m2) (P4.new nb) (k4.new nb)⟩
      | cons n0 ns0 =>
        refine iteT ⟨_, rfl, g, _, rfl, .inl ⟨SqL.of hg4, fun b nb => ?_⟩⟩
        exact ⟨_, rfl, _, rfl, _, rfl, b, _, rfl, .inr (SqT.of upd_same), rest b (n0 :: ns0) _ upd_same (List.cons_ne_nil _ _) (by omega) okn lp (P4.new nb) (k4.new nb)⟩

/-! ### k10: _law_single, _law_is_led, _law_is_deed, _law_are_unlike -/
theorem tab_sh0J : ∀ {t : List (List Int)}, (∀ r ∈ t, r.length ≤ 100 ∧ ∀ n ∈ r, n.natAbs < 2 ^ 1900) → okAll (t.map sD) = true ∧ costAll (t.map sD) ≤ 200000 * t.length ∧ PyData.depthAll (t.map sD) ≤ 1
  | [], _ => ⟨rfl, Nat.le_refl _, Nat.zero_le _⟩
  | r :: t, h => by
    obtain ⟨a, b, c⟩ := tab_sh0J fun x hx => h x (List.mem_cons_of_mem _ hx)
    obtain ⟨l, m⟩ := h r List.mem_cons_self
    refine ⟨?_, ?_, ?_⟩
    · rw [List.map_cons]
      simp only [okAll, sD, okD, okAll_ints r m, a, Bool.and_self]
    · rw [List.map_cons]
      simp only [costAll, sD, NA.cost, costAll_ints, List.length_cons]
      omega
    · rw [List.map_cons]
      simp only [PyData.depthAll, sD, PyData.depth, depth_ints]
      omega
theorem tab_shJ {ss : List Int} {t : List (List Int)} (ok : ∀ s ∈ ss, SizeOk s) (l : ss.length ≤ 6) (h : GT ss t) : Sh (tD t) ∧ NA.cost (tD t) ≤ 2000000 ∧ (tD t).depth ≤ 10 := by
  have q := h.sh ok
  obtain ⟨a, b, c⟩ := tab_sh0J (t := t) fun r hr => ⟨by rw [q.row r hr]; omega, fun n hn => Nat.lt_trans (q.most r hr n hn) (by decide)⟩
  have lt : t.length ≤ 6 := by rw [q.len]; exact l
  have cc : NA.cost (tD t) ≤ 2000000 := by
    simp only [tD, NA.cost]
    omega
  have dd : (tD t).depth ≤ 10 := by
    simp only [tD, PyData.depth]
    omega
  exact ⟨⟨by simp only [tD, okD, a], by omega, by omega⟩, cc, dd⟩
theorem cok_shJ {ss hs : List Int} (ok : ∀ s ∈ ss, SizeOk s) (l : ss.length ≤ 6) (h : COk ss hs) : Sh (sD hs) ∧ NA.cost (sD hs) ≤ 1000000 ∧ (sD hs).depth ≤ 10 := by
  refine ⟨Sh.ints (fun n hn => ?_) (by rw [h.len]; omega), ?_, ?_⟩
  · obtain ⟨i, hi, rfl⟩ := List.getElem_of_mem hn
    obtain ⟨s, es⟩ := get_some (show i < ss.length by rw [← h.len]; exact hi)
    obtain ⟨a, b⟩ := h.low i _ s (List.getElem?_eq_getElem hi) es
    obtain ⟨_, c⟩ := (ok s (List.mem_of_getElem? es)).bnd
    exact Nat.lt_of_le_of_lt (show hs[i].natAbs ≤ 10 ^ 30 by omega) (by decide)
  · have := h.len
    simp only [sD, NA.cost, costAll_ints]
    omega
  · simp only [sD, PyData.depth, depth_ints]
    decide
theorem mach_shJ {ss : List Int} {ws : List (Nat × Nat)} (ok : MOk ss ws) : Sh (mD ss ws) ∧ NA.cost (mD ss ws) ≤ 1000000 ∧ (mD ss ws).depth ≤ 10 := by
  have l1 := ok.six
  have l2 := ok.wires.len l1
  refine ⟨Sh.mach ok, ?_, ?_⟩
  · simp only [mD, sD, NA.cost, costAll, costAll_ints, costAll_wires]
    omega
  · have := depth_wires ws
    simp only [mD, sD, PyData.depth, PyData.depthAll, depth_ints]
    omega
abbrev ShB (d : PyData) : Prop := Sh d ∧ NA.cost d ≤ 2000000 ∧ d.depth ≤ 10
theorem Sh.listN {ds : List PyData} (h : ∀ d ∈ ds, ShB d) (l : ds.length ≤ 6) : Sh (.list ds) := by
  have : ∀ ds : List PyData, (∀ d ∈ ds, ShB d) → okAll ds = true ∧ costAll ds ≤ 2000002 * ds.length ∧ PyData.depthAll ds ≤ 10 := by
    intro ds
    induction ds with
    | nil => intro _; exact ⟨rfl, Nat.le_refl _, Nat.zero_le _⟩
    | cons d ds ih =>
      intro h
      obtain ⟨a, b, c⟩ := ih fun x hx => h x (List.mem_cons_of_mem _ hx)
      obtain ⟨x, y, z⟩ := h d List.mem_cons_self
      refine ⟨?_, ?_, ?_⟩
      · simp only [okAll, x.ok, a, Bool.and_self]
      · simp only [costAll, List.length_cons]
        omega
      · simp only [PyData.depthAll]
        omega
  obtain ⟨a, b, c⟩ := this ds h
  refine ⟨by simp only [okD, a], ?_, ?_⟩
  · simp only [NA.cost]
    omega
  · simp only [PyData.depth]
    omega
def unitI (n j : Nat) : List Int := (List.range n).map fun i => if i = j then 1 else 0
def spSingle : Sp := fun vs H Q _ => ∃ (n j : Nat), vs = [.int (n : Int), .int (j : Int)] ∧ n ≤ 100 ∧ ∀ (u : V) (H' : Hp), Im H' u (sD (unitI n j)) → Same H H' → Q u H'
abbrev sc_l_singleN : List Str := ["many", "j", "i"]
theorem sc_l_single : FnScope sc_l_singleN ["many", "j"] (defScope s_l_single) := ⟨rfl, rfl, rfl, by decide +kernel, rfl, by decide +kernel, by decide +kernel⟩
theorem ok_single {f : Addr} {fd : FuncData} (D : DefAt K mg "_law_single" s_l_single ["many", "j"] f fd) (T : Blt mg) : Cal P w K mg base 1 "_law_single" spSingle := by
  refine cal_of D sc_l_single (fun vs H Q E h => ?_) (fun cdv A outer s H vs Q E hr h => ?_)
  · obtain ⟨n, j, rfl, _⟩ := h
    rfl
  · obtain ⟨n, j, rfl, n100, k⟩ := h
    refine ⟨_, (pss_one (ps_ret (pe_callTy (call_tupleK K rfl) (by rfl) T.tuple (by decide +kernel) (pa_cons (pe_lc (own := [("i", 2)]) rfl sc_l_single.nd (pi_range1 (by rfl) T.range (pa_cons (pv 0) pa_nil)) (blkOk_by (N := sc_l_singleN) (sc := defScope s_l_single) (by decide +kernel)) (fun _ _ _ _ _ => (pg_name (i := 2) sc_l_single.nd rfl (by first | exact .inl rfl | exact .inr rfl))) (fun _ _ _ _ _ => pts_nil) (fun _ _ _ _ _ => (pe_callTy call_int1 (by rfl) T.int (by decide +kernel) (pa_cons (pe_cmpR op_eq (pv 2) (pv 1) (nomark _)) pa_nil)))) pa_nil)))), ?_⟩
    refine ⟨_, rfl, _, rfl, by omega, by omega, fun g ng => ?_⟩
    rw [Int.toNat_natCast]
    refine lc_range (lo := 0) (n := n) (fun i H' => Same H H' ∧ H' g = some (.lst (((unitI n j).take i).map V.int))) ⟨Same.new (Same.refl H) ng, upd_same⟩ ?_ ?_
    · rintro i H3 hi ⟨sm3, hg⟩
      refine ⟨rfl, _, rfl, _, rfl, rfl, .inr ⟨_, rfl, _, hg, small1000 (by rw [List.length_map, List.length_take]; omega), Same.put sm3 ng, ?_⟩⟩
      have e0 : (if decide (V.int ((0 : Int) + (i : Int)) = V.int (j : Int)) = true then (1 : Int) else 0) = if i = j then 1 else 0 := by
        rw [dec_int0]
        by_cases h : i = j
        · subst h
          rw [decide_eq_true (by omega), if_pos rfl, if_pos rfl]
        · rw [decide_eq_false (by omega), if_neg (by decide), if_neg h]
      rw [upd_same, e0]
      unfold unitI
      rw [take_get (rm_get (fun i => if i = j then (1 : Int) else 0) hi), List.map_append]
      rfl
    · rintro H3 ⟨sm3, hg⟩
      unfold unitI at hg
      rw [rm_full] at hg
      exact ⟨g, _, rfl, .inl ⟨SqL.of hg, fun u nu => k _ _ (.tup upd_same (ImAll.of_ints _ _)) (Same.new sm3 nu)⟩⟩
def spIsLed : Sp := fun vs H Q _ => ∃ (m y z h : V) (ss : List Int) (ws : List (Nat × Nat)) (one other : List (List Int)) (hs : List Int), vs = [m, y, z, h] ∧ Im H m (mD ss ws) ∧ MOk ss ws ∧ Im H y (tD one) ∧ Im H z (tD other) ∧ GT ss one ∧ GT ss other ∧ Im H h (sD hs) ∧ COk ss hs ∧
  ∀ H', Same H H' → Q (.bl true) H'
abbrev sc_l_is_ledN : List Str := ["machine", "one", "other", "held", "sizes", "kept", "pair", "first"]
theorem sc_l_is_led : FnScope sc_l_is_ledN ["machine", "one", "other", "held"] (defScope s_l_is_led) := ⟨rfl, rfl, rfl, by decide +kernel, rfl, by decide +kernel, by decide +kernel⟩
theorem ok_isled {f : Addr} {fd : FuncData} (F : Fun K "_law_is_led" "_law_is_led" s_l_is_led f fd) (T : Blt mg) (c_l_both : Cal P w K mg base 1 "_law_both" spBoth) (c_l_led : Cal P w K mg base 1 "_law_led" spLed) (c_both : Cal P w K mg base 2 "both" spBothM) (k_both_oom : CalK P w K mg base 2 "both" spBothM ["other", "one", "machine"] kg321)
    (c_moved : Cal P w K mg base 2 "moved" spMovedM) (k_moved_ctm : CalK P w K mg base 2 "moved" spMovedM ["contents", "table", "machine"] kg321) : GFn P w K mg base 3 f fd ["machine", "one", "other", "held"] spIsLed := by
  refine gfn_of F sc_l_is_led (fun vs H Q E h => ?_) (fun cdv A outer s H vs Q E hcd0 hg hr h => ?_)
  · obtain ⟨m, y, z, h, ss, ws, one, other, hs, rfl, _⟩ := h
    rfl
  · obtain ⟨m, y, z, h, ss, ws, one, other, hs, rfl, imm, ok, im1, im2, g1, g2, imh, ch, k⟩ := h
    refine ⟨_, (pss_cons (ps_set (i := 4) sc_l_is_led.nd rfl (.inl rfl) (pe_ix (ix_tupK K rfl) (pv 0) pe_int (fun _ _ => rfl)))
      (pss_cons (ps_par (i := 5) (j := 6) rfl sc_l_is_led.nd rfl rfl (by decide) rfl rfl (pa_cons (pe_callB (call_reprK K rfl hg hr) (by rfl) T.repr boot_repr (pa_cons (pe_lst (pa_cons (pv 0) (pa_cons (pv 1) (pa_cons (pv 2) (pa_cons (pv 3) pa_nil))))) pa_nil)) (pa_cons (pe_c c_l_both hr (by decide) rfl (pa_cons (pv 4) (pa_cons (pv 1) (pa_cons (pv 2) pa_nil)))) pa_nil)) (by rfl))
      (pss_cons (ps_if (pt_cmpR op_ne (pe_callB (call_reprK K rfl hg hr) (by rfl) T.repr boot_repr (pa_cons (pe_lst (pa_cons (pe_c c_both hr (by decide) rfl (pa_cons (pv 0) (pa_cons (pv 1) (pa_cons (pv 2) pa_nil)))) (pa_cons (pe_ck k_both_oom hr (by decide) rfl (pk_cons (pv 2) (pk_cons (pv 1) (pk_cons (pv 0) pk_nil)))) pa_nil))) pa_nil)) (pe_callB (call_reprK K rfl hg hr) (by rfl) T.repr boot_repr (pa_cons (pe_lst (pa_cons (pv 6) (pa_cons (pv 6) pa_nil))) pa_nil)) (nomark _)) (pss_one (ps_ret pe_bl)) pss_nil)
      (pss_cons (ps_set (i := 7) sc_l_is_led.nd rfl (.inl rfl) (pe_c c_l_led hr (by decide) rfl (pa_cons (pv 4) (pa_cons (pv 1) (pa_cons (pv 3) pa_nil)))))
      (pss_cons (ps_if (pt_cmpR op_ne (pe_callB (call_reprK K rfl hg hr) (by rfl) T.repr boot_repr (pa_cons (pe_lst (pa_cons (pe_c c_moved hr (by decide) rfl (pa_cons (pv 0) (pa_cons (pv 1) (pa_cons (pv 3) pa_nil)))) (pa_cons (pe_ck k_moved_ctm hr (by decide) rfl (pk_cons (pv 3) (pk_cons (pv 1) (pk_cons (pv 0) pk_nil)))) pa_nil))) pa_nil)) (pe_callB (call_reprK K rfl hg hr) (by rfl) T.repr boot_repr (pa_cons (pe_lst (pa_cons (pv 7) (pa_cons (pv 7) pa_nil))) pa_nil)) (nomark _)) (pss_one (ps_ret pe_bl)) pss_nil)
      (pss_cons (ps_if (pt_cmpR op_ne (pe_callB (call_reprK K rfl hg hr) (by rfl) T.repr boot_repr (pa_cons (pe_c c_moved hr (by decide) rfl (pa_cons (pv 0) (pa_cons (pv 6) (pa_cons (pv 3) pa_nil)))) pa_nil)) (pe_callB (call_reprK K rfl hg hr) (by rfl) T.repr boot_repr (pa_cons (pe_c c_l_led hr (by decide) rfl (pa_cons (pv 4) (pa_cons (pv 2) (pa_cons (pv 7) pa_nil)))) pa_nil)) (nomark _)) (pss_one (ps_ret pe_bl)) pss_nil)
      (pss_one (ps_ret (pe_cmpR op_eq (pe_callB (call_reprK K rfl hg hr) (by rfl) T.repr boot_repr (pa_cons (pe_lst (pa_cons (pv 0) (pa_cons (pv 1) (pa_cons (pv 2) (pa_cons (pv 3) pa_nil))))) pa_nil)) (pv 5) (nomark _)))))))))), ?_⟩
    obtain ⟨a, xs, rfl, ha, ia⟩ := id imm.tuple
    obtain ⟨b0, q0, im0⟩ := ia.get (i := 0) rfl
    have l6 := ok.six
    have gb := g1.both ok.size g2
    have cl := g1.led ok.size ch
    have sh4 : Sh (.list [mD ss ws, tD one, tD other, sD hs]) := Sh.listN (fun d hd => by
      rcases List.mem_cons.mp hd with rfl | hd
      · obtain ⟨x, y, z⟩ := mach_shJ ok
        exact ⟨x, by omega, z⟩
      rcases List.mem_cons.mp hd with rfl | hd
      · exact tab_shJ ok.size l6 g1
      rcases List.mem_cons.mp hd with rfl | hd
      · exact tab_shJ ok.size l6 g2
      · rw [List.mem_singleton.mp hd]
        obtain ⟨x, y, z⟩ := cok_shJ ok.size l6 ch
        exact ⟨x, by omega, z⟩) (by show 4 ≤ 6; decide)
    refine ⟨_, rfl, a, _, 0, _, rfl, rfl, SqT.of ha, atI_nat (j := 0) q0, ?_⟩
    refine ⟨_, rfl, _, rfl, _, rfl, _, rfl, by show 4 ≤ sizeLine; decide, fun l nl => ?_⟩
    have s1 : Same H (upd H l (.lst [.ref a, y, z, h])) := Same.new (Same.refl H) nl
    refine ⟨_, _, rfl, .lst (SqL.of upd_same) (.cons (Same.k s1 imm).dp (.cons (Same.k s1 im1).dp (.cons (Same.k s1 im2).dp (.cons (Same.k s1 imh).dp .nil)))), sh4, ?_⟩
    generalize upd H l (.lst [.ref a, y, z, h]) = H1 at *
    refine ⟨_, rfl, _, rfl, _, rfl, _, _, _, ss, one, other, rfl, Same.k s1 im0, Same.k s1 im1, Same.k s1 im2, ok.size, by omega, g1.sh ok.size, g2.sh ok.size, fun u H2 iu sm2 => ⟨_, _, rfl, ?_⟩⟩
    have s2 := s1.trans sm2
    refine ⟨_, rfl, _, rfl, _, rfl, _, _, _, ss, ws, one, other, rfl, Same.k s2 imm, ok, Same.k s2 im1, Same.k s2 im2, g1, g2, fun p1 H3 ip1 sm3 => ?_⟩
    have s3 := s2.trans sm3
    refine ⟨_, rfl, _, rfl, _, rfl, _, _, _, ss, ws, one, other, rfl, Same.k s3 imm, ok, Same.k s3 im1, Same.k s3 im2, g1, g2, fun p2 H4 ip2 sm4 => ⟨by show 2 ≤ sizeLine; decide, fun l1 n1 => ?_⟩⟩
    have s4 := s3.trans sm4
    have sh2 : Sh (.list [tD (bothI ss one other), tD (bothI ss one other)]) := Sh.listN (fun d hd => by
      rcases List.mem_cons.mp hd with rfl | hd
      · exact tab_shJ ok.size l6 gb
      · rw [List.mem_singleton.mp hd]
        exact tab_shJ ok.size l6 gb) (by show 2 ≤ 6; decide)
    have s5 : Same H4 (upd H4 l1 (.lst [p1, p2])) := Same.new (Same.refl H4) n1
    refine ⟨_, _, rfl, .lst (SqL.of upd_same) (.cons (Same.k (sm4.trans s5) ip1).dp (.cons (Same.k s5 ip2).dp .nil)), sh2, ?_⟩
    refine ⟨_, rfl, _, rfl, by show 2 ≤ sizeLine; decide, fun l2 n2 => ?_⟩
    have s6 : Same H4 (upd (upd H4 l1 (.lst [p1, p2])) l2 (.lst [u, u])) := Same.new s5 n2
    have iu6 := Same.k ((sm3.trans sm4).trans s6) iu
    refine ⟨_, _, rfl, .lst (SqL.of upd_same) (.cons iu6.dp (.cons iu6.dp .nil)), sh2, rfl, _, rfl, iteNS rfl ?_⟩
    have s06 := s4.trans s6
    generalize upd (upd H4 l1 (.lst [p1, p2])) l2 (.lst [u, u]) = H6 at *
    refine ⟨_, rfl, _, rfl, _, rfl, _, _, _, ss, one, hs, rfl, Same.k s06 im0, Same.k s06 im1, Same.k s06 imh, ok.size, by omega, g1.sh ok.size, ch.len, cok_mostR ok.size ch, fun v H7 iv sm7 => ?_⟩
    have s07 := s06.trans sm7
    refine ⟨_, rfl, _, rfl, _, rfl, _, _, _, ss, ws, one, hs, rfl, Same.k s07 imm, ok, Same.k s07 im1, g1, Same.k s07 imh, ch, fun q1 H8 iq1 sm8 => ?_⟩
    have s08 := s07.trans sm8
    refine ⟨_, rfl, _, rfl, _, rfl, _, _, _, ss, ws, one, hs, rfl, Same.k s08 imm, ok, Same.k s08 im1, g1, Same.k s08 imh, ch, fun q2 H9 iq2 sm9 => ⟨by show 2 ≤ sizeLine; decide, fun l3 n3 => ?_⟩⟩
    have s09 := s08.trans sm9
    have shc : ShB (sD (ledI ss one hs)) := by
      obtain ⟨x, y, z⟩ := cok_shJ ok.size l6 cl
      exact ⟨x, by omega, z⟩
    have sh3 : Sh (.list [sD (ledI ss one hs), sD (ledI ss one hs)]) := Sh.listN (fun d hd => by
      rcases List.mem_cons.mp hd with rfl | hd
      · exact shc
      · rw [List.mem_singleton.mp hd]
        exact shc) (by show 2 ≤ 6; decide)
    have sA : Same H9 (upd H9 l3 (.lst [q1, q2])) := Same.new (Same.refl H9) n3
    refine ⟨_, _, rfl, .lst (SqL.of upd_same) (.cons (Same.k (sm9.trans sA) iq1).dp (.cons (Same.k sA iq2).dp .nil)), sh3, ?_⟩
    refine ⟨_, rfl, _, rfl, by show 2 ≤ sizeLine; decide, fun l4 n4 => ?_⟩
    have sB : Same H9 (upd (upd H9 l3 (.lst [q1, q2])) l4 (.lst [v, v])) := Same.new sA n4
    have ivB := Same.k ((sm8.trans sm9).trans sB) iv
    refine ⟨_, _, rfl, .lst (SqL.of upd_same) (.cons ivB.dp (.cons ivB.dp .nil)), sh3, rfl, _, rfl, iteNS rfl ?_⟩
    have s0B := s09.trans sB
    have iuB := Same.k ((((sm7.trans sm8).trans sm9).trans sB)) iu6
    generalize upd (upd H9 l3 (.lst [q1, q2])) l4 (.lst [v, v]) = HB at *
    refine ⟨_, rfl, _, rfl, _, rfl, _, _, _, ss, ws, _, hs, rfl, Same.k s0B imm, ok, iuB, gb, Same.k s0B imh, ch, fun r1 HC ir1 smC => ?_⟩
    have s0C := s0B.trans smC
    have cl2 := gb.led ok.size ch
    refine ⟨_, _, rfl, ir1.dp, (cok_shJ ok.size l6 cl2).1, ?_⟩
    refine ⟨_, rfl, _, rfl, _, rfl, _, _, _, ss, other, _, rfl, Same.k s0C im0, Same.k s0C im2, Same.k smC ivB, ok.size, by omega, g2.sh ok.size, cl.len, cok_mostR ok.size cl, fun r2 HD ir2 smD => ?_⟩
    rw [← led_both g1.sq g2.sq g2.hit ch.len] at ir2
    refine ⟨_, _, rfl, ir2.dp, (cok_shJ ok.size l6 cl2).1, rfl, _, rfl, iteNS rfl ?_⟩
    have s0D := s0C.trans smD
    refine ⟨_, rfl, _, rfl, _, rfl, _, rfl, by show 4 ≤ sizeLine; decide, fun l5 n5 => ?_⟩
    have sE : Same HD (upd HD l5 (.lst [.ref a, y, z, h])) := Same.new (Same.refl HD) n5
    have s0E := s0D.trans sE
    refine ⟨_, _, rfl, .lst (SqL.of upd_same) (.cons (Same.k s0E imm).dp (.cons (Same.k s0E im1).dp (.cons (Same.k s0E im2).dp (.cons (Same.k s0E imh).dp .nil)))), sh4, _, rfl, rfl, ?_⟩
    have kk := k _ s0E
    rw [decide_eq_true rfl]
    exact kk
def spIsDeed : Sp := fun vs H Q _ => ∃ (m e h : V) (ss : List Int) (ws : List (Nat × Nat)) (d : Nat × Nat × Int) (hs : List Int), vs = [m, e, h] ∧ Im H m (mD ss ws) ∧ MOk ss ws ∧ Im H e (dD d) ∧ DOk ss ws d ∧ Im H h (sD hs) ∧ COk ss hs ∧ ∀ H', Same H H' → Q (.bl true) H'
abbrev sc_l_is_deedN : List Str := ["machine", "deed", "held", "j", "i", "c", "due", "told", "row"]
theorem sc_l_is_deed : FnScope sc_l_is_deedN ["machine", "deed", "held"] (defScope s_l_is_deed) := ⟨rfl, rfl, rfl, by decide +kernel, rfl, by decide +kernel, by decide +kernel⟩
theorem ok_isdeed {f : Addr} {fd : FuncData} (F : Fun K "_law_is_deed" "_law_is_deed" s_l_is_deed f fd) (T : Blt mg) (c_l_still : Cal P w K mg base 1 "_law_still" spStill) (c_deed_table : Cal P w K mg base 3 "deed_table" spDeedTab) (k_deed_table_dm : CalK P w K mg base 3 "deed_table" spDeedTab ["deed", "machine"] kg21b)
    (c_moved : Cal P w K mg base 2 "moved" spMovedM) (c_done : Cal P w K mg base 2 "done" spDone) : GFn P w K mg base 4 f fd ["machine", "deed", "held"] spIsDeed := by
  refine gfn_of F sc_l_is_deed (fun vs H Q E h => ?_) (fun cdv A outer s H vs Q E hcd0 hg hr h => ?_)
  · obtain ⟨m, e, h, ss, ws, d, hs, rfl, _⟩ := h
    rfl
  · obtain ⟨m, e, h, ss, ws, d, hs, rfl, imm, ok, ime, dok, imh, ch, k⟩ := h
    refine ⟨_, (pss_cons (ps_asg (pv 1) (pg_tup rfl (pgs_cons (pg_name (i := 3) sc_l_is_deed.nd rfl (.inl rfl)) (pgs_cons (pg_name (i := 4) sc_l_is_deed.nd rfl (.inl rfl)) (pgs_cons (pg_name (i := 5) sc_l_is_deed.nd rfl (.inl rfl)) pgs_nil)))))
      (pss_cons (ps_setLc (i := 6) (own := [("row", 8)]) rfl sc_l_is_deed.nd rfl rfl (sw_true rfl rfl rfl (by decide +kernel)) (pi_tupK K rfl (pe_c c_l_still hr (by decide) rfl (pa_cons (pe_ix (ix_tupK K rfl) (pv 0) pe_int (fun _ _ => rfl)) pa_nil))) (blkOk_by (N := sc_l_is_deedN) (sc := defScope s_l_is_deed) (by decide +kernel)) (fun _ _ _ _ _ => (pg_name (i := 8) sc_l_is_deed.nd rfl (by first | exact .inl rfl | exact .inr rfl))) (fun _ _ _ _ _ => pts_nil) (fun _ _ _ _ _ => (pe_callTy (call_listK K rfl) (by rfl) T.list (by decide +kernel) (pa_cons (pv 8) pa_nil))))
      (pss_cons (ps_asg (pe_op op_mod (pv 5) (pe_ix (ix_tupK K rfl) (pe_ix (ix_tupK K rfl) (pv 0) pe_int (fun _ _ => rfl)) (pv 4) (fun _ _ => rfl))) (pg_sub (pe_ix (ix_listK K rfl) (pv 6) (pv 4) (fun _ _ => rfl)) (pv 3) set_list))
      (pss_cons (ps_set (i := 7) sc_l_is_deed.nd rfl (.inl rfl) (pe_c c_deed_table hr (by decide) rfl (pa_cons (pv 0) (pa_cons (pv 1) pa_nil))))
      (pss_cons (ps_if (pt_cmpR op_ne (pe_callB (call_reprK K rfl hg hr) (by rfl) T.repr boot_repr (pa_cons (pe_lst (pa_cons (pv 7) (pa_cons (pe_ck k_deed_table_dm hr (by decide) rfl (pk_cons (pv 1) (pk_cons (pv 0) pk_nil))) pa_nil))) pa_nil)) (pe_callB (call_reprK K rfl hg hr) (by rfl) T.repr boot_repr (pa_cons (pe_op op_rep (pe_lst (pa_cons (pe_callTy (call_tupleK K rfl) (by rfl) T.tuple (by decide +kernel) (pa_cons (pe_lc (own := [("row", 8)]) rfl sc_l_is_deed.nd (pi_listK K rfl (pv 6)) (blkOk_by (N := sc_l_is_deedN) (sc := defScope s_l_is_deed) (by decide +kernel)) (fun _ _ _ _ _ => (pg_name (i := 8) sc_l_is_deed.nd rfl (by first | exact .inl rfl | exact .inr rfl))) (fun _ _ _ _ _ => pts_nil) (fun _ _ _ _ _ => (pe_callTy (call_tupleK K rfl) (by rfl) T.tuple (by decide +kernel) (pa_cons (pv 8) pa_nil)))) pa_nil)) pa_nil)) pe_int) pa_nil)) (nomark _)) (pss_one (ps_ret pe_bl)) pss_nil)
      (pss_one (ps_ret (pe_cmpR op_eq (pe_callB (call_reprK K rfl hg hr) (by rfl) T.repr boot_repr (pa_cons (pe_c c_moved hr (by decide) rfl (pa_cons (pv 0) (pa_cons (pv 7) (pa_cons (pv 2) pa_nil)))) pa_nil)) (pe_callB (call_reprK K rfl hg hr) (by rfl) T.repr boot_repr (pa_cons (pe_c c_done hr (by decide) rfl (pa_cons (pv 0) (pa_cons (pv 2) (pa_cons (pv 1) pa_nil)))) pa_nil)) (nomark _))))))))), ?_⟩
    obtain ⟨a, xs, rfl, ha, ia⟩ := id imm.tuple
    obtain ⟨b0, q0, im0⟩ := ia.get (i := 0) rfl
    obtain ⟨b, bs, rfl, hb, ib⟩ := id im0.tuple
    have ey := ib.ints
    subst ey
    have l6 := ok.six
    have dd := dok.din ok
    have gd := GT.deed ok.size dd
    obtain ⟨e, es, rfl, he, ie⟩ := id ime.tuple
    have ew : es = [.int (d.1 : Int), .int (d.2.1 : Int), .int d.2.2] := by
      match es, ie with
      | _, .cons (.int _) (.cons (.int _) (.cons (.int _) .nil)) => rfl
    subst ew
    obtain ⟨s, hs'⟩ := get_some (ss := ss) dd.li
    obtain ⟨s2, _⟩ := (ok.size s (List.mem_of_getElem? hs')).bnd
    have hsV : (ss.map V.int)[d.2.1]? = some (V.int s) := by rw [List.getElem?_map, hs']; rfl
    refine ⟨_, rfl, e, _, rfl, SqT.of he, rfl, _, _, rfl, _, _, rfl, _, _, rfl, rfl, ?_⟩
    refine ⟨_, rfl, a, _, 0, _, rfl, rfl, SqT.of ha, atI_nat (j := 0) q0, _, ss, rfl, im0, by omega, fun u H1 iu sm1 => ?_⟩
    obtain ⟨t, ts, rfl, ht, it⟩ := iu.tuple
    have el : ts.length = ss.length := by rw [it.length, List.length_map, (still_sq _).len]
    refine ⟨t, rfl, ⟨_, SqT.of ht⟩, fun R nR => ?_⟩
    have nRb : R ≠ b := fun z => by rw [z, sm1 _ _ hb] at nR; cases nR
    refine lc_tup (K := K) (a := t) (xs := ts) (fun i H' => Same H1 H' ∧ ∃ rs : List Addr, Rws b b R H' rs ((stillI ss.length).take i) ∧ ∀ a ∈ rs, H1 a = none) ⟨Same.new (Same.refl H1) nR, [], ⟨upd_same, rfl, fun i a z => by simp at z, List.nodup_nil, fun a z => by cases z⟩, fun a z => by cases z⟩ (fun i H' _ z => SqT.of (z.1 _ _ ht)) ?_ ?_
    · rintro i v H2 hv ⟨sm, rs, rw1, fr⟩
      have li : i < ss.length := by rw [← el]; exact (List.getElem?_eq_some_iff.mp hv).1
      obtain ⟨r, hr', rl⟩ := (still_sq ss.length).get li
      obtain ⟨a1, e1, ha1⟩ := Im.row it hr'
      rw [hv] at e1
      cases e1
      have lr : rs.length ≤ 100 := by
        rw [rw1.len, List.length_take]
        omega
      refine ⟨rfl, _, rfl, a1, _, rfl, .inr (SqT.of (sm _ _ ha1)), fun g ng => ?_⟩
      have sg : Same H2 (upd H2 g (.lst (r.map V.int))) := Same.new (Same.refl H2) ng
      have rw3 := rw1.same sg
      have gR : g ≠ R := fun z => by rw [z, rw1.top] at ng; cases ng
      have gN : g ∉ rs := fun m => by
        obtain ⟨i, hi, e⟩ := List.getElem_of_mem m
        obtain ⟨r, _, h2⟩ := rw1.row i g (by rw [List.getElem?_eq_getElem hi, e])
        rw [h2] at ng
        cases ng
      refine ⟨_, rw3.top, small1000 (by rw [List.length_map]; omega), Same.put (sm.trans sg) nR, rs ++ [g], ?_, fun a ha => ?_⟩
      · rw [take_get hr']
        have hbg : g ≠ b := fun z => by rw [z, (sm1.trans sm) _ _ hb] at ng; cases ng
        exact rw3.put ⟨nRb, nRb⟩ upd_same gN ⟨gR, hbg, hbg⟩
      · rcases List.mem_append.mp ha with ha | ha
        · exact fr a ha
        · rw [List.mem_singleton.mp ha]
          exact Same.free sm ng
    rintro H2 ⟨sm2, rs, rw2, fr⟩
    rw [show (stillI ss.length).take ts.length = stillI ss.length by rw [el]; exact List.take_of_length_le (Nat.le_of_eq (still_sq _).len)] at rw2
    have s02 := sm1.trans sm2
    have lrs : rs.length = ss.length := by rw [rw2.len, (still_sq _).len]
    obtain ⟨g, hg'⟩ : ∃ g, rs[d.2.1]? = some g := ⟨rs[d.2.1]'(by rw [lrs]; exact dd.li), List.getElem?_eq_getElem _⟩
    obtain ⟨r, er, hgr⟩ := rw2.row _ _ hg'
    have rl := (still_sq ss.length).row r (List.mem_of_getElem? er)
    refine ⟨_, rfl, _, rfl, a, _, 0, _, rfl, rfl, SqT.of (s02 _ _ ha), atI_nat (j := 0) q0, _, rfl, b, _, d.2.1, _, rfl, rfl, SqT.of (s02 _ _ hb), atI_nat hsV, _, _, rfl, rfl, (show (0 : Int) < s by omega), ?_⟩
    refine ⟨_, rfl, _, rfl, R, _, d.2.1, _, rfl, rfl, SqL.of rw2.top, atI_nat (by rw [List.getElem?_map, hg']; rfl), _, rfl, g, _, _, d.1, rfl, rfl, hgr, ixN_of (by rw [List.length_map, rl]; exact dd.lj), ?_⟩
    have ngH : H g = none := Same.free sm1 (fr g (List.mem_of_getElem? hg'))
    have s03 : Same H (upd H2 g (.lst ((r.map V.int).set d.1 (.int (d.2.2 % s))))) := Same.put s02 ngH
    have rw3 : Rws b b R (upd H2 g (.lst ((r.map V.int).set d.1 (.int (d.2.2 % s))))) rs (deedI ss d) := by
      have e1 : ((r.map V.int).set d.1 (.int (d.2.2 % s))) = (r.set d.1 (d.2.2 % s)).map V.int := by rw [List.map_set]
      have e2 : deedI ss d = (stillI ss.length).set d.2.1 (r.set d.1 (d.2.2 % s)) := by
        unfold deedI
        rw [List.getD_eq_getElem?_getD, List.getD_eq_getElem?_getD, er, hs']
        rfl
      rw [e1, e2]
      exact rw2.set hg' _
    generalize upd H2 g (.lst ((r.map V.int).set d.1 (.int (d.2.2 % s)))) = H3 at *
    refine ⟨_, rfl, _, rfl, _, _, ss, ws, d, rfl, Same.k s03 imm, ok, Same.k s03 ime, dok, fun tv H4 itv sm4 => ?_⟩
    have s04 := s03.trans sm4
    refine ⟨_, rfl, _, rfl, _, rfl, _, _, ss, ws, d, rfl, Same.k s04 imm, ok, Same.k s04 ime, dok, fun tv2 H5 itv2 sm5 => ⟨by show 2 ≤ sizeLine; decide, fun l1 n1 => ?_⟩⟩
    have shd := tab_shJ ok.size l6 gd
    have sh2 : Sh (.list [tD (deedI ss d), tD (deedI ss d)]) := Sh.listN (fun x hx => by
      rcases List.mem_cons.mp hx with rfl | hx
      · exact shd
      · rw [List.mem_singleton.mp hx]
        exact shd) (by show 2 ≤ 6; decide)
    have s5 : Same H5 (upd H5 l1 (.lst [tv, tv2])) := Same.new (Same.refl H5) n1
    refine ⟨_, _, rfl, .lst (SqL.of upd_same) (.cons (Same.k (sm5.trans s5) itv).dp (.cons (Same.k s5 itv2).dp .nil)), sh2, ?_⟩
    have rw6 := rw3.same ((sm4.trans sm5).trans s5)
    have s06 := (s04.trans sm5).trans s5
    have itv6 := Same.k (sm5.trans s5) itv
    generalize upd H5 l1 (.lst [tv, tv2]) = H6 at *
    refine ⟨_, rfl, R, rfl, ⟨_, SqL.of rw6.top⟩, fun D nD => ?_⟩
    have lr : rs.length ≤ 100 := by omega
    refine lc_list (K := K) (a := R) (xs := rs.map V.ref) (fun i H' => Same H6 H' ∧ ∃ vs : List V, H' D = some (.lst vs) ∧ ImAll H' vs (((deedI ss d).take i).map sD)) ⟨Same.new (Same.refl H6) nD, [], upd_same, .nil⟩ (fun i H' _ z => SqL.of (z.1 _ _ rw6.top)) ?_ ?_
    · rintro i x H7 hx ⟨sm7, vs, hD, iv⟩
      obtain ⟨a1, ea, rfl⟩ := map_get hx
      obtain ⟨r1, er1, ha1⟩ := rw6.row i a1 ea
      have lv : vs.length ≤ 100 := by
        rw [iv.length, List.length_map, List.length_take, gd.sq.len]
        omega
      refine ⟨rfl, _, rfl, a1, _, rfl, .inl ⟨SqL.of (sm7 _ _ ha1), fun u nu => ?_⟩⟩
      have hD8 := keepN (o' := .tup (r1.map V.int)) hD nu
      have tk : Tk (upd H7 u (.tup (r1.map V.int))) (upd (upd H7 u (.tup (r1.map V.int))) D (.lst (vs ++ [.ref u]))) := (Tk.refl _).put hD8
      refine ⟨_, hD8, small1000 (by omega), Same.put (Same.new sm7 nu) nD, _, upd_same, ?_⟩
      rw [take_get er1, List.map_append]
      exact ((iv.k ((Tk.refl H7).new nu)).k tk).append (.cons (Im.k (.tup upd_same (ImAll.of_ints _ _)) tk) .nil)
    rintro H7 ⟨sm7, vs, hD, iv⟩
    rw [show (deedI ss d).take (rs.map V.ref).length = deedI ss d by rw [List.length_map, rw6.len, List.take_length]] at iv
    refine ⟨D, _, rfl, .inl ⟨SqL.of hD, fun u nu => ⟨by show 1 ≤ sizeLine; decide, fun l2 n2 => ?_⟩⟩⟩
    refine ⟨l2, 2, [.ref u], rfl, rfl, upd_same, by decide, by decide, by show 1 * 2 ≤ sizeLine; decide, fun l3 n3 => ?_⟩
    have s8 : Same H7 (upd (upd (upd H7 u (.tup vs)) l2 (.lst [.ref u])) l3 (.lst (List.replicate (Int.toNat 2) [V.ref u]).flatten)) := Same.new (Same.new (Same.new (Same.refl H7) nu) n2) n3
    have iu8 : Im (upd (upd (upd H7 u (.tup vs)) l2 (.lst [.ref u])) l3 (.lst (List.replicate (Int.toNat 2) [V.ref u]).flatten)) (.ref u) (tD (deedI ss d)) := .tup (keepN (keepN upd_same n2) n3) (iv.k (((Tk.refl H7).new nu).new n2 |>.new n3))
    refine ⟨_, _, rfl, .lst (SqL.of (xs := [.ref u, .ref u]) upd_same) (.cons iu8.dp (.cons iu8.dp .nil)), sh2, rfl, _, rfl, iteNS rfl ?_⟩
    have s08 := (s06.trans sm7).trans s8
    have itv8 := Same.k (sm7.trans s8) itv6
    generalize upd (upd (upd H7 u (.tup vs)) l2 (.lst [.ref u])) l3 (.lst (List.replicate (Int.toNat 2) [V.ref u]).flatten) = H8 at *
    refine ⟨_, rfl, _, rfl, _, rfl, _, _, _, ss, ws, _, hs, rfl, Same.k s08 imm, ok, itv8, gd, Same.k s08 imh, ch, fun r1 H9 ir1 sm9 => ?_⟩
    rw [led_deed dd ch] at ir1
    have cd : COk ss (doneI ss hs d) := rem_cok ok.size (by rw [addI_len, ch.len])
    have s09 := s08.trans sm9
    refine ⟨_, _, rfl, ir1.dp, (cok_shJ ok.size l6 cd).1, ?_⟩
    refine ⟨_, rfl, _, rfl, _, rfl, _, _, _, ss, ws, d, hs, rfl, Same.k s09 imm, ok, Same.k s09 ime, dok, Same.k s09 imh, ch, fun r2 HA ir2 smA => ?_⟩
    refine ⟨_, _, rfl, ir2.dp, (cok_shJ ok.size l6 cd).1, rfl, ?_⟩
    have kk := k _ (s09.trans smA)
    rw [decide_eq_true rfl]
    exact kk
/-! ### unlike tables -/
theorem unit_getD {n i j : Nat} (hi : i < n) : (unitI n j).getD i 0 = if i = j then 1 else 0 := by
  unfold unitI
  rw [List.getD_eq_getElem?_getD, rm_get _ hi]
  rfl
theorem unit_len (n j : Nat) : (unitI n j).length = n := by
  unfold unitI
  rw [List.length_map, List.length_range]
theorem unit_cok {ss : List Int} (ok : ∀ s ∈ ss, SizeOk s) (j : Nat) : COk ss (unitI ss.length j) := ⟨unit_len _ _, fun i h s e1 e2 => by
  have li := (List.getElem?_eq_some_iff.mp e2).1
  have := unit_getD (n := ss.length) (j := j) li
  rw [List.getD_eq_getElem?_getD, e1] at this
  have e : h = if i = j then 1 else 0 := this
  obtain ⟨m, rfl, m2, _⟩ := (ok s (List.mem_of_getElem? e2)).nat
  rw [e]
  split <;> omega⟩
theorem led_unit {ss : List Int} {t : List (List Int)} (g : GT ss t) {i j : Nat} (hi : i < ss.length) (hj : j < ss.length) : (ledI ss t (unitI ss.length j)).getD i 0 = en t i j := by
  obtain ⟨s, hs⟩ := get_some hi
  rw [led_getD g.sq (unit_len _ _) hs, sumF_congr (G := fun k => (if j = k then 1 else 0) * en t i k) fun k hk => by
    rw [unit_getD hk]
    by_cases z : k = j
    · rw [if_pos z, if_pos z.symm]; omega
    · rw [if_neg z, if_neg (Ne.symm z)]; omega, sumF_one _ _ _ hj]
  obtain ⟨a, b⟩ := g.low i j s hs hj
  exact Int.emod_eq_of_lt a b
def unlF (ss : List Int) (one other : List (List Int)) (h : List Int) : Bool := decide (ledI ss one h ≠ ledI ss other h)
theorem unl_nil {ss : List Int} {one other : List (List Int)} (g1 : GT ss one) (g2 : GT ss other) : ((List.range ss.length).map (unitI ss.length)).filter (unlF ss one other) = [] ↔ one = other := by
  constructor
  · intro h
    refine sq_ext g1.sq g2.sq fun i j hi hj => ?_
    have z := List.filter_eq_nil_iff.mp h (unitI ss.length j) (List.mem_map.mpr ⟨j, List.mem_range.mpr hj, rfl⟩)
    have e : ledI ss one (unitI ss.length j) = ledI ss other (unitI ss.length j) := Classical.byContradiction fun y => z (decide_eq_true y)
    rw [← led_unit g1 hi hj, ← led_unit g2 hi hj, e]
  · rintro rfl
    refine List.filter_eq_nil_iff.mpr fun x _ z => (of_decide_eq_true z) rfl
theorem gt_shape {ss : List Int} {t : List (List Int)} (g : GT ss t) : ∀ r ∈ t, r.length = ss.length ∧ ∀ x ∈ r, 0 ≤ x := fun r hr => by
  have rl := g.sq.row r hr
  refine ⟨rl, fun x hx => ?_⟩
  obtain ⟨i, hi, rfl⟩ := List.getElem_of_mem hr
  obtain ⟨j, hj, rfl⟩ := List.getElem_of_mem hx
  obtain ⟨s, hs⟩ := get_some (ss := ss) (show i < ss.length by rw [← g.sq.len]; exact hi)
  have := (g.low i j s hs (by rw [← rl]; exact hj)).1
  rw [en_of (List.getElem?_eq_getElem hi), List.getD_eq_getElem?_getD, List.getElem?_eq_getElem hj] at this
  exact this
def spUnlike : Sp := fun vs H Q _ => ∃ (m y z : V) (ss : List Int) (ws : List (Nat × Nat)) (one other : List (List Int)), vs = [m, y, z] ∧ Im H m (mD ss ws) ∧ MOk ss ws ∧ Im H y (tD one) ∧ Im H z (tD other) ∧ GT ss one ∧ GT ss other ∧ ∀ H', Same H H' → Q (.bl true) H'
theorem shaped_sD (l : List Int) : SeqAt.shaped (sD l) = true := by
  unfold SeqAt.shaped sD
  simp only [PyData.canLay0, PyData.depth, canLay_ints, depth_ints, Bool.true_and]
  decide
theorem eqv_sD : ∀ a b : List Int, PyData.eqv (sD a) (sD b) = decide (a = b) := by
  have : ∀ a b : List Int, PyData.eqvAll (a.map PyData.int) (b.map PyData.int) = decide (a = b) := by
    intro a
    induction a with
    | nil => intro b; cases b with | nil => rfl | cons _ _ => rfl
    | cons x a ih =>
      intro b
      cases b with
      | nil => rfl
      | cons y b =>
        rw [List.map_cons, List.map_cons]
        simp only [PyData.eqvAll, PyData.eqv, ih b, List.cons.injEq]
        by_cases h : x = y <;> by_cases g : a = b <;> simp [h, g]
  intro a b
  unfold sD
  simp only [PyData.eqv]
  exact this a b
abbrev sc_l_are_unlikeN : List Str := ["machine", "one", "other", "singles", "parted", "j", "held"]
theorem sc_l_are_unlike : FnScope sc_l_are_unlikeN ["machine", "one", "other"] (defScope s_l_are_unlike) := ⟨rfl, rfl, rfl, by decide +kernel, rfl, by decide +kernel, by decide +kernel⟩
theorem ok_unlike {f : Addr} {fd : FuncData} (F : Fun K "_law_are_unlike" "_law_are_unlike" s_l_are_unlike f fd) (T : Blt mg) (c_l_single : Cal P w K mg base 1 "_law_single" spSingle) (c_moved : Cal P w K mg base 2 "moved" spMovedM) : GFn P w K mg base 3 f fd ["machine", "one", "other"] spUnlike := by
  refine gfn_of F sc_l_are_unlike (fun vs H Q E h => ?_) (fun cdv A outer s H vs Q E hcd0 hg hr h => ?_)
  · obtain ⟨m, y, z, ss, ws, one, other, rfl, _⟩ := h
    rfl
  · obtain ⟨m, y, z, ss, ws, one, other, rfl, imm, ok, im1, im2, g1, g2, k⟩ := h
    refine ⟨_, (pss_cons (ps_setLc (i := 3) (own := [("j", 5)]) rfl sc_l_are_unlike.nd rfl rfl (sw_true rfl rfl rfl (by decide +kernel)) (pi_range1 (by rfl) T.range (pa_cons (pe_callB (call_lenK K rfl) (by rfl) T.len PySem.boot_len (pa_cons (pe_ix (ix_tupK K rfl) (pv 0) pe_int (fun _ _ => rfl)) pa_nil)) pa_nil)) (blkOk_by (N := sc_l_are_unlikeN) (sc := defScope s_l_are_unlike) (by decide +kernel)) (fun _ _ _ _ _ => (pg_name (i := 5) sc_l_are_unlike.nd rfl (by first | exact .inl rfl | exact .inr rfl))) (fun _ _ _ _ _ => pts_nil) (fun _ _ _ _ _ => (pe_c c_l_single hr (by decide) rfl (pa_cons (pe_callB (call_lenK K rfl) (by rfl) T.len PySem.boot_len (pa_cons (pe_ix (ix_tupK K rfl) (pv 0) pe_int (fun _ _ => rfl)) pa_nil)) (pa_cons (pv 5) pa_nil)))))
      (pss_cons (ps_setLc (i := 4) (own := [("held", 6)]) rfl sc_l_are_unlike.nd rfl rfl (sw_true rfl rfl rfl (by decide +kernel)) (pi_listK K rfl (pv 3)) (blkOk_by (N := sc_l_are_unlikeN) (sc := defScope s_l_are_unlike) (by decide +kernel)) (fun _ _ _ _ _ => (pg_name (i := 6) sc_l_are_unlike.nd rfl (by first | exact .inl rfl | exact .inr rfl))) (fun _ _ _ _ _ => (pts_one (pt_cmpR (op_neDK K rfl hr.units) (pe_c c_moved hr (by decide) rfl (pa_cons (pv 0) (pa_cons (pv 1) (pa_cons (pv 6) pa_nil)))) (pe_c c_moved hr (by decide) rfl (pa_cons (pv 0) (pa_cons (pv 2) (pa_cons (pv 6) pa_nil)))) (nomark _)))) (fun _ _ _ _ _ => (pv 6)))
      (pss_one (ps_ret (pe_cmpR op_eq (pe_cmpR (op_neDK K rfl hr.units) (pv 4) (pe_lst pa_nil) (nomark _)) (pe_cmpR op_ne (pe_callB (call_reprK K rfl hg hr) (by rfl) T.repr boot_repr (pa_cons (pv 1) pa_nil)) (pe_callB (call_reprK K rfl hg hr) (by rfl) T.repr boot_repr (pa_cons (pv 2) pa_nil)) (nomark _)) (nomark _)))))), ?_⟩
    obtain ⟨a, xs, rfl, ha, ia⟩ := id imm.tuple
    obtain ⟨b0, q0, im0⟩ := ia.get (i := 0) rfl
    obtain ⟨b, bs, rfl, hb, ib⟩ := id im0.tuple
    have ey := ib.ints
    subst ey
    have l6 := ok.six
    have lb : (ss.map V.int).length = ss.length := List.length_map ..
    refine ⟨_, rfl, a, _, 0, _, rfl, rfl, SqT.of ha, atI_nat (j := 0) q0, b, _, rfl, .inr (SqT.of hb), _, rfl, by omega, by omega, fun D nD => ?_⟩
    rw [lb, Int.toNat_natCast]
    refine lc_range (lo := 0) (n := ss.length) (fun i H' => Same H H' ∧ ∃ vs : List V, H' D = some (.lst vs) ∧ ImAll H' vs ((((List.range ss.length).map (unitI ss.length)).take i).map sD)) ⟨Same.new (Same.refl H) nD, [], upd_same, .nil⟩ ?_ ?_
    · rintro i H2 hi ⟨sm2, vs, hD, iv⟩
      have lv : vs.length ≤ 6 := by
        rw [iv.length, List.length_map, List.length_take]
        omega
      refine ⟨rfl, _, rfl, a, _, 0, _, rfl, rfl, SqT.of (sm2 _ _ ha), atI_nat (j := 0) q0, b, _, rfl, .inr (SqT.of (sm2 _ _ hb)), _, rfl, ss.length, i, ?_, by omega, fun u H3 iu sm3 => ?_⟩
      · rw [lb, Int.zero_add]
        rfl
      · have hD3 := sm3 _ _ hD
        have tk : Tk H3 (upd H3 D (.lst (vs ++ [u]))) := (Tk.refl H3).put hD3
        refine ⟨_, hD3, small1000 (by omega), Same.put (sm2.trans sm3) nD, _, upd_same, ?_⟩
        rw [take_get (rm_get _ hi), List.map_append]
        exact ((iv.k (Tk.same sm3)).k tk).append (.cons (iu.k tk) .nil)
    rintro H2 ⟨sm2, vs, hD, iv⟩
    rw [rm_full] at iv
    refine ⟨_, rfl, D, rfl, ⟨_, SqL.of hD⟩, fun E2 nE => ?_⟩
    have lvs : vs.length = ss.length := by rw [iv.length, List.length_map, List.length_map, List.length_range]
    refine lc_list (K := K) (a := D) (xs := vs) (fun i H' => Same H2 H' ∧ ∃ us : List V, H' E2 = some (.lst us) ∧ ImAll H' us (((((List.range ss.length).map (unitI ss.length)).take i).filter (unlF ss one other)).map sD)) ⟨Same.new (Same.refl H2) nE, [], upd_same, .nil⟩ (fun i H' _ z => SqL.of (z.1 _ _ hD)) ?_ ?_
    · rintro i x H3 hx ⟨sm3, us, hE, iu⟩
      obtain ⟨dx, hdx, imx⟩ := ImAll.getV iv hx
      obtain ⟨hh, hhh, rfl⟩ := map_get hdx
      obtain ⟨j, hj⟩ : ∃ j, hh = unitI ss.length j := by
        obtain ⟨j, _, e⟩ := List.mem_map.mp (List.mem_of_getElem? hhh)
        exact ⟨j, e.symm⟩
      have chh : COk ss hh := by rw [hj]; exact unit_cok ok.size j
      have lu : us.length ≤ 6 := by
        rw [iu.length, List.length_map]
        refine Nat.le_trans (List.length_filter_le _ _) ?_
        rw [List.length_take, List.length_map, List.length_range]
        omega
      have s3 := sm2.trans sm3
      have tf := take_filter (unlF ss one other) hhh
      refine ⟨rfl, _, rfl, _, rfl, _, rfl, _, _, _, ss, ws, one, hh, rfl, Same.k s3 imm, ok, Same.k s3 im1, g1, Same.k sm3 imx, chh, fun r1 H4 ir1 sm4 => ?_⟩
      refine ⟨_, rfl, _, rfl, _, rfl, _, _, _, ss, ws, other, hh, rfl, Same.k (s3.trans sm4) imm, ok, Same.k (s3.trans sm4) im2, g2, Same.k (sm3.trans sm4) imx, chh, fun r2 H5 ir2 sm5 => ?_⟩
      refine ⟨sD (ledI ss one hh), sD (ledI ss other hh), (Same.k sm5 ir1).dp, ir2.dp, shaped_sD _, shaped_sD _, _, rfl, ?_⟩
      rw [eqv_sD]
      have e0 : (!decide (ledI ss one hh = ledI ss other hh)) = unlF ss one other hh := by
        unfold unlF
        by_cases z : ledI ss one hh = ledI ss other hh
        · rw [decide_eq_true z, decide_eq_false (fun y => y z)]; rfl
        · rw [decide_eq_false z, decide_eq_true z]; rfl
      rw [e0]
      have sm35 := sm4.trans sm5
      have hE5 := sm35 _ _ hE
      cases ef : unlF ss one other hh with
      | true =>
        rw [ef, if_pos rfl] at tf
        have tk : Tk H5 (upd H5 E2 (.lst (us ++ [x]))) := (Tk.refl H5).put hE5
        refine iteT ⟨_, rfl, _, hE5, small1000 (by omega), Same.put (sm3.trans sm35) nE, _, upd_same, ?_⟩
        rw [tf, List.map_append]
        exact ((iu.k (Tk.same sm35)).k tk).append (.cons ((Same.k (sm3.trans sm35) imx).k tk) .nil)
      | false =>
        rw [ef, if_neg Bool.false_ne_true, List.append_nil] at tf
        exact iteF ⟨sm3.trans sm35, us, hE5, by rw [tf]; exact iu.k (Tk.same sm35)⟩
    rintro H3 ⟨sm3, us, hE, iu⟩
    rw [lvs, rm_full] at iu
    have s3 := sm2.trans sm3
    refine ⟨_, rfl, by show 0 ≤ sizeLine; decide, fun l nl => ?_⟩
    have s4 : Same H3 (upd H3 l (.lst [])) := Same.new (Same.refl H3) nl
    have un := unl_nil g1 g2
    generalize hfl : ((List.range ss.length).map (unitI ss.length)).filter (unlF ss one other) = fl at *
    refine ⟨.list (fl.map sD), .list [], .lst (SqL.of (s4 _ _ hE)) (iu.k (Tk.same s4)).dp, .lst (SqL.of upd_same) .nil, ?_, rfl, ?_⟩
    · have a1 : ∀ l : List (List Int), PyData.canLayAll0 (l.map sD) = true ∧ PyData.depthAll (l.map sD) ≤ 1 := by
        intro l
        induction l with
        | nil => exact ⟨rfl, Nat.zero_le _⟩
        | cons r l ih =>
          rw [List.map_cons]
          simp only [PyData.canLayAll0, PyData.depthAll, sD, PyData.canLay0, PyData.depth, canLay_ints, depth_ints, ih.1, Bool.true_and]
          exact ⟨trivial, by have := ih.2; omega⟩
      obtain ⟨x, y⟩ := a1 fl
      unfold SeqAt.shaped
      simp only [PyData.canLay0, PyData.depth, x, Bool.true_and]
      exact decide_eq_true (by omega)
    have e1 : PyData.eqv (.list (fl.map sD)) (.list []) = fl.isEmpty := by cases fl with | nil => rfl | cons _ _ => rfl
    rw [e1]
    have s04 := s3.trans s4
    refine ⟨_, rfl, _, _, rfl, (Same.k s04 im1).dp, (tab_shJ ok.size l6 g1).1, _, rfl, _, _, rfl, (Same.k s04 im2).dp, (tab_shJ ok.size l6 g2).1, rfl, rfl, ?_⟩
    have kk := k _ s04
    have e2 : (!fl.isEmpty) = (!decide (V.str (tD one).shown = V.str (tD other).shown)) := by
      by_cases z : one = other
      · rw [un.mpr z, z, decide_eq_true rfl]
        rfl
      · have f1 : fl.isEmpty = false := by
          cases fl with
          | nil => exact absurd (un.mp rfl) z
          | cons _ _ => rfl
        have f2 : ¬ V.str (tD one).shown = V.str (tD other).shown := fun y => z (tab_inj (n := ss.length) (by have := ok.one; omega) g1.sq.len g2.sq.len (gt_shape g1) (gt_shape g2) (V.str.inj y))
        rw [f1, decide_eq_false f2]
    rw [e2, decide_eq_true rfl]
    exact kk

/-! ### k10: law -/
theorem sh_two {a b : PyData} (x : ShB a) (y : ShB b) : Sh (.list [a, b]) := Sh.listN (fun d hd => by
  rcases List.mem_cons.mp hd with rfl | hd
  · exact x
  · rw [List.mem_singleton.mp hd]
    exact y) (by show 2 ≤ 6; decide)
theorem sh_four {a b c e : PyData} (x : ShB a) (y : ShB b) (z : ShB c) (u : ShB e) : Sh (.list [a, b, c, e]) := Sh.listN (fun d hd => by
  rcases List.mem_cons.mp hd with rfl | hd
  · exact x
  rcases List.mem_cons.mp hd with rfl | hd
  · exact y
  rcases List.mem_cons.mp hd with rfl | hd
  · exact z
  · rw [List.mem_singleton.mp hd]
    exact u) (by show 4 ≤ 6; decide)
theorem shaped_wiresJ (ws : List (Nat × Nat)) : SeqAt.shaped (.tuple (ws.map wD)) = true := by
  have a : ∀ ws : List (Nat × Nat), PyData.canLayAll0 (ws.map wD) = true := by
    intro ws
    induction ws with
    | nil => rfl
    | cons w ws ih =>
      rw [List.map_cons]
      simp only [PyData.canLayAll0, wD, PyData.canLay0, ih, Bool.and_self]
  have b := depth_wires ws
  unfold SeqAt.shaped
  simp only [PyData.canLay0, PyData.depth, a, Bool.true_and]
  exact decide_eq_true (by omega)
theorem shareP {c : Bool} {t2 : TT} {σ : L2.St} {H : Hp} {Q : Bool → Hp → Prop} {N : Hp → Prop} (n : N H) (rest : ∀ H', N H' → Q false H') (h : c = true → (∀ H', N H' → Q false H') → t2 σ H Q) : if c = true then t2 σ H Q else Q false H := by
  cases c with
  | true => exact iteT (h rfl rest)
  | false => exact iteF (rest H n)
abbrev sc_lawN : List Str := ["script", "pot", "turn", "machine", "sizes", "one", "other", "third", "held", "told", "due", "own"]
theorem sc_law : FnScope sc_lawN ["script"] (defScope s_law) := ⟨rfl, rfl, rfl, by decide +kernel, rfl, by decide +kernel, by decide +kernel⟩
theorem ok_law {f : Addr} {fd : FuncData} (F : Fun K "law" "law" s_law f fd) (T : Blt mg) (c_l_pot : Cal P w K mg base 1 "_law_pot" (spPot K)) (c_l_machine : Cal P w K mg base 5 "_law_machine" spMachine) (c_l_table : Cal P w K mg base 3 "_law_table" spTable) (c_l_contents : Cal P w K mg base 3 "_law_contents" spContents)
    (c_l_is_led : GCal P w K mg base 3 "_law_is_led" spIsLed) (c_l_are_unlike : GCal P w K mg base 3 "_law_are_unlike" spUnlike) (c_both : Cal P w K mg base 2 "both" spBothM) (c_l_is_deed : GCal P w K mg base 4 "_law_is_deed" spIsDeed) (c_l_deed : Cal P w K mg base 3 "_law_deed" spDeed)
    (c_l_still : Cal P w K mg base 1 "_law_still" spStill) (c_still : Cal P w K mg base 1 "still" spStillM) (k_still_m : CalK P w K mg base 1 "still" spStillM ["machine"] kg1) (c_l_small : Cal P w K mg base 4 "_law_small" spSmall) (c_l_every : Cal P w K mg base 1 "_law_every" spEvery)
    (c_moved : Cal P w K mg base 2 "moved" spMovedM) (c_l_led : Cal P w K mg base 1 "_law_led" spLed) : GFn P w K mg base 6 f fd ["script"] (spLaw K) := by
  refine gfn_of F sc_law (fun vs H Q E h => ?_) (fun cdv A outer s H vs Q E hcd0 hg hr h => ?_)
  · obtain ⟨a, ns, rfl, _⟩ := h
    rfl
  · obtain ⟨sa, ns, rfl, hS, hlen, k⟩ := h
    refine ⟨_, (pss_cons (ps_set (i := 1) sc_law.nd rfl (.inr rfl) (pe_c c_l_pot hr (by decide) rfl (pa_cons (pv 0) pa_nil)))
      (pss_cons (ps_for PassesOwn.never rfl (pi_range1 (by rfl) T.range (pa_cons pe_int pa_nil)) (pg_name (i := 2) sc_law.nd rfl (.inl rfl)) (pss_cons (ps_set (i := 3) sc_law.nd rfl (.inl rfl) (pe_c c_l_machine hr (by decide) rfl (pa_cons (pv 1) (pa_cons (pe_cmpR op_eq (pe_op op_mod (pv 2) pe_int) pe_int (nomark _)) pa_nil))))
      (pss_cons (ps_set (i := 4) sc_law.nd rfl (.inr rfl) (pe_ix (ix_tupK K rfl) (pv 3) pe_int (fun _ _ => rfl)))
      (pss_cons (ps_asg (pe_lc (own := [("own", 11)]) rfl sc_law.nd (pi_range1 (by rfl) T.range (pa_cons pe_int pa_nil)) (blkOk_by (N := sc_lawN) (sc := defScope s_law) (by decide +kernel)) (fun _ _ _ _ _ => (pg_name (i := 11) sc_law.nd rfl (by first | exact .inl rfl | exact .inr rfl))) (fun _ _ _ _ _ => pts_nil) (fun _ _ _ _ _ => (pe_c c_l_table hr (by decide) rfl (pa_cons (pv 1) (pa_cons (pv 4) pa_nil))))) (pg_lst rfl (pgs_cons (pg_name (i := 5) sc_law.nd rfl (.inl rfl)) (pgs_cons (pg_name (i := 6) sc_law.nd rfl (.inl rfl)) (pgs_cons (pg_name (i := 7) sc_law.nd rfl (.inl rfl)) pgs_nil)))))
      (pss_cons (ps_set (i := 8) sc_law.nd rfl (.inl rfl) (pe_c c_l_contents hr (by decide) rfl (pa_cons (pv 1) (pa_cons (pv 4) pa_nil))))
      (pss_cons (ps_if (PW.pt (pw_or (pt_not (pt_val (pe_g c_l_is_led hg hr (by decide) rfl (pa_cons (pv 3) (pa_cons (pv 5) (pa_cons (pv 6) (pa_cons (pv 8) pa_nil))))))) (pw_or1 (pt_not (pt_val (pe_g c_l_are_unlike hg hr (by decide) rfl (pa_cons (pv 3) (pa_cons (pv 5) (pa_cons (pv 6) pa_nil))))))))) (pss_one (ps_ret pe_bl)) pss_nil)
      (pss_cons (ps_set (i := 9) sc_law.nd rfl (.inl rfl) (pe_lst (pa_cons (pe_c c_both hr (by decide) rfl (pa_cons (pv 3) (pa_cons (pe_c c_both hr (by decide) rfl (pa_cons (pv 3) (pa_cons (pv 5) (pa_cons (pv 6) pa_nil)))) (pa_cons (pv 7) pa_nil)))) (pa_cons (pe_c c_both hr (by decide) rfl (pa_cons (pv 3) (pa_cons (pv 5) (pa_cons (pe_c c_both hr (by decide) rfl (pa_cons (pv 3) (pa_cons (pv 6) (pa_cons (pv 7) pa_nil)))) pa_nil)))) pa_nil))))
      (pss_cons (ps_if (pt_cmpR op_ne (pe_callB (call_reprK K rfl hg hr) (by rfl) T.repr boot_repr (pa_cons (pe_ix (ix_listK K rfl) (pv 9) pe_int (fun _ _ => rfl)) pa_nil)) (pe_callB (call_reprK K rfl hg hr) (by rfl) T.repr boot_repr (pa_cons (pe_ix (ix_listK K rfl) (pv 9) pe_int (fun _ _ => rfl)) pa_nil)) (nomark _)) (pss_one (ps_ret pe_bl)) pss_nil)
      (pss_cons (ps_if (PW.pt (pw_and (pt_cmpR (op_neDK K rfl hr.units) (pe_ix (ix_tupK K rfl) (pv 3) pe_int (fun _ _ => rfl)) (pe_tup pa_nil) (nomark _)) (pw_and1 (pt_not (pt_val (pe_g c_l_is_deed hg hr (by decide) rfl (pa_cons (pv 3) (pa_cons (pe_c c_l_deed hr (by decide) rfl (pa_cons (pv 1) (pa_cons (pv 3) pa_nil))) (pa_cons (pv 8) pa_nil))))))))) (pss_one (ps_ret pe_bl)) pss_nil)
      (pss_cons (ps_set (i := 10) sc_law.nd rfl (.inl rfl) (pe_c c_l_still hr (by decide) rfl (pa_cons (pv 4) pa_nil)))
      (pss_cons (ps_set (i := 9) sc_law.nd rfl (.inl rfl) (pe_lst (pa_cons (pe_c c_still hr (by decide) rfl (pa_cons (pv 3) pa_nil)) (pa_cons (pe_ck k_still_m hr (by decide) rfl (pk_cons (pv 3) pk_nil)) (pa_cons (pe_c c_both hr (by decide) rfl (pa_cons (pv 3) (pa_cons (pv 5) (pa_cons (pv 10) pa_nil)))) (pa_cons (pe_c c_both hr (by decide) rfl (pa_cons (pv 3) (pa_cons (pv 10) (pa_cons (pv 5) pa_nil)))) pa_nil))))))
      (pss_one (ps_if (pt_cmpR op_ne (pe_callB (call_reprK K rfl hg hr) (by rfl) T.repr boot_repr (pa_cons (pv 9) pa_nil)) (pe_callB (call_reprK K rfl hg hr) (by rfl) T.repr boot_repr (pa_cons (pe_lst (pa_cons (pv 10) (pa_cons (pv 10) (pa_cons (pv 5) (pa_cons (pv 5) pa_nil))))) pa_nil)) (nomark _)) (pss_one (ps_ret pe_bl)) pss_nil)))))))))))))
      (pss_cons (ps_set (i := 3) sc_law.nd rfl (.inl rfl) (pe_c c_l_small hr (by decide) rfl (pa_cons (pv 1) (pa_cons pe_int pa_nil))))
      (pss_cons (ps_par (i := 5) (j := 10) rfl sc_law.nd rfl rfl (by decide) rfl rfl (pa_cons (pe_c c_l_table hr (by decide) rfl (pa_cons (pv 1) (pa_cons (pe_ix (ix_tupK K rfl) (pv 3) pe_int (fun _ _ => rfl)) pa_nil))) (pa_cons (pe_c c_l_still hr (by decide) rfl (pa_cons (pe_ix (ix_tupK K rfl) (pv 3) pe_int (fun _ _ => rfl)) pa_nil)) pa_nil)) (by rfl))
      (pss_cons (ps_for PassesOwn.never rfl (pi_listK K rfl (pe_c c_l_every hr (by decide) rfl (pa_cons (pe_ix (ix_tupK K rfl) (pv 3) pe_int (fun _ _ => rfl)) pa_nil))) (pg_name (i := 8) sc_law.nd rfl (.inl rfl)) (pss_cons (ps_set (i := 9) sc_law.nd rfl (.inl rfl) (pe_lst (pa_cons (pe_c c_moved hr (by decide) rfl (pa_cons (pv 3) (pa_cons (pv 5) (pa_cons (pv 8) pa_nil)))) (pa_cons (pe_c c_moved hr (by decide) rfl (pa_cons (pv 3) (pa_cons (pv 10) (pa_cons (pv 8) pa_nil)))) pa_nil))))
      (pss_one (ps_if (pt_cmpR op_ne (pe_callB (call_reprK K rfl hg hr) (by rfl) T.repr boot_repr (pa_cons (pv 9) pa_nil)) (pe_callB (call_reprK K rfl hg hr) (by rfl) T.repr boot_repr (pa_cons (pe_lst (pa_cons (pe_c c_l_led hr (by decide) rfl (pa_cons (pe_ix (ix_tupK K rfl) (pv 3) pe_int (fun _ _ => rfl)) (pa_cons (pv 5) (pa_cons (pv 8) pa_nil)))) (pa_cons (pv 8) pa_nil))) pa_nil)) (nomark _)) (pss_one (ps_ret pe_bl)) pss_nil))))
      (pss_one (ps_ret pe_bl))))))), ?_⟩
    refine ⟨_, rfl, sa, ns, rfl, hS, hlen, fun p q H1 P1 sm1 np nq => ?_⟩
    refine ⟨6, rfl, by decide, by decide, for_range (lo := 0) (n := 6) (fun _ σ H' => ∃ v2 v3 v4 v5 v6 v7 v8 v9 v10 : Option V, σ = [some (.ref sa), some (.ref p), v2, v3, v4, v5, v6, v7, v8, v9, v10, none] ∧ Pt H' p q)
      ⟨none, none, none, none, none, none, none, none, none, rfl, P1⟩ ?_ ?_⟩
    · rintro t σ H2 ht ⟨v2, v3, v4, v5, v6, v7, v8, v9, v10, rfl, P2⟩
      refine ⟨_, rfl, _, rfl, _, _, rfl, rfl, (by decide : (0 : Int) < 2), rfl, p, q, _, rfl, P2, fun mv ss ws H3 im3 ok P3 k3 => ?_⟩
      obtain ⟨a, xs, rfl, ha3, ia⟩ := id im3.tuple
      obtain ⟨b0, g0, is3⟩ := ia.get (i := 0) rfl
      obtain ⟨c0, g1', iw3⟩ := ia.get (i := 1) rfl
      have l6 := ok.six
      refine ⟨_, rfl, a, _, 0, _, rfl, rfl, SqT.of ha3, atI_nat (j := 0) g0, ?_⟩
      refine ⟨3, rfl, by decide, by decide, fun D nD => ?_⟩
      obtain ⟨nd1, nd2⟩ := P3.np nD
      refine lc_range (lo := 0) (n := 3) (fun i H' => Pt H' p q ∧ Kp p q H3 H' ∧ ∃ (vs : List V) (ds : List (List (List Int))), H' D = some (.lst vs) ∧ ImAll H' vs (ds.map tD) ∧ ds.length = i ∧ ∀ x ∈ ds, TOk ss x)
        ⟨P3.new nD, (Kp.refl p q H3).new nD, [], [], upd_same, .nil, rfl, fun x hx => by cases hx⟩ ?_ ?_
      · rintro i H4 hi ⟨P4, k4, vs, ds, hd, ia4, hl, ok4⟩
        have lv : vs.length = ds.length := by rw [ia4.length, List.length_map]
        refine ⟨rfl, _, rfl, _, rfl, p, q, _, ss, rfl, P4, is3.k (k4.tk P3), ok.size, by omega, fun u dd H5 imu dok P5 k5 => ?_⟩
        have hd5 : H5 D = some (.lst vs) := k5 _ _ nd1 nd2 hd
        have tk5 : Tk H5 (upd H5 D (.lst (vs ++ [u]))) := (Tk.refl H5).put hd5
        refine ⟨vs, hd5, small1000 (by omega), P5.put nd1 nd2, (k4.trans k5).put nD, vs ++ [u], ds ++ [dd], upd_same, ?_, by rw [List.length_append, List.length_singleton, hl], fun x hx => ?_⟩
        · rw [List.map_append]
          exact ((ia4.k (k5.tk P4)).k tk5).append (.cons (imu.k tk5) .nil)
        · rcases List.mem_append.mp hx with h | h
          · exact ok4 x h
          · rw [List.mem_singleton.mp h]
            exact dok
      rintro H4 ⟨P4, k4, vs, ds, hd, ia4, hl, ok4⟩
      obtain ⟨t1, t2, t3, rfl⟩ : ∃ t1 t2 t3, ds = [t1, t2, t3] := by
        match ds, hl with
        | [x, y, z], _ => exact ⟨x, y, z, rfl⟩
      obtain ⟨x1, x2, x3, rfl, i1, i2, i3⟩ : ∃ x1 x2 x3, vs = [x1, x2, x3] ∧ Im H4 x1 (tD t1) ∧ Im H4 x2 (tD t2) ∧ Im H4 x3 (tD t3) := by
        cases ia4 with
        | cons a1 r1 =>
          cases r1 with
          | cons a2 r2 =>
            cases r2 with
            | cons a3 r3 =>
              cases r3
              exact ⟨_, _, _, rfl, a1, a2, a3⟩
      have g1 := (ok4 t1 (by simp)).gt
      have g2 := (ok4 t2 (by simp)).gt
      have g3 := (ok4 t3 (by simp)).gt
      refine ⟨D, _, rfl, SqL.of hd, rfl, _, _, rfl, _, _, rfl, _, _, rfl, rfl, ?_⟩
      have t34 := k4.tk P3
      have im4 := im3.k t34
      have is4 := is3.k t34
      refine ⟨_, rfl, _, rfl, p, q, _, ss, rfl, P4, is4, ok.size, by omega, fun hv hs H5 ih ch P5 k5 => ?_⟩
      have t5 := k5.tk P4
      have im5 := im4.k t5
      have is5 := is4.k t5
      have j1 := i1.k t5
      have j2 := i2.k t5
      have j3 := i3.k t5
      refine ⟨_, rfl, _, rfl, _, rfl, _, rfl, _, _, _, _, ss, ws, t1, t2, hs, rfl, im5, ok, j1, j2, g1, g2, ih, ch, fun H6 s6 => ⟨_, rfl, iteF ?_⟩⟩
      refine ⟨_, rfl, _, rfl, _, rfl, _, _, _, ss, ws, t1, t2, rfl, Same.k s6 im5, ok, Same.k s6 j1, Same.k s6 j2, g1, g2, fun H7 s7 => ⟨_, rfl, iteF ?_⟩⟩
      have s57 := s6.trans s7
      have g12 := g1.both ok.size g2
      have g23 := g2.both ok.size g3
      refine ⟨_, rfl, _, rfl, _, rfl, _, rfl, _, _, _, ss, ws, t1, t2, rfl, Same.k s57 im5, ok, Same.k s57 j1, Same.k s57 j2, g1, g2, fun u1 H8 iu1 s8 => ?_⟩
      have s58 := s57.trans s8
      refine ⟨_, rfl, _, _, _, ss, ws, _, t3, rfl, Same.k s58 im5, ok, iu1, Same.k s58 j3, g12, g3, fun u2 H9 iu2 s9 => ?_⟩
      have s59 := s58.trans s9
      refine ⟨_, rfl, _, rfl, _, rfl, _, rfl, _, rfl, _, _, _, ss, ws, t2, t3, rfl, Same.k s59 im5, ok, Same.k s59 j2, Same.k s59 j3, g2, g3, fun u3 HA iu3 sA => ?_⟩
      have s5A := s59.trans sA
      refine ⟨_, _, _, ss, ws, t1, _, rfl, Same.k s5A im5, ok, Same.k s5A j1, iu3, g1, g23, fun u4 HB iu4 sB => ⟨by show 2 ≤ sizeLine; decide, fun l nl => ?_⟩⟩
      have s5B := s5A.trans sB
      rw [← both_assoc g1.sq g2.sq g3.sq g3.hit] at iu4
      have gq := g12.both ok.size g3
      have shq := tab_shJ ok.size l6 gq
      have sC : Same HB (upd HB l (.lst [u2, u4])) := Same.new (Same.refl HB) nl
      have hl2 : (upd HB l (.lst [u2, u4])) l = some (.lst [u2, u4]) := upd_same
      have s5C := s5B.trans sC
      have iu2C := Same.k ((sA.trans sB).trans sC) iu2
      have iu4C := Same.k sC iu4
      generalize upd HB l (.lst [u2, u4]) = HC at *
      refine ⟨_, rfl, l, _, 0, _, rfl, rfl, SqL.of hl2, atI_nat (j := 0) rfl, _, _, rfl, iu2C.dp, shq.1, _, rfl, l, _, 1, _, rfl, rfl, SqL.of hl2, atI_nat (j := 1) rfl, _, _, rfl, iu4C.dp, shq.1, rfl, _, rfl, iteNS rfl ?_⟩
      have imC := Same.k s5C im5
      have isC := Same.k s5C is5
      have PC := P5.same s5C
      have j1C := Same.k s5C j1
      have haC : HC a = some (.tup xs) := s5C _ _ (t5 _ _ (t34 _ _ ha3))
      have ihC := Same.k s5C ih
      have iwC := (iw3.k (t34.trans t5)).k (Tk.same s5C)
      refine ⟨_, rfl, a, _, 1, _, rfl, rfl, SqT.of haC, atI_nat (j := 1) g1', by show 0 ≤ sizeLine; decide, fun z nz => ?_⟩
      have PD := PC.new (o := .tup []) nz
      have tD' : Tk HC (upd HC z (.tup [])) := (Tk.refl HC).new nz
      have sD' : Same HC (upd HC z (.tup [])) := Same.new (Same.refl HC) nz
      refine ⟨.tuple (ws.map wD), .tuple [], (iwC.k tD').dp, .tup (SqT.of upd_same) .nil, shaped_wiresJ ws, rfl, _, rfl, ?_⟩
      have eqT : PyData.eqv (.tuple (ws.map wD)) (.tuple []) = ws.isEmpty := by cases ws with | nil => rfl | cons _ _ => rfl
      rw [eqT]
      have imD := imC.k tD'
      have isD := isC.k tD'
      have j1D := j1C.k tD'
      have ihD := ihC.k tD'
      generalize upd HC z (.tup []) = HD at *
      refine shareP (H := HD) (N := fun H' => Im H' (.ref a) (mD ss ws) ∧ Im H' b0 (sD ss) ∧ Im H' x1 (tD t1) ∧ Pt H' p q) ⟨imD, isD, j1D, PD⟩ ?_ ?_
      · rintro HE ⟨imE, isE, j1E, PE'⟩
        refine iteF ?_
        refine ⟨_, rfl, _, ss, rfl, isE, by omega, fun du HF idu sF => ?_⟩
        refine ⟨_, rfl, _, ss, ws, rfl, Same.k sF imE, ok, fun y1 HG iy1 sG => ?_⟩
        have sFG := sF.trans sG
        refine ⟨_, rfl, _, ss, ws, rfl, Same.k sFG imE, ok, fun y2 HH iy2 sH => ?_⟩
        have sFH := sFG.trans sH
        have gs := GT.still ok.size
        refine ⟨_, rfl, _, rfl, _, rfl, _, _, _, ss, ws, t1, _, rfl, Same.k sFH imE, ok, Same.k sFH j1E, Same.k (sG.trans sH) idu, g1, gs, fun y3 HI iy3 sI => ?_⟩
        have sFI := sFH.trans sI
        refine ⟨_, rfl, _, rfl, _, rfl, _, _, _, ss, ws, _, t1, rfl, Same.k sFI imE, ok, Same.k ((sG.trans sH).trans sI) idu, Same.k sFI j1E, gs, g1, fun y4 HJ iy4 sJ => ⟨by show 4 ≤ sizeLine; decide, fun l2 nl2 => ?_⟩⟩
        have sFJ := sFI.trans sJ
        rw [both_still g1.sq g1.low] at iy3
        rw [still_both g1.sq g1.low] at iy4
        have sK : Same HJ (upd HJ l2 (.lst [y1, y2, y3, y4])) := Same.new (Same.refl HJ) nl2
        have hl2' : (upd HJ l2 (.lst [y1, y2, y3, y4])) l2 = some (.lst [y1, y2, y3, y4]) := upd_same
        have shs := tab_shJ ok.size l6 gs
        have sh1 := tab_shJ ok.size l6 g1
        have sh4 := sh_four shs shs sh1 sh1
        refine ⟨_, rfl, _, _, rfl, .lst (SqL.of hl2') (.cons (Same.k (((sH.trans sI).trans sJ).trans sK) iy1).dp (.cons (Same.k ((sI.trans sJ).trans sK) iy2).dp (.cons (Same.k (sJ.trans sK) iy3).dp (.cons (Same.k sK iy4).dp .nil)))), sh4, ?_⟩
        refine ⟨_, rfl, _, rfl, _, rfl, _, rfl, by show 4 ≤ sizeLine; decide, fun l3 nl3 => ?_⟩
        have sL : Same HJ (upd (upd HJ l2 (.lst [y1, y2, y3, y4])) l3 (.lst [du, du, x1, x1])) := Same.new sK nl3
        have iduL := Same.k (((sG.trans sH).trans sI).trans (sJ.trans sL)) idu
        have j1L := Same.k (sFJ.trans sL) j1E
        exact ⟨_, _, rfl, .lst (SqL.of upd_same) (.cons iduL.dp (.cons iduL.dp (.cons j1L.dp (.cons j1L.dp .nil)))), sh4, rfl, _, rfl, iteNS rfl ⟨_, _, _, _, _, _, _, _, _, rfl, PE'.same (sFJ.trans sL)⟩⟩
      · intro hne rest'
        cases ws with
        | nil => cases hne
        | cons w0 ws0 =>
          have ne : w0 :: ws0 ≠ [] := List.cons_ne_nil _ _
          generalize w0 :: ws0 = ws at *
          refine ⟨_, rfl, _, rfl, _, rfl, p, q, _, ss, ws, rfl, PD, imD, ok, ne, fun dv d HE ide dk PE' kE => ?_⟩
          have tE := kE.tk PD
          refine ⟨_, rfl, _, _, _, ss, ws, d, hs, rfl, imD.k tE, ok, ide, dk, ihD.k tE, ch, fun HF sF => ⟨_, rfl, ?_⟩⟩
          exact rest' HF ⟨Same.k sF (imD.k tE), Same.k sF (isD.k tE), Same.k sF (j1D.k tE), PE'.same sF⟩
    · rintro σ H2 ⟨v2, v3, v4, v5, v6, v7, v8, v9, v10, rfl, P2⟩
      refine ⟨_, rfl, p, q, 100, rfl, P2, by decide, by decide, fun mv ss ws H3 im ok lp P3 k3 => ?_⟩
      obtain ⟨a, xs, rfl, ha, ia⟩ := id im.tuple
      obtain ⟨b0, g0, is0⟩ := ia.get (i := 0) rfl
      have l6 := ok.six
      refine ⟨_, rfl, _, rfl, a, _, 0, _, rfl, rfl, SqT.of ha, atI_nat (j := 0) g0, p, q, _, ss, rfl, P3, is0, ok.size, by omega, fun ov one H4 iov tok P4 k4 => ?_⟩
      have g1 := tok.gt
      have gs := GT.still ok.size
      have t4 := k4.tk P3
      refine ⟨_, rfl, a, _, 0, _, rfl, rfl, SqT.of (t4 _ _ ha), atI_nat (j := 0) g0, _, ss, rfl, is0.k t4, by omega, fun dv H5 idv s5 => ⟨_, _, rfl, ?_⟩⟩
      have im5 := Same.k s5 (im.k t4)
      have is5 := Same.k s5 (is0.k t4)
      have ha5 := s5 _ _ (t4 _ _ ha)
      have io5 := Same.k s5 iov
      refine ⟨_, rfl, a, _, 0, _, rfl, rfl, SqT.of ha5, atI_nat (j := 0) g0, _, ss, rfl, is5, ok.size, by omega, fun e us H6 ne he iu s6 => ?_⟩
      have im6 := Same.k s6 im5
      have is6 := Same.k s6 is5
      have ha6 := s6 _ _ ha5
      have io6 := Same.k s6 io5
      have id6 := Same.k s6 idv
      have ev := every_full ss ok.size
      refine ⟨e, rfl, ⟨_, SqL.of he⟩, for_list (K := K) (a := e) (xs := us) (fun i σ H' => ∃ v8 v9 : Option V, σ = [some (.ref sa), some (.ref p), v2, some (.ref a), v4, some ov, v6, v7, v8, v9, some dv, none] ∧ Same H6 H')
        ⟨_, _, rfl, Same.refl H6⟩ (fun i σ H' _ ⟨_, _, _, z⟩ => SqL.of (z _ _ he)) ?_ ?_⟩
      · rintro i x σ H7 hx ⟨v8', v9', rfl, s7⟩
        obtain ⟨dx, hdx, imx⟩ := ImAll.getV iu hx
        obtain ⟨hh, hhh, rfl⟩ := map_get hdx
        have ch := ev.cok hh (List.mem_of_getElem? hhh)
        have imx7 := Same.k s7 imx
        have im7 := Same.k s7 im6
        refine ⟨_, rfl, _, rfl, _, rfl, _, _, _, ss, ws, one, hh, rfl, im7, ok, Same.k s7 io6, g1, imx7, ch, fun r1 H8 ir1 s8 => ?_⟩
        refine ⟨_, rfl, _, rfl, _, rfl, _, _, _, ss, ws, _, hh, rfl, Same.k s8 im7, ok, Same.k (s7.trans s8) id6, gs, Same.k s8 imx7, ch, fun r2 H9 ir2 s9 => ⟨by show 2 ≤ sizeLine; decide, fun l nl => ?_⟩⟩
        rw [led_still ch] at ir2
        have s89 := s8.trans s9
        have sA : Same H9 (upd H9 l (.lst [r1, r2])) := Same.new (Same.refl H9) nl
        have hl2 : (upd H9 l (.lst [r1, r2])) l = some (.lst [r1, r2]) := upd_same
        have sAll := s89.trans sA
        have ir1A := Same.k (s9.trans sA) ir1
        have ir2A := Same.k sA ir2
        generalize upd H9 l (.lst [r1, r2]) = HA at *
        have cl := g1.led ok.size ch
        have sb : ∀ {h : List Int}, COk ss h → ShB (sD h) := fun c => by
          obtain ⟨x, y, z⟩ := cok_shJ ok.size l6 c
          exact ⟨x, by omega, z⟩
        have sh2 := sh_two (sb cl) (sb ch)
        refine ⟨_, rfl, _, _, rfl, .lst (SqL.of hl2) (.cons ir1A.dp (.cons ir2A.dp .nil)), sh2, ?_⟩
        have s7A := s7.trans sAll
        refine ⟨_, rfl, a, _, 0, _, rfl, rfl, SqT.of (s7A _ _ ha6), atI_nat (j := 0) g0, _, rfl, _, rfl, _, _, _, ss, one, hh, rfl, Same.k s7A is6, Same.k s7A io6, Same.k sAll imx7, ok.size, by omega, g1.sh ok.size, ch.len, cok_mostR ok.size ch, fun r3 HB ir3 sB => ?_⟩
        refine ⟨_, rfl, by show 2 ≤ sizeLine; decide, fun l3 nl3 => ?_⟩
        have sC : Same HB (upd HB l3 (.lst [r3, x])) := Same.new (Same.refl HB) nl3
        exact ⟨_, _, rfl, .lst (SqL.of upd_same) (.cons (Same.k sC ir3).dp (.cons (Same.k ((sAll.trans sB).trans sC) imx7).dp .nil)), sh2, rfl, _, rfl, iteNS rfl ⟨_, _, rfl, (s7A.trans sB).trans sC⟩⟩
      · rintro σ H7 ⟨v8', v9', rfl, s7⟩
        exact k H7

end
/-! ### what the top has written -/
theorem all_mk {l : PySem.W.OpenLaw} {w : World} {K : PySem.W.Frag} {h : Heap} {mg : Str → Option Value} {fa f1 f2 f3 f4 f5 f6 f7 f8 f9 f10 f11 f12 f13 f14 f15 f16 f17 f18 f19 f20 f21 f22 f23 f24 f25 f26 f27 f28 f29 f30 f31 : Addr} (X : K.In h) (G : h.Ns mainGlobals mg) (hfa : mg "law" = some (.ref fa))
    {od1 an1 od2 an2 od3 an3 od4 an4 od5 an5 od6 an6 od7 an7 od8 an8 od9 an9 od10 an10 od11 an11 od12 an12 od13 an13 od14 an14 od15 an15 od16 an16 od17 an17 od18 an18 od19 an19 od20 an20 od21 an21 od22 an22 od23 an23 od24 an24 od25 an25 od26 an26 od27 an27 od28 an28 od29 an29 od30 an30 od31 an31 : Option Addr} {sl1 sl2 sl3 sl4 sl5 sl6 sl7 sl8 sl9 sl10 sl11 sl12 sl13 sl14 sl15 sl16 sl17 sl18 sl19 sl20 sl21 sl22 sl23 sl24 sl25 sl26 sl27 sl28 sl29 sl30 sl31 : Array (Option Value)} {oc1 kV1 dc1 pm1 cd1 ct1 oc2 kV2 dc2 pm2 cd2 ct2 oc3 kV3 dc3 pm3 cd3 ct3 oc4 kV4 dc4 pm4 cd4 ct4 oc5 kV5 dc5 pm5 cd5 ct5 oc6 kV6 dc6 pm6 cd6 ct6 oc7 kV7 dc7 pm7 cd7 ct7 oc8 kV8 dc8 pm8 cd8 ct8 oc9 kV9 dc9 pm9 cd9 ct9 oc10 kV10 dc10 pm10 cd10 ct10 oc11 kV11 dc11 pm11 cd11 ct11 oc12 kV12 dc12 pm12 cd12 ct12 oc13 kV13 dc13 pm13 cd13 ct13 oc14 kV14 dc14 pm14 cd14 ct14 oc15 kV15 dc15 pm15 cd15 ct15 oc16 kV16 dc16 pm16 cd16 ct16 oc17 kV17 dc17 pm17 cd17 ct17 oc18 kV18 dc18 pm18 cd18 ct18 oc19 kV19 dc19 pm19 cd19 ct19 oc20 kV20 dc20 pm20 cd20 ct20 oc21 kV21 dc21 pm21 cd21 ct21 oc22 kV22 dc22 pm22 cd22 ct22 oc23 kV23 dc23 pm23 cd23 ct23 oc24 kV24 dc24 pm24 cd24 ct24 oc25 kV25 dc25 pm25 cd25 ct25 oc26 kV26 dc26 pm26 cd26 ct26 oc27 kV27 dc27 pm27 cd27 ct27 oc28 kV28 dc28 pm28 cd28 ct28 oc29 kV29 dc29 pm29 cd29 ct29 oc30 kV30 dc30 pm30 cd30 ct30 oc31 kV31 dc31 pm31 cd31 ct31 : Value}
    (a1 : PySem.W.nsIn K mainGlobals "still" = some (some (.ref f1))) (l1 : K.lookup f1 = some ⟨oc1, od1, .func (PySem.W.fnOf "still" "still" (defArgs s_still) (defBody s_still) (defScope s_still) .none kV1 dc1 pm1 an1 cd1 ct1), sl1⟩) (c1 : PySem.W.codeIn K cd1 "still" = true) (k1 : PySem.W.keepIn K (.ref f1) = true)
    (a2 : PySem.W.nsIn K mainGlobals "deed_table" = some (some (.ref f2))) (l2 : K.lookup f2 = some ⟨oc2, od2, .func (PySem.W.fnOf "deed_table" "deed_table" (defArgs s_deed_table) (defBody s_deed_table) (defScope s_deed_table) .none kV2 dc2 pm2 an2 cd2 ct2), sl2⟩) (c2 : PySem.W.codeIn K cd2 "deed_table" = true) (k2 : PySem.W.keepIn K (.ref f2) = true)
    (a3 : PySem.W.nsIn K mainGlobals "table_of" = some (some (.ref f3))) (l3 : K.lookup f3 = some ⟨oc3, od3, .func (PySem.W.fnOf "table_of" "table_of" (defArgs s_table_of) (defBody s_table_of) (defScope s_table_of) .none kV3 dc3 pm3 an3 cd3 ct3), sl3⟩) (c3 : PySem.W.codeIn K cd3 "table_of" = true) (k3 : PySem.W.keepIn K (.ref f3) = true)
    (a4 : PySem.W.nsIn K mainGlobals "both" = some (some (.ref f4))) (l4 : K.lookup f4 = some ⟨oc4, od4, .func (PySem.W.fnOf "both" "both" (defArgs s_both) (defBody s_both) (defScope s_both) .none kV4 dc4 pm4 an4 cd4 ct4), sl4⟩) (c4 : PySem.W.codeIn K cd4 "both" = true) (k4 : PySem.W.keepIn K (.ref f4) = true)
    (a5 : PySem.W.nsIn K mainGlobals "moved" = some (some (.ref f5))) (l5 : K.lookup f5 = some ⟨oc5, od5, .func (PySem.W.fnOf "moved" "moved" (defArgs s_moved) (defBody s_moved) (defScope s_moved) .none kV5 dc5 pm5 an5 cd5 ct5), sl5⟩) (c5 : PySem.W.codeIn K cd5 "moved" = true) (k5 : PySem.W.keepIn K (.ref f5) = true)
    (a6 : PySem.W.nsIn K mainGlobals "product_sum" = some (some (.ref f6))) (l6 : K.lookup f6 = some ⟨oc6, od6, .func (PySem.W.fnOf "product_sum" "product_sum" (defArgs s_product_sum) (defBody s_product_sum) (defScope s_product_sum) .none kV6 dc6 pm6 an6 cd6 ct6), sl6⟩) (c6 : PySem.W.codeIn K cd6 "product_sum" = true) (k6 : PySem.W.keepIn K (.ref f6) = true)
    (a7 : PySem.W.nsIn K mainGlobals "done" = some (some (.ref f7))) (l7 : K.lookup f7 = some ⟨oc7, od7, .func (PySem.W.fnOf "done" "done" (defArgs s_done) (defBody s_done) (defScope s_done) .none kV7 dc7 pm7 an7 cd7 ct7), sl7⟩) (c7 : PySem.W.codeIn K cd7 "done" = true) (k7 : PySem.W.keepIn K (.ref f7) = true)
    (a8 : PySem.W.nsIn K mainGlobals "run" = some (some (.ref f8))) (l8 : K.lookup f8 = some ⟨oc8, od8, .func (PySem.W.fnOf "run" "run" (defArgs s_run) (defBody s_run) (defScope s_run) .none kV8 dc8 pm8 an8 cd8 ct8), sl8⟩) (c8 : PySem.W.codeIn K cd8 "run" = true) (k8 : PySem.W.keepIn K (.ref f8) = true)
    (a9 : PySem.W.nsIn K mainGlobals "_law_pot" = some (some (.ref f9))) (l9 : K.lookup f9 = some ⟨oc9, od9, .func (PySem.W.fnOf "_law_pot" "_law_pot" (defArgs s_l_pot) (defBody s_l_pot) (defScope s_l_pot) .none kV9 dc9 pm9 an9 cd9 ct9), sl9⟩) (c9 : PySem.W.codeIn K cd9 "_law_pot" = true) (k9 : PySem.W.keepIn K (.ref f9) = true)
    (a10 : PySem.W.nsIn K mainGlobals "_law_dip" = some (some (.ref f10))) (l10 : K.lookup f10 = some ⟨oc10, od10, .func (PySem.W.fnOf "_law_dip" "_law_dip" (defArgs s_l_dip) (defBody s_l_dip) (defScope s_l_dip) .none kV10 dc10 pm10 an10 cd10 ct10), sl10⟩) (c10 : PySem.W.codeIn K cd10 "_law_dip" = true) (k10 : PySem.W.keepIn K (.ref f10) = true)
    (a11 : PySem.W.nsIn K mainGlobals "_law_pick" = some (some (.ref f11))) (l11 : K.lookup f11 = some ⟨oc11, od11, .func (PySem.W.fnOf "_law_pick" "_law_pick" (defArgs s_l_pick) (defBody s_l_pick) (defScope s_l_pick) .none kV11 dc11 pm11 an11 cd11 ct11), sl11⟩) (c11 : PySem.W.codeIn K cd11 "_law_pick" = true) (k11 : PySem.W.keepIn K (.ref f11) = true)
    (a12 : PySem.W.nsIn K mainGlobals "_law_primes" = some (some (.ref f12))) (l12 : K.lookup f12 = some ⟨oc12, od12, .func (PySem.W.fnOf "_law_primes" "_law_primes" (defArgs s_l_primes) (defBody s_l_primes) (defScope s_l_primes) .none kV12 dc12 pm12 an12 cd12 ct12), sl12⟩) (c12 : PySem.W.codeIn K cd12 "_law_primes" = true) (k12 : PySem.W.keepIn K (.ref f12) = true)
    (a13 : PySem.W.nsIn K mainGlobals "_law_common" = some (some (.ref f13))) (l13 : K.lookup f13 = some ⟨oc13, od13, .func (PySem.W.fnOf "_law_common" "_law_common" (defArgs s_l_common) (defBody s_l_common) (defScope s_l_common) .none kV13 dc13 pm13 an13 cd13 ct13), sl13⟩) (c13 : PySem.W.codeIn K cd13 "_law_common" = true) (k13 : PySem.W.keepIn K (.ref f13) = true)
    (a14 : PySem.W.nsIn K mainGlobals "_law_step" = some (some (.ref f14))) (l14 : K.lookup f14 = some ⟨oc14, od14, .func (PySem.W.fnOf "_law_step" "_law_step" (defArgs s_l_step) (defBody s_l_step) (defScope s_l_step) .none kV14 dc14 pm14 an14 cd14 ct14), sl14⟩) (c14 : PySem.W.codeIn K cd14 "_law_step" = true) (k14 : PySem.W.keepIn K (.ref f14) = true)
    (a15 : PySem.W.nsIn K mainGlobals "_law_great" = some (some (.ref f15))) (l15 : K.lookup f15 = some ⟨oc15, od15, .func (PySem.W.fnOf "_law_great" "_law_great" (defArgs s_l_great) (defBody s_l_great) (defScope s_l_great) .none kV15 dc15 pm15 an15 cd15 ct15), sl15⟩) (c15 : PySem.W.codeIn K cd15 "_law_great" = true) (k15 : PySem.W.keepIn K (.ref f15) = true)
    (a16 : PySem.W.nsIn K mainGlobals "_law_sizes" = some (some (.ref f16))) (l16 : K.lookup f16 = some ⟨oc16, od16, .func (PySem.W.fnOf "_law_sizes" "_law_sizes" (defArgs s_l_sizes) (defBody s_l_sizes) (defScope s_l_sizes) .none kV16 dc16 pm16 an16 cd16 ct16), sl16⟩) (c16 : PySem.W.codeIn K cd16 "_law_sizes" = true) (k16 : PySem.W.keepIn K (.ref f16) = true)
    (a17 : PySem.W.nsIn K mainGlobals "_law_wires" = some (some (.ref f17))) (l17 : K.lookup f17 = some ⟨oc17, od17, .func (PySem.W.fnOf "_law_wires" "_law_wires" (defArgs s_l_wires) (defBody s_l_wires) (defScope s_l_wires) .none kV17 dc17 pm17 an17 cd17 ct17), sl17⟩) (c17 : PySem.W.codeIn K cd17 "_law_wires" = true) (k17 : PySem.W.keepIn K (.ref f17) = true)
    (a18 : PySem.W.nsIn K mainGlobals "_law_machine" = some (some (.ref f18))) (l18 : K.lookup f18 = some ⟨oc18, od18, .func (PySem.W.fnOf "_law_machine" "_law_machine" (defArgs s_l_machine) (defBody s_l_machine) (defScope s_l_machine) .none kV18 dc18 pm18 an18 cd18 ct18), sl18⟩) (c18 : PySem.W.codeIn K cd18 "_law_machine" = true) (k18 : PySem.W.keepIn K (.ref f18) = true)
    (a19 : PySem.W.nsIn K mainGlobals "_law_contents" = some (some (.ref f19))) (l19 : K.lookup f19 = some ⟨oc19, od19, .func (PySem.W.fnOf "_law_contents" "_law_contents" (defArgs s_l_contents) (defBody s_l_contents) (defScope s_l_contents) .none kV19 dc19 pm19 an19 cd19 ct19), sl19⟩) (c19 : PySem.W.codeIn K cd19 "_law_contents" = true) (k19 : PySem.W.keepIn K (.ref f19) = true)
    (a20 : PySem.W.nsIn K mainGlobals "_law_deed" = some (some (.ref f20))) (l20 : K.lookup f20 = some ⟨oc20, od20, .func (PySem.W.fnOf "_law_deed" "_law_deed" (defArgs s_l_deed) (defBody s_l_deed) (defScope s_l_deed) .none kV20 dc20 pm20 an20 cd20 ct20), sl20⟩) (c20 : PySem.W.codeIn K cd20 "_law_deed" = true) (k20 : PySem.W.keepIn K (.ref f20) = true)
    (a21 : PySem.W.nsIn K mainGlobals "_law_every" = some (some (.ref f21))) (l21 : K.lookup f21 = some ⟨oc21, od21, .func (PySem.W.fnOf "_law_every" "_law_every" (defArgs s_l_every) (defBody s_l_every) (defScope s_l_every) .none kV21 dc21 pm21 an21 cd21 ct21), sl21⟩) (c21 : PySem.W.codeIn K cd21 "_law_every" = true) (k21 : PySem.W.keepIn K (.ref f21) = true)
    (a22 : PySem.W.nsIn K mainGlobals "_law_small" = some (some (.ref f22))) (l22 : K.lookup f22 = some ⟨oc22, od22, .func (PySem.W.fnOf "_law_small" "_law_small" (defArgs s_l_small) (defBody s_l_small) (defScope s_l_small) .none kV22 dc22 pm22 an22 cd22 ct22), sl22⟩) (c22 : PySem.W.codeIn K cd22 "_law_small" = true) (k22 : PySem.W.keepIn K (.ref f22) = true)
    (a23 : PySem.W.nsIn K mainGlobals "_law_table" = some (some (.ref f23))) (l23 : K.lookup f23 = some ⟨oc23, od23, .func (PySem.W.fnOf "_law_table" "_law_table" (defArgs s_l_table) (defBody s_l_table) (defScope s_l_table) .none kV23 dc23 pm23 an23 cd23 ct23), sl23⟩) (c23 : PySem.W.codeIn K cd23 "_law_table" = true) (k23 : PySem.W.keepIn K (.ref f23) = true)
    (a24 : PySem.W.nsIn K mainGlobals "_law_led" = some (some (.ref f24))) (l24 : K.lookup f24 = some ⟨oc24, od24, .func (PySem.W.fnOf "_law_led" "_law_led" (defArgs s_l_led) (defBody s_l_led) (defScope s_l_led) .none kV24 dc24 pm24 an24 cd24 ct24), sl24⟩) (c24 : PySem.W.codeIn K cd24 "_law_led" = true) (k24 : PySem.W.keepIn K (.ref f24) = true)
    (a25 : PySem.W.nsIn K mainGlobals "_law_both" = some (some (.ref f25))) (l25 : K.lookup f25 = some ⟨oc25, od25, .func (PySem.W.fnOf "_law_both" "_law_both" (defArgs s_l_both) (defBody s_l_both) (defScope s_l_both) .none kV25 dc25 pm25 an25 cd25 ct25), sl25⟩) (c25 : PySem.W.codeIn K cd25 "_law_both" = true) (k25 : PySem.W.keepIn K (.ref f25) = true)
    (a26 : PySem.W.nsIn K mainGlobals "_law_still" = some (some (.ref f26))) (l26 : K.lookup f26 = some ⟨oc26, od26, .func (PySem.W.fnOf "_law_still" "_law_still" (defArgs s_l_still) (defBody s_l_still) (defScope s_l_still) .none kV26 dc26 pm26 an26 cd26 ct26), sl26⟩) (c26 : PySem.W.codeIn K cd26 "_law_still" = true) (k26 : PySem.W.keepIn K (.ref f26) = true)
    (a27 : PySem.W.nsIn K mainGlobals "_law_single" = some (some (.ref f27))) (l27 : K.lookup f27 = some ⟨oc27, od27, .func (PySem.W.fnOf "_law_single" "_law_single" (defArgs s_l_single) (defBody s_l_single) (defScope s_l_single) .none kV27 dc27 pm27 an27 cd27 ct27), sl27⟩) (c27 : PySem.W.codeIn K cd27 "_law_single" = true) (k27 : PySem.W.keepIn K (.ref f27) = true)
    (a28 : PySem.W.nsIn K mainGlobals "_law_is_led" = some (some (.ref f28))) (l28 : K.lookup f28 = some ⟨oc28, od28, .func (PySem.W.fnOf "_law_is_led" "_law_is_led" (defArgs s_l_is_led) (defBody s_l_is_led) (defScope s_l_is_led) .none kV28 dc28 pm28 an28 cd28 ct28), sl28⟩) (c28 : PySem.W.codeIn K cd28 "_law_is_led" = true) (k28 : PySem.W.keepIn K (.ref f28) = true)
    (a29 : PySem.W.nsIn K mainGlobals "_law_is_deed" = some (some (.ref f29))) (l29 : K.lookup f29 = some ⟨oc29, od29, .func (PySem.W.fnOf "_law_is_deed" "_law_is_deed" (defArgs s_l_is_deed) (defBody s_l_is_deed) (defScope s_l_is_deed) .none kV29 dc29 pm29 an29 cd29 ct29), sl29⟩) (c29 : PySem.W.codeIn K cd29 "_law_is_deed" = true) (k29 : PySem.W.keepIn K (.ref f29) = true)
    (a30 : PySem.W.nsIn K mainGlobals "_law_are_unlike" = some (some (.ref f30))) (l30 : K.lookup f30 = some ⟨oc30, od30, .func (PySem.W.fnOf "_law_are_unlike" "_law_are_unlike" (defArgs s_l_are_unlike) (defBody s_l_are_unlike) (defScope s_l_are_unlike) .none kV30 dc30 pm30 an30 cd30 ct30), sl30⟩) (c30 : PySem.W.codeIn K cd30 "_law_are_unlike" = true) (k30 : PySem.W.keepIn K (.ref f30) = true)
    (a31 : PySem.W.nsIn K mainGlobals "law" = some (some (.ref f31))) (l31 : K.lookup f31 = some ⟨oc31, od31, .func (PySem.W.fnOf "law" "law" (defArgs s_law) (defBody s_law) (defScope s_law) .none kV31 dc31 pm31 an31 cd31 ct31), sl31⟩) (c31 : PySem.W.codeIn K cd31 "law" = true) (k31 : PySem.W.keepIn K (.ref f31) = true)
    (z_len : PySem.W.nsIn K mainGlobals "len" = some none)
    (z_int : PySem.W.nsIn K mainGlobals "int" = some none)
    (z_max : PySem.W.nsIn K mainGlobals "max" = some none)
    (z_min : PySem.W.nsIn K mainGlobals "min" = some none)
    (z_tuple : PySem.W.nsIn K mainGlobals "tuple" = some none)
    (z_list : PySem.W.nsIn K mainGlobals "list" = some none)
    (z_range : PySem.W.nsIn K mainGlobals "range" = some none)
    (z_any : PySem.W.nsIn K mainGlobals "any" = some none)
    (z_all : PySem.W.nsIn K mainGlobals "all" = some none)
    (z_repr : PySem.W.nsIn K mainGlobals "repr" = some none)
    (z_enumerate : PySem.W.nsIn K mainGlobals "enumerate" = some none)
    (z_isinstance : PySem.W.nsIn K mainGlobals "isinstance" = some none)
    (z_bool : PySem.W.nsIn K mainGlobals "bool" = some none)
    (z_zip : PySem.W.nsIn K mainGlobals "zip" = some none)
    (z_sum : PySem.W.nsIn K mainGlobals "sum" = some none) :
    ∃ fd : FuncData, (∀ (s : Shared) (v : Value), BindsTo s fd ⟨[v], []⟩ [("script", v)]) ∧ ∀ base : Heap, K.In base → base.Ns mainGlobals mg → GFn l.prog w K mg base 6 fa fd ["script"] (spLaw K) := by
  have e := hfa.symm.trans (PySem.W.mg_of X G a31)
  cases e
  have T : Blt mg := ⟨PySem.W.mg_none_of X G z_len, PySem.W.mg_none_of X G z_int, PySem.W.mg_none_of X G z_max, PySem.W.mg_none_of X G z_min, PySem.W.mg_none_of X G z_tuple, PySem.W.mg_none_of X G z_list, PySem.W.mg_none_of X G z_range, PySem.W.mg_none_of X G z_any, PySem.W.mg_none_of X G z_all, PySem.W.mg_none_of X G z_repr, PySem.W.mg_none_of X G z_enumerate, PySem.W.mg_none_of X G z_isinstance, PySem.W.mg_none_of X G z_bool⟩
  have F1 := fun_mk (st := s_still) l1 c1 k1
  have D_still : DefAt K mg "still" s_still ["machine"] f1 _ := ⟨F1, PySem.W.mg_of X G a1, F1.binds (ps := ["machine"]) fun _ _ _ _ _ _ us hl => match us, hl with | [_], _ => rfl⟩
  have F2 := fun_mk (st := s_deed_table) l2 c2 k2
  have D_deed_table : DefAt K mg "deed_table" s_deed_table ["machine", "deed"] f2 _ := ⟨F2, PySem.W.mg_of X G a2, F2.binds (ps := ["machine", "deed"]) fun _ _ _ _ _ _ us hl => match us, hl with | [_, _], _ => rfl⟩
  have F3 := fun_mk (st := s_table_of) l3 c3 k3
  have D_table_of : DefAt K mg "table_of" s_table_of ["machine", "program"] f3 _ := ⟨F3, PySem.W.mg_of X G a3, F3.binds (ps := ["machine", "program"]) fun _ _ _ _ _ _ us hl => match us, hl with | [_, _], _ => rfl⟩
  have F4 := fun_mk (st := s_both) l4 c4 k4
  have D_both : DefAt K mg "both" s_both ["machine", "one", "other"] f4 _ := ⟨F4, PySem.W.mg_of X G a4, F4.binds (ps := ["machine", "one", "other"]) fun _ _ _ _ _ _ us hl => match us, hl with | [_, _, _], _ => rfl⟩
  have F5 := fun_mk (st := s_moved) l5 c5 k5
  have D_moved : DefAt K mg "moved" s_moved ["machine", "table", "contents"] f5 _ := ⟨F5, PySem.W.mg_of X G a5, F5.binds (ps := ["machine", "table", "contents"]) fun _ _ _ _ _ _ us hl => match us, hl with | [_, _, _], _ => rfl⟩
  have F6 := fun_mk (st := s_product_sum) l6 c6 k6
  have D_product_sum : DefAt K mg "product_sum" s_product_sum ["row", "column"] f6 _ := ⟨F6, PySem.W.mg_of X G a6, F6.binds (ps := ["row", "column"]) fun _ _ _ _ _ _ us hl => match us, hl with | [_, _], _ => rfl⟩
  have F7 := fun_mk (st := s_done) l7 c7 k7
  have D_done : DefAt K mg "done" s_done ["machine", "contents", "deed"] f7 _ := ⟨F7, PySem.W.mg_of X G a7, F7.binds (ps := ["machine", "contents", "deed"]) fun _ _ _ _ _ _ us hl => match us, hl with | [_, _, _], _ => rfl⟩
  have F8 := fun_mk (st := s_run) l8 c8 k8
  have D_run : DefAt K mg "run" s_run ["machine", "program", "contents"] f8 _ := ⟨F8, PySem.W.mg_of X G a8, F8.binds (ps := ["machine", "program", "contents"]) fun _ _ _ _ _ _ us hl => match us, hl with | [_, _, _], _ => rfl⟩
  have F9 := fun_mk (st := s_l_pot) l9 c9 k9
  have D_l_pot : DefAt K mg "_law_pot" s_l_pot ["script"] f9 _ := ⟨F9, PySem.W.mg_of X G a9, F9.binds (ps := ["script"]) fun _ _ _ _ _ _ us hl => match us, hl with | [_], _ => rfl⟩
  have F10 := fun_mk (st := s_l_dip) l10 c10 k10
  have D_l_dip : DefAt K mg "_law_dip" s_l_dip ["pot", "size"] f10 _ := ⟨F10, PySem.W.mg_of X G a10, F10.binds (ps := ["pot", "size"]) fun _ _ _ _ _ _ us hl => match us, hl with | [_, _], _ => rfl⟩
  have F11 := fun_mk (st := s_l_pick) l11 c11 k11
  have D_l_pick : DefAt K mg "_law_pick" s_l_pick ["pot", "items"] f11 _ := ⟨F11, PySem.W.mg_of X G a11, F11.binds (ps := ["pot", "items"]) fun _ _ _ _ _ _ us hl => match us, hl with | [_, _], _ => rfl⟩
  have F12 := fun_mk (st := s_l_primes) l12 c12 k12
  have D_l_primes : DefAt K mg "_law_primes" s_l_primes [] f12 _ := ⟨F12, PySem.W.mg_of X G a12, F12.binds (ps := []) fun _ _ _ _ _ _ us hl => match us, hl with | [], _ => rfl⟩
  have F13 := fun_mk (st := s_l_common) l13 c13 k13
  have D_l_common : DefAt K mg "_law_common" s_l_common ["one", "other"] f13 _ := ⟨F13, PySem.W.mg_of X G a13, F13.binds (ps := ["one", "other"]) fun _ _ _ _ _ _ us hl => match us, hl with | [_, _], _ => rfl⟩
  have F14 := fun_mk (st := s_l_step) l14 c14 k14
  have D_l_step : DefAt K mg "_law_step" s_l_step ["sizes", "j", "i"] f14 _ := ⟨F14, PySem.W.mg_of X G a14, F14.binds (ps := ["sizes", "j", "i"]) fun _ _ _ _ _ _ us hl => match us, hl with | [_, _, _], _ => rfl⟩
  have F15 := fun_mk (st := s_l_great) l15 c15 k15
  have D_l_great : DefAt K mg "_law_great" s_l_great ["pot"] f15 _ := ⟨F15, PySem.W.mg_of X G a15, F15.binds (ps := ["pot"]) fun _ _ _ _ _ _ us hl => match us, hl with | [_], _ => rfl⟩
  have F16 := fun_mk (st := s_l_sizes) l16 c16 k16
  have D_l_sizes : DefAt K mg "_law_sizes" s_l_sizes ["pot", "is_great"] f16 _ := ⟨F16, PySem.W.mg_of X G a16, F16.binds (ps := ["pot", "is_great"]) fun _ _ _ _ _ _ us hl => match us, hl with | [_, _], _ => rfl⟩
  have F17 := fun_mk (st := s_l_wires) l17 c17 k17
  have D_l_wires : DefAt K mg "_law_wires" s_l_wires ["pot", "many"] f17 _ := ⟨F17, PySem.W.mg_of X G a17, F17.binds (ps := ["pot", "many"]) fun _ _ _ _ _ _ us hl => match us, hl with | [_, _], _ => rfl⟩
  have F18 := fun_mk (st := s_l_machine) l18 c18 k18
  have D_l_machine : DefAt K mg "_law_machine" s_l_machine ["pot", "is_great"] f18 _ := ⟨F18, PySem.W.mg_of X G a18, F18.binds (ps := ["pot", "is_great"]) fun _ _ _ _ _ _ us hl => match us, hl with | [_, _], _ => rfl⟩
  have F19 := fun_mk (st := s_l_contents) l19 c19 k19
  have D_l_contents : DefAt K mg "_law_contents" s_l_contents ["pot", "sizes"] f19 _ := ⟨F19, PySem.W.mg_of X G a19, F19.binds (ps := ["pot", "sizes"]) fun _ _ _ _ _ _ us hl => match us, hl with | [_, _], _ => rfl⟩
  have F20 := fun_mk (st := s_l_deed) l20 c20 k20
  have D_l_deed : DefAt K mg "_law_deed" s_l_deed ["pot", "machine"] f20 _ := ⟨F20, PySem.W.mg_of X G a20, F20.binds (ps := ["pot", "machine"]) fun _ _ _ _ _ _ us hl => match us, hl with | [_, _], _ => rfl⟩
  have F21 := fun_mk (st := s_l_every) l21 c21 k21
  have D_l_every : DefAt K mg "_law_every" s_l_every ["sizes"] f21 _ := ⟨F21, PySem.W.mg_of X G a21, F21.binds (ps := ["sizes"]) fun _ _ _ _ _ _ us hl => match us, hl with | [_], _ => rfl⟩
  have F22 := fun_mk (st := s_l_small) l22 c22 k22
  have D_l_small : DefAt K mg "_law_small" s_l_small ["pot", "most"] f22 _ := ⟨F22, PySem.W.mg_of X G a22, F22.binds (ps := ["pot", "most"]) fun _ _ _ _ _ _ us hl => match us, hl with | [_, _], _ => rfl⟩
  have F23 := fun_mk (st := s_l_table) l23 c23 k23
  have D_l_table : DefAt K mg "_law_table" s_l_table ["pot", "sizes"] f23 _ := ⟨F23, PySem.W.mg_of X G a23, F23.binds (ps := ["pot", "sizes"]) fun _ _ _ _ _ _ us hl => match us, hl with | [_, _], _ => rfl⟩
  have F24 := fun_mk (st := s_l_led) l24 c24 k24
  have D_l_led : DefAt K mg "_law_led" s_l_led ["sizes", "table", "held"] f24 _ := ⟨F24, PySem.W.mg_of X G a24, F24.binds (ps := ["sizes", "table", "held"]) fun _ _ _ _ _ _ us hl => match us, hl with | [_, _, _], _ => rfl⟩
  have F25 := fun_mk (st := s_l_both) l25 c25 k25
  have D_l_both : DefAt K mg "_law_both" s_l_both ["sizes", "one", "other"] f25 _ := ⟨F25, PySem.W.mg_of X G a25, F25.binds (ps := ["sizes", "one", "other"]) fun _ _ _ _ _ _ us hl => match us, hl with | [_, _, _], _ => rfl⟩
  have F26 := fun_mk (st := s_l_still) l26 c26 k26
  have D_l_still : DefAt K mg "_law_still" s_l_still ["sizes"] f26 _ := ⟨F26, PySem.W.mg_of X G a26, F26.binds (ps := ["sizes"]) fun _ _ _ _ _ _ us hl => match us, hl with | [_], _ => rfl⟩
  have F27 := fun_mk (st := s_l_single) l27 c27 k27
  have D_l_single : DefAt K mg "_law_single" s_l_single ["many", "j"] f27 _ := ⟨F27, PySem.W.mg_of X G a27, F27.binds (ps := ["many", "j"]) fun _ _ _ _ _ _ us hl => match us, hl with | [_, _], _ => rfl⟩
  have F28 := fun_mk (st := s_l_is_led) l28 c28 k28
  have D_l_is_led : DefAt K mg "_law_is_led" s_l_is_led ["machine", "one", "other", "held"] f28 _ := ⟨F28, PySem.W.mg_of X G a28, F28.binds (ps := ["machine", "one", "other", "held"]) fun _ _ _ _ _ _ us hl => match us, hl with | [_, _, _, _], _ => rfl⟩
  have F29 := fun_mk (st := s_l_is_deed) l29 c29 k29
  have D_l_is_deed : DefAt K mg "_law_is_deed" s_l_is_deed ["machine", "deed", "held"] f29 _ := ⟨F29, PySem.W.mg_of X G a29, F29.binds (ps := ["machine", "deed", "held"]) fun _ _ _ _ _ _ us hl => match us, hl with | [_, _, _], _ => rfl⟩
  have F30 := fun_mk (st := s_l_are_unlike) l30 c30 k30
  have D_l_are_unlike : DefAt K mg "_law_are_unlike" s_l_are_unlike ["machine", "one", "other"] f30 _ := ⟨F30, PySem.W.mg_of X G a30, F30.binds (ps := ["machine", "one", "other"]) fun _ _ _ _ _ _ us hl => match us, hl with | [_, _, _], _ => rfl⟩
  have F31 := fun_mk (st := s_law) l31 c31 k31
  refine ⟨PySem.W.fnOf "law" "law" (defArgs s_law) (defBody s_law) (defScope s_law) .none kV31 dc31 pm31 an31 cd31 ct31, fun s v => .of_eq rfl, fun base _ _ => ?_⟩
  have T_zip := PySem.W.mg_none_of X G z_zip
  have T_sum := PySem.W.mg_none_of X G z_sum
  have c_dipW := ok_dipW (P := l.prog) (w := w) (base := base) D_l_dip T
  have c_dip := Cal.weak c_dipW (fun _ _ _ _ h => dip_of h)
  have c_pickA := ok_pickA D_l_pick T c_dip
  have c_pick := Cal.weak c_pickA (fun _ _ _ _ h => pick_of h)
  have c_primes := ok_primes (P := l.prog) (w := w) (base := base) D_l_primes
  have c_common := ok_common (P := l.prog) (w := w) (base := base) D_l_common
  have c_great := ok_great D_l_great T c_dip c_pick c_primes
  have c_sizes := ok_sizes D_l_sizes T c_dip c_pick c_great
  have c_wires := ok_wires D_l_wires T c_dip c_pick
  have c_machine := ok_machine D_l_machine T c_sizes c_wires
  have c_pot := ok_pot (P := l.prog) (w := w) (base := base) D_l_pot T
  have c_lstep := ok_lstep D_l_step c_common
  have c_contents := ok_contents D_l_contents T c_dipW c_pick
  have c_deed := ok_deed D_l_deed T c_dip c_pickA c_lstep
  have f_still := fn_still (P := l.prog) (w := w) (base := base) D_still T
  have c_still := Cal.of D_still f_still
  have c_ps := ok_ps (P := l.prog) (w := w) (base := base) D_product_sum T T_zip T_sum
  have f_moved := fn_moved D_moved T T_zip c_ps
  have c_moved := Cal.of D_moved f_moved
  have f_both := fn_both D_both T T_zip c_ps
  have c_both := Cal.of D_both f_both
  have c_lled := ok_led (P := l.prog) (w := w) (base := base) D_l_led T T_zip T_sum
  have c_lstill := ok_still (P := l.prog) (w := w) (base := base) D_l_still T
  have c_lboth := ok_both (P := l.prog) (w := w) (base := base) D_l_both T T_zip T_sum
  have c_ltable := ok_table D_l_table T c_dipW c_pick c_lstep
  have f_run := fn_run (P := l.prog) (w := w) (base := base) D_run T
  have c_run := Cal.of D_run f_run
  have f_done := fn_done D_done c_run
  have c_done := Cal.of D_done f_done
  have f_tabof := fn_table_of D_table_of T T_zip c_still
  have f_deedt := fn_deed_table D_deed_table (Cal.of D_table_of f_tabof)
  have c_every := ok_every (P := l.prog) (w := w) (base := base) D_l_every T
  have c_small := ok_small D_l_small T c_dip c_pick c_wires
  have c_single := ok_single (P := l.prog) (w := w) (base := base) D_l_single T
  have c_isled : GCal l.prog w K mg base _ "_law_is_led" _ := ⟨_, _, _, ok_isled D_l_is_led.fn T c_lboth c_lled c_both (CalK.of D_both f_both (k_both D_both.fn)) c_moved (CalK.of D_moved f_moved (k_moved D_moved.fn)), D_l_is_led.mgf, D_l_is_led.fn.kp, D_l_is_led.bd⟩
  have c_isdeed : GCal l.prog w K mg base _ "_law_is_deed" _ := ⟨_, _, _, ok_isdeed D_l_is_deed.fn T c_lstill (Cal.of D_deed_table f_deedt) (CalK.of D_deed_table f_deedt (k_deed_table D_deed_table.fn)) c_moved c_done, D_l_is_deed.mgf, D_l_is_deed.fn.kp, D_l_is_deed.bd⟩
  have c_unl : GCal l.prog w K mg base _ "_law_are_unlike" _ := ⟨_, _, _, ok_unlike D_l_are_unlike.fn T c_single c_moved, D_l_are_unlike.mgf, D_l_are_unlike.fn.kp, D_l_are_unlike.bd⟩
  exact ok_law F31 T c_pot c_machine c_ltable c_contents c_isled c_unl c_both c_isdeed c_deed c_lstill c_still (CalK.of D_still f_still (k_still D_still.fn)) c_small c_every c_moved c_lled
end NA
open PySem PySem.W PyProof.Rows in
set_option maxRecDepth 100000 in
set_option maxHeartbeats 0 in
theorem PySem.Challenge.cw_narrowadds_k10_whole_tables_by_own_sums_holds : PySem.Challenge.rw_narrowadds_k10_whole_tables_by_own_sums.Holds := by
  w_on; o_law; k_head; (case hw => w_witness2)
  k_fill
  refine NA.walkG (l := PySem.Challenge.rw_narrowadds_k10_whole_tables_by_own_sums) (n := 63) (k := 6) (x := "script") (sp := NA.spLaw) rfl (by decide) rfl ⟨rfl, by decide, by decide⟩ (fun w h Y => PySem.W.kIn_of Y) ?F (fun _ _ a ns hl _ hS => ⟨a, ns, rfl, hS, hl, fun _ => rfl⟩)
  case F =>
    intro w mg fa h KX G hmg
    refine' NA.all_mk KX G hmg ?a1 ?l1 ?c1 ?k1 ?a2 ?l2 ?c2 ?k2 ?a3 ?l3 ?c3 ?k3 ?a4 ?l4 ?c4 ?k4 ?a5 ?l5 ?c5 ?k5 ?a6 ?l6 ?c6 ?k6 ?a7 ?l7 ?c7 ?k7 ?a8 ?l8 ?c8 ?k8 ?a9 ?l9 ?c9 ?k9 ?a10 ?l10 ?c10 ?k10 ?a11 ?l11 ?c11 ?k11 ?a12 ?l12 ?c12 ?k12 ?a13 ?l13 ?c13 ?k13 ?a14 ?l14 ?c14 ?k14 ?a15 ?l15 ?c15 ?k15 ?a16 ?l16 ?c16 ?k16 ?a17 ?l17 ?c17 ?k17 ?a18 ?l18 ?c18 ?k18 ?a19 ?l19 ?c19 ?k19 ?a20 ?l20 ?c20 ?k20 ?a21 ?l21 ?c21 ?k21 ?a22 ?l22 ?c22 ?k22 ?a23 ?l23 ?c23 ?k23 ?a24 ?l24 ?c24 ?k24 ?a25 ?l25 ?c25 ?k25 ?a26 ?l26 ?c26 ?k26 ?a27 ?l27 ?c27 ?k27 ?a28 ?l28 ?c28 ?k28 ?a29 ?l29 ?c29 ?k29 ?a30 ?l30 ?c30 ?k30 ?a31 ?l31 ?c31 ?k31 ?z_len ?z_int ?z_max ?z_min ?z_tuple ?z_list ?z_range ?z_any ?z_all ?z_repr ?z_enumerate ?z_isinstance ?z_bool ?z_zip ?z_sum
    (case a1 => k_is)
    (case l1 => k_is)
    (case c1 => k_is)
    (case k1 => k_is)
    (case a2 => k_is)
    (case l2 => k_is)
    (case c2 => k_is)
    (case k2 => k_is)
    (case a3 => k_is)
    (case l3 => k_is)
    (case c3 => k_is)
    (case k3 => k_is)
    (case a4 => k_is)
    (case l4 => k_is)
    (case c4 => k_is)
    (case k4 => k_is)
    (case a5 => k_is)
    (case l5 => k_is)
    (case c5 => k_is)
    (case k5 => k_is)
    (case a6 => k_is)
    (case l6 => k_is)
    (case c6 => k_is)
    (case k6 => k_is)
    (case a7 => k_is)
    (case l7 => k_is)
    (case c7 => k_is)
    (case k7 => k_is)
    (case a8 => k_is)
    (case l8 => k_is)
    (case c8 => k_is)
    (case k8 => k_is)
    (case a9 => k_is)
    (case l9 => k_is)
    (case c9 => k_is)
    (case k9 => k_is)
    (case a10 => k_is)
    (case l10 => k_is)
    (case c10 => k_is)
    (case k10 => k_is)
    (case a11 => k_is)
    (case l11 => k_is)
    (case c11 => k_is)
    (case k11 => k_is)
    (case a12 => k_is)
    (case l12 => k_is)
    (case c12 => k_is)
    (case k12 => k_is)
    (case a13 => k_is)
    (case l13 => k_is)
    (case c13 => k_is)
    (case k13 => k_is)
    (case a14 => k_is)
    (case l14 => k_is)
    (case c14 => k_is)
    (case k14 => k_is)
    (case a15 => k_is)
    (case l15 => k_is)
    (case c15 => k_is)
    (case k15 => k_is)
    (case a16 => k_is)
    (case l16 => k_is)
    (case c16 => k_is)
    (case k16 => k_is)
    (case a17 => k_is)
    (case l17 => k_is)
    (case c17 => k_is)
    (case k17 => k_is)
    (case a18 => k_is)
    (case l18 => k_is)
    (case c18 => k_is)
    (case k18 => k_is)
    (case a19 => k_is)
    (case l19 => k_is)
    (case c19 => k_is)
    (case k19 => k_is)
    (case a20 => k_is)
    (case l20 => k_is)
    (case c20 => k_is)
    (case k20 => k_is)
    (case a21 => k_is)
    (case l21 => k_is)
    (case c21 => k_is)
    (case k21 => k_is)
    (case a22 => k_is)
    (case l22 => k_is)
    (case c22 => k_is)
    (case k22 => k_is)
    (case a23 => k_is)
    (case l23 => k_is)
    (case c23 => k_is)
    (case k23 => k_is)
    (case a24 => k_is)
    (case l24 => k_is)
    (case c24 => k_is)
    (case k24 => k_is)
    (case a25 => k_is)
    (case l25 => k_is)
    (case c25 => k_is)
    (case k25 => k_is)
    (case a26 => k_is)
    (case l26 => k_is)
    (case c26 => k_is)
    (case k26 => k_is)
    (case a27 => k_is)
    (case l27 => k_is)
    (case c27 => k_is)
    (case k27 => k_is)
    (case a28 => k_is)
    (case l28 => k_is)
    (case c28 => k_is)
    (case k28 => k_is)
    (case a29 => k_is)
    (case l29 => k_is)
    (case c29 => k_is)
    (case k29 => k_is)
    (case a30 => k_is)
    (case l30 => k_is)
    (case c30 => k_is)
    (case k30 => k_is)
    (case a31 => k_is)
    (case l31 => k_is)
    (case c31 => k_is)
    (case k31 => k_is)
    (case z_len => k_is)
    (case z_int => k_is)
    (case z_max => k_is)
    (case z_min => k_is)
    (case z_tuple => k_is)
    (case z_list => k_is)
    (case z_range => k_is)
    (case z_any => k_is)
    (case z_all => k_is)
    (case z_repr => k_is)
    (case z_enumerate => k_is)
    (case z_isinstance => k_is)
    (case z_bool => k_is)
    (case z_zip => k_is)
    (case z_sum => k_is)
