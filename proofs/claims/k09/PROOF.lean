import PyProof.Rows.All
import Wide.All
import OpenK.AllK
import Wide.FinOn
import HandS.ForMost
import HandS.Codes
import HandS.Wide
import HandS.WideMore
import HandS.Gcd
import HandS.Walk
import HandS.Style
import HandS.Conv
import HandS.IsInst
import HandS.SetIn
import HandS.TupLe
import HandS.TupAny
import HandS.TupMul
import HandS.Zip
import HandS.Star
import HandS.ListItems
import HandS.Sort
import HandS.TryOnly
import HandS.TupLen
import PyProof.Rows.ReprOcc
import KE.GoesZip
import PyProof.CollectWalk
import PyProof.ListNew
import PyProof.MeetsSeq2
import PyProof.WalkInts
import KE.GoesMore
import KE.GoesEnum
import KE.KSetDisp
import PySem.Challenge.RW_narrowadds_k09_what_is_a_table
set_option Elab.async false
set_option linter.all false
set_option maxRecDepth 100000
set_option maxHeartbeats 2000000
set_option exponentiation.threshold 5000
/-! the mathematics of sizes: primes to 97, how often they divide -/
namespace NA
def PRn : List Nat := [2, 3, 5, 7, 11, 13, 17, 19, 23, 29, 31, 37, 41, 43, 47, 53, 59, 61, 67, 71, 73, 79, 83, 89, 97]
inductive Smo : Nat → Prop
  | one : Smo 1
  | mul {p n : Nat} : p ∈ PRn → Smo n → Smo (p * n)
theorem PRn_two {p : Nat} (h : p ∈ PRn) : 2 ≤ p := by
  have e : PRn.all (fun p => decide (2 ≤ p)) = true := by decide
  exact of_decide_eq_true (List.all_eq_true.mp e p h)
theorem PRn_le {p : Nat} (h : p ∈ PRn) : p ≤ 97 := by
  have e : PRn.all (fun p => decide (p ≤ 97)) = true := by decide
  exact of_decide_eq_true (List.all_eq_true.mp e p h)
theorem Smo.pos {n : Nat} (h : Smo n) : 0 < n := by
  induction h with
  | one => decide
  | mul hp _ ih => exact Nat.mul_pos (Nat.lt_of_lt_of_le (by decide) (PRn_two hp)) ih
theorem Smo.mulr {p n : Nat} (hp : p ∈ PRn) (h : Smo n) : Smo (n * p) := by
  rw [Nat.mul_comm]
  exact .mul hp h
def stripN (p : Nat) : Nat → Nat → Nat
  | 0, n => n
  | f + 1, n => if n % p = 0 then stripN p f (n / p) else n
theorem stripN_smo {p : Nat} (hp : p ∈ PRn) : ∀ (f n : Nat), Smo (stripN p f n) → Smo n
  | 0, _, h => h
  | f + 1, n, h => by
    unfold stripN at h
    by_cases e : n % p = 0
    · rw [if_pos e] at h
      have h1 := stripN_smo hp f (n / p) h
      have h2 : n = p * (n / p) := by
        have := Nat.div_add_mod n p
        omega
      rw [h2]
      exact .mul hp h1
    · rw [if_neg e] at h
      exact h
def smoB (n : Nat) : Bool := PRn.foldl (fun n p => stripN p 110 n) n == 1
theorem foldl_smo : ∀ (l : List Nat), (∀ p ∈ l, p ∈ PRn) → ∀ n, Smo (l.foldl (fun n p => stripN p 110 n) n) → Smo n
  | [], _, _, h => h
  | p :: l, hl, n, h => stripN_smo (hl p List.mem_cons_self) 110 n (foldl_smo l (fun q hq => hl q (List.mem_cons_of_mem _ hq)) _ h)
theorem smo_of {n : Nat} (h : smoB n = true) : Smo n := by
  refine foldl_smo PRn (fun _ h => h) n ?_
  rw [show List.foldl (fun n p => stripN p 110 n) n PRn = 1 from eq_of_beq h]
  exact .one
def SizeOk (n : Int) : Prop := ∃ m : Nat, n = m ∧ 2 ≤ m ∧ m ≤ 10 ^ 30 ∧ Smo m
def wlt (a b : Nat × Nat) : Prop := a.1 < b.1 ∨ (a.1 = b.1 ∧ a.2 < b.2)
/-- wires of a machine of many registers -/
structure WOk (many : Nat) (ws : List (Nat × Nat)) : Prop where
  asc : ws.Pairwise wlt
  low : ∀ w ∈ ws, w.1 < many ∧ w.2 < many ∧ w.1 ≠ w.2
structure MOk (ss : List Int) (ws : List (Nat × Nat)) : Prop where
  one : 1 ≤ ss.length
  six : ss.length ≤ 6
  size : ∀ s ∈ ss, SizeOk s
  wires : WOk ss.length ws
end NA
namespace NA
def val (p n : Nat) : Nat := if h : 2 ≤ p ∧ 0 < n ∧ n % p = 0 then val p (n / p) + 1 else 0
termination_by n
decreasing_by exact Nat.div_lt_self h.2.1 h.1
theorem val_yes {p n : Nat} (hp : 2 ≤ p) (hn : 0 < n) (h : n % p = 0) : val p n = val p (n / p) + 1 := by
  rw [val]
  exact dif_pos ⟨hp, hn, h⟩
theorem val_no {p n : Nat} (h : n % p ≠ 0) : val p n = 0 := by
  rw [val]
  exact dif_neg fun z => h z.2.2
theorem pow_dvd_val {p : Nat} (hp : 2 ≤ p) : ∀ (k n : Nat), 0 < n → (p ^ k ∣ n ↔ k ≤ val p n)
  | 0, n, _ => by simp
  | k + 1, n, hn => by
    by_cases h : n % p = 0
    · have e : n = p * (n / p) := by
        have := Nat.div_add_mod n p
        omega
      have hq : 0 < n / p := Nat.div_pos (Nat.le_of_dvd hn (Nat.dvd_of_mod_eq_zero h)) (by omega)
      rw [val_yes hp hn h]
      have ih := pow_dvd_val hp k (n / p) hq
      constructor
      · intro d
        rw [e, Nat.pow_succ, Nat.mul_comm] at d
        have := ih.mp (Nat.dvd_of_mul_dvd_mul_left (by omega) d)
        omega
      · intro d
        have := ih.mpr (by omega)
        rw [e, Nat.pow_succ, Nat.mul_comm]
        exact Nat.mul_dvd_mul_left p this
    · rw [val_no h]
      constructor
      · intro d
        exact absurd (Nat.mod_eq_zero_of_dvd (Nat.dvd_trans (by rw [Nat.pow_succ]; exact Nat.dvd_mul_left p _) d)) h
      · intro d
        omega
theorem val_eq {p n m : Nat} (hp : 2 ≤ p) (hn : 0 < n) (hm : 0 < m) (h : ∀ k, p ^ k ∣ n ↔ p ^ k ∣ m) : val p n = val p m := by
  have a := (pow_dvd_val hp (val p n) m hm).mp ((h _).mp ((pow_dvd_val hp _ n hn).mpr (Nat.le_refl _)))
  have b := (pow_dvd_val hp (val p m) n hn).mp ((h _).mpr ((pow_dvd_val hp _ m hm).mpr (Nat.le_refl _)))
  omega
theorem PRn_prime {p : Nat} (h : p ∈ PRn) {d : Nat} (hd : d ∣ p) : d = 1 ∨ d = p := by
  have e : (PRn.all fun p => (List.range (p + 1)).all fun d => p % d != 0 || d == 1 || d == p) = true := by decide +kernel
  have e1 := List.all_eq_true.mp e p h
  have dl : d ≤ p := Nat.le_of_dvd (Nat.lt_of_lt_of_le (by decide) (PRn_two h)) hd
  have e2 := List.all_eq_true.mp e1 d (List.mem_range.mpr (by omega))
  have m := Nat.mod_eq_zero_of_dvd hd
  simp only [m, bne_self_eq_false, Bool.false_or, Bool.or_eq_true, beq_iff_eq] at e2
  exact e2
theorem PRn_cop {p x : Nat} (h : p ∈ PRn) (hx : ¬ p ∣ x) : Nat.Coprime p x := by
  rcases PRn_prime h (Nat.gcd_dvd_left p x) with e | e
  · exact e
  · exact absurd (e ▸ Nat.gcd_dvd_right p x) hx
theorem PRn_euclid {p x y : Nat} (h : p ∈ PRn) (d : p ∣ x * y) : p ∣ x ∨ p ∣ y := by
  by_cases hx : p ∣ x
  · exact .inl hx
  · exact .inr ((PRn_cop h hx).dvd_of_dvd_mul_left d)
theorem PRn_ne {p q : Nat} (hp : p ∈ PRn) (hq : q ∈ PRn) (h : p ≠ q) : Nat.Coprime p q := PRn_cop hp fun d => by
  rcases PRn_prime hq d with e | e
  · have := PRn_two hp
    omega
  · exact h e
theorem val_mul_ne {p q n : Nat} (hp : p ∈ PRn) (hq : q ∈ PRn) (hn : 0 < n) (h : p ≠ q) : val p (q * n) = val p n := by
  refine val_eq (PRn_two hp) (Nat.mul_pos (Nat.lt_of_lt_of_le (by decide) (PRn_two hq)) hn) hn fun k => ⟨fun d => ?_, fun d => Nat.dvd_trans d (Nat.dvd_mul_left n q)⟩
  exact (Nat.Coprime.pow_left k (PRn_ne hp hq h)).dvd_of_dvd_mul_left d
theorem val_mul_self {p n : Nat} (hp : 2 ≤ p) (hn : 0 < n) : val p (p * n) = val p n + 1 := by
  rw [val_yes hp (Nat.mul_pos (by omega) hn) (Nat.mul_mod_right p n), Nat.mul_div_cancel_left n (by omega)]
theorem val_add {p : Nat} (hp : p ∈ PRn) : ∀ (x y : Nat), 0 < x → 0 < y → val p (x * y) = val p x + val p y := by
  intro x
  induction x using Nat.strongRecOn with
  | ind x ih =>
    intro y hx hy
    have h2 := PRn_two hp
    by_cases h : x % p = 0
    · have e : x = p * (x / p) := by
        have := Nat.div_add_mod x p
        omega
      have hq : 0 < x / p := Nat.div_pos (Nat.le_of_dvd hx (Nat.dvd_of_mod_eq_zero h)) (by omega)
      have i := ih (x / p) (Nat.div_lt_self hx h2) y hq hy
      rw [val_yes h2 hx h, show x * y = p * (x / p * y) by rw [← Nat.mul_assoc, ← e], val_mul_self h2 (Nat.mul_pos hq hy), i]
      omega
    · rw [val_no h, Nat.zero_add]
      have c : Nat.Coprime p x := PRn_cop hp fun d => h (Nat.mod_eq_zero_of_dvd d)
      refine val_eq h2 (Nat.mul_pos hx hy) hy fun k => ⟨fun d => (Nat.Coprime.pow_left k c).dvd_of_dvd_mul_left d, fun d => Nat.dvd_trans d (Nat.dvd_mul_left y x)⟩
theorem val_gcd {p a b : Nat} (hp : 2 ≤ p) (ha : 0 < a) (hb : 0 < b) : val p (Nat.gcd a b) = min (val p a) (val p b) := by
  have hg : 0 < Nat.gcd a b := Nat.gcd_pos_of_pos_left b ha
  have le : ∀ k, k ≤ val p (Nat.gcd a b) ↔ k ≤ val p a ∧ k ≤ val p b := fun k => by
    rw [← pow_dvd_val hp k _ hg, ← pow_dvd_val hp k a ha, ← pow_dvd_val hp k b hb]
    exact ⟨fun d => ⟨Nat.dvd_trans d (Nat.gcd_dvd_left a b), Nat.dvd_trans d (Nat.gcd_dvd_right a b)⟩, fun ⟨x, y⟩ => Nat.dvd_gcd x y⟩
  have h1 := (le _).mp (Nat.le_refl _)
  have h2 := (le (min (val p a) (val p b))).mpr ⟨Nat.min_le_left _ _, Nat.min_le_right _ _⟩
  omega
/-! ### a size is put together of its primes -/
def made (l : List Nat) (m s : Nat) : Nat := l.foldl (fun m p => m * p ^ val p s) m
theorem made_acc : ∀ (l : List Nat) (m s : Nat), made l m s = m * made l 1 s
  | [], m, s => by simp [made]
  | p :: l, m, s => by
    show made l (m * p ^ val p s) s = m * made l (1 * p ^ val p s) s
    rw [made_acc l (m * p ^ val p s) s, made_acc l (1 * p ^ val p s) s, Nat.one_mul, Nat.mul_assoc]
theorem made_one : ∀ l : List Nat, made l 1 1 = 1
  | [] => rfl
  | p :: l => by
    show made l (1 * p ^ val p 1) 1 = 1
    have v : val p 1 = 0 := by
      by_cases h : 1 % p = 0
      · by_cases h2 : 2 ≤ p
        · rw [Nat.mod_eq_of_lt (by omega)] at h
          cases h
        · rw [val]
          exact dif_neg fun z => h2 z.1
      · exact val_no h
    rw [v, Nat.pow_zero, Nat.mul_one, made_one l]
theorem made_mul {q n : Nat} (hq : q ∈ PRn) (hn : 0 < n) : ∀ l : List Nat, (∀ p ∈ l, p ∈ PRn) → made l 1 (q * n) = q ^ l.count q * made l 1 n
  | [], _ => by simp [made]
  | p :: l, hl => by
    have ih := made_mul hq hn l fun x hx => hl x (List.mem_cons_of_mem _ hx)
    have hp := hl p List.mem_cons_self
    show made l (1 * p ^ val p (q * n)) (q * n) = q ^ (p :: l).count q * made l (1 * p ^ val p n) n
    rw [made_acc l (1 * p ^ val p (q * n)), made_acc l (1 * p ^ val p n), ih, Nat.one_mul, Nat.one_mul]
    by_cases e : p = q
    · subst e
      rw [val_mul_self (PRn_two hp) hn, List.count_cons_self, Nat.pow_succ, Nat.pow_succ]
      simp only [Nat.mul_assoc, Nat.mul_left_comm]
    · rw [val_mul_ne hp hq hn e, List.count_cons_of_ne e]
      simp only [Nat.mul_left_comm]
theorem made_smo {s : Nat} (h : Smo s) : made PRn 1 s = s := by
  induction h with
  | one => exact made_one PRn
  | @mul q n hq hn ih =>
    rw [made_mul hq hn.pos PRn fun _ z => z, ih]
    have c : PRn.count q = 1 := by
      have e : (PRn.all fun q => PRn.count q == 1) = true := by decide +kernel
      exact eq_of_beq (List.all_eq_true.mp e q hq)
    rw [c, Nat.pow_one]
theorem made_filter {s : Nat} (f : Nat → Bool) : ∀ (l : List Nat) (m : Nat), (∀ p ∈ l, f p = false → val p s = 0) → made (l.filter f) m s = made l m s
  | [], _, _ => rfl
  | p :: l, m, h => by
    have hl : ∀ q ∈ l, f q = false → val q s = 0 := fun q hq => h q (List.mem_cons_of_mem _ hq)
    cases e : f p with
    | true =>
      rw [List.filter_cons_of_pos e]
      exact made_filter f l _ hl
    | false =>
      rw [List.filter_cons_of_neg (by rw [e]; exact Bool.false_ne_true), made_filter f l m hl]
      show made l m s = made l (m * p ^ val p s) s
      rw [h p List.mem_cons_self e, Nat.pow_zero, Nat.mul_one]
/-! ### steps: b by what it has in common with a -/
def stp (a b : Nat) : Nat := b / Nat.gcd b a
section
variable {a b : Nat}
theorem gcd_pos' (hb : 0 < b) : 0 < Nat.gcd b a := Nat.gcd_pos_of_pos_left a hb
theorem stp_mul (a b : Nat) : stp a b * Nat.gcd b a = b := Nat.div_mul_cancel (Nat.gcd_dvd_left b a)
theorem stp_pos (hb : 0 < b) : 0 < stp a b := Nat.div_pos (Nat.le_of_dvd hb (Nat.gcd_dvd_left b a)) (gcd_pos' hb)
theorem stp_cop (hb : 0 < b) : Nat.Coprime (stp a b) (a / Nat.gcd b a) := Nat.coprime_div_gcd_div_gcd (gcd_pos' hb)
theorem a_eq (a b : Nat) : a / Nat.gcd b a * Nat.gcd b a = a := Nat.div_mul_cancel (Nat.gcd_dvd_right b a)
/-- the multiples that do -/
theorem stp_iff (hb : 0 < b) (x : Nat) : b ∣ x * a ↔ stp a b ∣ x := by
  have g := gcd_pos' (a := a) hb
  have eb : b = Nat.gcd b a * stp a b := by rw [Nat.mul_comm]; exact (stp_mul a b).symm
  have ea : x * a = Nat.gcd b a * (x * (a / Nat.gcd b a)) := by
    rw [Nat.mul_left_comm, Nat.mul_comm (Nat.gcd b a), a_eq]
  constructor
  · intro d
    rw [ea] at d
    have d2 : Nat.gcd b a * stp a b ∣ Nat.gcd b a * (x * (a / Nat.gcd b a)) := by rw [← eb]; exact d
    exact (stp_cop hb).dvd_of_dvd_mul_right (Nat.dvd_of_mul_dvd_mul_left g d2)
  · intro d
    rw [ea]
    have d2 : Nat.gcd b a * stp a b ∣ Nat.gcd b a * (x * (a / Nat.gcd b a)) := Nat.mul_dvd_mul_left _ (Nat.dvd_trans d (Nat.dvd_mul_right x _))
    rw [← eb] at d2
    exact d2
theorem stp_least (hb : 0 < b) {p : Nat} (hp : 2 ≤ p) (h : stp a b % p = 0) : stp a b / p * a % b ≠ 0 := fun z => by
  have d := (stp_iff hb _).mp (Nat.dvd_of_mod_eq_zero z)
  have pos := stp_pos (a := a) hb
  have q : 0 < stp a b / p := Nat.div_pos (Nat.le_of_dvd pos (Nat.dvd_of_mod_eq_zero h)) (by omega)
  have := Nat.le_of_dvd q d
  have := Nat.div_lt_self pos hp
  omega
theorem stp_val (ha : 0 < a) (hb : 0 < b) {p : Nat} (hp : p ∈ PRn) : val p (stp a b) = val p b - val p a := by
  have e := val_add hp (stp a b) (Nat.gcd b a) (stp_pos hb) (gcd_pos' hb)
  rw [stp_mul, val_gcd (PRn_two hp) hb ha] at e
  omega
theorem stp_one (hb : 0 < b) : stp a b = 1 ↔ a % b = 0 := by
  constructor
  · intro e
    have d := (stp_iff hb 1).mpr (by rw [e]; exact Nat.dvd_refl 1)
    rw [Nat.one_mul] at d
    exact Nat.mod_eq_zero_of_dvd d
  · intro e
    have d := (stp_iff hb 1).mp (by rw [Nat.one_mul]; exact Nat.dvd_of_mod_eq_zero e)
    exact Nat.dvd_one.mp d
theorem stp_all (hb : 0 < b) : stp a b = b ↔ Nat.gcd b a = 1 := by
  have e := stp_mul a b
  constructor
  · intro h
    rw [h] at e
    have : b * Nat.gcd b a = b * 1 := by rw [e, Nat.mul_one]
    exact Nat.eq_of_mul_eq_mul_left hb this
  · intro h
    rw [h, Nat.mul_one] at e
    exact e
theorem stp_does (hb : 0 < b) : stp a b * a % b = 0 := Nat.mod_eq_zero_of_dvd ((stp_iff hb _).mpr (Nat.dvd_refl _))
theorem stp_two {c : Nat} (hb : 0 < b) (hc : 0 < c) : stp a b * stp b c % stp a c = 0 := by
  refine Nat.mod_eq_zero_of_dvd ((stp_iff hc _).mp ?_)
  have d1 : b ∣ stp a b * a := (stp_iff hb _).mpr (Nat.dvd_refl _)
  have d2 : c ∣ stp b c * b := (stp_iff hc _).mpr (Nat.dvd_refl _)
  have e : stp a b * stp b c * a = stp b c * (stp a b * a) := by
    rw [Nat.mul_comm (stp a b), Nat.mul_assoc]
  rw [e]
  exact Nat.dvd_trans d2 (Nat.mul_dvd_mul_left _ d1)
end
end NA
namespace NA
open PySem PySem.Spec PyProof.Rows L2

/-! ### defs while no repr is under way -/
abbrev Bare (A : Around) : Prop := A.guards = some []
structure GFn (P : Program) (w : World) (K : PySem.W.Frag) (mg : Str → Option Value) (base : Heap) (k : Nat) (f : Addr) (fd : FuncData) (ps : List Str) (sp : Sp) : Prop where
  len : ∀ vs H Q E, sp vs H Q E → vs.length = ps.length
  go : ∀ (A : Around) (outer : List Env) (s : Shared) (H : Hp) (args : Args) (us : List Value) (vs : List V) (Q : VK) (E : XK),
    Bare A → Room k A → Env0 P w K mg base A outer s H → BindsTo s fd args (ps.zip us) → Vals vs us → sp vs H Q E →
    codeAny (model P w) A (.call (.ref f) args) (CR CX0 outer P w H s Q E) s
/-- a def of the text: where it stands, how it binds -/
structure DefAt (K : PySem.W.Frag) (mg : Str → Option Value) (x : Str) (st : Stmt) (ps : List Str) (f : Addr) (fd : FuncData) : Prop where
  fn : Fun K x x st f fd
  mgf : mg x = some (.ref f)
  bd : Binds K fd ps []
structure Cal (P : Program) (w : World) (K : PySem.W.Frag) (mg : Str → Option Value) (base : Heap) (k : Nat) (x : Str) (sp : Sp) : Prop where
  ex : ∃ (f : Addr) (fd : FuncData) (ps : List Str), FnOk P w K mg base CX0 k f fd ps sp ∧ mg x = some (.ref f) ∧ PySem.W.keepIn K (.ref f) = true ∧ Binds K fd ps []
structure GCal (P : Program) (w : World) (K : PySem.W.Frag) (mg : Str → Option Value) (base : Heap) (k : Nat) (x : Str) (sp : Sp) : Prop where
  ex : ∃ (f : Addr) (fd : FuncData) (ps : List Str), GFn P w K mg base k f fd ps sp ∧ mg x = some (.ref f) ∧ PySem.W.keepIn K (.ref f) = true ∧ Binds K fd ps []
section
variable {P : Program} {w : World} {K : PySem.W.Frag} {mg : Str → Option Value} {base : Heap}
theorem cal_of {x : Str} {st : Stmt} {f : Addr} {fd : FuncData} {N ps : List Str} {k : Nat} {sp : Sp} (D : DefAt K mg x st ps f fd) (S : FnScope N ps (defScope st)) (len : ∀ vs H Q E, sp vs H Q E → vs.length = ps.length)
    (body : ∀ (cdv : Value) (A : Around) (outer : List Env) (s : Shared) (H : Hp) (vs : List V) (Q : VK) (E : XK), Room k (A.deeper (envOfC x (defScope st) s.heap.objs.size f cdv)) → sp vs H Q E →
      ∃ t, PSs (cxOf CX0 P w K mg base N x (defScope st) f cdv A outer s H E).nox (defBody st) t ∧ t { nx := fun _ H' => Q .non H', rt := Q } (start N vs) H) : Cal P w K mg base (k + 1) x sp :=
  ⟨f, fd, ps, D.fn.ok S len body, D.mgf, D.fn.kp, D.bd⟩
theorem gfn_of {x : Str} {st : Stmt} {f : Addr} {fd : FuncData} {N ps : List Str} {k : Nat} {sp : Sp} (F : Fun K x x st f fd) (S : FnScope N ps (defScope st)) (len : ∀ vs H Q E, sp vs H Q E → vs.length = ps.length)
    (body : ∀ (cdv : Value) (A : Around) (outer : List Env) (s : Shared) (H : Hp) (vs : List V) (Q : VK) (E : XK), PySem.W.codeIn K cdv x = true → Bare A → Room k (A.deeper (envOfC x (defScope st) s.heap.objs.size f cdv)) → sp vs H Q E →
      ∃ t, PSs (cxOf CX0 P w K mg base N x (defScope st) f cdv A outer s H E).nox (defBody st) t ∧ t { nx := fun _ H' => Q .non H', rt := Q } (start N vs) H) : GFn P w K mg base (k + 1) f fd ps sp := by
  obtain ⟨oc, od, kV, doc, pm, an, cdv, ct, osl, rfl, lk, hcode⟩ := F.ex
  refine ⟨len, fun A outer s H args us vs Q E hg room e0 bind rel want => ?_⟩
  have hlen := len _ _ _ _ want
  have KX : K.In s.heap := e0.mod.kin.keeps fun b o z => (e0.bs b o z).1
  have nolim : s.heap.NoLimit := e0.mod.nolimit.keeps fun b o z => (e0.bs b o z).1
  have kinds : ∀ y ∈ ps.zip us, (defScope st).names.lookup y.1 = some .local ∨ ((defScope st).names.lookup y.1 = some .cell ∧ ((cellsFrom (s.heap.objs.size + 1) (defScope st).names []).lookup y.1).isSome = true) := by
    intro ⟨nm, v⟩ hy
    rcases S.par nm (List.of_mem_zip hy).1 with z | z
    · exact .inl z
    · exact .inr ⟨z, PySem.W.cellsFrom_some _ _ _ (.inl z)⟩
  refine codeAny_call_function room.depth (KX _ _ lk) rfl S.co S.gen rfl (PySem.W.codeRec_of KX hcode) (bind _ _ _ _ ?_)
  refine wpAny_newFunctionEnv_cells S.kind kinds fun env henv s1 inc => ?_
  subst henv
  refine ⟨nolim.keeps inc.toInCall.keep, codeAny_func ?_⟩
  obtain ⟨t, derives, reads⟩ := body cdv A outer s H vs Q E hcode hg (room.deeper _) want
  have I := inv_start (CX := CX0) (E := E) (cd := cdv) S room.hd e0 hlen rel inc
  refine wpAny_mono (derives.nox.run [] s1 (start N vs) H _ I reads) (fun fl s' hs => ?_) fun e s' hs => hs
  cases fl with
  | ret u =>
    obtain ⟨v, σ', H', J, rv, q⟩ := hs
    exact ⟨v, H', J.os, J.bare, J.base, J.hok, rv, q⟩
  | next =>
    obtain ⟨σ', H', J, q⟩ := hs
    exact ⟨V.non, H', J.os, J.bare, J.base, J.hok, rfl, q⟩
  | brk =>
    obtain ⟨σ', H', J, q⟩ := hs
    exact False.elim q
  | cont =>
    obtain ⟨σ', H', J, q⟩ := hs
    exact False.elim q
theorem gcal_of {x : Str} {st : Stmt} {f : Addr} {fd : FuncData} {N ps : List Str} {k : Nat} {sp : Sp} (D : DefAt K mg x st ps f fd) (S : FnScope N ps (defScope st)) (len : ∀ vs H Q E, sp vs H Q E → vs.length = ps.length)
    (body : ∀ (cdv : Value) (A : Around) (outer : List Env) (s : Shared) (H : Hp) (vs : List V) (Q : VK) (E : XK), PySem.W.codeIn K cdv x = true → Bare A → Room k (A.deeper (envOfC x (defScope st) s.heap.objs.size f cdv)) → sp vs H Q E →
      ∃ t, PSs (cxOf CX0 P w K mg base N x (defScope st) f cdv A outer s H E).nox (defBody st) t ∧ t { nx := fun _ H' => Q .non H', rt := Q } (start N vs) H) : GCal P w K mg base (k + 1) x sp :=
  ⟨f, fd, ps, gfn_of D.fn S len body, D.mgf, D.fn.kp, D.bd⟩
end
section
variable {X : Cx} {x : Str} {p pos : Pos} {e : Expr} {es : List Expr} {t : TA} {k j : Nat} {sp : Sp}
/-- f(..) of such a def -/
theorem pe_g (c : GCal X.prog X.w X.K X.mg X.base k x sp) (hg : Bare X.A) (hr : Room j X.A) (hk : k ≤ j) (hgl : Gl X x) (ha : PA X (e :: es) t) (hdb : (x == ("__debug__" : Str)) = false := by decide)
    (he : starEach (e :: es) X.env = (false, eval e X.env) :: starEach es X.env := by rfl) (hpl : (backTo pos (starEach es X.env)).any (·.1) = false := by rfl) :
    PE X (.Call (.Name x p) (e :: es) [] pos) (tCall sp [] E0 t) := by
  obtain ⟨f, fd, ps, F, hm, hkeep, hb⟩ := c.ex
  refine ⟨fun pins s σ H Q I h => wpAny_Call_Name_kw (ld_glob I hgl hm ?_ hdb)⟩
  refine PySem.W.callWith_K (h₀ := X.base) I.ok.mod.kin hkeep (thn (ha.run pos pins s σ H _ I h) fun us s1 ⟨vs, H1, I1, r, q⟩ => ⟨I1.kIn, ?_⟩) he hpl
  have q' : sp (vs ++ []) H1 Q E0 := q
  rw [List.append_nil] at q'
  have l : (us ++ []).length = ps.length := by rw [List.append_nil, ← r.length]; exact F.len _ _ _ _ q'
  have b := hb s1 us I1.kIn l
  rw [List.append_nil] at b
  refine wpAny_call (codeAny_mono (F.go X.A X.stack s1 H1 ⟨us, []⟩ us vs Q E0 hg (hr.mono hk) I1.env0 b r q') fun res s' hq => ?_)
  cases res with
  | error err => exact False.elim hq
  | ok fl =>
    cases fl with
    | ret u => exact I1.after hq
    | next => exact False.elim hq
    | brk => exact False.elim hq
    | cont => exact False.elim hq
/-- f(k=v, ..): keywords alone -/
theorem pe_kw {CX : CXT} {f : Addr} {fd : FuncData} {ps ks : List Str} {E : XK} {kws : List Keyword} {tk : TA} {g : List Value → List Value → List Value} {gV : List V → List V → List V} (F : FnOk X.prog X.w X.K X.mg X.base CX k f fd ps sp) (hr : Room k X.A) (hgl : Gl X x) (hm : X.mg x = some (.ref f))
    (hkeep : PySem.W.keepIn X.K (.ref f) = true) (hb : KBinds X.K fd ps ks g gV) (hx : Passes CX X E) (hkw : PK X kws tk) (hall : (backToKw pos (keywordEach kws X.env)).all (·.1.isSome) = true := by rfl)
    (hks : (backToKw pos (keywordEach kws X.env)).filterMap (·.1) = ks := by rfl) (hdb : (x == ("__debug__" : Str)) = false := by decide)
    (hpl : ((backTo pos (starEach [] X.env)).any (·.1) || (backToKw pos (keywordEach kws X.env)).any (·.1.isNone)) = false := by rfl) :
    PE X (.Call (.Name x p) [] kws pos) (tCallK sp gV E tNil tk) := by
  refine ⟨fun pins s σ H Q I h => wpAny_Call_Name_kw (ld_glob I hgl hm ?_ hdb)⟩
  refine PySem.W.callWith_KW0 (h₀ := X.base) I.ok.mod.kin hkeep hall (thn (hkw.run pos pins s σ H _ I h) fun ws s2 ⟨zs, H2, I2, rz, q2⟩ => ⟨I2.kIn, ?_⟩) hpl
  rw [hks]
  exact run_fnk (us := []) F hr hb hx I2 .nil rz q2
end
/-- a def that may be called by keywords, in the order ks -/
structure CalK (P : Program) (w : World) (K : PySem.W.Frag) (mg : Str → Option Value) (base : Heap) (k : Nat) (x : Str) (sp : Sp) (ks : List Str) (gV : List V → List V → List V) : Prop where
  ex : ∃ (f : Addr) (fd : FuncData) (ps : List Str) (g : List Value → List Value → List Value), FnOk P w K mg base CX0 k f fd ps sp ∧ mg x = some (.ref f) ∧ PySem.W.keepIn K (.ref f) = true ∧ KBinds K fd ps ks g gV
section
variable {X : Cx} {x : Str} {p pos : Pos} {k j : Nat} {sp : Sp} {ks : List Str} {kws : List Keyword} {tk : TA} {gV : List V → List V → List V}
theorem pe_ck (c : CalK X.prog X.w X.K X.mg X.base k x sp ks gV) (hr : Room j X.A) (hk : k ≤ j) (hgl : Gl X x) (hkw : PK X kws tk) (hall : (backToKw pos (keywordEach kws X.env)).all (·.1.isSome) = true := by rfl)
    (hks : (backToKw pos (keywordEach kws X.env)).filterMap (·.1) = ks := by rfl) (hdb : (x == ("__debug__" : Str)) = false := by decide)
    (hpl : ((backTo pos (starEach [] X.env)).any (·.1) || (backToKw pos (keywordEach kws X.env)).any (·.1.isNone)) = false := by rfl) :
    PE X (.Call (.Name x p) [] kws pos) (tCallK sp gV E0 tNil tk) := by
  obtain ⟨f, fd, ps, g, F, hm, hkeep, hb⟩ := c.ex
  exact pe_kw F (hr.mono hk) hgl hm hkeep hb pass0 hkw hall hks hdb hpl
theorem pe_c0 (c : Cal X.prog X.w X.K X.mg X.base k x sp) (hr : Room j X.A) (hk : k ≤ j) (hgl : Gl X x) (hdb : (x == ("__debug__" : Str)) = false := by decide) : PE X (.Call (.Name x p) [] [] pos) (tCall sp [] E0 tNil) := by
  obtain ⟨f, fd, ps, F, hm, hkeep, hb⟩ := c.ex
  exact pe_call0 F (hr.mono hk) hgl hm hkeep hb .nil pass0 hdb
theorem pe_c {e : Expr} {es : List Expr} {t : TA} (c : Cal X.prog X.w X.K X.mg X.base k x sp) (hr : Room j X.A) (hk : k ≤ j) (hgl : Gl X x) (ha : PA X (e :: es) t) (hdb : (x == ("__debug__" : Str)) = false := by decide)
    (he : starEach (e :: es) X.env = (false, eval e X.env) :: starEach es X.env := by rfl) (hpl : (backTo pos (starEach es X.env)).any (·.1) = false := by rfl) : PE X (.Call (.Name x p) (e :: es) [] pos) (tCall sp [] E0 t) := by
  obtain ⟨f, fd, ps, F, hm, hkeep, hb⟩ := c.ex
  exact pe_call F (hr.mono hk) hgl hm hkeep hb .nil pass0 ha hdb he hpl
end
/-- the end of a law over such a def -/
theorem walkG {l : PySem.W.OpenLaw} {n k : Nat} {q : Program} {loose : List Str} {XP : (Str → Option Value) → Heap → Prop} {YP : World → Heap → Prop} {d : DefRec} {K : Params → PySem.W.Frag} {sp : PySem.W.Frag → Sp} {x : Str}
    (hn : l.most = some n) (hn2 : n ≤ sizeLine) (hdf : d.params.defaults = []) (hr : Room k callerA)
    (hY : ∀ (w : World) (h : Heap), YP w h → (K w.params).In h)
    (F : ∀ (w : World) (mg : Str → Option Value) (fa : Addr) (h : Heap), (K w.params).In h → h.Ns mainGlobals mg → mg d.name = some (.ref fa) →
      ∃ fd : FuncData, (∀ (s : Shared) (u : Value), BindsTo s fd ⟨[u], []⟩ [(x, u)]) ∧
        ∀ base : Heap, (K w.params).In base → base.Ns mainGlobals mg → GFn l.prog w (K w.params) mg base k fa fd [x] (sp (K w.params)))
    (hsp : ∀ (K : PySem.W.Frag) (H : Hp) (a : Addr) (ns : List Int), ns.length ≤ n → Only H → SqL K H a (ns.map V.int) → sp K [.ref a] H (fun v _ => v = .bl true) fun _ _ _ => False) :
    PySem.W.WalkO q loose XP YP l.row.toRowW d [] (fun f vs => PySem.call f vs) := by
  refine Att.attach_call hn hdf fun w s₀ s₁ mg mb fa o pm cd doc a vs ns G Y ho hd hcd hmg hobj hints hlen hgen => ?_
  have KX := hY w _ Y
  obtain ⟨fd, hb, hF⟩ := F w mg fa _ KX G.T.g hmg
  have mine : ∀ base : Heap, (K w.params).In base → base.Ns mainGlobals mg → FnOk l.prog w (K w.params) mg base CX0 k fa fd [x] (sp (K w.params)) → True := fun _ _ _ _ => trivial
  have rv := vals_ints hints
  have lenV := hints.length
  -- as the layer's own head does it, for the caller's surroundings alone
  have core : ∀ H : Hp, Only H → SqL (K w.params) H a (ns.map V.int) → HOk l.prog w H s₁.heap → (∀ b, H b ≠ none → b = a) → (H a ≠ none → (K w.params).lookup a = none) →
      codeAny (model l.prog w) callerA (.call (.ref fa) ⟨[.ref a], []⟩) (fun r s' => r = .ok (.ret (.bool true)) ∧ OldK s₁.heap s'.heap ∧ s'.os = s₁.os ∧ AllBare s'.gens) s₁ := by
    intro H hO hS hok only unk
    have keepHid : ∀ {b : Addr} {ob : Obj}, s₁.heap.get? b = some ob → H b = none → (hidT s₁.heap H).get? b = some ob := fun z nn => hidT_get z nn
    have dictFree : ∀ {b : Addr} {ob : Obj} {es : Array DictEntry} {ep : Nat}, s₁.heap.get? b = some ob → ob.data = .dict es ep → H b = none := by
      intro b ob es ep z dd
      cases hb' : H b with
      | none => rfl
      | some u =>
        have eb : b = a := only b (by rw [hb']; exact Option.some_ne_none u)
        rw [eb, hobj] at z
        cases z
        have dd' : Data.seq vs.toArray _ = Data.dict es ep := dd
        cases dd'
    have nsHid : ∀ {b : Addr} {m : Str → Option Value}, s₁.heap.Ns b m → (hidT s₁.heap H).Ns b m := fun {b m} ⟨ob, es, ep, z, dd, rest⟩ => ⟨ob, es, ep, keepHid z (dictFree z dd), dd, rest⟩
    have inHid : (K w.params).In (hidT s₁.heap H) := fun b ob z => keepHid (KX b ob z) (by
      cases hb' : H b with
      | none => rfl
      | some u =>
        have eb : b = a := only b (by rw [hb']; exact Option.some_ne_none u)
        rw [eb, unk (by rw [← eb, hb']; exact Option.some_ne_none u)] at z
        cases z)
    have M : Mod (K w.params) mg (hidT s₁.heap H) := ⟨inHid, nsHid G.T.g, ⟨mb, nsHid G.T.b, G.T.builtins⟩, let ⟨mc, z1, z2⟩ := G.T.nolimit; ⟨mc, nsHid z1, z2⟩⟩
    have e0 : Env0 l.prog w (K w.params) mg (hidT s₁.heap H) callerA [] s₁ H := ⟨rfl, M, fun b ob z => of_hidT z, Nat.le_of_eq (hidT_size _ _), trivial, fun b hb => absurd (show b ∈ ([] : List Addr) from hb) List.not_mem_nil, hok, .of_eq hgen⟩
    refine codeAny_mono ((hF _ inHid (nsHid G.T.g)).go callerA [] s₁ H ⟨[.ref a], []⟩ [.ref a] [.ref a] _ _ rfl hr e0 (hb s₁ (.ref a)) (.cons rfl .nil) (hsp (K w.params) H a ns hlen hO hS)) fun r s' hq => ?_
    have hq2 : ∃ u, r = .ok (.ret u) ∧ CE [] l.prog w H s₁ (fun v _ => v = .bl true) u s' := by
      cases r with
      | error err => exact False.elim hq
      | ok fl =>
        cases fl with
        | ret u => exact ⟨u, rfl, hq⟩
        | next => exact False.elim hq
        | brk => exact False.elim hq
        | cont => exact False.elim hq
    match hq2 with
    | ⟨u, er, v, H', os, bare, un, hok', rel, q⟩ =>
      have q' : v = .bl true := q
      subst q'
      have eu : u = Value.bool true := rel
      subst eu
      refine ⟨er, OldK.of_keep fun b ob z => ?_, os, bare⟩
      cases hb' : H b with
      | none => exact un.keep b ob z hb' (fun m => by cases m) (fun m => by cases m)
      | some u =>
        rcases hO b with n0 | ⟨ob', xs, n0⟩
        · rw [hb'] at n0
          cases n0
        · have n1 := un.frzs b ob' _ n0
          obtain ⟨z1, _⟩ := hok b _ n0
          obtain ⟨z2, _⟩ := hok' b _ n1
          rw [z] at z1
          cases z1
          exact z2
  cases hk : (K w.params).lookup a with
  | some ob =>
    have z := KX a ob hk
    rw [hobj] at z
    cases z
    exact core (fun _ => none) (fun _ => .inl rfl) (.inr ⟨_, vs.toArray, _, hk, rfl, rfl, rfl, by rw [List.size_toArray, lenV]; exact Nat.le_trans hlen hn2, by simpa using rv⟩) (fun b u z => by have z' : (none : Option HO) = some u := z; cases z') (fun b z => absurd rfl z) fun z => absurd rfl z
  | none =>
    refine core (fun b => if b = a then some (.frz { cls := .type "list", data := .seq vs.toArray } (.lst (ns.map V.int))) else none) (fun b => ?_) (.inl (.inr ⟨{ cls := .type "list", data := .seq vs.toArray }, if_pos rfl⟩)) (fun b u z => ?_) (fun b z => ?_) fun _ => hk
    · by_cases eb : b = a
      · exact .inr ⟨_, _, if_pos eb⟩
      · exact .inl (if_neg eb)
    · by_cases eb : b = a
      · have z' := (if_pos eb).symm.trans z
        cases z'
        subst eb
        exact ⟨hobj, by rw [List.length_map]; exact Nat.le_trans hlen hn2, vs, _, rv, hobj⟩
      · have z' := (if_neg eb).symm.trans z
        cases z'
    · by_cases eb : b = a
      · exact eb
      · exact absurd (if_neg eb) z
end NA
namespace NA
open PySem PySem.Spec PyProof.Rows L2

/-! ### how long a repr may be -/
mutual
def cost : PyData → Nat
  | .none => 4
  | .bool _ => 5
  | .int _ => 1921
  | .str x => 10 * x.length + 2
  | .list xs => costAll xs + 3
  | .tuple xs => costAll xs + 3
  | .dict _ => 0
def costAll : List PyData → Nat
  | [] => 0
  | x :: xs => cost x + 2 + costAll xs
end
def strSmall (x : Str) : Bool := x.cps.toList.all fun c => decide (c < 16 ^ 8)
mutual
def okD : PyData → Bool
  | .none => true
  | .bool _ => true
  | .int i => decide (i.natAbs.log2 < 1920)
  | .str x => strSmall x
  | .list xs => okAll xs
  | .tuple xs => okAll xs
  | .dict _ => false
def okAll : List PyData → Bool
  | [] => true
  | x :: xs => okD x && okAll xs
end
mutual
theorem okD_facts : ∀ d : PyData, okD d = true → d.showable = true ∧ d.hasDict = false ∧ d.shown.length ≤ cost d
  | .none, _ => ⟨rfl, rfl, by decide +kernel⟩
  | .bool true, _ => ⟨rfl, rfl, by decide +kernel⟩
  | .bool false, _ => ⟨rfl, rfl, by decide +kernel⟩
  | .int i, h => by
    have h1 : i.natAbs.log2 < 1920 := by simpa [okD] using h
    refine ⟨by simpa [PyData.showable] using h1, by simp only [PyData.hasDict], ?_⟩
    simp only [PyData.shown, cost]
    exact PyProof.Rows.int_text_len_1921 h1
  | .str x, h => by
    refine ⟨by simp only [PyData.showable], by simp only [PyData.hasDict], ?_⟩
    simp only [PyData.shown, cost]
    refine StrLaws.reprText_len x fun c hc => ?_
    have h1 : strSmall x = true := by simpa [okD] using h
    unfold strSmall at h1
    exact of_decide_eq_true (List.all_eq_true.mp h1 c hc)
  | .list xs, h => by
    obtain ⟨a, b, c, e⟩ := okAll_facts xs (by simpa [okD] using h)
    refine ⟨by simpa [PyData.showable] using a, by simpa [PyData.hasDict] using b, ?_⟩
    simp only [PyData.shown, cost]
    have := listText_len_le (PyData.shownAll xs)
    omega
  | .tuple xs, h => by
    obtain ⟨a, b, c, e⟩ := okAll_facts xs (by simpa [okD] using h)
    refine ⟨by simpa [PyData.showable] using a, by simpa [PyData.hasDict] using b, ?_⟩
    simp only [PyData.shown, cost]
    have := tupleText_len_le (PyData.shownAll xs)
    omega
  | .dict _, h => by simp [okD] at h
theorem okAll_facts : ∀ xs : List PyData, okAll xs = true → PyData.showableAll xs = true ∧ PyData.hasDictAll xs = false ∧ ((PyData.shownAll xs).map (·.length)).sum + 2 * (PyData.shownAll xs).length ≤ costAll xs ∧ True
  | [], _ => ⟨rfl, rfl, Nat.le_refl _, trivial⟩
  | x :: xs, h => by
    have h' : okD x = true ∧ okAll xs = true := by simpa [okAll] using h
    obtain ⟨a, b, c⟩ := okD_facts x h'.1
    obtain ⟨d, e, f, _⟩ := okAll_facts xs h'.2
    refine ⟨by simp only [PyData.showableAll, a, d, Bool.and_self], by simp only [PyData.hasDictAll, b, e, Bool.or_self], ?_, trivial⟩
    simp only [PyData.shownAll, costAll, List.map_cons, List.sum_cons, List.length_cons]
    omega
end
/-- data whose repr may be taken -/
structure Sh (d : PyData) : Prop where
  ok : okD d = true
  cost : cost d ≤ 16000000
  depth : d.depth ≤ 60
section
variable {X : Cx}
theorem call_reprD {k : Nat} (hg : Bare X.A) (hr : Room k X.A) : CallR X (.builtin "repr") (fun xs H Q => ∃ v d, xs = [v] ∧ Dp X.K H v d ∧ Sh d ∧ Q (.str d.shown) H) := by
  intro pins s σ H xs us Q I r h
  obtain ⟨v, d, rfl, hd, sh, q⟩ := h
  obtain ⟨u, rfl, rv⟩ := r.one
  obtain ⟨f1, f2, f3⟩ := okD_facts d sh.ok
  have hz : d.shown.length ≤ sizeLine := Nat.le_trans f3 (Nat.le_trans sh.cost (by decide))
  have hu := hr.un
  have hdep := sh.depth
  obtain ⟨as, rd⟩ := Dp.reads I d v u hd rv
  have big : ∀ a, u = Value.ref a → wpAny (model X.prog X.w) X.A (call (.builtin "repr") [u]) (EP X pins σ Q) X.xe s := fun a e => by
    subst e
    exact repr_of_reads' rd f1 (PyData.noDict_hsm f2) hg (by omega) (fun _ _ z => z) (fun h' u tk hk => ⟨.str _, H, I.kept (t' := tk) hk, ⟨_, rfl⟩, q⟩) hz
  cases hd with
  | non =>
    cases (show u = Value.none from rv)
    exact PySem.P.repr_of_none ⟨.str _, H, I.tok _, ⟨_, rfl⟩, q⟩
  | bl b =>
    cases (show u = Value.bool b from rv)
    refine PySem.P.repr_of_bool ⟨.str _, H, I.tok _, ⟨_, rfl⟩, ?_⟩
    simpa only [PyData.shown] using q
  | int i =>
    obtain ⟨t, rfl⟩ := (show ∃ t, u = Value.int i t from rv)
    refine PySem.P.repr_of_int (by simpa [okD] using sh.ok) ⟨.str _, H, I.tok _, ⟨_, rfl⟩, ?_⟩
    simpa only [PyData.shown] using q
  | str x =>
    obtain ⟨t, rfl⟩ := (show ∃ t, u = Value.str x t from rv)
    refine PySem.P.repr_of_str ⟨.str _, H, I.tok _, ⟨_, rfl⟩, ?_⟩ (by simpa only [PyData.shown] using hz)
    simpa only [PyData.shown] using q
  | lst _ _ => exact big _ rv
  | tup _ _ => exact big _ rv
end
/-! ### data that never changes: tuples all the way -/
mutual
inductive Im (H : Hp) : V → PyData → Prop
  | non : Im H .non .none
  | bl (b : Bool) : Im H (.bl b) (.bool b)
  | int (i : Int) : Im H (.int i) (.int i)
  | str (x : Str) : Im H (.str x) (.str x)
  | tup {a : Addr} {xs : List V} {ds : List PyData} : H a = some (.tup xs) → ImAll H xs ds → Im H (.ref a) (.tuple ds)
inductive ImAll (H : Hp) : List V → List PyData → Prop
  | nil : ImAll H [] []
  | cons {v : V} {vs : List V} {d : PyData} {ds : List PyData} : Im H v d → ImAll H vs ds → ImAll H (v :: vs) (d :: ds)
end
/-- tuples stay -/
def Tk (H H' : Hp) : Prop := ∀ b xs, H b = some (.tup xs) → H' b = some (.tup xs)
theorem Tk.refl (H : Hp) : Tk H H := fun _ _ h => h
theorem Tk.trans {H H1 H2 : Hp} (a : Tk H H1) (b : Tk H1 H2) : Tk H H2 := fun c x h => b c x (a c x h)
theorem Tk.new {H H' : Hp} {p : Addr} {o : HO} (e : Tk H H') (h : H' p = none) : Tk H (upd H' p o) := fun b xs z => by
  have z' := e b xs z
  rw [upd_ne (ne_of_none z' h)]
  exact z'
theorem Tk.put {H H' : Hp} {p : Addr} {xs : List V} {o : HO} (e : Tk H H') (h : H' p = some (.lst xs)) : Tk H (upd H' p o) := fun b ys z => by
  have z' := e b ys z
  rw [upd_ne (ne_of z' h (by intro q; cases q))]
  exact z'
theorem Tk.same {H H' : Hp} (e : Same H H') : Tk H H' := fun b xs z => e b _ z
mutual
theorem Im.keep {H H' : Hp} (e : Tk H H') : ∀ (d : PyData) (v : V), Im H v d → Im H' v d
  | .none, _, h => by cases h; exact .non
  | .bool _, _, h => by cases h; exact .bl _
  | .int _, _, h => by cases h; exact .int _
  | .str _, _, h => by cases h; exact .str _
  | .tuple ds, _, h => by
    cases h with
    | tup a b => exact .tup (e _ _ a) (ImAll.keep e ds _ b)
  | .list _, _, h => by cases h
  | .dict _, _, h => by cases h
theorem ImAll.keep {H H' : Hp} (e : Tk H H') : ∀ (ds : List PyData) (vs : List V), ImAll H vs ds → ImAll H' vs ds
  | [], _, h => by cases h; exact .nil
  | d :: ds, _, h => by
    cases h with
    | cons a b => exact .cons (Im.keep e d _ a) (ImAll.keep e ds _ b)
end
theorem Im.k {H H' : Hp} {v : V} {d : PyData} (h : Im H v d) (e : Tk H H') : Im H' v d := Im.keep e d v h
theorem ImAll.k {H H' : Hp} {vs : List V} {ds : List PyData} (h : ImAll H vs ds) (e : Tk H H') : ImAll H' vs ds := ImAll.keep e ds vs h
mutual
theorem Im.toDp {K : PySem.W.Frag} {H : Hp} : ∀ (d : PyData) (v : V), Im H v d → Dp K H v d
  | .none, _, h => by cases h; exact .non
  | .bool _, _, h => by cases h; exact .bl _
  | .int _, _, h => by cases h; exact .int _
  | .str _, _, h => by cases h; exact .str _
  | .tuple ds, _, h => by
    cases h with
    | tup a b => exact .tup (SqT.of a) (ImAll.toDp ds _ b)
  | .list _, _, h => by cases h
  | .dict _, _, h => by cases h
theorem ImAll.toDp {K : PySem.W.Frag} {H : Hp} : ∀ (ds : List PyData) (vs : List V), ImAll H vs ds → DpAll K H vs ds
  | [], _, h => by cases h; exact .nil
  | d :: ds, _, h => by
    cases h with
    | cons a b => exact .cons (Im.toDp d _ a) (ImAll.toDp ds _ b)
end
theorem Im.dp {K : PySem.W.Frag} {H : Hp} {v : V} {d : PyData} (h : Im H v d) : Dp K H v d := Im.toDp d v h
theorem ImAll.dp {K : PySem.W.Frag} {H : Hp} {vs : List V} {ds : List PyData} (h : ImAll H vs ds) : DpAll K H vs ds := ImAll.toDp ds vs h
theorem Im.tuple {H : Hp} {v : V} {ds : List PyData} (h : Im H v (.tuple ds)) : ∃ a xs, v = .ref a ∧ H a = some (.tup xs) ∧ ImAll H xs ds := by
  cases h with
  | tup a b => exact ⟨_, _, rfl, a, b⟩
theorem Im.isInt {H : Hp} {v : V} {i : Int} (h : Im H v (.int i)) : v = .int i := by cases h; rfl
theorem ImAll.length {H : Hp} : ∀ {vs : List V} {ds : List PyData}, ImAll H vs ds → vs.length = ds.length
  | _, _, .nil => rfl
  | _, _, .cons _ b => by rw [List.length_cons, List.length_cons, ImAll.length b]
theorem ImAll.get {H : Hp} : ∀ {vs : List V} {ds : List PyData} {i : Nat} {d : PyData}, ImAll H vs ds → ds[i]? = some d → ∃ v, vs[i]? = some v ∧ Im H v d
  | _, _, _, _, .nil, e => by simp at e
  | _, _, 0, _, .cons a _, e => by
    simp at e
    subst e
    exact ⟨_, rfl, a⟩
  | _, _, i + 1, d, .cons _ b, e => by
    obtain ⟨v, h1, h2⟩ := ImAll.get (i := i) (d := d) b (by simpa using e)
    exact ⟨v, by simpa using h1, h2⟩
theorem ImAll.ints {H : Hp} : ∀ {vs : List V} {ns : List Int}, ImAll H vs (ns.map PyData.int) → vs = ns.map V.int
  | vs, [], h => by cases h; rfl
  | vs, n :: ns, h => by
    cases h with
    | cons a b =>
      cases a
      rw [List.map_cons, ImAll.ints b]
theorem ImAll.of_ints (H : Hp) : ∀ ns : List Int, ImAll H (ns.map V.int) (ns.map PyData.int)
  | [] => .nil
  | n :: ns => .cons (.int n) (ImAll.of_ints H ns)
theorem ImAll.append {H : Hp} : ∀ {vs ws : List V} {ds es : List PyData}, ImAll H vs ds → ImAll H ws es → ImAll H (vs ++ ws) (ds ++ es)
  | _, _, _, _, .nil, h => h
  | _, _, _, _, .cons a b, h => .cons a (ImAll.append b h)
end NA
namespace PySem
open Sem (wp)
open AutoSeq1 (wpAny_loadPart')
/-- the iterator of a tuple at l, new -/
abbrev tIt (l : Addr) : Obj := { cls := .type "tuple_iterator", data := .fields #[.ref l, .int 0 0] }
/-- the enumerate object over the iterator at i, new -/
abbrev tEn (i : Addr) : Obj := { cls := .type "enumerate", data := .fields #[.none, .bool false, .ref i, rawInt 0, .none, .none] }
set_option maxHeartbeats 1000000 in
theorem enumT_new (l : Addr) (o : Obj) (its : Array Value) (hc : o.cls = .type "tuple") (hd : ∃ n, o.data = .seq its n) :
    Meets (Builtin.«enumerate.__new__» ⟨[.type "enumerate", .ref l], []⟩)
      (fun _ R s => s.heap.get? l = some o ∧ R (.ok (.ret (.ref (s.heap.push (tIt l)).objs.size))) { s with heap := (s.heap.push (tIt l)).push (tEn s.heap.objs.size) }) :=
  .of_wp fun prog w A R s h => by
    obtain ⟨hp, gg, dr, tk, os⟩ := s
    obtain ⟨hl, h⟩ := h
    have sub := sub_enumerate
    have T : Heap.IsTuple (Shared.heap ⟨hp, gg, dr, tk, os⟩) l its := ⟨o, hl, hc, hd⟩
    wp_walk using wpAny_loadPart' hl
    refine wpAny_stack_any fun _ => wpAny_pure ?_
    split
    · rename_i cc _ _ _ _ _
      cases (cc == Value.type "enumerate")
      · wp_walk using wpAny_loadPart' hl, wpAny_pyIter_tuple T
        exact ⟨_, rfl, h⟩
      · wp_walk using wpAny_loadPart' hl, wpAny_pyIter_tuple T
        exact ⟨_, rfl, h⟩
    · wp_walk using wpAny_loadPart' hl, wpAny_pyIter_tuple T
      exact ⟨_, rfl, h⟩
section
variable {prog : Program} {w : World} {A : Around} {E : Value → Shared → Prop} {s : Shared}
theorem enumT_call {l : Addr} {its : Array Value} {Q : Value → Shared → Prop} (T : s.heap.IsTuple l its)
    (h : ∀ h', IsEnum h' (s.heap.objs.size + 1) s.heap.objs.size 0 .none → h'.get? s.heap.objs.size = some (tIt l) →
      (∀ b o, s.heap.get? b = some o → h'.get? b = some o) → Q (.ref (s.heap.objs.size + 1)) { s with heap := h' }) :
    wpAny (model prog w) A (call (.type "enumerate") [.ref l]) Q E s := by
  obtain ⟨o, hl, hc, hd⟩ := T
  refine callType_new F.called_enumerate (by decide) (F.typeCall_enumerate_1 _) (F.newCall_enumerate_1 _) (fun obj => F.args_object_init_2 obj _) F.entry_enumerate_new (enumT_new l o its hc hd) ⟨hl, ?_⟩
  have sz : (s.heap.push (tIt l)).objs.size = s.heap.objs.size + 1 := Heap.size_push ..
  show _ ∧ _
  rw [sz]
  have en : IsEnum ((s.heap.push (tIt l)).push (tEn s.heap.objs.size)) (s.heap.objs.size + 1) s.heap.objs.size 0 .none := by
    have z := Heap.get?_push_size (s.heap.push (tIt l)) (o := tEn s.heap.objs.size) rfl
    rw [sz] at z
    exact z
  exact ⟨⟨_, en, rfl⟩, h _ en (Heap.get?_push_of_some _ (Heap.get?_push_size _ rfl)) fun b u z => Heap.get?_push_of_some _ (Heap.get?_push_of_some _ z)⟩
end
end PySem
namespace NA
open PySem PySem.Spec PyProof.Rows L2
/-- enumerate(t), t a tuple: each item in a new pair -/
def IeT (K : PySem.W.Frag) (a : Addr) : It :=
  ⟨fun i H => ∃ (xs : List V) (x : V), SqT K H a xs ∧ xs[i]? = some x, fun i H v H' => ∃ T x, v = .ref T ∧ H T = none ∧ H' = upd H T (.tup [.int (i : Nat), x]) ∧ ∀ xs, SqT K H a xs → xs[i]? = some x,
    fun i H => ∃ xs : List V, SqT K H a xs ∧ xs.length ≤ i⟩
theorem turn_enumT {P : Program} {w : World} {K : PySem.W.Frag} {elts : List Expr} {kk : Nat} {tpos : Pos} (a e it : Addr) :
    Turn P w K (.Tuple elts kk tpos) (IeT K a) [e, it] e (fun i h => (∃ old, IsEnum h e it (0 + ((i : Nat) : Int)) old) ∧ h.IsTupleIter it a i ∧ e ≠ it) where
  mem := by simp
  obj := fun i h st b hb => by
    obtain ⟨⟨old, he⟩, ⟨o, ho, hc, hd⟩, _⟩ := st
    have cases2 : b = e ∨ b = it := by simpa using hb
    rcases cases2 with z | z
    · subst z
      exact ⟨_, he, fun v q => nomatch q⟩
    · subst z
      exact ⟨o, ho, fun v q => by rw [hd] at q; cases q⟩
  keep := fun i h h' st k => by
    obtain ⟨⟨old, he⟩, hi, hne⟩ := st
    exact ⟨⟨old, k e (by simp) _ he⟩, hi.at fun o q => k it (by simp) o q, hne⟩
  item := by
    intro X hP hw hK hc i pins s σ H E I hf st hg
    subst hP hw hK
    obtain ⟨⟨old, he⟩, hit, hne⟩ := st
    obtain ⟨xs, x, hq, hx⟩ := hg
    obtain ⟨its, rv, tp, hz⟩ := I.tuple hq
    obtain ⟨u, hu, ru⟩ := rv.get hx
    have el : e < s.heap.objs.size := Heap.lt_size he
    have il : it < s.heap.objs.size := by obtain ⟨_, q, _⟩ := hit; exact Heap.lt_size q
    have al : a < s.heap.objs.size := tp.lt
    have lenI : i < its.toArray.size := by
      have := (List.getElem?_eq_some_iff.mp hu).1
      simpa using this
    -- the tuple's own iterator, by what it draws
    have ta_it : a ≠ it := fun z => by
      obtain ⟨o1, q1, c1, _⟩ := hit
      obtain ⟨o2, q2, c2, _⟩ := (show s.heap.IsTuple a its.toArray from tp)
      rw [z, q1] at q2
      cases q2
      rw [c1] at c2
      exact absurd c2 (by decide)
    have ta_e : a ≠ e := fun z => by
      obtain ⟨o2, q2, c2, _⟩ := (show s.heap.IsTuple a its.toArray from tp)
      rw [z, show s.heap.get? e = some _ from he] at q2
      cases q2
      exact absurd (show Value.type "enumerate" = Value.type "tuple" from c2) (by decide)
    have D : Draws X.prog X.w X.A.in1 it [it, a] its.toArray.size (fun i v => its.toArray[i]? = some v) (fun i h => h.IsTupleIter it a i ∧ h.IsTuple a its.toArray) := Draws.tuple (A := X.A.in1) (I.ok.hd hc) it a ta_it its.toArray
    refine wpAny_pyNext_enum_itemC D he ⟨hit, tp⟩ lenI hne (by simp [hne, Ne.symm ta_e]) fun y h' tk hP ho hs' hT hsz hk => ?_
    have ey : y = u := Option.some.inj (hP.symm.trans (by simpa using hu))
    subst ey
    refine ⟨_, rfl, wpAny_letOwnedTupleGo_enum (s := { s with heap := h', toks := tk + 1 }) ho fun h'' he' sb => ?_⟩
    have hT2 : h''.get? s.heap.objs.size = some { cls := .type "tuple", data := .seq #[.int (0 + (i : Int)) tk, y] } := (sb.2 _ (Nat.ne_of_gt el)).trans hT
    have e0 : (0 + (i : Int)) = (i : Int) := by omega
    have new : ObjOk X.prog X.w (upd H s.heap.objs.size (.tup [.int (i : Nat), x])) h'' s.heap.objs.size (.tup [.int (i : Nat), x]) :=
      ⟨by show 2 ≤ sizeLine; decide, [.int (0 + (i : Int)) tk, y], .cons ⟨tk, by rw [e0]⟩ (.cons ru .nil), ⟨_, hT2, rfl, _, rfl⟩⟩
    have I1 : Inv X pins σ (upd H s.heap.objs.size (.tup [.int (i : Nat), x])) { s with heap := h'', toks := tk + 1 } :=
      I.turnedNew (ch := [e, it]) (fun b ob hb q => (sb.2 b (fun z => hb (by simp [z]))).trans (hk b ob (fun z => hb (by simp [z])) (fun z => hb (by simp [z])) q)) hf (Nat.le_refl _) new
    refine ⟨.ref s.heap.objs.size, _, I1, rfl, ⟨_, x, rfl, I.hok.fresh (Nat.le_refl _), rfl, fun ys hy => by rw [I.tuple_inj hy hq]; exact hx⟩, ⟨⟨y, ?_⟩, hs'.1.at fun o q => (sb.2 it (Ne.symm hne)).trans q, hne⟩, fun b hb => ?_⟩
    · have e1 : (0 + ((i + 1 : Nat) : Int)) = 0 + (i : Int) + 1 := by omega
      rw [e1]
      exact he'
    · have lt : b < s.heap.objs.size := by
        have cases2 : b = e ∨ b = it := by simpa using hb
        rcases cases2 with z | z
        · rw [z]; exact el
        · rw [z]; exact il
      rw [upd_ne (Nat.ne_of_lt lt)]
      exact (hf b hb).1
  done := by
    intro X hP hw hK hc i pins s σ H E I hf st hg
    subst hP hw hK
    obtain ⟨⟨old, he⟩, hit, hne⟩ := st
    obtain ⟨xs, hq, hx⟩ := hg
    obtain ⟨its, rv, tp, hz⟩ := I.tuple hq
    have ta_it : a ≠ it := fun z => by
      obtain ⟨o1, q1, c1, _⟩ := hit
      obtain ⟨o2, q2, c2, _⟩ := (show s.heap.IsTuple a its.toArray from tp)
      rw [z, q1] at q2
      cases q2
      rw [c1] at c2
      exact absurd c2 (by decide)
    obtain ⟨f0, f1, f2, f3, f4, f5⟩ := hf it (by simp)
    have ln := rv.length
    have gone : xs.length ≤ i := hx
    have D : Draws X.prog X.w X.A.in1 it [it, a] i (fun _ _ => False) (fun j h => j = i ∧ h.IsTupleIter it a j ∧ h.IsTuple a its.toArray) := {
      live := fun j h st => by
        obtain ⟨_, ⟨o, q, _⟩, _⟩ := st
        exact ⟨o, q⟩
      frame := fun j h h' st k => ⟨st.1, st.2.1.at fun o q => k it (by simp) o q, st.2.2.at fun o q => k a (by simp) o q⟩
      item := fun j s Q E hj st _ => absurd hj (by rw [st.1]; exact Nat.lt_irrefl _)
      done := fun s Q E st hE => wpAny_nextOf_tuple_end (A := X.A.in1) (I.ok.hd hc) st.2.1 st.2.2 (Array.getElem?_eq_none (by simp; omega)) hE }
    exact wpAny_pyNext_enum_endD D he ⟨rfl, hit, tp⟩ fun h' eb => ⟨rfl, I.turned (t' := s.toks) (fun b o hb q => eb b o hb q) f0 f1 f3 f4 f5⟩
  self := fun A i s Q E st h => by
    obtain ⟨⟨_, he⟩, _⟩ := st
    exact wpAny_pyIter_enum he h
def iEnumT (K : PySem.W.Frag) (ta : TA) : TI := fun σ H R => ta σ H fun vs H1 => ∃ a xs, vs = [.ref a] ∧ SqT K H1 a xs ∧ R (IeT K a) H1
theorem pi_enumT {X : Cx} {e : Expr} {ta : TA} {p pos tpos : Pos} {elts : List Expr} {kk : Nat} (hg : Gl X "enumerate") (hm : X.mg "enumerate" = none) (ha : PA X [e] ta) (hs : starEach [e] X.env = [(false, eval e X.env)] := by rfl) :
    PI X (.Tuple elts kk tpos) (.Call (.Name "enumerate" p) [e] [] pos) (iEnumT X.K ta) := by
  refine ⟨fun pins s σ H R I h => ?_⟩
  refine Call_ (ld_blt I hg hm boot_enumerate (PyProof.Rows.callWith_type1 (thn (ha.run pos pins s σ H _ I h) fun us s1 ⟨vs, H1, I1, r1, q1⟩ => ?_) hs rfl))
  obtain ⟨a, xs, ex, hq, q⟩ := q1
  subst ex
  obtain ⟨u, rfl, ru⟩ := r1.one
  cases (show u = Value.ref a from ru)
  obtain ⟨its, rv, tp, hz⟩ := I1.tuple hq
  refine enumT_call (its := its.toArray) tp fun h' en it kept => wpAny_pyIter_enum en ?_
  refine ⟨s1.heap.objs.size + 1, [s1.heap.objs.size + 1, s1.heap.objs.size], _, _, H1, rfl, I1.kept (t' := s1.toks) kept, turn_enumT a (s1.heap.objs.size + 1) s1.heap.objs.size, ⟨⟨.none, en⟩, ⟨_, it, rfl, rfl⟩, Nat.succ_ne_self _⟩, fun b hb => ?_, q⟩
  have two : b = s1.heap.objs.size + 1 ∨ b = s1.heap.objs.size := by simpa using hb
  have le : s1.heap.objs.size ≤ b := by
    rcases two with z | z
    · rw [z]
      exact Nat.le_succ _
    · rw [z]
      exact Nat.le_refl _
  exact I1.fpOk le (I1.hok.fresh le)
theorem walk_enumT {K : PySem.W.Frag} {a : Addr} {xs : List V} : Walk (IeT K a) xs.length (fun H => SqT K H a xs) (YPair (fun i => some (.int (i : Nat))) (fun i => xs[i]?)) := by
  refine ⟨fun i _ hi q => ⟨xs, xs[i], q, by simp [hi]⟩, fun _ q => ⟨xs, q, Nat.le_refl _⟩, fun i H v H' _ q y => ?_⟩
  obtain ⟨T, x, y1, y2, y3, y4⟩ := y
  exact ⟨T, .int (i : Nat), x, y1, y2, y3, rfl, y4 xs q⟩
end NA
namespace NA
open PySem PySem.Spec PyProof.Rows L2

/-! ### built-in names that no text here takes -/
structure Blt (mg : Str → Option Value) : Prop where
  len : mg "len" = none
  int : mg "int" = none
  max : mg "max" = none
  min : mg "min" = none
  tuple : mg "tuple" = none
  list : mg "list" = none
  range : mg "range" = none
  any : mg "any" = none
  all : mg "all" = none
  repr : mg "repr" = none
  enumerate : mg "enumerate" = none
  isinstance : mg "isinstance" = none
  bool : mg "bool" = none
/-! ### the pot that is drawn from -/
def Pt (H : Hp) (p q : Addr) : Prop := ∃ (cs : List Int) (a b n : Int), H p = some (.lst [.ref q, .int a, .int b, .int n]) ∧ H q = some (.lst (cs.map V.int)) ∧ cs.length ≤ 60 ∧ 0 ≤ a ∧ a < 4294967296 ∧ 0 ≤ b ∧ b < 4294967296
theorem Pt.lp {H : Hp} {p q : Addr} (h : Pt H p q) : ∃ xs, H p = some (.lst xs) := by
  obtain ⟨cs, a, b, n, h1, _⟩ := h
  exact ⟨_, h1⟩
theorem Pt.lq {H : Hp} {p q : Addr} (h : Pt H p q) : ∃ xs, H q = some (.lst xs) := by
  obtain ⟨cs, a, b, n, _, h1, _⟩ := h
  exact ⟨_, h1⟩
theorem pq_ne {H : Hp} {p q : Addr} {cs : List Int} {a b n : Int} (h1 : H p = some (.lst [.ref q, .int a, .int b, .int n])) (h2 : H q = some (.lst (cs.map V.int))) : p ≠ q := fun e => by
  subst e
  rw [h1] at h2
  cases cs with
  | nil => cases h2
  | cons c cs => cases h2
theorem Pt.ne {H : Hp} {p q : Addr} (h : Pt H p q) : p ≠ q := by
  obtain ⟨cs, a, b, n, h1, h2, _⟩ := h
  exact pq_ne h1 h2
/-- all else stays -/
def Kp (p q : Addr) (H H' : Hp) : Prop := ∀ b o, b ≠ p → b ≠ q → H b = some o → H' b = some o
theorem Kp.refl (p q : Addr) (H : Hp) : Kp p q H H := fun _ _ _ _ h => h
theorem Kp.trans {p q : Addr} {H H1 H2 : Hp} (a : Kp p q H H1) (b : Kp p q H1 H2) : Kp p q H H2 := fun c o n1 n2 h => b c o n1 n2 (a c o n1 n2 h)
theorem Kp.new {p q c : Addr} {o : HO} {H H' : Hp} (e : Kp p q H H') (h : H' c = none) : Kp p q H (upd H' c o) := fun b u n1 n2 z => by
  have z' := e b u n1 n2 z
  rw [upd_ne (ne_of_none z' h)]
  exact z'
theorem Kp.same {p q : Addr} {H H' : Hp} (e : Same H H') : Kp p q H H' := fun b o _ _ z => e b o z
/-- a change of what was not there at the beginning -/
theorem Kp.put {p q c : Addr} {o : HO} {H H' : Hp} (e : Kp p q H H') (h : H c = none) : Kp p q H (upd H' c o) := fun b u n1 n2 z => by
  rw [upd_ne (ne_of_none z h)]
  exact e b u n1 n2 z
theorem Kp.fresh {p q c : Addr} {H H' : Hp} (e : Kp p q H H') (n1 : c ≠ p) (n2 : c ≠ q) (h : H' c = none) : H c = none := by
  cases z : H c with
  | none => rfl
  | some o =>
    rw [e c o n1 n2 z] at h
    cases h
theorem Kp.tk {p q : Addr} {H H' : Hp} (e : Kp p q H H') (P : Pt H p q) : Tk H H' := fun b xs z => by
  obtain ⟨ys, h1⟩ := P.lp
  obtain ⟨zs, h2⟩ := P.lq
  exact e b _ (ne_of z h1 (by intro k; cases k)) (ne_of z h2 (by intro k; cases k)) z
theorem Pt.new {H : Hp} {p q c : Addr} {o : HO} (P : Pt H p q) (h : H c = none) : Pt (upd H c o) p q := by
  obtain ⟨cs, a, b, n, h1, h2, r⟩ := P
  exact ⟨cs, a, b, n, by rw [upd_ne (ne_of_none h1 h)]; exact h1, by rw [upd_ne (ne_of_none h2 h)]; exact h2, r⟩
theorem Pt.put {H : Hp} {p q c : Addr} {o : HO} (P : Pt H p q) (n1 : c ≠ p) (n2 : c ≠ q) : Pt (upd H c o) p q := by
  obtain ⟨cs, a, b, n, h1, h2, r⟩ := P
  exact ⟨cs, a, b, n, by rw [upd_ne (Ne.symm n1)]; exact h1, by rw [upd_ne (Ne.symm n2)]; exact h2, r⟩
theorem Pt.same {H H' : Hp} {p q : Addr} (P : Pt H p q) (e : Same H H') : Pt H' p q := by
  obtain ⟨cs, a, b, n, h1, h2, r⟩ := P
  exact ⟨cs, a, b, n, e _ _ h1, e _ _ h2, r⟩
theorem Pt.np {H : Hp} {p q c : Addr} (P : Pt H p q) (h : H c = none) : c ≠ p ∧ c ≠ q := by
  obtain ⟨xs, h1⟩ := P.lp
  obtain ⟨ys, h2⟩ := P.lq
  refine ⟨fun e => ?_, fun e => ?_⟩
  · rw [e, h1] at h
    cases h
  · rw [e, h2] at h
    cases h
theorem Same.new {H H' : Hp} {c : Addr} {o : HO} (e : Same H H') (h : H' c = none) : Same H (upd H' c o) := fun b u z => by
  have z' := e b u z
  rw [upd_ne (ne_of_none z' h)]
  exact z'
/-- data all of whose items are ints -/
theorem DpAll.ints (K : PySem.W.Frag) (H : Hp) : ∀ ns : List Int, DpAll K H (ns.map V.int) (ns.map PyData.int)
  | [] => .nil
  | n :: ns => .cons (.int n) (DpAll.ints K H ns)
theorem canLay_ints : ∀ ns : List Int, PyData.canLayAll0 (ns.map PyData.int) = true
  | [] => rfl
  | n :: ns => by
    rw [List.map_cons]
    simp only [PyData.canLayAll0, PyData.canLay0, canLay_ints ns, Bool.and_self]
theorem depth_ints : ∀ ns : List Int, PyData.depthAll (ns.map PyData.int) = 0
  | [] => rfl
  | n :: ns => by
    rw [List.map_cons]
    simp only [PyData.depthAll, PyData.depth, depth_ints ns, Nat.max_self]
theorem shaped_ints (ns : List Int) : SeqAt.shaped (.list (ns.map PyData.int)) = true := by
  unfold SeqAt.shaped
  simp only [PyData.canLay0, PyData.depth, canLay_ints, depth_ints, Bool.true_and]
  decide
theorem Im.int0 {H : Hp} (n : Nat) : Im H (.int (0 + (n : Int))) (.int n) := by
  rw [Int.zero_add]
  exact .int _
/-! ### the promises of what draws -/
def spDip : Sp := fun vs H Q _ => ∃ (p q : Addr) (n : Int), vs = [.ref p, .int n] ∧ Pt H p q ∧ 0 < n ∧ n < 1073741824 ∧ ∀ (r : Int) (H' : Hp), 0 ≤ r → r < n → Pt H' p q → Kp p q H H' → Q (.int r) H'
def spPick : Sp := fun vs H Q _ => ∃ (p q a : Addr) (xs : List V), vs = [.ref p, .ref a] ∧ Pt H p q ∧ H a = some (.lst xs) ∧ a ≠ p ∧ a ≠ q ∧ xs ≠ [] ∧ xs.length < 1000 ∧
  ∀ (v : V) (H' : Hp), v ∈ xs → Pt H' p q → Kp p q H H' → Q v H'
def PR : List Int := [2, 3, 5, 7, 11, 13, 17, 19, 23, 29, 31, 37, 41, 43, 47, 53, 59, 61, 67, 71, 73, 79, 83, 89, 97]
def spPrimes : Sp := fun vs H Q _ => vs = [] ∧ ∀ a, H a = none → Q (.ref a) (upd H a (.lst (PR.map V.int)))
def spGreat : Sp := fun vs H Q _ => ∃ (p q : Addr), vs = [.ref p] ∧ Pt H p q ∧ ∀ (n : Int) (H' : Hp), SizeOk n → Pt H' p q → Kp p q H H' → Q (.int n) H'
def sD (ss : List Int) : PyData := .tuple (ss.map .int)
def wD (w : Nat × Nat) : PyData := .tuple [.int w.1, .int w.2]
def mD (ss : List Int) (ws : List (Nat × Nat)) : PyData := .tuple [sD ss, .tuple (ws.map wD)]
def spSizes : Sp := fun vs H Q _ => ∃ (p q : Addr) (g : Bool), vs = [.ref p, .bl g] ∧ Pt H p q ∧
  ∀ (v : V) (ss : List Int) (H' : Hp), Im H' v (sD ss) → 1 ≤ ss.length → ss.length ≤ 6 → (∀ s ∈ ss, SizeOk s) → Pt H' p q → Kp p q H H' → Q v H'
def spWires : Sp := fun vs H Q _ => ∃ (p q : Addr) (m : Nat), vs = [.ref p, .int m] ∧ m ≤ 6 ∧ Pt H p q ∧
  ∀ (v : V) (ws : List (Nat × Nat)) (H' : Hp), Im H' v (.tuple (ws.map wD)) → WOk m ws → Pt H' p q → Kp p q H H' → Q v H'
def spMachine : Sp := fun vs H Q _ => ∃ (p q : Addr) (g : Bool), vs = [.ref p, .bl g] ∧ Pt H p q ∧
  ∀ (v : V) (ss : List Int) (ws : List (Nat × Nat)) (H' : Hp), Im H' v (mD ss ws) → MOk ss ws → Pt H' p q → Kp p q H H' → Q v H'
/-- a list at c of great numbers, all of them ints that may be a size but for 1 -/
def okV (v : V) : Bool := match v with
  | .int i => decide (1 ≤ i) && decide (i ≤ 10 ^ 30) && smoB i.toNat
  | _ => false
theorem okV_of {v : V} (h : okV v = true) : ∃ m : Nat, v = .int m ∧ 1 ≤ m ∧ m ≤ 10 ^ 30 ∧ Smo m := by
  cases v with
  | int i =>
    have h' : (decide (1 ≤ i) && decide (i ≤ 10 ^ 30) && smoB i.toNat) = true := h
    rw [Bool.and_eq_true, Bool.and_eq_true] at h'
    have h1 : 1 ≤ i := of_decide_eq_true h'.1.1
    have h2 : i ≤ 10 ^ 30 := of_decide_eq_true h'.1.2
    exact ⟨i.toNat, by rw [Int.toNat_of_nonneg (by omega)], by omega, by omega, smo_of h'.2⟩
  | _ => cases h
def fewV : List V := [.int 2, .int 3, .int 4, .int 5, .int 6, .int 8, .int 9, .int 12, .int 16, .int 18, .int 27, .int 97, .int 36]
def spCommon : Sp := fun vs H Q _ => ∃ a b : Nat, vs = [.int a, .int b] ∧ b < 2 ^ 4000 ∧ Q (.int (Nat.gcd a b : Nat)) H
end NA
namespace NA
open PySem PySem.Spec PyProof.Rows L2
theorem Same.put {H H' : Hp} {c : Addr} {o : HO} (e : Same H H') (h : H c = none) : Same H (upd H' c o) := fun b u z => by
  rw [upd_ne (ne_of_none z h)]
  exact e b u z
theorem take_filter {α : Type} {l : List α} {i : Nat} {x : α} (f : α → Bool) (h : l[i]? = some x) : (l.take (i + 1)).filter f = (l.take i).filter f ++ (if f x = true then [x] else []) := by
  rw [List.take_add_one, h, List.filter_append]
  simp only [Option.toList, List.filter_cons, List.filter_nil]
theorem take_map {α β : Type} {l : List α} {i : Nat} {x : α} (f : α → β) (h : l[i]? = some x) : (l.take (i + 1)).map f = (l.take i).map f ++ [f x] := by
  rw [List.take_add_one, h, List.map_append]
  rfl
theorem map_get {α β : Type} {l : List α} {f : α → β} {i : Nat} {y : β} (h : (l.map f)[i]? = some y) : ∃ x, l[i]? = some x ∧ y = f x := by
  rw [List.getElem?_map] at h
  cases e : l[i]? with
  | none =>
    rw [e] at h
    cases h
  | some x =>
    rw [e] at h
    exact ⟨x, rfl, (Option.some.inj h).symm⟩
theorem dec_int0 (x y : Int) : decide (V.int x = V.int y) = decide (x = y) := by
  by_cases h : x = y
  · subst h
    rw [decide_eq_true rfl, decide_eq_true rfl]
  · rw [decide_eq_false h, decide_eq_false fun z => h (V.int.inj z)]
/-- primes that divide some of these -/
def dv (ss : List Int) (p : Int) : Bool := ss.any fun s => decide (s % p = 0)
def dueP (ss : List Int) : List Int := PR.filter (dv ss)
def spDepth : Sp := fun vs H Q _ => ∃ (v : V) (ss : List Int) (d : PyData) (p i s : Nat), vs = [v, .int p, .int i] ∧ Im H v (.tuple [sD ss, d]) ∧ 2 ≤ p ∧ p ≤ 1000 ∧ ss[i]? = some (s : Int) ∧ 0 < s ∧ s < 2 ^ 4000 ∧ Q (.int (val p s : Nat)) H
def spStep : Sp := fun vs H Q _ => ∃ (v : V) (ss : List Int) (d : PyData) (j i a b : Nat), vs = [v, .int j, .int i] ∧ Im H v (.tuple [sD ss, d]) ∧ ss[j]? = some (a : Int) ∧ ss[i]? = some (b : Int) ∧ 0 < b ∧ b < 2 ^ 4000 ∧ Q (.int (stp a b : Nat)) H
def spPrimesOf : Sp := fun vs H Q _ => ∃ (v : V) (ss : List Int) (d : PyData), vs = [v] ∧ Im H v (.tuple [sD ss, d]) ∧ ss.length ≤ 100 ∧ ∀ (u : V) (H' : Hp), Im H' u (.tuple ((dueP ss).map .int)) → Same H H' → Q u H'
def spLStep : Sp := fun vs H Q _ => ∃ (v : V) (ss : List Int) (j i a b : Nat), vs = [v, .int j, .int i] ∧ Im H v (sD ss) ∧ ss[j]? = some (a : Int) ∧ ss[i]? = some (b : Int) ∧ 0 < b ∧ b < 2 ^ 4000 ∧ Q (.int (stp a b : Nat)) H
def spOften : Sp := fun vs H Q _ => ∃ (s p : Nat), vs = [.int s, .int p] ∧ 2 ≤ p ∧ p ≤ 1000 ∧ 0 < s ∧ s < 2 ^ 4000 ∧ Q (.int (val p s : Nat)) H
def spPot (K : PySem.W.Frag) : Sp := fun vs H Q _ => ∃ (a : Addr) (ns : List Int), vs = [.ref a] ∧ SqL K H a (ns.map V.int) ∧ ns.length ≤ 63 ∧ ∀ (p q : Addr) (H' : Hp), Pt H' p q → Same H H' → H p = none → H q = none → Q (.ref p) H'
theorem pl_pos {p s : Nat} (hp : 2 ≤ p) (h : 0 < s) (e : s % p = 0) : 0 < s / p := Nat.div_pos (Nat.le_of_dvd h (Nat.dvd_of_mod_eq_zero e)) (by omega)
theorem Cal.of {P : Program} {w : World} {K : PySem.W.Frag} {mg : Str → Option Value} {base : Heap} {x : Str} {st : Stmt} {f : Addr} {fd : FuncData} {ps : List Str} {k : Nat} {sp : Sp} (D : DefAt K mg x st ps f fd) (F : FnOk P w K mg base CX0 k f fd ps sp) : Cal P w K mg base k x sp :=
  ⟨f, fd, ps, F, D.mgf, D.fn.kp, D.bd⟩
theorem CalK.of {P : Program} {w : World} {K : PySem.W.Frag} {mg : Str → Option Value} {base : Heap} {x : Str} {st : Stmt} {f : Addr} {fd : FuncData} {ps ks : List Str} {k : Nat} {sp : Sp} {g : List Value → List Value → List Value} {gV : List V → List V → List V} (D : DefAt K mg x st ps f fd)
    (F : FnOk P w K mg base CX0 k f fd ps sp) (b : KBinds K fd ps ks g gV) : CalK P w K mg base k x sp ks gV :=
  ⟨f, fd, ps, g, F, D.mgf, D.fn.kp, b⟩
/-- keywords alone, put in order by o -/
def kg1 {α : Type} : List α → List α → List α
  | [], [a] => [a]
  | _, _ => []
def kg321 {α : Type} : List α → List α → List α
  | [], [a, b, c] => [c, b, a]
  | _, _ => []
theorem kg1_rel {vs zs : List V} {us ws : List Value} (h1 : Vals vs us) (h2 : Vals zs ws) : Vals (kg1 vs zs) (kg1 us ws) := by
  cases h1 with
  | cons _ _ => exact .nil
  | nil =>
    cases h2 with
    | nil => exact .nil
    | cons a h2 =>
      cases h2 with
      | nil => exact .cons a .nil
      | cons _ _ => exact .nil
theorem kg321_rel {vs zs : List V} {us ws : List Value} (h1 : Vals vs us) (h2 : Vals zs ws) : Vals (kg321 vs zs) (kg321 us ws) := by
  cases h1 with
  | cons _ _ => exact .nil
  | nil =>
    cases h2 with
    | nil => exact .nil
    | cons a h2 =>
      cases h2 with
      | nil => exact .nil
      | cons b h2 =>
        cases h2 with
        | nil => exact .nil
        | cons c h2 =>
          cases h2 with
          | nil => exact .cons c (.cons b (.cons a .nil))
          | cons _ _ => exact .nil
section
variable {X : Cx}
/-! rules over a written part that is named -/
theorem pi_listK (K : PySem.W.Frag) (hK : X.K = K) {tg l : Expr} {tl : TE} (hl : PE X l tl) : PI X tg l (iList K tl) := hK ▸ pi_list hl
theorem pi_tupK (K : PySem.W.Frag) (hK : X.K = K) {tg l : Expr} {tl : TE} (hl : PE X l tl) : PI X tg l (iTup K tl) := hK ▸ pi_tup hl
theorem ix_listK (K : PySem.W.Frag) (hK : X.K = K) : IxR X (rIxL K) := hK ▸ ix_list
theorem ix_tupK (K : PySem.W.Frag) (hK : X.K = K) : IxR X (rIxT K) := hK ▸ ix_tup
theorem sl_listK (K : PySem.W.Frag) (hK : X.K = K) : SlR X (rSlL K) := hK ▸ sl_list
theorem cr_anyK (K : PySem.W.Frag) (hK : X.K = K) (hc : X.calm = true) : CallR X (.builtin "any") (rAny K) := hK ▸ cr_any hc
theorem cr_allK (K : PySem.W.Frag) (hK : X.K = K) (hc : X.calm = true) : CallR X (.builtin "all") (rAll K) := hK ▸ cr_all hc
def rLenQ (K : PySem.W.Frag) : List V → Hp → VK → Prop := fun xs H Q => ∃ p ys, xs = [.ref p] ∧ (SqL K H p ys ∨ SqT K H p ys) ∧ Q (.int ys.length) H
theorem call_lenK (K : PySem.W.Frag) (hK : X.K = K) : CallR X (.builtin "len") (rLenQ K) := hK ▸ call_len_seq
def rTupQ (K : PySem.W.Frag) : List V → Hp → VK → Prop := fun xs H Q => ∃ p ys, xs = [.ref p] ∧ ((SqL K H p ys ∧ ∀ l, H l = none → Q (.ref l) (upd H l (.tup ys))) ∨ (SqT K H p ys ∧ Q (.ref p) H))
theorem call_tupleK (K : PySem.W.Frag) (hK : X.K = K) : CallR X (.type "tuple") (rTupQ K) := hK ▸ call_tuple_of
def rLstQ (K : PySem.W.Frag) : List V → Hp → VK → Prop := fun xs H Q => ∃ p ys, xs = [.ref p] ∧ (SqL K H p ys ∨ SqT K H p ys) ∧ ∀ l, H l = none → Q (.ref l) (upd H l (.lst ys))
theorem call_listK (K : PySem.W.Frag) (hK : X.K = K) : CallR X (.type "list") (rLstQ K) := hK ▸ call_list_of
theorem op_neDK (K : PySem.W.Frag) (hK : X.K = K) (hu : X.A.units + 64 < cLine) : OpR X (compareOp .NotEq) (rNeD K) := hK ▸ op_neD hu
theorem op_eqDK (K : PySem.W.Frag) (hK : X.K = K) (hu : X.A.units + 64 < cLine) : OpR X (compareOp .Eq) (rEqD K) := hK ▸ op_eqD hu
def rReprQ (K : PySem.W.Frag) : List V → Hp → VK → Prop := fun xs H Q => ∃ v d, xs = [v] ∧ Dp K H v d ∧ Sh d ∧ Q (.str d.shown) H
theorem call_reprK (K : PySem.W.Frag) (hK : X.K = K) {k : Nat} (hg : Bare X.A) (hr : Room k X.A) : CallR X (.builtin "repr") (rReprQ K) := hK ▸ call_reprD hg hr
theorem call_isiK' (K : PySem.W.Frag) (hK : X.K = K) : CallR X (.builtin "isinstance") (rIsi K) := hK ▸ call_isi
/-- an operator in place, by its rule -/
theorem ip_of {op : Operator} {r : R2} (h : OpR X (inplaceOp op) r) : PIp X op r := fun pins s σ H x y v u Q I rx ry z => h pins s σ H x y v u Q I rx ry z
/-- expressions one behind another, none starred -/
inductive PEL (X : Cx) : List Expr → TA → Prop
  | nil : PEL X [] tNil
  | cons {e : Expr} {es : List Expr} {te : TE} {t : TA} : PE X e te → PEL X es t → PySem.W.kdsPlain e = true → PEL X (e :: es) (tCons te t)
theorem PEL.plain {es : List Expr} {t : TA} (h : PEL X es t) : es.all PySem.W.kdsPlain = true := by
  induction h with
  | nil => rfl
  | cons _ _ h3 ih => rw [List.all_cons, h3, ih] <;> rfl
theorem PEL.run {es : List Expr} {t : TA} (h : PEL X es t) : ∀ (pins : List (Addr × Obj)) (s : Shared) (σ : L2.St) (H : Hp) (R : List V → Hp → Prop) (Q : List Value → Shared → Prop), Inv X pins σ H s → t σ H R →
    (∀ us s' vs H', Inv X pins σ H' s' → Vals vs us → R vs H' → Q us s') → PySem.W.KdsAll (model X.prog X.w) X.A X.xe X.env es Q s := by
  induction h with
  | nil => intro pins s σ H R Q I h q; exact q [] s [] H I .nil h
  | cons he _ _ ih =>
    intro pins s σ H R Q I h q
    refine thn (he.run pins s σ H _ I h) fun u s1 ⟨v, H1, I1, rv, h1⟩ => ?_
    exact ih pins s1 σ H1 _ _ I1 h1 fun us s' vs H' I' rel r => q (u :: us) s' (v :: vs) H' I' (.cons rv rel) r
theorem Vals.toInts : ∀ {ns : List Int} {us : List Value}, Vals (ns.map V.int) us → IntsAre us ns
  | [], _, h => by cases h; exact .nil
  | n :: ns, _, h => by
    cases h with
    | cons a b =>
      obtain ⟨t, rfl⟩ := a
      exact .cons n t (Vals.toInts b)
/-- how many unlike ones -/
def unlike : List Int → List Int → Nat
  | _, [] => 0
  | seen, n :: ns => if n ∈ seen then unlike seen ns else unlike (n :: seen) ns + 1
section
variable {P : Program} {w : World} {A : Around} {E : Value → Shared → Prop} {s : Shared} {D : Addr}
theorem unledI {S : Int → Bool} {n : Nat} {Q : Unit → Shared → Prop} (hS : s.heap.SetOf (intKind P w) D S n) (h : ∀ h', h'.SetOf (intKind P w) D S n → (∀ b o, b ≠ D → s.heap.get? b = some o → h'.get? b = some o) → Q () { s with heap := h' }) :
    wpAny (model P w) A (setUnled D) Q E s := by
  obtain ⟨o, es, ep, tb, get, exact', data, elems, mem, bound, fit, cnt⟩ := hS
  have fit' : ({ tb with led := false } : SetTable).fits es.size = true := by cases tb; exact fit
  unfold setUnled
  refine wpAny_bind (wpAny_setState_of get data fit ?_)
  dsimp only
  refine wpAny_storeSet_of get data ?_ (fits_of_scanBound bound)
  obtain ⟨_, hS2⟩ := SetOf_store (knd := intKind P w) get exact' data elems mem bound fit'
  rw [cnt] at hS2
  have but := Heap.SameBut.update s.heap D (Obj.putSet es { tb with led := false })
  exact h _ hS2 fun b ob hb z => (but.2 b hb).trans z
theorem fillI {u : Bool} {h₀ : Heap} {us : List Value} {ns : List Int} (r : IntsAre us ns) : ∀ (h : Heap) (k : Nat) (S : Int → Bool) (seen : List Int) (n : Nat) (Q : Value → Shared → Prop), h.SetOf (intKind P w) D S n → (∀ z, S z = true ↔ z ∈ seen) →
    (∀ b o, b ≠ D → h₀.get? b = some o → h.get? b = some o) → n + ns.length < 4000 →
    (∀ h' k' S', h'.SetOf (intKind P w) D S' (n + unlike seen ns) → (∀ b o, b ≠ D → h₀.get? b = some o → h'.get? b = some o) → PySem.W.KdsFill (model P w) A E u D Q [] { s with heap := h', toks := k' }) →
    PySem.W.KdsFill (model P w) A E u D Q us { s with heap := h, toks := k } := by
  induction r with
  | nil =>
    intro h k S seen n Q hS _ hk _ q
    exact q h k S hS hk
  | cons y t r ih =>
    rename_i us2 ns2
    intro h k S seen n Q hS hmem hk hn q
    rw [List.length_cons] at hn
    refine PySem.W.kds_fill_cons ?_
    unfold setAdd
    refine wpAny_holding (wpAny_bind ((intKind P w).pyHash (k := y) (intKind_is _ _ _ _) ?_))
    refine wpAny_setAddHashed_of (knd := intKind P w) (s := { s with heap := h, toks := k + 1 }) (intKind_is _ _ _ _) rfl hS (by unfold scanBound; omega) fun h' sb hS' => ?_
    refine ih h' (k + 1) _ (if y ∈ seen then seen else y :: seen) _ Q hS' (fun z => ?_) (fun b o hb e => (sb.2 b hb).trans (hk b o hb e)) (by split <;> omega) fun h2 k2 S2 a b => q h2 k2 S2 ?_ b
    · by_cases hy : y ∈ seen
      · rw [if_pos hy]
        simp only [Bool.or_eq_true, decide_eq_true_eq, hmem]
        exact ⟨fun z => z.elim id fun e => e ▸ hy, Or.inl⟩
      · rw [if_neg hy]
        simp only [Bool.or_eq_true, decide_eq_true_eq, hmem, List.mem_cons]
        exact Or.comm
    · have e : n + unlike seen (y :: ns2) = (if S y = true then n else n + 1) + unlike (if y ∈ seen then seen else y :: seen) ns2 := by
        by_cases hy : y ∈ seen
        · rw [if_pos ((hmem y).mpr hy), if_pos hy]
          show n + (if y ∈ seen then unlike seen ns2 else unlike (y :: seen) ns2 + 1) = _
          rw [if_pos hy]
        · rw [if_neg (fun z => hy ((hmem y).mp z)), if_neg hy]
          show n + (if y ∈ seen then unlike seen ns2 else unlike (y :: seen) ns2 + 1) = _
          rw [if_neg hy]
          omega
      rw [e]
      exact a
end
/-- len({e, ..}), all of them ints -/
def tLenSet (t : TA) : TE := fun σ H Q => t σ H fun vs H1 => ∃ ns : List Int, vs = ns.map V.int ∧ ns.length ≤ 30 ∧ Q (.int (unlike [] ns : Nat)) H1
theorem pe_lenSetI {es : List Expr} {t : TA} {p p2 pos : Pos} (hgl : Gl X "len") (hm : X.mg "len" = none) (hs : PEL X es t) (hl : es.length ≤ 30) (hcd : PySem.W.kdsCode X.K X.env.code = true) :
    PE X (.Call (.Name "len" p) [.Set es 0 p2] [] pos) (tLenSet t) := by
  refine ⟨fun pins s σ H Q I h => wpAny_Call_Name_kw (ld_blt I hgl hm PySem.boot_len ?_ (by decide) (by decide))⟩
  refine PyProof.Rows.callWith_builtin1 (Calls.spliced_cons ?_) (by rfl) (by rfl)
  rw [arm_eval_Set]
  refine wpAny_bind (wpAny_standAt ?_)
  refine wpAny_bind (PySem.W.kds_main I.kIn hcd fun b => ?_)
  rw [PySem.W.kds_star es hs.plain, List.map_map]
  refine PySem.W.kds_core (ts := (evalEach es X.env).map fun t => do let v ← t; standAt p2; pure v) (road0 es) ?_ ?_ ?_ fun led => ?_
  · refine List.findIdx?_eq_none_iff.mpr fun x hx => ?_
    obtain ⟨t, _, rfl⟩ := List.mem_map.mp hx
    rfl
  · rw [List.length_map, PySem.W.kds_len]
    exact hl
  · rw [List.map_map]
    try rfl
  · -- the set's object stands behind the items' evaluation
    have I1 : Inv X pins σ H { s with heap := s.heap.push { cls := .type "set", dict := none, data := .set #[] 0 (.fresh 0 0 led) } } := I.kept (t' := s.toks) fun b u e => Heap.get?_push_of_some _ e
    have hget : (s.heap.push { cls := .type "set", dict := none, data := .set #[] 0 (.fresh 0 0 led) }).get? s.heap.objs.size = some { cls := .type "set", dict := none, data := .set #[] 0 (.fresh 0 0 led) } := Heap.get?_push_size _ rfl
    have I2 := I1.pinned (fp := [s.heap.objs.size]) (fun b hb => by
      rw [List.mem_singleton.mp hb]
      exact I.fpOk (Nat.le_refl _) (I.hok.fresh (Nat.le_refl _))) (fun b hb => by
      rw [List.mem_singleton.mp hb]
      exact ⟨_, hget, fun v z => nomatch z⟩)
    refine PySem.W.kds_all p2 es _ _ (hs.run _ _ σ H (fun vs H1 => ∃ ns : List Int, vs = ns.map V.int ∧ ns.length ≤ 30 ∧ Q (.int (unlike [] ns : Nat)) H1) _ I2 h fun us s' vs H' I' rel hq => ?_)
    obtain ⟨ns, rfl, hl2, q⟩ := hq
    have hpin : s'.heap.get? s.heap.objs.size = some { cls := .type "set", dict := none, data := .set #[] 0 (.fresh 0 0 led) } :=
      (I'.pin _ (List.mem_append_right _ (List.mem_append_right _ (mem_pinsAt (List.mem_singleton.mpr rfl) hget)))).1
    have free : H' s.heap.objs.size = none := (I'.pin _ (List.mem_append_right _ (List.mem_append_right _ (mem_pinsAt (List.mem_singleton.mpr rfl) hget)))).2.1
    have I3 := I'.unpinned
    have hS0 : s'.heap.SetOf (intKind X.prog X.w) s.heap.objs.size (fun _ => false) 0 := (setObjOf_fresh (knd := intKind X.prog X.w) led).setOf hpin (by decide)
    obtain ⟨f0, f1, f2, f3, f4, f5⟩ := I.fpOk (H' := H') (Nat.le_refl s.heap.objs.size) free
    have last : ∀ (h' : Heap) (k' : Nat) (S' : Int → Bool), h'.SetOf (intKind X.prog X.w) s.heap.objs.size S' (0 + unlike [] ns) → (∀ b o, b ≠ s.heap.objs.size → s'.heap.get? b = some o → h'.get? b = some o) →
        wpAny (model X.prog X.w) X.A (spliced []) (fun vs s2 => wpAny (model X.prog X.w) X.A (call (.builtin "len") (.ref s.heap.objs.size :: vs)) (EP X pins σ Q) X.xe s2) X.xe { s' with heap := h', toks := k' } := fun h' k' S' hS hk => by
      refine Calls.spliced_nil ?_
      obtain ⟨o, el, ep, tb, get, exact', data, elems, mem, bound, fit, cnt⟩ := hS
      have fz : (el.size : Int) < 2 ^ 63 := by
        have : el.size < 4096 := bound
        omega
      refine call_len_set (s := { s' with heap := h', toks := k' }) get exact' data fit fz ⟨.int (unlike [] ns : Nat), H', I3.turned (fun b ob hb e => hk b ob hb e) f0 f1 f3 f4 f5, ⟨k' + 1, ?_⟩, q⟩
      rw [cnt, Nat.zero_add]
    refine fillI (s := s') (h₀ := s'.heap) (Vals.toInts rel) s'.heap s'.toks (fun _ => false) [] 0 _ hS0 (fun z => ⟨fun e => Bool.noConfusion e, fun e => absurd e List.not_mem_nil⟩) (fun _ _ _ e => e) (by omega) fun h' k' S' hS hk => ?_
    cases hu : (displayRoad 0 es == DisplayRoad.unsure) with
    | false => exact PySem.W.kds_fill_nil rfl (last h' k' S' hS hk)
    | true => exact PySem.W.kds_fill_unled rfl (unledI (s := { s' with heap := h', toks := k' }) hS fun h2 hS2 sb => last h2 k' S' hS2 fun b o hb e => sb b o hb (hk b o hb e))
end
end NA
namespace NA
open PySem PySem.Spec PyProof.Rows L2
theorem small_log {i : Int} (h : i.natAbs < 2 ^ 1900) : i.natAbs.log2 < 1920 := Nat.lt_of_lt_of_le (PySem.Flt.log2_lt_of (by decide) h) (by decide)
theorem okAll_ints : ∀ ns : List Int, (∀ n ∈ ns, n.natAbs < 2 ^ 1900) → okAll (ns.map PyData.int) = true
  | [], _ => rfl
  | n :: ns, h => by
    rw [List.map_cons]
    simp only [okAll, okD, okAll_ints ns fun m hm => h m (List.mem_cons_of_mem _ hm), Bool.and_true]
    exact decide_eq_true (small_log (h n List.mem_cons_self))
theorem costAll_ints : ∀ ns : List Int, costAll (ns.map PyData.int) = 1923 * ns.length
  | [] => rfl
  | n :: ns => by
    rw [List.map_cons]
    simp only [costAll, cost, costAll_ints ns, List.length_cons]
    omega
theorem Sh.ints {ns : List Int} (h : ∀ n ∈ ns, n.natAbs < 2 ^ 1900) (l : ns.length ≤ 1000) : Sh (.tuple (ns.map .int)) := by
  refine ⟨by simpa only [okD] using okAll_ints ns h, ?_, ?_⟩
  · simp only [NA.cost, costAll_ints]
    omega
  · simp only [PyData.depth, depth_ints]
    decide
theorem Sh.pair {d e : PyData} (a : Sh d) (b : Sh e) (ca : NA.cost d ≤ 4000000) (cb : NA.cost e ≤ 4000000) (da : d.depth ≤ 50) (db : e.depth ≤ 50) : Sh (.list [d, e]) := by
  refine ⟨?_, ?_, ?_⟩
  · simp only [okD, okAll, a.ok, b.ok, Bool.and_self]
  · simp only [NA.cost, costAll]
    omega
  · simp only [PyData.depth, PyData.depthAll]
    omega
theorem Sh.int {i : Int} (h : i.natAbs < 2 ^ 1900) : Sh (.int i) := ⟨by simp only [okD]; exact decide_eq_true (small_log h), by simp only [NA.cost]; decide, by simp only [PyData.depth]; decide⟩
theorem asc_len (N : Nat) : ∀ (l : List Nat) (lo : Nat), l.Pairwise (· < ·) → (∀ x ∈ l, lo ≤ x ∧ x < N) → l.length ≤ N - lo
  | [], _, _, _ => Nat.zero_le _
  | x :: l, lo, h, hb => by
    obtain ⟨h1, h2⟩ := List.pairwise_cons.mp h
    obtain ⟨b1, b2⟩ := hb x List.mem_cons_self
    have ih := asc_len N l (x + 1) h2 fun y hy => ⟨h1 y hy, (hb y (List.mem_cons_of_mem _ hy)).2⟩
    rw [List.length_cons]
    omega
theorem WOk.len {m : Nat} {ws : List (Nat × Nat)} (h : WOk m ws) (hm : m ≤ 6) : ws.length ≤ 36 := by
  have z := asc_len 36 (ws.map fun w => 6 * w.1 + w.2) 0 ?_ ?_
  · rw [List.length_map] at z
    omega
  · rw [List.pairwise_map]
    refine List.Pairwise.imp_of_mem (fun {a b} ha hb e => ?_) h.asc
    obtain ⟨a1, a2, _⟩ := h.low a ha
    obtain ⟨b1, b2, _⟩ := h.low b hb
    rcases e with e | ⟨e1, e2⟩ <;> omega
  · intro x hx
    obtain ⟨w, hw, rfl⟩ := List.mem_map.mp hx
    obtain ⟨b1, b2, _⟩ := h.low w hw
    omega
theorem okAll_wires : ∀ ws : List (Nat × Nat), (∀ w ∈ ws, w.1 < 1000 ∧ w.2 < 1000) → okAll (ws.map wD) = true
  | [], _ => rfl
  | w :: ws, h => by
    obtain ⟨a, b⟩ := h w List.mem_cons_self
    have s : ∀ n : Nat, n < 1000 → (n : Int).natAbs < 2 ^ 1900 := fun n hn => by
      rw [Int.natAbs_natCast]
      exact Nat.lt_trans hn (by decide)
    rw [List.map_cons]
    simp only [okAll, wD, okD, decide_eq_true (small_log (s _ a)), decide_eq_true (small_log (s _ b)), Bool.and_self, Bool.true_and]
    exact okAll_wires ws fun x hx => h x (List.mem_cons_of_mem _ hx)
theorem costAll_wires : ∀ ws : List (Nat × Nat), costAll (ws.map wD) = 3851 * ws.length
  | [] => rfl
  | w :: ws => by
    rw [List.map_cons]
    simp only [costAll, wD, cost, costAll_wires ws, List.length_cons]
    omega
theorem depth_wires : ∀ ws : List (Nat × Nat), PyData.depthAll (ws.map wD) ≤ 1
  | [] => by simp [PyData.depthAll]
  | w :: ws => by
    have := depth_wires ws
    rw [List.map_cons]
    simp only [PyData.depthAll, wD, PyData.depth]
    omega
theorem SizeOk.small {n : Int} (h : SizeOk n) : n.natAbs < 2 ^ 100 := by
  obtain ⟨m, rfl, _, h2, _⟩ := h
  rw [Int.natAbs_natCast]
  exact Nat.lt_of_le_of_lt h2 (by decide)
theorem Sh.mach {ss : List Int} {ws : List (Nat × Nat)} (h : MOk ss ws) : Sh (mD ss ws) := by
  have l1 := h.six
  have l2 := h.wires.len l1
  refine ⟨?_, ?_, ?_⟩
  · have a := okAll_ints ss fun n hn => Nat.lt_trans (h.size n hn).small (by decide)
    have b := okAll_wires ws fun w hw => by
      obtain ⟨x, y, _⟩ := h.wires.low w hw
      omega
    simp only [mD, sD, okD, okAll, a, b, Bool.and_self]
  · simp only [mD, sD, NA.cost, costAll, costAll_ints, costAll_wires]
    omega
  · have := depth_wires ws
    simp only [mD, sD, PyData.depth, PyData.depthAll, depth_ints]
    omega
theorem eqv_nil (ns : List Int) : PyData.eqv (.list (ns.map .int)) (.list []) = ns.isEmpty := by
  cases ns with
  | nil => rfl
  | cons n ns => rfl
/-- the primes of sizes, as numbers from 0 on -/
def dueN (ss : List Int) : List Nat := PRn.filter fun p => dv ss p
theorem dueP_eq (ss : List Int) : dueP ss = (dueN ss).map (fun n : Nat => (n : Int)) := by
  unfold dueP dueN
  rw [show PR = PRn.map (fun n : Nat => (n : Int)) by decide +kernel, List.filter_map]
  rfl
theorem dueN_mem {ss : List Int} {p : Nat} (h : p ∈ dueN ss) : p ∈ PRn := (List.mem_filter.mp h).1
theorem dueN_len (ss : List Int) : (dueN ss).length ≤ 25 := List.length_filter_le _ _
theorem dueP_len (ss : List Int) : (dueP ss).length ≤ 25 := List.length_filter_le _ _
theorem dueP_small {ss : List Int} : ∀ n ∈ dueP ss, n.natAbs < 2 ^ 1900 := fun n hn => by
  rw [dueP_eq] at hn
  obtain ⟨p, hp, rfl⟩ := List.mem_map.mp hn
  rw [Int.natAbs_natCast]
  exact Nat.lt_of_le_of_lt (PRn_le (dueN_mem hp)) (by decide)
theorem dueN_made {ss : List Int} {s : Nat} (h : (s : Int) ∈ ss) (hs : Smo s) : made (dueN ss) 1 s = s := by
  unfold dueN
  rw [made_filter, made_smo hs]
  intro p hp e
  refine val_no fun z => ?_
  have : dv ss (p : Int) = true := List.any_eq_true.mpr ⟨s, h, decide_eq_true (by
    show ((s % p : Nat) : Int) = 0
    rw [z]
    rfl)⟩
  rw [this] at e
  cases e
theorem made_pos {s : Nat} : ∀ (l : List Nat), (∀ p ∈ l, 0 < p) → 0 < made l 1 s
  | [], _ => Nat.one_pos
  | p :: l, h => by
    show 0 < made l (1 * p ^ val p s) s
    rw [made_acc]
    exact Nat.mul_pos (Nat.mul_pos Nat.one_pos (Nat.pow_pos (h p List.mem_cons_self))) (made_pos l fun q hq => h q (List.mem_cons_of_mem _ hq))
theorem made_app (l r : List Nat) (s : Nat) : made (l ++ r) 1 s = made l 1 s * made r 1 s := by
  have : made (l ++ r) 1 s = made r (made l 1 s) s := List.foldl_append
  rw [this, made_acc]
theorem made_take {l : List Nat} {s : Nat} (h : ∀ p ∈ l, 0 < p) (n : Nat) : made (l.take n) 1 s ≤ made l 1 s := by
  have e := made_app (l.take n) (l.drop n) s
  rw [List.take_append_drop] at e
  rw [e]
  exact Nat.le_mul_of_pos_right _ (made_pos _ fun p hp => h p (List.mem_of_mem_drop hp))
theorem made_next {l : List Nat} {s n p : Nat} (h : l[n]? = some p) : made (l.take (n + 1)) 1 s = made (l.take n) 1 s * p ^ val p s := by
  rw [List.take_add_one, h, made_app]
  show made (l.take n) 1 s * (1 * p ^ val p s) = _
  rw [Nat.one_mul]
def spDivided : Sp := fun vs H Q _ => ∃ (v : V) (ss : List Int) (ws : List (Nat × Nat)), vs = [v] ∧ Im H v (mD ss ws) ∧ MOk ss ws ∧ ∀ H', Same H H' → Q (.bl true) H'
def spLeast : Sp := fun vs H Q _ => ∃ (v : V) (ss : List Int) (ws : List (Nat × Nat)) (j i : Nat), vs = [v, .int j, .int i] ∧ Im H v (mD ss ws) ∧ MOk ss ws ∧ j < ss.length ∧ i < ss.length ∧ ∀ H', Same H H' → Q (.bl true) H'
def spLaw (K : PySem.W.Frag) : Sp := fun vs H Q _ => ∃ (a : Addr) (ns : List Int), vs = [.ref a] ∧ SqL K H a (ns.map V.int) ∧ ns.length ≤ 63 ∧ ∀ H', Q (.bl true) H'
theorem Same.k {H H' : Hp} {v : V} {d : PyData} (e : Same H H') (h : Im H v d) : Im H' v d := h.k (Tk.same e)
end NA
namespace NA
open PySem PySem.Spec PyProof.Rows L2
/-! ### data with lists in it; N: where lists may stand -/
mutual
inductive Dg (N : Addr → Prop) (H : Hp) : V → PyData → Prop
  | non : Dg N H .non .none
  | bl (b : Bool) : Dg N H (.bl b) (.bool b)
  | int (i : Int) : Dg N H (.int i) (.int i)
  | str (x : Str) : Dg N H (.str x) (.str x)
  | lst {a : Addr} {xs : List V} {ds : List PyData} : N a → H a = some (.lst xs) → DgAll N H xs ds → Dg N H (.ref a) (.list ds)
  | tup {a : Addr} {xs : List V} {ds : List PyData} : H a = some (.tup xs) → DgAll N H xs ds → Dg N H (.ref a) (.tuple ds)
inductive DgAll (N : Addr → Prop) (H : Hp) : List V → List PyData → Prop
  | nil : DgAll N H [] []
  | cons {v : V} {vs : List V} {d : PyData} {ds : List PyData} : Dg N H v d → DgAll N H vs ds → DgAll N H (v :: vs) (d :: ds)
end
/-- tuples stay, lists where they may stand, the empty dicts -/
structure Ks (N : Addr → Prop) (H H' : Hp) : Prop where
  tup : Tk H H'
  lst : ∀ b xs, N b → H b = some (.lst xs) → H' b = some (.lst xs)
  dic : ∀ b kvs, H b = some (.dK kvs) → H' b = some (.dK kvs)
theorem Ks.same {N : Addr → Prop} {H H' : Hp} (e : Same H H') : Ks N H H' := ⟨Tk.same e, fun b _ _ h => e b _ h, fun b _ h => e b _ h⟩
theorem Ks.kp {p q : Addr} {H H' : Hp} (e : Kp p q H H') (P : Pt H p q) : Ks (fun a => a ≠ p ∧ a ≠ q) H H' := by
  refine ⟨e.tk P, fun b xs n h => e b _ n.1 n.2 h, fun b kvs h => ?_⟩
  obtain ⟨ys, h1⟩ := P.lp
  obtain ⟨zs, h2⟩ := P.lq
  exact e b _ (ne_of h h1 (by intro k; cases k)) (ne_of h h2 (by intro k; cases k)) h
theorem Ks.refl (N : Addr → Prop) (H : Hp) : Ks N H H := ⟨Tk.refl H, fun _ _ _ h => h, fun _ _ h => h⟩
theorem Ks.trans {N : Addr → Prop} {H H1 H2 : Hp} (a : Ks N H H1) (b : Ks N H1 H2) : Ks N H H2 := ⟨a.tup.trans b.tup, fun c x n h => b.lst c x n (a.lst c x n h), fun c x h => b.dic c x (a.dic c x h)⟩
mutual
theorem Dg.keep {N N' : Addr → Prop} {H H' : Hp} (e : Ks N H H') (m : ∀ a, N a → N' a) : ∀ (d : PyData) (v : V), Dg N H v d → Dg N' H' v d
  | .none, _, h => by cases h; exact .non
  | .bool _, _, h => by cases h; exact .bl _
  | .int _, _, h => by cases h; exact .int _
  | .str _, _, h => by cases h; exact .str _
  | .tuple ds, _, h => by
    cases h with
    | tup a b => exact .tup (e.tup _ _ a) (DgAll.keep e m ds _ b)
  | .list ds, _, h => by
    cases h with
    | lst n a b => exact .lst (m _ n) (e.lst _ _ n a) (DgAll.keep e m ds _ b)
  | .dict _, _, h => by cases h
theorem DgAll.keep {N N' : Addr → Prop} {H H' : Hp} (e : Ks N H H') (m : ∀ a, N a → N' a) : ∀ (ds : List PyData) (vs : List V), DgAll N H vs ds → DgAll N' H' vs ds
  | [], _, h => by cases h; exact .nil
  | d :: ds, _, h => by
    cases h with
    | cons a b => exact .cons (Dg.keep e m d _ a) (DgAll.keep e m ds _ b)
end
mutual
theorem Dg.toDp {N : Addr → Prop} {K : PySem.W.Frag} {H : Hp} : ∀ (d : PyData) (v : V), Dg N H v d → Dp K H v d
  | .none, _, h => by cases h; exact .non
  | .bool _, _, h => by cases h; exact .bl _
  | .int _, _, h => by cases h; exact .int _
  | .str _, _, h => by cases h; exact .str _
  | .tuple ds, _, h => by
    cases h with
    | tup a b => exact .tup (SqT.of a) (DgAll.toDp ds _ b)
  | .list ds, _, h => by
    cases h with
    | lst n a b => exact .lst (SqL.of a) (DgAll.toDp ds _ b)
  | .dict _, _, h => by cases h
theorem DgAll.toDp {N : Addr → Prop} {K : PySem.W.Frag} {H : Hp} : ∀ (ds : List PyData) (vs : List V), DgAll N H vs ds → DpAll K H vs ds
  | [], _, h => by cases h; exact .nil
  | d :: ds, _, h => by
    cases h with
    | cons a b => exact .cons (Dg.toDp d _ a) (DgAll.toDp ds _ b)
end
mutual
theorem Im.toDg {N : Addr → Prop} {H : Hp} : ∀ (d : PyData) (v : V), Im H v d → Dg N H v d
  | .none, _, h => by cases h; exact .non
  | .bool _, _, h => by cases h; exact .bl _
  | .int _, _, h => by cases h; exact .int _
  | .str _, _, h => by cases h; exact .str _
  | .tuple ds, _, h => by
    cases h with
    | tup a b => exact .tup a (ImAll.toDg ds _ b)
  | .list _, _, h => by cases h
  | .dict _, _, h => by cases h
theorem ImAll.toDg {N : Addr → Prop} {H : Hp} : ∀ (ds : List PyData) (vs : List V), ImAll H vs ds → DgAll N H vs ds
  | [], _, h => by cases h; exact .nil
  | d :: ds, _, h => by
    cases h with
    | cons a b => exact .cons (Im.toDg d _ a) (ImAll.toDg ds _ b)
end
theorem Im.dg {N : Addr → Prop} {H : Hp} {v : V} {d : PyData} (h : Im H v d) : Dg N H v d := Im.toDg d v h
/-- such data, or an empty dict -/
def Dv (N : Addr → Prop) (H : Hp) (v : V) (d : PyData) : Prop := Dg N H v d ∨ ∃ a, v = .ref a ∧ H a = some (.dK []) ∧ d = .dict []
theorem Dg.k {N : Addr → Prop} {H H' : Hp} {v : V} {d : PyData} (h : Dg N H v d) (e : Ks N H H') : Dg N H' v d := Dg.keep e (fun _ z => z) d v h
theorem DgAll.k {N : Addr → Prop} {H H' : Hp} {v : List V} {d : List PyData} (h : DgAll N H v d) (e : Ks N H H') : DgAll N H' v d := DgAll.keep e (fun _ z => z) d v h
theorem Dg.any {N : Addr → Prop} {H : Hp} {v : V} {d : PyData} (h : Dg N H v d) : Dg (fun _ => True) H v d := Dg.keep (Ks.refl N H) (fun _ _ => trivial) d v h
theorem Dv.k {N : Addr → Prop} {H H' : Hp} {v : V} {d : PyData} (h : Dv N H v d) (e : Ks N H H') : Dv N H' v d := by
  rcases h with h | ⟨a, h1, h2, h3⟩
  · exact .inl (h.k e)
  · exact .inr ⟨a, h1, e.dic _ _ h2, h3⟩
theorem Dv.any {N : Addr → Prop} {H : Hp} {v : V} {d : PyData} (h : Dv N H v d) : Dv (fun _ => True) H v d := by
  rcases h with h | h
  · exact .inl h.any
  · exact .inr h
theorem DgAll.length {N : Addr → Prop} {H : Hp} : ∀ {vs : List V} {ds : List PyData}, DgAll N H vs ds → vs.length = ds.length
  | _, _, .nil => rfl
  | _, _, .cons _ b => by rw [List.length_cons, List.length_cons, DgAll.length b]
theorem DgAll.get {N : Addr → Prop} {H : Hp} : ∀ {vs : List V} {ds : List PyData} {i : Nat} {v : V}, DgAll N H vs ds → vs[i]? = some v → ∃ d, ds[i]? = some d ∧ Dg N H v d
  | _, _, _, _, .nil, e => by simp at e
  | _, _, 0, _, .cons a _, e => by
    simp at e
    subst e
    exact ⟨_, rfl, a⟩
  | _, _, i + 1, v, .cons _ b, e => by
    obtain ⟨d, h1, h2⟩ := DgAll.get (i := i) (v := v) b (by simpa using e)
    exact ⟨d, by simpa using h1, h2⟩
theorem DgAll.append {N : Addr → Prop} {H : Hp} : ∀ {vs ws : List V} {ds es : List PyData}, DgAll N H vs ds → DgAll N H ws es → DgAll N H (vs ++ ws) (ds ++ es)
  | _, _, _, _, .nil, h => h
  | _, _, _, _, .cons a b, h => .cons a (DgAll.append b h)
theorem DgAll.take {N : Addr → Prop} {H : Hp} : ∀ (n : Nat) {vs : List V} {ds : List PyData}, DgAll N H vs ds → DgAll N H (vs.take n) (ds.take n)
  | 0, _, _, _ => .nil
  | _ + 1, _, _, .nil => .nil
  | n + 1, _, _, .cons a b => .cons a (DgAll.take n b)
theorem DgAll.drop {N : Addr → Prop} {H : Hp} : ∀ (n : Nat) {vs : List V} {ds : List PyData}, DgAll N H vs ds → DgAll N H (vs.drop n) (ds.drop n)
  | 0, _, _, h => h
  | _ + 1, _, _, .nil => .nil
  | n + 1, _, _, .cons a b => DgAll.drop n b
/-! ### types -/
def tyD : PyData → String
  | .none => "NoneType"
  | .bool _ => "bool"
  | .int _ => "int"
  | .str _ => "str"
  | .list _ => "list"
  | .tuple _ => "tuple"
  | .dict _ => "dict"
theorem Dv.ty {N : Addr → Prop} {K : PySem.W.Frag} {H : Hp} {v : V} {d : PyData} (h : Dv N H v d) : TyX K H v (.type (tyD d)) := by
  rcases h with h | ⟨a, rfl, h2, rfl⟩
  · cases h with
    | non => exact .base .non
    | bl b => exact .base (.bl b)
    | int i => exact .base (.int i)
    | str x => exact .base (.str x)
    | lst _ a _ => exact .base (.lst a)
    | tup a _ => exact .base (.tup a)
  · exact .base (.dK h2)
def isT : PyData → Bool
  | .tuple _ => true
  | _ => false
def isIB : PyData → Bool
  | .int _ => true
  | .bool _ => true
  | _ => false
def isB : PyData → Bool
  | .bool _ => true
  | _ => false
def isI : PyData → Bool
  | .int _ => true
  | _ => false
theorem kit_tup (K : PySem.W.Frag) (d : PyData) : PySem.W.kitOne K (.type (tyD d)) (.type "tuple") = some (isT d) := by
  cases d with
  | none => exact kit_ty (show kitB "NoneType" "tuple" = some false by decide +kernel)
  | bool _ => exact kit_ty (show kitB "bool" "tuple" = some false by decide +kernel)
  | int _ => exact kit_ty (show kitB "int" "tuple" = some false by decide +kernel)
  | str _ => exact kit_ty (show kitB "str" "tuple" = some false by decide +kernel)
  | list _ => exact kit_ty (show kitB "list" "tuple" = some false by decide +kernel)
  | tuple _ => exact kit_ty (show kitB "tuple" "tuple" = some true by decide +kernel)
  | dict _ => exact kit_ty (show kitB "dict" "tuple" = some false by decide +kernel)
theorem kit_int (K : PySem.W.Frag) (d : PyData) : PySem.W.kitOne K (.type (tyD d)) (.type "int") = some (isIB d) := by
  cases d with
  | none => exact kit_ty (show kitB "NoneType" "int" = some false by decide +kernel)
  | bool _ => exact kit_ty (show kitB "bool" "int" = some true by decide +kernel)
  | int _ => exact kit_ty (show kitB "int" "int" = some true by decide +kernel)
  | str _ => exact kit_ty (show kitB "str" "int" = some false by decide +kernel)
  | list _ => exact kit_ty (show kitB "list" "int" = some false by decide +kernel)
  | tuple _ => exact kit_ty (show kitB "tuple" "int" = some false by decide +kernel)
  | dict _ => exact kit_ty (show kitB "dict" "int" = some false by decide +kernel)
theorem kit_bool (K : PySem.W.Frag) (d : PyData) : PySem.W.kitOne K (.type (tyD d)) (.type "bool") = some (isB d) := by
  cases d with
  | none => exact kit_ty (show kitB "NoneType" "bool" = some false by decide +kernel)
  | bool _ => exact kit_ty (show kitB "bool" "bool" = some true by decide +kernel)
  | int _ => exact kit_ty (show kitB "int" "bool" = some false by decide +kernel)
  | str _ => exact kit_ty (show kitB "str" "bool" = some false by decide +kernel)
  | list _ => exact kit_ty (show kitB "list" "bool" = some false by decide +kernel)
  | tuple _ => exact kit_ty (show kitB "tuple" "bool" = some false by decide +kernel)
  | dict _ => exact kit_ty (show kitB "dict" "bool" = some false by decide +kernel)
theorem Dv.tuple {N : Addr → Prop} {H : Hp} {v : V} {d : PyData} (h : Dv N H v d) (e : isT d = true) : ∃ a xs ds, v = .ref a ∧ d = .tuple ds ∧ H a = some (.tup xs) ∧ DgAll N H xs ds := by
  rcases h with h | ⟨a, rfl, h2, rfl⟩
  · cases h with
    | tup a b => exact ⟨_, _, _, rfl, rfl, a, b⟩
    | non => cases e
    | bl _ => cases e
    | int _ => cases e
    | str _ => cases e
    | lst _ _ _ => cases e
  · cases e
theorem Dv.int {N : Addr → Prop} {H : Hp} {v : V} {d : PyData} (h : Dv N H v d) (e : isI d = true) : ∃ i, v = .int i ∧ d = .int i := by
  rcases h with h | ⟨a, rfl, h2, rfl⟩
  · cases h with
    | int i => exact ⟨i, rfl, rfl⟩
    | non => cases e
    | bl _ => cases e
    | tup _ _ => cases e
    | str _ => cases e
    | lst _ _ _ => cases e
  · cases e
/-! ### repr -/
structure ShV (d : PyData) : Prop where
  ok : Sh d ∨ d = .dict []
def rReprV (N : Addr → Prop) : List V → Hp → VK → Prop := fun xs H Q => ∃ v d, xs = [v] ∧ Dv N H v d ∧ ShV d ∧ Q (.str d.shown) H
theorem call_reprV {X : Cx} (N : Addr → Prop) {k : Nat} (hg : Bare X.A) (hr : Room k X.A) : CallR X (.builtin "repr") (rReprV N) := by
  intro pins s σ H xs us Q I r h
  obtain ⟨v, d, rfl, hd, sh, q⟩ := h
  rcases hd with hd | ⟨a, rfl, h2, rfl⟩
  · rcases sh.ok with s1 | e
    · exact call_reprD hg hr pins s σ H [v] us Q I r ⟨v, d, rfl, Dg.toDp d v hd, s1, q⟩
    · subst e
      cases hd
  · obtain ⟨u, rfl, ru⟩ := r.one
    cases (show u = Value.ref a from ru)
    have ok : ObjOk X.prog X.w H s.heap a (.dK []) := I.hok a _ h2
    obtain ⟨_, ns, vs, kv, o, es, ep, g1, g2, g3, g4, g5⟩ := ok
    have hu := hr.un
    have vs0 : vs = [] := by cases kv; rfl
    subst vs0
    have es0 : es.toList = [] := by
      have z := g5.1
      cases h : es.toList with
      | nil => rfl
      | cons x l =>
        rw [h] at z
        cases z
    have rd : Reads s.heap (.ref a) (.dict []) (a :: [] ++ []) := .dict g1 g2.1 g3 (by rw [es0]; exact .nil) (by rw [es0]; exact .nil)
    have nsm : sysModules ≠ a := fun z => by
      rw [z, beq_self_eq_true] at ns
      cases ns
    refine repr_of_reads' rd (by decide) (fun _ => by simpa using nsm) hg (by show X.A.units + (1 + 1) < cLine; omega) (fun _ _ z => z) (fun h' u tk hk => ⟨.str _, H, I.kept (t' := tk) hk, ⟨_, rfl⟩, q⟩) (by decide +kernel)
end NA
namespace NA
open PySem PySem.Spec PyProof.Rows L2
/-! ### what is wrong with a machine, over data -/
def strp (p n : Nat) : Nat := n / p ^ val p n
theorem strp_yes {p n : Nat} (hp : 2 ≤ p) (hn : 0 < n) (h : n % p = 0) : strp p n = strp p (n / p) := by
  unfold strp
  rw [val_yes hp hn h, Nat.pow_succ, Nat.mul_comm, Nat.div_div_eq_div_mul]
theorem strp_no {p n : Nat} (h : n % p ≠ 0) : strp p n = n := by
  unfold strp
  rw [val_no h, Nat.pow_zero, Nat.div_one]
theorem strp_pos {p n : Nat} (hp : 2 ≤ p) (hn : 0 < n) : 0 < strp p n := by
  have d := (pow_dvd_val hp (val p n) n hn).mpr (Nat.le_refl _)
  exact Nat.div_pos (Nat.le_of_dvd hn d) (Nat.pow_pos (by omega))
theorem strp_le (p n : Nat) : strp p n ≤ n := Nat.div_le_self _ _
def strA (l : List Nat) (n : Nat) : Nat := l.foldl (fun r p => strp p r) n
theorem strA_next {l : List Nat} {n i p : Nat} (h : l[i]? = some p) : strA (l.take (i + 1)) n = strp p (strA (l.take i) n) := by
  unfold strA
  rw [List.take_add_one, h, List.foldl_append]
  rfl
def isSz : PyData → Bool
  | .int n => decide (2 ≤ n) && decide (n ≤ 10 ^ 30) && (strA PRn n.toNat == 1)
  | _ => false
def isBl (m : Nat) : PyData → Bool
  | .int n => decide (0 ≤ n) && decide (n < (m : Int))
  | _ => false
def isWr (m : Nat) : PyData → Bool
  | .tuple [.int a, .int b] => isBl m (.int a) && isBl m (.int b) && !decide (a = b)
  | _ => false
def leP : PyData → PyData → Bool
  | .tuple [.int a, .int b], .tuple [.int c, .int d] => if a = c then (if b = d then true else decide (b ≤ d)) else decide (a ≤ c)
  | _, _ => false
def bd (f : Nat → Bool) (n : Nat) : List Nat := (List.range n).filter f
theorem bd_zero (f : Nat → Bool) : bd f 0 = [] := rfl
theorem bd_succ (f : Nat → Bool) (n : Nat) : bd f (n + 1) = bd f n ++ (if f n = true then [n] else []) := by
  unfold bd
  rw [List.range_succ, List.filter_append, List.filter_cons, List.filter_nil]
theorem bd_none {f : Nat → Bool} {n : Nat} (h : bd f n = []) : ∀ i, i < n → f i = false := fun i hi => by
  cases e : f i with
  | false => rfl
  | true =>
    have : i ∈ bd f n := List.mem_filter.mpr ⟨List.mem_range.mpr hi, e⟩
    rw [h] at this
    cases this
theorem bd_first {f : Nat → Bool} {i : Nat} (h : bd f i = []) (e : f i = true) : ∀ n, i < n → ∃ l, bd f n = i :: l := by
  intro n hn
  induction n with
  | zero => omega
  | succ n ih =>
    rw [bd_succ]
    by_cases z : i = n
    · subst z
      rw [h, if_pos e]
      exact ⟨[], rfl⟩
    · obtain ⟨l, hl⟩ := ih (by omega)
      rw [hl]
      exact ⟨_, rfl⟩
theorem bd_lt {f : Nat → Bool} {n i : Nat} (h : i ∈ bd f n) : i < n := List.mem_range.mp (List.mem_filter.mp h).1
theorem bd_len (f : Nat → Bool) (n : Nat) : (bd f n).length ≤ n := by
  have := List.length_filter_le f (List.range n)
  rwa [List.length_range] at this
def szBad (S : List PyData) (i : Nat) : Bool := !isSz (S.getD i .none)
def wrBad (m : Nat) (W : List PyData) (i : Nat) : Bool := !isWr m (W.getD i .none)
def orBad (W : List PyData) (k : Nat) : Bool := leP (W.getD (k + 1) .none) (W.getD k .none)
def eT (x : Str) (i : Nat) : PyData := .tuple [.str x, .int i]
def merr3 (W : List PyData) : PyData := match bd (orBad W) (W.length - 1) with
  | k :: _ => eT "order" (k + 1)
  | [] => .none
def merrW (m : Nat) (W : List PyData) : PyData := match bd (wrBad m W) W.length with
  | i :: _ => eT "wire" i
  | [] => merr3 W
def merr2 (S W : List PyData) : PyData := match bd (szBad S) S.length with
  | i :: _ => eT "size" i
  | [] => merrW S.length W
def formD : PyData → Option (List PyData × List PyData)
  | .tuple [.tuple S, .tuple W] => if 1 ≤ S.length ∧ S.length ≤ 6 then some (S, W) else none
  | _ => none
def merr (d : PyData) : PyData := match formD d with
  | some (S, W) => merr2 S W
  | none => .str "form"
theorem formD_some {d : PyData} {S W : List PyData} (h : formD d = some (S, W)) : d = .tuple [.tuple S, .tuple W] ∧ 1 ≤ S.length ∧ S.length ≤ 6 := by
  unfold formD at h
  split at h
  · split at h
    · rename_i S' W' z
      cases h
      exact ⟨rfl, z⟩
    · cases h
  · cases h
theorem get_getD {l : List PyData} {i : Nat} {d : PyData} (h : l[i]? = some d) : l.getD i .none = d := by
  rw [List.getD_eq_getElem?_getD, h]
  rfl
theorem merr_form {d : PyData} (h : formD d = none) : merr d = .str "form" := by unfold merr; rw [h]
theorem merr_some {d : PyData} {S W : List PyData} (h : formD d = some (S, W)) : merr d = merr2 S W := by unfold merr; rw [h]
theorem merr2_size {S W : List PyData} {i : Nat} {l : List Nat} (h : bd (szBad S) S.length = i :: l) : merr2 S W = eT "size" i := by unfold merr2; rw [h]
theorem merr2_ok {S W : List PyData} (h : bd (szBad S) S.length = []) : merr2 S W = merrW S.length W := by unfold merr2; rw [h]
theorem merrW_wire {m : Nat} {W : List PyData} {i : Nat} {l : List Nat} (h : bd (wrBad m W) W.length = i :: l) : merrW m W = eT "wire" i := by unfold merrW; rw [h]
theorem merrW_ok {m : Nat} {W : List PyData} (h : bd (wrBad m W) W.length = []) : merrW m W = merr3 W := by unfold merrW; rw [h]
theorem merr3_ord {W : List PyData} {k : Nat} {l : List Nat} (h : bd (orBad W) (W.length - 1) = k :: l) : merr3 W = eT "order" (k + 1) := by unfold merr3; rw [h]
theorem merr3_ok {W : List PyData} (h : bd (orBad W) (W.length - 1) = []) : merr3 W = .none := by unfold merr3; rw [h]
theorem bd_all {f : PyData → Bool} {l : List PyData} (h : bd (fun i => !f (l.getD i .none)) l.length = []) : ∀ x ∈ l, f x = true := fun x hx => by
  obtain ⟨i, hi, rfl⟩ := List.getElem_of_mem hx
  have z := bd_none h i hi
  rw [get_getD (List.getElem?_eq_getElem hi)] at z
  simpa using z
/-- all but the order -/
structure Almost (d : PyData) (S W : List PyData) : Prop where
  eq : d = .tuple [.tuple S, .tuple W]
  one : 1 ≤ S.length
  six : S.length ≤ 6
  sz : ∀ x ∈ S, isSz x = true
  wr : ∀ x ∈ W, isWr S.length x = true
theorem isWr_shape {m : Nat} {d : PyData} (h : isWr m d = true) : ∃ a b : Nat, d = .tuple [.int a, .int b] ∧ a < m ∧ b < m := by
  unfold isWr at h
  split at h
  · rename_i a b
    simp only [isBl, Bool.and_eq_true, decide_eq_true_eq] at h
    exact ⟨a.toNat, b.toNat, by rw [Int.toNat_of_nonneg h.1.1.1, Int.toNat_of_nonneg h.1.2.1], by omega, by omega⟩
  · cases h
def wn (d : PyData) : Nat := match d with
  | .tuple [.int a, .int b] => 6 * a.toNat + b.toNat
  | _ => 0
theorem wn_lt {d e : PyData} (hd : isWr 6 d = true) (he : isWr 6 e = true) (h : leP e d = false) : wn d < wn e := by
  obtain ⟨a, b, rfl, a1, b1⟩ := isWr_shape hd
  obtain ⟨c, f, rfl, c1, f1⟩ := isWr_shape he
  simp only [leP] at h
  simp only [wn, Int.toNat_natCast]
  split at h
  · split at h
    · cases h
    · have := of_decide_eq_false h
      omega
  · have := of_decide_eq_false h
    omega
theorem isWr_mono {m : Nat} (hm : m ≤ 6) {d : PyData} (h : isWr m d = true) : isWr 6 d = true := by
  unfold isWr at h ⊢
  split at h
  · simp only [isBl, Bool.and_eq_true, decide_eq_true_eq] at h ⊢
    exact ⟨⟨⟨h.1.1.1, by omega⟩, ⟨h.1.2.1, by omega⟩⟩, h.2⟩
  · cases h
theorem asc_of {W : List PyData} (h6 : ∀ x ∈ W, isWr 6 x = true) (ho : ∀ k, k < W.length - 1 → orBad W k = false) : W.length ≤ 36 := by
  have step : ∀ n, n < W.length → n ≤ wn (W.getD n .none) := by
    intro n
    induction n with
    | zero => intro _; exact Nat.zero_le _
    | succ n ih =>
      intro hn
      have a := ih (by omega)
      have m1 := get_getD (List.getElem?_eq_getElem (show n < W.length by omega))
      have m2 := get_getD (List.getElem?_eq_getElem hn)
      have z := ho n (by omega)
      unfold orBad at z
      rw [m1] at a
      rw [m1, m2] at z
      rw [m2]
      have := wn_lt (h6 _ (List.getElem_mem (by omega))) (h6 _ (List.getElem_mem hn)) z
      omega
  by_cases e : W.length = 0
  · omega
  · have hn : W.length - 1 < W.length := by omega
    have s := step _ hn
    rw [get_getD (List.getElem?_eq_getElem hn)] at s
    obtain ⟨a, b, z, a1, b1⟩ := isWr_shape (h6 _ (List.getElem_mem hn))
    rw [z] at s
    simp only [wn, Int.toNat_natCast] at s
    omega
theorem merr_almost {d : PyData} (h : merr d = .none ∨ ∃ k, merr d = eT "order" k) : ∃ S W, Almost d S W ∧ (merr d = .none → W.length ≤ 36) := by
  cases hf : formD d with
  | none =>
    rw [merr_form hf] at h
    rcases h with h | ⟨k, h⟩ <;> cases h
  | some SW =>
    obtain ⟨S, W⟩ := SW
    obtain ⟨e, o, x⟩ := formD_some hf
    rw [merr_some hf] at h ⊢
    cases hs : bd (szBad S) S.length with
    | cons i l =>
      rw [merr2_size hs] at h
      rcases h with h | ⟨k, h⟩
      · cases h
      · exact absurd (by injection h with h; injection h with h _; injection h : ("size" : Str) = "order") (by decide +kernel)
    | nil =>
      rw [merr2_ok hs] at h ⊢
      cases hw : bd (wrBad S.length W) W.length with
      | cons i l =>
        rw [merrW_wire hw] at h
        rcases h with h | ⟨k, h⟩
        · cases h
        · exact absurd (by injection h with h; injection h with h _; injection h : ("wire" : Str) = "order") (by decide +kernel)
      | nil =>
        rw [merrW_ok hw]
        have wr : ∀ y ∈ W, isWr S.length y = true := bd_all hw
        refine ⟨S, W, ⟨e, o, x, bd_all hs, wr⟩, fun hn => ?_⟩
        cases ho : bd (orBad W) (W.length - 1) with
        | cons k l =>
          rw [merr3_ord ho] at hn
          cases hn
        | nil => exact asc_of (fun y hy => isWr_mono x (wr y hy)) (bd_none ho)
/-! ### how great such data is -/
def okG (c dp : Nat) (d : PyData) : Bool := okD d && decide (cost d ≤ c) && decide (d.depth ≤ dp)
theorem okG_iff {c dp : Nat} {d : PyData} : okG c dp d = true ↔ okD d = true ∧ cost d ≤ c ∧ d.depth ≤ dp := by
  unfold okG
  simp only [Bool.and_eq_true, decide_eq_true_eq, and_assoc]
theorem okG_mono {c dp c' dp' : Nat} {d : PyData} (h : okG c dp d = true) (a : c ≤ c') (b : dp ≤ dp') : okG c' dp' d = true := by
  rw [okG_iff] at h ⊢
  exact ⟨h.1, by omega, by omega⟩
theorem okG_all {c dp : Nat} : ∀ {l : List PyData}, (∀ x ∈ l, okG c dp x = true) → okAll l = true ∧ costAll l ≤ (c + 2) * l.length ∧ PyData.depthAll l ≤ dp
  | [], _ => ⟨rfl, Nat.le_refl _, Nat.zero_le _⟩
  | x :: l, h => by
    obtain ⟨a, b, e⟩ := okG_all fun y hy => h y (List.mem_cons_of_mem _ hy)
    obtain ⟨a1, b1, e1⟩ := okG_iff.mp (h x List.mem_cons_self)
    refine ⟨by simp only [okAll, a, a1, Bool.and_self], ?_, ?_⟩
    · simp only [costAll, List.length_cons, Nat.mul_succ]
      omega
    · simp only [PyData.depthAll]
      omega
theorem okG_tup {c dp c' dp' : Nat} {l : List PyData} (h : ∀ x ∈ l, okG c dp x = true) (a : (c + 2) * l.length + 3 ≤ c') (b : dp + 1 ≤ dp') : okG c' dp' (.tuple l) = true := by
  obtain ⟨h1, h2, h3⟩ := okG_all h
  refine okG_iff.mpr ⟨by simpa only [okD] using h1, ?_, ?_⟩
  · simp only [cost]
    omega
  · simp only [PyData.depth]
    omega
theorem okG_lst {c dp c' dp' : Nat} {l : List PyData} (h : ∀ x ∈ l, okG c dp x = true) (a : (c + 2) * l.length + 3 ≤ c') (b : dp + 1 ≤ dp') : okG c' dp' (.list l) = true := by
  obtain ⟨h1, h2, h3⟩ := okG_all h
  refine okG_iff.mpr ⟨by simpa only [okD] using h1, ?_, ?_⟩
  · simp only [cost]
    omega
  · simp only [PyData.depth]
    omega
theorem okG_sh {c dp : Nat} {d : PyData} (h : okG c dp d = true) (a : c ≤ 16000000) (b : dp ≤ 60) : ShV d := by
  obtain ⟨h1, h2, h3⟩ := okG_iff.mp h
  exact ⟨.inl ⟨h1, by omega, by omega⟩⟩
/-- things in the place of a size or a wire -/
def okI (d : PyData) : Bool := okG 10000 3 d
theorem isSz_ok {d : PyData} (h : isSz d = true) : okI d = true := by
  unfold isSz at h
  split at h
  · rename_i n
    simp only [Bool.and_eq_true, decide_eq_true_eq] at h
    refine okG_iff.mpr ⟨?_, by simp only [cost]; decide, by simp only [PyData.depth]; decide⟩
    simp only [okD]
    refine decide_eq_true (small_log ?_)
    have a := h.1.1
    have b := h.1.2
    have : n.natAbs ≤ 10 ^ 30 := by omega
    exact Nat.lt_of_le_of_lt this (by decide)
  · cases h
theorem isWr_ok {m : Nat} (hm : m ≤ 6) {d : PyData} (h : isWr m d = true) : okI d = true := by
  obtain ⟨a, b, rfl, a1, b1⟩ := isWr_shape h
  have s : ∀ k : Nat, k < 6 → okG 2000 1 (.int (k : Int)) = true := fun k hk => by
    refine okG_iff.mpr ⟨?_, by simp only [cost]; decide, by simp only [PyData.depth]; decide⟩
    simp only [okD]
    refine decide_eq_true (small_log ?_)
    rw [Int.natAbs_natCast]
    exact Nat.lt_trans hk (by decide)
  refine okG_tup (c := 2000) (dp := 1) (fun x hx => ?_) (by show (2000 + 2) * 2 + 3 ≤ 10000; decide) (by decide)
  rcases List.mem_cons.mp hx with e | hx
  · rw [e]
    exact s a (by omega)
  · rw [List.mem_singleton.mp hx]
    exact s b (by omega)
theorem ShV.len {l : List PyData} (h : ShV (.tuple l)) : 2 * l.length ≤ 16000000 := by
  rcases h.ok with h | h
  · have z := h.cost
    simp only [cost] at z
    have : ∀ l : List PyData, 2 * l.length ≤ costAll l := by
      intro l
      induction l with
      | nil => exact Nat.le_refl _
      | cons x l ih =>
        simp only [costAll, List.length_cons]
        omega
    have := this l
    omega
  · cases h
theorem ShV.sub {l : List PyData} (h : ShV (.tuple l)) {x : PyData} (hx : x ∈ l) : ShV x := by
  rcases h.ok with h | h
  · have z1 := h.ok
    have z2 := h.cost
    have z3 := h.depth
    simp only [okD] at z1
    simp only [cost] at z2
    simp only [PyData.depth] at z3
    have : ∀ l : List PyData, okAll l = true → x ∈ l → okD x = true ∧ cost x ≤ costAll l ∧ x.depth ≤ PyData.depthAll l := by
      intro l
      induction l with
      | nil => intro _ m; cases m
      | cons y l ih =>
        intro o m
        simp only [okAll, Bool.and_eq_true] at o
        simp only [costAll, PyData.depthAll]
        rcases List.mem_cons.mp m with e | m
        · subst e
          exact ⟨o.1, by omega, by omega⟩
        · obtain ⟨a, b, c⟩ := ih o.2 m
          exact ⟨a, by omega, by omega⟩
    obtain ⟨a, b, c⟩ := this l z1 hx
    exact ⟨.inl ⟨a, by omega, by omega⟩⟩
  · cases h
theorem pi_enumTK {X : Cx} (K : PySem.W.Frag) (hK : X.K = K) {e : Expr} {ta : TA} {p pos tpos : Pos} {elts : List Expr} {kk : Nat} (hg : Gl X "enumerate") (hm : X.mg "enumerate" = none) (ha : PA X [e] ta) (hs : starEach [e] X.env = [(false, eval e X.env)] := by rfl) :
    PI X (.Tuple elts kk tpos) (.Call (.Name "enumerate" p) [e] [] pos) (iEnumT K ta) := hK ▸ pi_enumT hg hm ha hs
theorem op_leTK {X : Cx} (K : PySem.W.Frag) (hK : X.K = K) (hu : X.A.units < cLine) : OpR X (compareOp CmpOp.LtE) (rLeT K) := hK ▸ op_leT hu
theorem pg_tupK {X : Cx} (K : PySem.W.Frag) (hK : X.K = K) {pos : Pos} {es : List Expr} {k : Nat} {t : TGs} {n : Nat} (hc : X.calm = true) (h : PGs X es t) (h1 : (assignEach es X.env).length = n := by rfl) (h2 : List.findIdx? (fun x => x.fst) (assignEach es X.env) = none := by rfl) :
    PG X (.Tuple es k pos) (gTup K n t) := hK ▸ pg_tup hc h h1 h2
theorem keepN {H : Hp} {a c : Addr} {o o' : HO} (h : H a = some o) (n : H c = none) : (upd H c o') a = some o := by
  rw [upd_ne (ne_of_none h n)]
  exact h
/-! ### promises -/
theorem room_lt {k : Nat} {A : Around} (hr : Room k A) : A.units < cLine := by
  have := hr.units
  omega
abbrev An : Addr → Prop := fun _ => True
def Np (p q : Addr) : Addr → Prop := fun a => a ≠ p ∧ a ≠ q
def spB (f : PyData → Bool) : Sp := fun vs H Q _ => ∃ (v : V) (d : PyData), vs = [v] ∧ Dv An H v d ∧ ShV d ∧ ∀ H', Same H H' → Q (.bl (f d)) H'
def isInt0 : PyData → Bool
  | .int _ => true
  | _ => false
def isPr : PyData → Bool
  | .tuple [_, _] => true
  | _ => false
def spBelow : Sp := fun vs H Q _ => ∃ (v : V) (d : PyData) (m : Nat), vs = [v, .int m] ∧ Dv An H v d ∧ ∀ H', Same H H' → Q (.bl (isBl m d)) H'
def spWireB : Sp := fun vs H Q _ => ∃ (v : V) (d : PyData) (m : Nat), vs = [v, .int m] ∧ Dv An H v d ∧ ShV d ∧ ∀ H', Same H H' → Q (.bl (isWr m d)) H'
def spMerr : Sp := fun vs H Q _ => ∃ (v : V) (d : PyData), vs = [v] ∧ Dv An H v d ∧ ShV d ∧ ∀ (u : V) (H' : Hp), Im H' u (merr d) → Same H H' → Q u H'
def spOddS : Sp := fun vs H Q _ => ∃ (p q : Addr), vs = [.ref p] ∧ Pt H p q ∧ ∀ (v : V) (d : PyData) (H' : Hp), Dg (Np p q) H' v d → okI d = true → Pt H' p q → Kp p q H H' → Q v H'
def spOddW : Sp := fun vs H Q _ => ∃ (p q : Addr) (m : Nat), vs = [.ref p, .int m] ∧ m ≤ 6 ∧ Pt H p q ∧ ∀ (v : V) (d : PyData) (H' : Hp), Dg (Np p q) H' v d → okI d = true → Pt H' p q → Kp p q H H' → Q v H'
def loB : PyData → Bool
  | .tuple [.tuple _, .tuple W] => decide (W.length ≤ 100)
  | _ => true
theorem lo_ok {S W : List PyData} (h : loB (.tuple [.tuple S, .tuple W]) = true) : W.length ≤ 100 := of_decide_eq_true h
theorem lo_no {S : List PyData} (h : ∀ x ∈ S, isT x = false) : loB (.tuple S) = true := by
  unfold loB
  split
  · rename_i e
    injection e with e
    have := h _ (e ▸ List.mem_cons_self)
    cases this
  · rfl
theorem sz_isT {d : PyData} (h : isSz d = true) : isT d = false := by cases d <;> first | rfl | cases h
def Fit (d : PyData) : Prop := ShV d ∧ loB d = true
def spSpoilt : Sp := fun vs H Q _ => ∃ (p q : Addr) (v : V) (d : PyData) (S W : List PyData), vs = [.ref p, v] ∧ Pt H p q ∧ Dg (Np p q) H v d ∧ Almost d S W ∧ W.length ≤ 36 ∧
  ∀ (v : V) (d : PyData) (H' : Hp), Dv (Np p q) H' v d → Fit d → Pt H' p q → Kp p q H H' → Q v H'
end NA
namespace NA
open PySem PySem.Spec PyProof.Rows L2
/-! ### zip of two or three, lists or tuples as they come -/
inductive Sk
  | l
  | t
def SqS (K : PySem.W.Frag) (k : Sk) (H : Hp) (a : Addr) (xs : List V) : Prop := match k with
  | .l => SqL K H a xs
  | .t => SqT K H a xs
def ItS (k : Sk) (h : Heap) (it a : Addr) (i : Nat) : Prop := match k with
  | .l => h.IsListIter it a i
  | .t => h.IsTupleIter it a i
def OfS (k : Sk) (h : Heap) (a : Addr) (its : Array Value) : Prop := match k with
  | .l => h.IsList a its
  | .t => h.IsTuple a its
def itO (k : Sk) (a : Addr) : Obj := match k with
  | .l => { cls := .type "list_iterator", data := .fields #[.ref a, .int 0 0] }
  | .t => { cls := .type "tuple_iterator", data := .fields #[.ref a, .int 0 0] }
theorem SqS.of_l {K : PySem.W.Frag} {H : Hp} {a : Addr} {xs : List V} (h : H a = some (.lst xs)) : SqS K .l H a xs := SqL.of h
theorem SqS.of_t {K : PySem.W.Frag} {H : Hp} {a : Addr} {xs : List V} (h : H a = some (.tup xs)) : SqS K .t H a xs := SqT.of h
theorem srcDraws {prog : Program} {w : World} {A : Around} (k : Sk) (hA : A.handled = none) (it a : Addr) (ne : a ≠ it) (its : Array Value) :
    Draws prog w A it [it, a] its.size (fun i v => its[i]? = some v) (fun i h => ItS k h it a i ∧ OfS k h a its) := by
  cases k with
  | l => exact Draws.list hA it a ne its
  | t => exact Draws.tuple hA it a ne its
theorem src_of {X : Cx} {pins : List (Addr × Obj)} {σ : L2.St} {H : Hp} {s : Shared} {k : Sk} {a : Addr} {xs : List V} (I : Inv X pins σ H s) (h : SqS X.K k H a xs) : ∃ its : List Value, Vals xs its ∧ OfS k s.heap a its.toArray := by
  cases k with
  | l =>
    obtain ⟨its, rv, tp, _⟩ := I.list h
    exact ⟨its, rv, tp.isList⟩
  | t =>
    obtain ⟨its, rv, tp, _⟩ := I.tuple h
    exact ⟨its, rv, tp⟩
theorem src_inj {X : Cx} {pins : List (Addr × Obj)} {σ : L2.St} {H : Hp} {s : Shared} {k : Sk} {a : Addr} {xs ys : List V} (I : Inv X pins σ H s) (h : SqS X.K k H a xs) (h2 : SqS X.K k H a ys) : xs = ys := by
  cases k with
  | l => exact I.list_inj h h2
  | t => exact I.tuple_inj h h2
theorem OfS.lt {k : Sk} {h : Heap} {a : Addr} {its : Array Value} (e : OfS k h a its) : a < h.objs.size := by
  cases k with
  | l => obtain ⟨o, h, _⟩ := e; exact Heap.lt_size h
  | t => obtain ⟨o, h, _⟩ := e; exact Heap.lt_size h
theorem OfS.at {k : Sk} {h h' : Heap} {a : Addr} {its : Array Value} (e : OfS k h a its) (f : ∀ o, h.get? a = some o → h'.get? a = some o) : OfS k h' a its := by
  cases k with
  | l => exact Heap.IsList.at e f
  | t => exact Heap.IsTuple.at e f
theorem ItS.at {k : Sk} {h h' : Heap} {it a : Addr} {i : Nat} (e : ItS k h it a i) (f : ∀ o, h.get? it = some o → h'.get? it = some o) : ItS k h' it a i := by
  cases k with
  | l => exact Heap.IsListIter.at e f
  | t => exact Heap.IsTupleIter.at e f
theorem ItS.obj {k : Sk} {h : Heap} {it a : Addr} {i : Nat} (e : ItS k h it a i) : ∃ o, h.get? it = some o ∧ ∀ v : Option Value, o.data ≠ .cell v := by
  cases k with
  | l =>
    obtain ⟨o, a, _, c⟩ := e
    exact ⟨o, a, fun v q => by rw [c] at q; cases q⟩
  | t =>
    obtain ⟨o, a, _, c⟩ := e
    exact ⟨o, a, fun v q => by rw [c] at q; cases q⟩
theorem itO_is (k : Sk) {h : Heap} {it a : Addr} (e : h.get? it = some (itO k a)) : ItS k h it a 0 := by
  cases k with
  | l => exact ⟨_, e, rfl, rfl⟩
  | t => exact ⟨_, e, rfl, rfl⟩
theorem begins (k : Sk) (a : Addr) (its : Array Value) : Begins (.ref a) (itO k a) (fun h => OfS k h a its) := by
  cases k with
  | l => exact ⟨fun prog w A E s Q h q => wpAny_pyIter_list h q, fun h h' e f => OfS.at (k := .l) e fun o q => f _ o q, rfl⟩
  | t => exact ⟨fun prog w A E s Q h q => wpAny_pyIter_tuple h q, fun h h' e f => OfS.at (k := .t) e fun o q => f _ o q, rfl⟩
def ItzG (K : PySem.W.Frag) (k1 : Sk) (a : Addr) (k2 : Sk) (b : Addr) : It :=
  ⟨fun i H => ∃ (xs ys : List V) (x y : V), SqS K k1 H a xs ∧ SqS K k2 H b ys ∧ xs[i]? = some x ∧ ys[i]? = some y,
   fun i H v H' => ∃ T x y, v = .ref T ∧ H T = none ∧ H' = upd H T (.tup [x, y]) ∧ (∀ xs, SqS K k1 H a xs → xs[i]? = some x) ∧ ∀ ys, SqS K k2 H b ys → ys[i]? = some y,
   fun i H => ∃ xs ys : List V, SqS K k1 H a xs ∧ SqS K k2 H b ys ∧ i = min xs.length ys.length⟩
theorem ge5 {n c : Nat} (e : c = n + 4 ∨ c = n + 2 ∨ c = n + 3 ∨ c = n ∨ c = n + 1) : n ≤ c := by omega
theorem lt5 {n m c : Nat} (h : n + 4 < m) (e : c = n + 4 ∨ c = n + 2 ∨ c = n + 3 ∨ c = n ∨ c = n + 1) : c < m := by omega
theorem nn {a b : Nat} (h : a < b ∨ b < a) : a ≠ b := by omega
theorem nm2 {x a b : Nat} (h1 : x ≠ a) (h2 : x ≠ b) : ¬ x ∈ [a, b] := by
  intro h
  rcases List.mem_cons.mp h with e | h
  · exact h1 e
  · exact h2 (List.mem_singleton.mp h)
theorem sep2 {n a b : Nat} (la : a < n) (lb : b < n) : ZipSep2 (n + 4) (n + 2) (n + 3) n (n + 1) [n, a] [n + 1, b] :=
  ⟨(show (n + 2 : Nat) ≠ n + 4 by omega), (show (n + 3 : Nat) ≠ n + 4 by omega), (show (n + 2 : Nat) ≠ n + 3 by omega), (show (n + 2 : Nat) ≠ n by omega), List.mem_cons_self, nm2 (by omega) (by omega), nm2 (by omega) (by omega),
   (show (n + 2 : Nat) ≠ n + 1 by omega), List.mem_cons_self, nm2 (by omega) (by omega), nm2 (by omega) (by omega), nm2 (by omega) (by omega), nm2 (by omega) (by omega)⟩
theorem turn_zipG {P : Program} {w : World} {K : PySem.W.Frag} {elts : List Expr} {kk : Nat} {tpos : Pos} (k1 : Sk) (a : Nat) (k2 : Sk) (b n : Nat) (la : a < n) (lb : b < n) :
    Turn P w K (.Tuple elts kk tpos) (ItzG K k1 a k2 b) [n + 4, n + 2, n + 3, n, n + 1] (n + 4) (fun i h => IsZip h (n + 4) (n + 2) (n + 3) .none ∧ IsTupOf2 h (n + 2) (.ref n) (.ref (n + 1)) ∧ (∃ x y, IsTupOf2 h (n + 3) x y) ∧ ItS k1 h n a i ∧ ItS k2 h (n + 1) b i) where
  mem := by simp
  obj := fun i h st c hc => by
    obtain ⟨s1, s2, ⟨x, y, s3⟩, s4, s5⟩ := st
    rcases (show c = n + 4 ∨ c = n + 2 ∨ c = n + 3 ∨ c = n ∨ c = n + 1 by simpa using hc) with e | e | e | e | e <;> subst e
    · exact ⟨_, s1, fun v q => nomatch q⟩
    · exact ⟨_, s2, fun v q => nomatch q⟩
    · exact ⟨_, s3, fun v q => nomatch q⟩
    · exact s4.obj
    · exact s5.obj
  keep := fun i h h' st k => by
    obtain ⟨s1, s2, ⟨x, y, s3⟩, s4, s5⟩ := st
    exact ⟨k _ (by simp) _ s1, k _ (by simp) _ s2, ⟨x, y, k _ (by simp) _ s3⟩, s4.at fun o q => k _ (by simp) o q, s5.at fun o q => k _ (by simp) o q⟩
  item := by
    intro X hP hw hK hc i pins s σ H E I hf st hg
    subst hP hw hK
    obtain ⟨s1, s2, ⟨p0, p1, s3⟩, s4, s5⟩ := st
    obtain ⟨xs, ys, x, y, hx, hy, ex, ey⟩ := hg
    obtain ⟨its, rv, o1⟩ := src_of I hx
    obtain ⟨jts, rw2, o2⟩ := src_of I hy
    obtain ⟨u, hu, ru⟩ := rv.get ex
    obtain ⟨v, hv, rv2⟩ := rw2.get ey
    have lz : n + 4 < s.heap.objs.size := Heap.lt_size s1
    have sep := sep2 la lb
    have D1 := srcDraws (prog := X.prog) (w := X.w) (A := X.A.in1) k1 (I.ok.hd hc) n a (nn (by omega)) its.toArray
    have D2 := srcDraws (prog := X.prog) (w := X.w) (A := X.A.in1) k2 (I.ok.hd hc) (n + 1) b (nn (by omega)) jts.toArray
    refine wpAny_pyNext_zipD2_item sep D1 D2 s1 s2 s3 ⟨s4, o1⟩ ⟨s5, o2⟩ (by have := (List.getElem?_eq_some_iff.mp hu).1; simpa using this) (by have := (List.getElem?_eq_some_iff.mp hv).1; simpa using this) fun y1 y2 h' tk q1 q2 z1 z2 z3 z4 hT hsz hk => ?_
    have e1 : y1 = u := Option.some.inj (q1.symm.trans (by simpa using hu))
    have e2 : y2 = v := Option.some.inj (q2.symm.trans (by simpa using hv))
    subst e1 e2
    refine ⟨_, rfl, wpAny_letOwnedTupleGo_zip (s := { s with heap := h', toks := tk }) z1 fun h'' hz'' sb => ?_⟩
    have sb' : ∀ c o, c ≠ n + 4 → h'.get? c = some o → h''.get? c = some o := fun c o hc q => (sb.2 c hc).trans q
    have hT2 : h''.get? s.heap.objs.size = some { cls := .type "tuple", data := .seq #[y1, y2] } := sb' _ _ (nn (by omega)) hT
    have new : ObjOk X.prog X.w (upd H s.heap.objs.size (.tup [x, y])) h'' s.heap.objs.size (.tup [x, y]) :=
      ⟨by show 2 ≤ sizeLine; decide, [y1, y2], .cons ru (.cons rv2 .nil), ⟨_, hT2, rfl, _, rfl⟩⟩
    have I1 : Inv X pins σ (upd H s.heap.objs.size (.tup [x, y])) { s with heap := h'', toks := tk } :=
      I.turnedNew (ch := [n + 4, n + 2, n + 3, n, n + 1]) (fun c ob hc q => by
        have hc' : c ≠ n + 4 ∧ c ≠ n + 2 ∧ c ≠ n + 3 ∧ c ≠ n ∧ c ≠ n + 1 := by simpa using hc
        exact sb' _ _ hc'.1 (hk c ob hc'.1 hc'.2.2.1 hc'.2.2.2.1 hc'.2.2.2.2 q)) hf (Nat.le_refl _) new
    refine ⟨.ref s.heap.objs.size, _, I1, rfl, ⟨_, x, y, rfl, I.hok.fresh (Nat.le_refl _), rfl, fun zs hz => by rw [src_inj I hz hx]; exact ex, fun zs hz => by rw [src_inj I hz hy]; exact ey⟩, ⟨hz'', sb' _ _ (nn (by omega)) (hk _ _ (nn (by omega)) (nn (by omega)) (nn (by omega)) (nn (by omega)) s2), ⟨_, _, sb' _ _ (nn (by omega)) z2⟩, z3.1.at fun o q => sb' _ _ (nn (by omega)) q, z4.1.at fun o q => sb' _ _ (nn (by omega)) q⟩, fun c hc => ?_⟩
    have lt : c < s.heap.objs.size := lt5 lz (by simpa using hc)
    rw [upd_ne (Nat.ne_of_lt lt)]
    exact (hf c hc).1
  done := by
    intro X hP hw hK hc i pins s σ H E I hf st hg
    subst hP hw hK
    obtain ⟨s1, s2, ⟨p0, p1, s3⟩, s4, s5⟩ := st
    obtain ⟨xs, ys, hx, hy, ei⟩ := hg
    obtain ⟨its, rv, o1⟩ := src_of I hx
    obtain ⟨jts, rw2, o2⟩ := src_of I hy
    have l1 := rv.length
    have l2 := rw2.length
    have sep := sep2 la lb
    have D1 := srcDraws (prog := X.prog) (w := X.w) (A := X.A.in1) k1 (I.ok.hd hc) n a (nn (by omega)) its.toArray
    have D2 := srcDraws (prog := X.prog) (w := X.w) (A := X.A.in1) k2 (I.ok.hd hc) (n + 1) b (nn (by omega)) jts.toArray
    refine wpAny_pyNext_zipD2_end sep D1 D2 s1 s2 s3 ⟨s4, o1⟩ ⟨s5, o2⟩ (by simp; omega) (by simp; omega) (by simp; omega) fun h' tk hk => ⟨rfl, ?_⟩
    exact I.turnedL (ch := [n + 4, n + 2, n + 3, n, n + 1]) (fun c o hc q => by
      have hc' : c ≠ n + 4 ∧ c ≠ n + 2 ∧ c ≠ n + 3 ∧ c ≠ n ∧ c ≠ n + 1 := by simpa using hc
      exact hk c o hc'.1 hc'.2.2.1 hc'.2.2.2.1 hc'.2.2.2.2 q) hf
  self := fun A i s Q E st h => wpAny_pyIter_zip st.1 h
def iZipG (K : PySem.W.Frag) (k1 k2 : Sk) (ta : TA) : TI := fun σ H R => ta σ H fun vs H1 => ∃ a b xs ys, vs = [.ref a, .ref b] ∧ SqS K k1 H1 a xs ∧ SqS K k2 H1 b ys ∧ R (ItzG K k1 a k2 b) H1
theorem zipG_call {prog : Program} {w : World} {A : Around} {E : Value → Shared → Prop} {s : Shared} {k1 k2 : Sk} {a b : Addr} {its jts : Array Value} {Q : Value → Shared → Prop} (h1 : OfS k1 s.heap a its) (h2 : OfS k2 s.heap b jts)
    (h : ∀ h', IsZip h' (s.heap.objs.size + 4) (s.heap.objs.size + 2) (s.heap.objs.size + 3) .none → IsTupOf2 h' (s.heap.objs.size + 2) (.ref s.heap.objs.size) (.ref (s.heap.objs.size + 1)) → IsTupOf2 h' (s.heap.objs.size + 3) .none .none →
      ItS k1 h' s.heap.objs.size a 0 → ItS k2 h' (s.heap.objs.size + 1) b 0 → (∀ c o, s.heap.get? c = some o → h'.get? c = some o) → Q (.ref (s.heap.objs.size + 4)) { s with heap := h' }) :
    wpAny (model prog w) A (call (.type "zip") [.ref a, .ref b]) Q E s := by
  refine callType_new F.called_zip (by decide) (F.typeCall_zip_2 _ _) (F.newCall_zip_2 _ _) (fun obj => F.args_object_init_3 obj _ _) F.entry_zip_new (meets_zip_newB2 (begins k1 a its) (begins k2 b jts)) ⟨⟨h1, h2⟩, ?_⟩
  have f1 : (itO k1 a).isFreed = false := by cases k1 <;> rfl
  have f2 : (itO k2 b).isFreed = false := by cases k2 <;> rfl
  have z1 : (s.heap.push (itO k1 a)).objs.size = s.heap.objs.size + 1 := Heap.size_push ..
  have z2 : ((s.heap.push (itO k1 a)).push (itO k2 b)).objs.size = s.heap.objs.size + 2 := by rw [Heap.size_push, z1]
  have z3 : (gzT2 s.heap (itO k1 a) (itO k2 b)).objs.size = s.heap.objs.size + 3 := by rw [gzT2, Heap.size_push, z2]
  have z4 : (gzO2 s.heap (itO k1 a) (itO k2 b)).objs.size = s.heap.objs.size + 4 := by rw [gzO2, Heap.size_push, z3]
  have g1 : (s.heap.push (itO k1 a)).get? s.heap.objs.size = some (itO k1 a) := Heap.get?_push_size s.heap f1
  have g2 : ((s.heap.push (itO k1 a)).push (itO k2 b)).get? (s.heap.objs.size + 1) = some (itO k2 b) := by
    have z := Heap.get?_push_size (s.heap.push (itO k1 a)) f2
    rwa [z1] at z
  have g3 : IsTupOf2 (gzT2 s.heap (itO k1 a) (itO k2 b)) (s.heap.objs.size + 2) (.ref s.heap.objs.size) (.ref (s.heap.objs.size + 1)) := by
    have z := Heap.get?_push_size ((s.heap.push (itO k1 a)).push (itO k2 b)) (o := { cls := .type "tuple", data := .seq #[.ref s.heap.objs.size, .ref (s.heap.push (itO k1 a)).objs.size] }) rfl
    rw [z2, z1] at z
    show (Heap.push _ { cls := .type "tuple", data := .seq #[.ref s.heap.objs.size, .ref (s.heap.push (itO k1 a)).objs.size] }).get? _ = _
    rw [z1]
    exact z
  have g4 : IsTupOf2 (gzO2 s.heap (itO k1 a) (itO k2 b)) (s.heap.objs.size + 3) .none .none := by
    have z := Heap.get?_push_size (gzT2 s.heap (itO k1 a) (itO k2 b)) (o := { cls := .type "tuple", data := .seq #[.none, .none] }) rfl
    rwa [z3] at z
  have g5 : IsZip (gzZ2 s.heap (itO k1 a) (itO k2 b)) (s.heap.objs.size + 4) (s.heap.objs.size + 2) (s.heap.objs.size + 3) .none := by
    have z := Heap.get?_push_size (gzO2 s.heap (itO k1 a) (itO k2 b)) (o := { cls := .type "zip", data := .fields #[.none, .bool false, .bool false, .ref ((s.heap.push (itO k1 a)).push (itO k2 b)).objs.size, .ref (gzT2 s.heap (itO k1 a) (itO k2 b)).objs.size] }) rfl
    show (Heap.push _ { cls := .type "zip", data := .fields #[.none, .bool false, .bool false, .ref ((s.heap.push (itO k1 a)).push (itO k2 b)).objs.size, .ref (gzT2 s.heap (itO k1 a) (itO k2 b)).objs.size] }).get? _ = _
    rw [z4, z2, z3] at z
    rw [z2, z3]
    exact z
  show _ ∧ _
  rw [z4]
  exact ⟨⟨_, g5, rfl⟩, h _ g5 (Heap.get?_push_of_some _ (Heap.get?_push_of_some _ g3)) (Heap.get?_push_of_some _ g4)
    (itO_is k1 (Heap.get?_push_of_some _ (Heap.get?_push_of_some _ (Heap.get?_push_of_some _ (Heap.get?_push_of_some _ g1)))))
    (itO_is k2 (Heap.get?_push_of_some _ (Heap.get?_push_of_some _ (Heap.get?_push_of_some _ g2))))
    fun c o q => Heap.get?_push_of_some _ (Heap.get?_push_of_some _ (Heap.get?_push_of_some _ (Heap.get?_push_of_some _ (Heap.get?_push_of_some _ q))))⟩
theorem pi_zipG {X : Cx} (K : PySem.W.Frag) (hK : X.K = K) (k1 k2 : Sk) {e e2 : Expr} {ta : TA} {p pos tpos : Pos} {elts : List Expr} {kk : Nat} (hg : Gl X "zip") (hm : X.mg "zip" = none) (ha : PA X [e, e2] ta) (hs : starEach [e, e2] X.env = (false, eval e X.env) :: starEach [e2] X.env := by rfl) (hs2 : ((backTo pos (starEach [e2] X.env)).any fun x => x.fst) = false := by rfl) :
    PI X (.Tuple elts kk tpos) (.Call (.Name "zip" p) [e, e2] [] pos) (iZipG K k1 k2 ta) := by
  subst hK
  refine ⟨fun pins s σ H R I h => ?_⟩
  refine Call_ (ld_blt I hg hm boot_zip (PyProof.Rows.callWith_type1 (thn (ha.run pos pins s σ H _ I h) fun us s1 ⟨vs, H1, I1, r1, q1⟩ => ?_) hs hs2))
  obtain ⟨a, b, xs, ys, ex, hx, hy, q⟩ := q1
  subst ex
  obtain ⟨u, v, rfl, ru, rv⟩ := vals2 r1
  cases (show u = Value.ref a from ru)
  cases (show v = Value.ref b from rv)
  obtain ⟨its, _, o1⟩ := src_of I1 hx
  obtain ⟨jts, _, o2⟩ := src_of I1 hy
  refine zipG_call o1 o2 fun h' z1 z2 z3 z4 z5 kept => wpAny_pyIter_zip z1 ?_
  have I2 := I1.kept (t' := s1.toks) kept
  refine ⟨s1.heap.objs.size + 4, [s1.heap.objs.size + 4, s1.heap.objs.size + 2, s1.heap.objs.size + 3, s1.heap.objs.size, s1.heap.objs.size + 1], _, _, H1, rfl, I2, turn_zipG k1 a k2 b s1.heap.objs.size o1.lt o2.lt, ⟨z1, z2, ⟨_, _, z3⟩, z4, z5⟩, fun c hc => ?_, q⟩
  have le : s1.heap.objs.size ≤ c := ge5 (by simpa using hc)
  exact I1.fpOk le (I1.hok.fresh le)
theorem walk_zipG {K : PySem.W.Frag} {k1 k2 : Sk} {a b : Addr} {xs ys : List V} {n : Nat} (hn : n = min xs.length ys.length) : Walk (ItzG K k1 a k2 b) n (fun H => SqS K k1 H a xs ∧ SqS K k2 H b ys) (YPair (fun i => xs[i]?) (fun i => ys[i]?)) := by
  refine ⟨fun i H hi q => ⟨xs, ys, xs[i]'(by omega), ys[i]'(by omega), q.1, q.2, by simp, by simp⟩, fun H q => ⟨xs, ys, q.1, q.2, hn⟩, fun i H v H' _ q y => ?_⟩
  obtain ⟨T, x, z, y1, y2, y3, y4, y5⟩ := y
  exact ⟨T, x, z, y1, y2, y3, y4 xs q.1, y5 ys q.2⟩
end NA
namespace NA
open PySem PySem.Spec PyProof.Rows L2
/-! ### zip of three -/
def ItzG3 (K : PySem.W.Frag) (k1 : Sk) (a : Addr) (k2 : Sk) (b : Addr) (k3 : Sk) (c : Addr) : It :=
  ⟨fun i H => ∃ (xs ys zs : List V) (x y z : V), SqS K k1 H a xs ∧ SqS K k2 H b ys ∧ SqS K k3 H c zs ∧ xs[i]? = some x ∧ ys[i]? = some y ∧ zs[i]? = some z,
   fun i H v H' => ∃ T x y z, v = .ref T ∧ H T = none ∧ H' = upd H T (.tup [x, y, z]) ∧ (∀ xs, SqS K k1 H a xs → xs[i]? = some x) ∧ (∀ ys, SqS K k2 H b ys → ys[i]? = some y) ∧ ∀ zs, SqS K k3 H c zs → zs[i]? = some z,
   fun i H => ∃ xs ys zs : List V, SqS K k1 H a xs ∧ SqS K k2 H b ys ∧ SqS K k3 H c zs ∧ i = min (min xs.length ys.length) zs.length⟩
theorem sep3 {n a b c : Nat} (la : a < n) (lb : b < n) (lc : c < n) : ZipSep3 (n + 5) (n + 3) (n + 4) n (n + 1) (n + 2) [n, a] [n + 1, b] [n + 2, c] :=
  ⟨nn (by omega), nn (by omega), nn (by omega), nn (by omega), List.mem_cons_self, nm2 (by omega) (by omega), nm2 (by omega) (by omega),
   nn (by omega), List.mem_cons_self, nm2 (by omega) (by omega), nm2 (by omega) (by omega), nn (by omega), List.mem_cons_self, nm2 (by omega) (by omega), nm2 (by omega) (by omega),
   nm2 (by omega) (by omega), nm2 (by omega) (by omega), nm2 (by omega) (by omega), nm2 (by omega) (by omega), nm2 (by omega) (by omega), nm2 (by omega) (by omega)⟩
theorem lt6 {n m c : Nat} (h : n + 5 < m) (e : c = n + 5 ∨ c = n + 3 ∨ c = n + 4 ∨ c = n ∨ c = n + 1 ∨ c = n + 2) : c < m := by omega
theorem ge6 {n c : Nat} (e : c = n + 5 ∨ c = n + 3 ∨ c = n + 4 ∨ c = n ∨ c = n + 1 ∨ c = n + 2) : n ≤ c := by omega
theorem turn_zipG3 {P : Program} {w : World} {K : PySem.W.Frag} {elts : List Expr} {kk : Nat} {tpos : Pos} (k1 : Sk) (a : Nat) (k2 : Sk) (b : Nat) (k3 : Sk) (c n : Nat) (la : a < n) (lb : b < n) (lc : c < n) :
    Turn P w K (.Tuple elts kk tpos) (ItzG3 K k1 a k2 b k3 c) [n + 5, n + 3, n + 4, n, n + 1, n + 2] (n + 5) (fun i h => IsZip h (n + 5) (n + 3) (n + 4) .none ∧ IsTupOf3 h (n + 3) (.ref n) (.ref (n + 1)) (.ref (n + 2)) ∧ (∃ x y z, IsTupOf3 h (n + 4) x y z) ∧ ItS k1 h n a i ∧ ItS k2 h (n + 1) b i ∧ ItS k3 h (n + 2) c i) where
  mem := by simp
  obj := fun i h st d hd => by
    obtain ⟨s1, s2, ⟨x, y, z, s3⟩, s4, s5, s6⟩ := st
    rcases (show d = n + 5 ∨ d = n + 3 ∨ d = n + 4 ∨ d = n ∨ d = n + 1 ∨ d = n + 2 by simpa using hd) with e | e | e | e | e | e <;> subst e
    · exact ⟨_, s1, fun v q => nomatch q⟩
    · exact ⟨_, s2, fun v q => nomatch q⟩
    · exact ⟨_, s3, fun v q => nomatch q⟩
    · exact s4.obj
    · exact s5.obj
    · exact s6.obj
  keep := fun i h h' st k => by
    obtain ⟨s1, s2, ⟨x, y, z, s3⟩, s4, s5, s6⟩ := st
    exact ⟨k _ (by simp) _ s1, k _ (by simp) _ s2, ⟨x, y, z, k _ (by simp) _ s3⟩, s4.at fun o q => k _ (by simp) o q, s5.at fun o q => k _ (by simp) o q, s6.at fun o q => k _ (by simp) o q⟩
  item := by
    intro X hP hw hK hc i pins s σ H E I hf st hg
    subst hP hw hK
    obtain ⟨s1, s2, ⟨p0, p1, p2, s3⟩, s4, s5, s6⟩ := st
    obtain ⟨xs, ys, zs, x, y, z, hx, hy, hz, ex, ey, ez⟩ := hg
    obtain ⟨its, rv, o1⟩ := src_of I hx
    obtain ⟨jts, rw2, o2⟩ := src_of I hy
    obtain ⟨kts, rw3, o3⟩ := src_of I hz
    obtain ⟨u, hu, ru⟩ := rv.get ex
    obtain ⟨v, hv, rv2⟩ := rw2.get ey
    obtain ⟨w3, hw3, rv3⟩ := rw3.get ez
    have lz : n + 5 < s.heap.objs.size := Heap.lt_size s1
    have sep := sep3 la lb lc
    have D1 := srcDraws (prog := X.prog) (w := X.w) (A := X.A.in1) k1 (I.ok.hd hc) n a (nn (by omega)) its.toArray
    have D2 := srcDraws (prog := X.prog) (w := X.w) (A := X.A.in1) k2 (I.ok.hd hc) (n + 1) b (nn (by omega)) jts.toArray
    have D3 := srcDraws (prog := X.prog) (w := X.w) (A := X.A.in1) k3 (I.ok.hd hc) (n + 2) c (nn (by omega)) kts.toArray
    refine wpAny_pyNext_zipD3_item sep D1 D2 D3 s1 s2 s3 ⟨s4, o1⟩ ⟨s5, o2⟩ ⟨s6, o3⟩ (by have := (List.getElem?_eq_some_iff.mp hu).1; simpa using this) (by have := (List.getElem?_eq_some_iff.mp hv).1; simpa using this) (by have := (List.getElem?_eq_some_iff.mp hw3).1; simpa using this) fun y1 y2 y3 h' tk q1 q2 q3 z1 z2 z3 z4 z5 hT hsz hk => ?_
    have e1 : y1 = u := Option.some.inj (q1.symm.trans (by simpa using hu))
    have e2 : y2 = v := Option.some.inj (q2.symm.trans (by simpa using hv))
    have e3 : y3 = w3 := Option.some.inj (q3.symm.trans (by simpa using hw3))
    subst e1 e2 e3
    refine ⟨_, rfl, wpAny_letOwnedTupleGo_zip (s := { s with heap := h', toks := tk }) z1 fun h'' hz'' sb => ?_⟩
    have sb' : ∀ d o, d ≠ n + 5 → h'.get? d = some o → h''.get? d = some o := fun d o hd q => (sb.2 d hd).trans q
    have hT2 : h''.get? s.heap.objs.size = some { cls := .type "tuple", data := .seq #[y1, y2, y3] } := sb' _ _ (nn (by omega)) hT
    have new : ObjOk X.prog X.w (upd H s.heap.objs.size (.tup [x, y, z])) h'' s.heap.objs.size (.tup [x, y, z]) :=
      ⟨by show 3 ≤ sizeLine; decide, [y1, y2, y3], .cons ru (.cons rv2 (.cons rv3 .nil)), ⟨_, hT2, rfl, _, rfl⟩⟩
    have I1 : Inv X pins σ (upd H s.heap.objs.size (.tup [x, y, z])) { s with heap := h'', toks := tk } :=
      I.turnedNew (ch := [n + 5, n + 3, n + 4, n, n + 1, n + 2]) (fun d ob hd q => by
        have hd' : d ≠ n + 5 ∧ d ≠ n + 3 ∧ d ≠ n + 4 ∧ d ≠ n ∧ d ≠ n + 1 ∧ d ≠ n + 2 := by simpa using hd
        exact sb' _ _ hd'.1 (hk d ob hd'.1 hd'.2.2.1 hd'.2.2.2.1 hd'.2.2.2.2.1 hd'.2.2.2.2.2 q)) hf (Nat.le_refl _) new
    refine ⟨.ref s.heap.objs.size, _, I1, rfl, ⟨_, x, y, z, rfl, I.hok.fresh (Nat.le_refl _), rfl, fun ws hw => by rw [src_inj I hw hx]; exact ex, fun ws hw => by rw [src_inj I hw hy]; exact ey, fun ws hw => by rw [src_inj I hw hz]; exact ez⟩,
      ⟨hz'', sb' _ _ (nn (by omega)) (hk _ _ (nn (by omega)) (nn (by omega)) (nn (by omega)) (nn (by omega)) (nn (by omega)) s2), ⟨_, _, _, sb' _ _ (nn (by omega)) z2⟩, z3.1.at fun o q => sb' _ _ (nn (by omega)) q, z4.1.at fun o q => sb' _ _ (nn (by omega)) q, z5.1.at fun o q => sb' _ _ (nn (by omega)) q⟩, fun d hd => ?_⟩
    have lt : d < s.heap.objs.size := lt6 lz (by simpa using hd)
    rw [upd_ne (Nat.ne_of_lt lt)]
    exact (hf d hd).1
  done := by
    intro X hP hw hK hc i pins s σ H E I hf st hg
    subst hP hw hK
    obtain ⟨s1, s2, ⟨p0, p1, p2, s3⟩, s4, s5, s6⟩ := st
    obtain ⟨xs, ys, zs, hx, hy, hz, ei⟩ := hg
    obtain ⟨its, rv, o1⟩ := src_of I hx
    obtain ⟨jts, rw2, o2⟩ := src_of I hy
    obtain ⟨kts, rw3, o3⟩ := src_of I hz
    have l1 := rv.length
    have l2 := rw2.length
    have l3 := rw3.length
    have sep := sep3 la lb lc
    have D1 := srcDraws (prog := X.prog) (w := X.w) (A := X.A.in1) k1 (I.ok.hd hc) n a (nn (by omega)) its.toArray
    have D2 := srcDraws (prog := X.prog) (w := X.w) (A := X.A.in1) k2 (I.ok.hd hc) (n + 1) b (nn (by omega)) jts.toArray
    have D3 := srcDraws (prog := X.prog) (w := X.w) (A := X.A.in1) k3 (I.ok.hd hc) (n + 2) c (nn (by omega)) kts.toArray
    refine wpAny_pyNext_zipD3_end sep D1 D2 D3 s1 s2 s3 ⟨s4, o1⟩ ⟨s5, o2⟩ ⟨s6, o3⟩ (by simp; omega) (by simp; omega) (by simp; omega) (by simp; omega) fun h' tk hk => ⟨rfl, ?_⟩
    exact I.turnedL (ch := [n + 5, n + 3, n + 4, n, n + 1, n + 2]) (fun d o hd q => by
      have hd' : d ≠ n + 5 ∧ d ≠ n + 3 ∧ d ≠ n + 4 ∧ d ≠ n ∧ d ≠ n + 1 ∧ d ≠ n + 2 := by simpa using hd
      exact hk d o hd'.1 hd'.2.2.1 hd'.2.2.2.1 hd'.2.2.2.2.1 hd'.2.2.2.2.2 q) hf
  self := fun A i s Q E st h => wpAny_pyIter_zip st.1 h
def iZipG3 (K : PySem.W.Frag) (k1 k2 k3 : Sk) (ta : TA) : TI := fun σ H R => ta σ H fun vs H1 => ∃ a b c xs ys zs, vs = [.ref a, .ref b, .ref c] ∧ SqS K k1 H1 a xs ∧ SqS K k2 H1 b ys ∧ SqS K k3 H1 c zs ∧ R (ItzG3 K k1 a k2 b k3 c) H1
theorem zipG3_call {prog : Program} {w : World} {A : Around} {E : Value → Shared → Prop} {s : Shared} {k1 k2 k3 : Sk} {a b c : Addr} {its jts kts : Array Value} {Q : Value → Shared → Prop} (h1 : OfS k1 s.heap a its) (h2 : OfS k2 s.heap b jts) (h3 : OfS k3 s.heap c kts)
    (h : ∀ h', IsZip h' (s.heap.objs.size + 5) (s.heap.objs.size + 3) (s.heap.objs.size + 4) .none → IsTupOf3 h' (s.heap.objs.size + 3) (.ref s.heap.objs.size) (.ref (s.heap.objs.size + 1)) (.ref (s.heap.objs.size + 2)) → IsTupOf3 h' (s.heap.objs.size + 4) .none .none .none →
      ItS k1 h' s.heap.objs.size a 0 → ItS k2 h' (s.heap.objs.size + 1) b 0 → ItS k3 h' (s.heap.objs.size + 2) c 0 → (∀ c o, s.heap.get? c = some o → h'.get? c = some o) → Q (.ref (s.heap.objs.size + 5)) { s with heap := h' }) :
    wpAny (model prog w) A (call (.type "zip") [.ref a, .ref b, .ref c]) Q E s := by
  refine callType_new F.called_zip (by decide) (F.typeCall_zip_3 _ _ _) (F.newCall_zip_3 _ _ _) (fun obj => F.args_object_init_4 obj _ _ _) F.entry_zip_new (meets_zip_newB3 (begins k1 a its) (begins k2 b jts) (begins k3 c kts)) ⟨⟨h1, h2, h3⟩, ?_⟩
  have f1 : (itO k1 a).isFreed = false := by cases k1 <;> rfl
  have f2 : (itO k2 b).isFreed = false := by cases k2 <;> rfl
  have f3 : (itO k3 c).isFreed = false := by cases k3 <;> rfl
  have z1 : (s.heap.push (itO k1 a)).objs.size = s.heap.objs.size + 1 := Heap.size_push ..
  have z2 : ((s.heap.push (itO k1 a)).push (itO k2 b)).objs.size = s.heap.objs.size + 2 := by rw [Heap.size_push, z1]
  have z3 : (((s.heap.push (itO k1 a)).push (itO k2 b)).push (itO k3 c)).objs.size = s.heap.objs.size + 3 := by rw [Heap.size_push, z2]
  have z4 : (gzT3 s.heap (itO k1 a) (itO k2 b) (itO k3 c)).objs.size = s.heap.objs.size + 4 := by rw [gzT3, Heap.size_push, z3]
  have z5 : (gzO3 s.heap (itO k1 a) (itO k2 b) (itO k3 c)).objs.size = s.heap.objs.size + 5 := by rw [gzO3, Heap.size_push, z4]
  have g1 : (s.heap.push (itO k1 a)).get? s.heap.objs.size = some (itO k1 a) := Heap.get?_push_size s.heap f1
  have g2 : ((s.heap.push (itO k1 a)).push (itO k2 b)).get? (s.heap.objs.size + 1) = some (itO k2 b) := by
    have z := Heap.get?_push_size (s.heap.push (itO k1 a)) f2
    rwa [z1] at z
  have g2' : (((s.heap.push (itO k1 a)).push (itO k2 b)).push (itO k3 c)).get? (s.heap.objs.size + 2) = some (itO k3 c) := by
    have z := Heap.get?_push_size ((s.heap.push (itO k1 a)).push (itO k2 b)) f3
    rwa [z2] at z
  have g3 : IsTupOf3 (gzT3 s.heap (itO k1 a) (itO k2 b) (itO k3 c)) (s.heap.objs.size + 3) (.ref s.heap.objs.size) (.ref (s.heap.objs.size + 1)) (.ref (s.heap.objs.size + 2)) := by
    have z := Heap.get?_push_size (((s.heap.push (itO k1 a)).push (itO k2 b)).push (itO k3 c)) (o := { cls := .type "tuple", data := .seq #[.ref s.heap.objs.size, .ref (s.heap.push (itO k1 a)).objs.size, .ref ((s.heap.push (itO k1 a)).push (itO k2 b)).objs.size] }) rfl
    rw [z3, z2, z1] at z
    show (Heap.push _ { cls := .type "tuple", data := .seq #[.ref s.heap.objs.size, .ref (s.heap.push (itO k1 a)).objs.size, .ref ((s.heap.push (itO k1 a)).push (itO k2 b)).objs.size] }).get? _ = _
    rw [z2, z1]
    exact z
  have g4 : IsTupOf3 (gzO3 s.heap (itO k1 a) (itO k2 b) (itO k3 c)) (s.heap.objs.size + 4) .none .none .none := by
    have z := Heap.get?_push_size (gzT3 s.heap (itO k1 a) (itO k2 b) (itO k3 c)) (o := { cls := .type "tuple", data := .seq #[.none, .none, .none] }) rfl
    rwa [z4] at z
  have g5 : IsZip (gzZ3 s.heap (itO k1 a) (itO k2 b) (itO k3 c)) (s.heap.objs.size + 5) (s.heap.objs.size + 3) (s.heap.objs.size + 4) .none := by
    have z := Heap.get?_push_size (gzO3 s.heap (itO k1 a) (itO k2 b) (itO k3 c)) (o := { cls := .type "zip", data := .fields #[.none, .bool false, .bool false, .ref (((s.heap.push (itO k1 a)).push (itO k2 b)).push (itO k3 c)).objs.size, .ref (gzT3 s.heap (itO k1 a) (itO k2 b) (itO k3 c)).objs.size] }) rfl
    show (Heap.push _ { cls := .type "zip", data := .fields #[.none, .bool false, .bool false, .ref (((s.heap.push (itO k1 a)).push (itO k2 b)).push (itO k3 c)).objs.size, .ref (gzT3 s.heap (itO k1 a) (itO k2 b) (itO k3 c)).objs.size] }).get? _ = _
    rw [z5, z3, z4] at z
    rw [z3, z4]
    exact z
  show _ ∧ _
  rw [z5]
  exact ⟨⟨_, g5, rfl⟩, h _ g5 (Heap.get?_push_of_some _ (Heap.get?_push_of_some _ g3)) (Heap.get?_push_of_some _ g4)
    (itO_is k1 (Heap.get?_push_of_some _ (Heap.get?_push_of_some _ (Heap.get?_push_of_some _ (Heap.get?_push_of_some _ (Heap.get?_push_of_some _ g1))))))
    (itO_is k2 (Heap.get?_push_of_some _ (Heap.get?_push_of_some _ (Heap.get?_push_of_some _ (Heap.get?_push_of_some _ g2)))))
    (itO_is k3 (Heap.get?_push_of_some _ (Heap.get?_push_of_some _ (Heap.get?_push_of_some _ g2'))))
    fun c o q => Heap.get?_push_of_some _ (Heap.get?_push_of_some _ (Heap.get?_push_of_some _ (Heap.get?_push_of_some _ (Heap.get?_push_of_some _ (Heap.get?_push_of_some _ q)))))⟩
theorem vals3 {x y z : V} {us : List Value} (h : Vals [x, y, z] us) : ∃ u v w, us = [u, v, w] ∧ RelV x u ∧ RelV y v ∧ RelV z w := by
  cases h with
  | cons a h =>
    cases h with
    | cons b h =>
      cases h with
      | cons c h =>
        cases h
        exact ⟨_, _, _, rfl, a, b, c⟩
theorem pi_zipG3 {X : Cx} (K : PySem.W.Frag) (hK : X.K = K) (k1 k2 k3 : Sk) {e e2 e3 : Expr} {ta : TA} {p pos tpos : Pos} {elts : List Expr} {kk : Nat} (hg : Gl X "zip") (hm : X.mg "zip" = none) (ha : PA X [e, e2, e3] ta) (hs : starEach [e, e2, e3] X.env = (false, eval e X.env) :: starEach [e2, e3] X.env := by rfl) (hs2 : ((backTo pos (starEach [e2, e3] X.env)).any fun x => x.fst) = false := by rfl) :
    PI X (.Tuple elts kk tpos) (.Call (.Name "zip" p) [e, e2, e3] [] pos) (iZipG3 K k1 k2 k3 ta) := by
  subst hK
  refine ⟨fun pins s σ H R I h => ?_⟩
  refine Call_ (ld_blt I hg hm boot_zip (PyProof.Rows.callWith_type1 (thn (ha.run pos pins s σ H _ I h) fun us s1 ⟨vs, H1, I1, r1, q1⟩ => ?_) hs hs2))
  obtain ⟨a, b, c, xs, ys, zs, ex, hx, hy, hz, q⟩ := q1
  subst ex
  obtain ⟨u, v, w3, rfl, ru, rv, rw3⟩ := vals3 r1
  cases (show u = Value.ref a from ru)
  cases (show v = Value.ref b from rv)
  cases (show w3 = Value.ref c from rw3)
  obtain ⟨its, _, o1⟩ := src_of I1 hx
  obtain ⟨jts, _, o2⟩ := src_of I1 hy
  obtain ⟨kts, _, o3⟩ := src_of I1 hz
  refine zipG3_call o1 o2 o3 fun h' z1 z2 z3 z4 z5 z6 kept => wpAny_pyIter_zip z1 ?_
  have I2 := I1.kept (t' := s1.toks) kept
  refine ⟨s1.heap.objs.size + 5, [s1.heap.objs.size + 5, s1.heap.objs.size + 3, s1.heap.objs.size + 4, s1.heap.objs.size, s1.heap.objs.size + 1, s1.heap.objs.size + 2], _, _, H1, rfl, I2, turn_zipG3 k1 a k2 b k3 c s1.heap.objs.size o1.lt o2.lt o3.lt, ⟨z1, z2, ⟨_, _, _, z3⟩, z4, z5, z6⟩, fun d hd => ?_, q⟩
  have le : s1.heap.objs.size ≤ d := ge6 (by simpa using hd)
  exact I1.fpOk le (I1.hok.fresh le)
def YTri (xs ys zs : Nat → Option V) : Nat → Hp → V → Hp → Prop := fun i H v H' => ∃ T x y z, v = .ref T ∧ H T = none ∧ H' = upd H T (.tup [x, y, z]) ∧ xs i = some x ∧ ys i = some y ∧ zs i = some z
theorem walk_zipG3 {K : PySem.W.Frag} {k1 k2 k3 : Sk} {a b c : Addr} {xs ys zs : List V} {n : Nat} (hn : n = min (min xs.length ys.length) zs.length) : Walk (ItzG3 K k1 a k2 b k3 c) n (fun H => SqS K k1 H a xs ∧ SqS K k2 H b ys ∧ SqS K k3 H c zs) (YTri (fun i => xs[i]?) (fun i => ys[i]?) (fun i => zs[i]?)) := by
  refine ⟨fun i H hi q => ⟨xs, ys, zs, xs[i]'(by omega), ys[i]'(by omega), zs[i]'(by omega), q.1, q.2.1, q.2.2, by simp, by simp, by simp⟩, fun H q => ⟨xs, ys, zs, q.1, q.2.1, q.2.2, hn⟩, fun i H v H' _ q y => ?_⟩
  obtain ⟨T, x, z, u, y1, y2, y3, y4, y5, y6⟩ := y
  exact ⟨T, x, z, u, y1, y2, y3, y4 xs q.1, y5 ys q.2.1, y6 zs q.2.2⟩
end NA
namespace NA
open PySem PySem.Spec PyProof.Rows L2
/-! ### deeds, programs, contents: data and promises of what draws them -/
theorem ix_anyK {X : Cx} (K : PySem.W.Frag) (hK : X.K = K) : IxR X (fun x y H Q => rIxL K x y H Q ∨ rIxT K x y H Q) := fun value slice pins s σ H x y v u Q I rx ry h e =>
  h.elim (fun h => ix_listK K hK value slice pins s σ H x y v u Q I rx ry h e) (fun h => ix_tupK K hK value slice pins s σ H x y v u Q I rx ry h e)
theorem cr_sumK {X : Cx} (K : PySem.W.Frag) (hK : X.K = K) (hc : X.calm = true) : CallR X (.builtin "sum") (rSum K) := hK ▸ cr_sum hc
theorem Cal.weak {P : Program} {w : World} {K : PySem.W.Frag} {mg : Str → Option Value} {base : Heap} {x : Str} {k : Nat} {sp sp' : Sp} (c : Cal P w K mg base k x sp) (f : ∀ vs H Q E, sp' vs H Q E → sp vs H Q E) : Cal P w K mg base k x sp' := by
  obtain ⟨a, fd, ps, F, r⟩ := c.ex
  exact ⟨a, fd, ps, ⟨fun vs H Q E h => F.len vs H Q E (f vs H Q E h), fun A outer s H args us vs Q E hr he hb hv h => F.run A outer s H args us vs Q E hr he hb hv (f vs H Q E h)⟩, r⟩
def spDipW : Sp := fun vs H Q _ => ∃ (p q : Addr) (n : Int), vs = [.ref p, .int n] ∧ Pt H p q ∧ 0 < n ∧ n.natAbs < 2 ^ 4000 ∧ ∀ (r : Int) (H' : Hp), 0 ≤ r → r < n → Pt H' p q → Kp p q H H' → Q (.int r) H'
theorem dip_of {vs : List V} {H : Hp} {Q : VK} {E : XK} (h : spDip vs H Q E) : spDipW vs H Q E := by
  obtain ⟨p, q, n, e, hP, n0, n1, k⟩ := h
  exact ⟨p, q, n, e, hP, n0, Nat.lt_trans (show n.natAbs < 1073741824 by omega) (by decide), k⟩
def spPickA : Sp := fun vs H Q _ => ∃ (p q a : Addr) (xs : List V) (o : HO), vs = [.ref p, .ref a] ∧ Pt H p q ∧ H a = some o ∧ ((o = .lst xs ∧ a ≠ p ∧ a ≠ q) ∨ o = .tup xs) ∧ xs ≠ [] ∧ xs.length < 1000 ∧
  ∀ (v : V) (H' : Hp), v ∈ xs → Pt H' p q → Kp p q H H' → Q v H'
theorem pick_of {vs : List V} {H : Hp} {Q : VK} {E : XK} (h : spPick vs H Q E) : spPickA vs H Q E := by
  obtain ⟨p, q, a, xs, e, hP, ha, n1, n2, ne, lt, k⟩ := h
  exact ⟨p, q, a, xs, _, e, hP, ha, .inl ⟨rfl, n1, n2⟩, ne, lt, k⟩
def dD (d : Nat × Nat × Int) : PyData := .tuple [.int d.1, .int d.2.1, .int d.2.2]
def pD (l : List (Nat × Nat × Int)) : PyData := .tuple (l.map dD)
/-- a deed of a machine -/
structure DOk (ss : List Int) (ws : List (Nat × Nat)) (d : Nat × Nat × Int) : Prop where
  wire : (d.1, d.2.1) ∈ ws
  most : d.2.2.natAbs ≤ 10 ^ 60
  step : ∃ a b : Nat, ss[d.1]? = some (a : Int) ∧ ss[d.2.1]? = some (b : Int) ∧ ((stp a b : Nat) : Int) ∣ d.2.2
/-- contents of sizes -/
structure COk (ss hs : List Int) : Prop where
  len : hs.length = ss.length
  low : ∀ (i : Nat) (h s : Int), hs[i]? = some h → ss[i]? = some s → 0 ≤ h ∧ h < s
def spDeed : Sp := fun vs H Q _ => ∃ (p q : Addr) (v : V) (ss : List Int) (ws : List (Nat × Nat)), vs = [.ref p, v] ∧ Pt H p q ∧ Im H v (mD ss ws) ∧ MOk ss ws ∧ ws ≠ [] ∧
  ∀ (u : V) (d : Nat × Nat × Int) (H' : Hp), Im H' u (dD d) → DOk ss ws d → Pt H' p q → Kp p q H H' → Q u H'
def spProgram : Sp := fun vs H Q _ => ∃ (p q : Addr) (v : V) (ss : List Int) (ws : List (Nat × Nat)) (m : Nat), vs = [.ref p, v, .int m] ∧ Pt H p q ∧ Im H v (mD ss ws) ∧ MOk ss ws ∧ m ≤ 900 ∧
  ∀ (u : V) (l : List (Nat × Nat × Int)) (H' : Hp), Im H' u (pD l) → (∀ d ∈ l, DOk ss ws d) → l.length ≤ m → Pt H' p q → Kp p q H H' → Q u H'
def spContents : Sp := fun vs H Q _ => ∃ (p q : Addr) (v : V) (ss : List Int), vs = [.ref p, v] ∧ Pt H p q ∧ Im H v (sD ss) ∧ (∀ s ∈ ss, SizeOk s) ∧ ss.length ≤ 900 ∧
  ∀ (u : V) (hs : List Int) (H' : Hp), Im H' u (sD hs) → COk ss hs → Pt H' p q → Kp p q H H' → Q u H'
theorem SizeOk.nat {s : Int} (h : SizeOk s) : ∃ m : Nat, s = (m : Int) ∧ 2 ≤ m ∧ m ≤ 10 ^ 30 := by
  obtain ⟨m, e, a, b, _⟩ := h
  exact ⟨m, e, a, b⟩
theorem stp_le {a b : Nat} (hb : 0 < b) : 0 < stp a b ∧ stp a b ≤ b := ⟨stp_pos hb, Nat.div_le_self _ _⟩
/-- the law's own deed by deed, of any integers -/
def addI (ns : List Int) (d : Nat × Nat × Int) : List Int := ns.set d.2.1 (ns.getD d.2.1 0 + d.2.2 * ns.getD d.1 0)
def farI (l : List (Nat × Nat × Int)) (ns : List Int) : List Int := l.foldl addI ns
def remI (ns ss : List Int) : List Int := List.zipWith (fun n s => n % s) ns ss
def runI (ss : List Int) (l : List (Nat × Nat × Int)) (ns : List Int) : List Int := remI (farI l ns) ss
theorem addI_len (ns : List Int) (d : Nat × Nat × Int) : (addI ns d).length = ns.length := List.length_set ..
theorem farI_next {l : List (Nat × Nat × Int)} {ns : List Int} {i : Nat} {d : Nat × Nat × Int} (h : l[i]? = some d) : farI (l.take (i + 1)) ns = addI (farI (l.take i) ns) d := by
  unfold farI
  rw [List.take_add_one, h, List.foldl_append]
  rfl
def mostI (B : Nat) (ns : List Int) : Prop := ∀ n ∈ ns, n.natAbs < 2 ^ B
theorem getD_most {B : Nat} {ns : List Int} (h : mostI B ns) (i : Nat) : (ns.getD i 0).natAbs < 2 ^ B := by
  rw [List.getD_eq_getElem?_getD]
  cases e : ns[i]? with
  | none => exact Nat.pow_pos (by decide)
  | some x => exact h x (List.mem_of_getElem? e)
theorem addI_most {B : Nat} {ns : List Int} {d : Nat × Nat × Int} (h : mostI B ns) (hd : d.2.2.natAbs < 2 ^ 200) : mostI (B + 201) (addI ns d) := by
  intro n hn
  have up : 2 ^ B ≤ 2 ^ (B + 200) := Nat.pow_le_pow_right (by decide) (by omega)
  have e2 : 2 ^ (B + 201) = 2 ^ (B + 200) + 2 ^ (B + 200) := by rw [show B + 201 = B + 200 + 1 by omega, Nat.pow_succ]; omega
  rcases List.mem_or_eq_of_mem_set hn with m | e
  · have := h n m
    omega
  · have a := getD_most h d.2.1
    have b := getD_most h d.1
    have c : (d.2.2 * ns.getD d.1 0).natAbs < 2 ^ (B + 200) := by
      rw [Int.natAbs_mul, Nat.pow_add, Nat.mul_comm]
      exact Nat.mul_lt_mul'' b hd
    rw [e]
    have := Int.natAbs_add_le (ns.getD d.2.1 0) (d.2.2 * ns.getD d.1 0)
    omega
def spRunI (K : PySem.W.Frag) : Sp := fun vs H Q _ => ∃ (v u : V) (a : Addr) (ss ns : List Int) (l : List (Nat × Nat × Int)), vs = [v, u, .ref a] ∧ Im H v (sD ss) ∧ Im H u (pD l) ∧ (SqL K H a (ns.map V.int) ∨ SqT K H a (ns.map V.int)) ∧
  ns.length = ss.length ∧ ss.length ≤ 100 ∧ (∀ s ∈ ss, SizeOk s) ∧ (∀ d ∈ l, d.1 < ss.length ∧ d.2.1 < ss.length ∧ d.2.2.natAbs ≤ 10 ^ 60) ∧ l.length ≤ 1000 ∧ mostI 5000 ns ∧
  ∀ (y : V) (H' : Hp), Im H' y (sD (runI ss l ns)) → Same H H' → Q y H'
end NA
namespace NA
open PySem PySem.Spec PyProof.Rows L2
/-! ### tables: data and promises -/
def tD (t : List (List Int)) : PyData := .tuple (t.map sD)
def dot (row hs : List Int) : Int := (List.zipWith (fun e h => e * h) row hs).sum
def ledI (ss : List Int) (t : List (List Int)) (hs : List Int) : List Int := List.zipWith (fun row s => dot row hs % s) t ss
def colI (one : List (List Int)) (j : Nat) : List Int := one.map fun r => r.getD j 0
def bothI (ss : List Int) (one other : List (List Int)) : List (List Int) := List.zipWith (fun row s => (List.range ss.length).map fun j => dot row (colI one j) % s) other ss
def stillI (n : Nat) : List (List Int) := (List.range n).map fun i => (List.range n).map fun j => if i = j then 1 else 0
/-- as many rows as sizes, each as long, entries not too great -/
structure TSh (n : Nat) (t : List (List Int)) : Prop where
  len : t.length = n
  row : ∀ r ∈ t, r.length = n
  most : ∀ r ∈ t, mostI 300 r
/-- a table of sizes -/
structure TOk (ss : List Int) (t : List (List Int)) : Prop where
  len : t.length = ss.length
  row : ∀ r ∈ t, r.length = ss.length
  low : ∀ (i j : Nat) (r : List Int) (e s : Int), t[i]? = some r → r[j]? = some e → ss[i]? = some s → 0 ≤ e ∧ e < s
  step : ∀ (i j : Nat) (r : List Int) (e : Int), t[i]? = some r → r[j]? = some e → i ≠ j → ∃ a b : Nat, ss[j]? = some (a : Int) ∧ ss[i]? = some (b : Int) ∧ ((stp a b : Nat) : Int) ∣ e
theorem Im.row {H : Hp} {vs : List V} {t : List (List Int)} {i : Nat} {r : List Int} (h : ImAll H vs (t.map sD)) (e : t[i]? = some r) : ∃ a, vs[i]? = some (.ref a) ∧ H a = some (.tup (r.map V.int)) := by
  obtain ⟨v, h1, h2⟩ := h.get (i := i) (d := sD r) (by rw [List.getElem?_map, e]; rfl)
  obtain ⟨a, xs, rfl, ha, ix⟩ := h2.tuple
  have := ix.ints
  subst this
  exact ⟨a, h1, ha⟩
def spLed : Sp := fun vs H Q _ => ∃ (x y z : V) (ss : List Int) (t : List (List Int)) (hs : List Int), vs = [x, y, z] ∧ Im H x (sD ss) ∧ Im H y (tD t) ∧ Im H z (sD hs) ∧ (∀ s ∈ ss, SizeOk s) ∧ ss.length ≤ 100 ∧ TSh ss.length t ∧ hs.length = ss.length ∧ mostI 300 hs ∧
  ∀ (u : V) (H' : Hp), Im H' u (sD (ledI ss t hs)) → Same H H' → Q u H'
def spBoth : Sp := fun vs H Q _ => ∃ (x y z : V) (ss : List Int) (one other : List (List Int)), vs = [x, y, z] ∧ Im H x (sD ss) ∧ Im H y (tD one) ∧ Im H z (tD other) ∧ (∀ s ∈ ss, SizeOk s) ∧ ss.length ≤ 100 ∧ TSh ss.length one ∧ TSh ss.length other ∧
  ∀ (u : V) (H' : Hp), Im H' u (tD (bothI ss one other)) → Same H H' → Q u H'
def spStill : Sp := fun vs H Q _ => ∃ (x : V) (ss : List Int), vs = [x] ∧ Im H x (sD ss) ∧ ss.length ≤ 100 ∧ ∀ (u : V) (H' : Hp), Im H' u (tD (stillI ss.length)) → Same H H' → Q u H'
def spTable : Sp := fun vs H Q _ => ∃ (p q : Addr) (v : V) (ss : List Int), vs = [.ref p, v] ∧ Pt H p q ∧ Im H v (sD ss) ∧ (∀ s ∈ ss, SizeOk s) ∧ ss.length ≤ 100 ∧
  ∀ (u : V) (t : List (List Int)) (H' : Hp), Im H' u (tD t) → TOk ss t → Pt H' p q → Kp p q H H' → Q u H'
theorem mul_wide {a b : Int} {A B : Nat} (ha : a.natAbs < 2 ^ A) (hb : b.natAbs < 2 ^ B) (h : A + B + 2 ≤ 900000) : CMulW a b :=
  wide_mul (a := A + 1) (b := B + 1) (Nat.lt_of_lt_of_le ha (Nat.pow_le_pow_right (by decide) (by omega))) (Nat.lt_of_lt_of_le hb (Nat.pow_le_pow_right (by decide) (by omega))) (by omega) (by omega) (by omega)
/-! rows that are lists yet -/
structure Rws (p q R : Addr) (H : Hp) (rs : List Addr) (t : List (List Int)) : Prop where
  top : H R = some (.lst (rs.map V.ref))
  len : rs.length = t.length
  row : ∀ (i : Nat) (a : Addr), rs[i]? = some a → ∃ r, t[i]? = some r ∧ H a = some (.lst (r.map V.int))
  nd : rs.Nodup
  off : ∀ a ∈ rs, a ≠ R ∧ a ≠ p ∧ a ≠ q
theorem Rws.kp {p q R : Addr} {H H' : Hp} {rs : List Addr} {t : List (List Int)} (h : Rws p q R H rs t) (nR : R ≠ p ∧ R ≠ q) (k : Kp p q H H') : Rws p q R H' rs t :=
  ⟨k _ _ nR.1 nR.2 h.top, h.len, fun i a e => by
    obtain ⟨r, h1, h2⟩ := h.row i a e
    have o := h.off a (List.mem_of_getElem? e)
    exact ⟨r, h1, k _ _ o.2.1 o.2.2 h2⟩, h.nd, h.off⟩
theorem Rws.same {p q R : Addr} {H H' : Hp} {rs : List Addr} {t : List (List Int)} (h : Rws p q R H rs t) (k : Same H H') : Rws p q R H' rs t :=
  ⟨k _ _ h.top, h.len, fun i a e => by
    obtain ⟨r, h1, h2⟩ := h.row i a e
    exact ⟨r, h1, k _ _ h2⟩, h.nd, h.off⟩
theorem Rws.set {p q R : Addr} {H : Hp} {rs : List Addr} {t : List (List Int)} (h : Rws p q R H rs t) {i : Nat} {a : Addr} (e : rs[i]? = some a) (r : List Int) : Rws p q R (upd H a (.lst (r.map V.int))) rs (t.set i r) := by
  have o := h.off a (List.mem_of_getElem? e)
  refine ⟨?_, by rw [List.length_set]; exact h.len, fun j b eb => ?_, h.nd, h.off⟩
  · rw [upd_ne (Ne.symm o.1)]
    exact h.top
  · have li : i < t.length := by rw [← h.len]; exact (List.getElem?_eq_some_iff.mp e).1
    by_cases ij : i = j
    · subst ij
      rw [e] at eb
      cases eb
      exact ⟨r, by rw [List.getElem?_set_self li], upd_same⟩
    · obtain ⟨r', h1, h2⟩ := h.row j b eb
      refine ⟨r', by rw [List.getElem?_set_ne ij]; exact h1, ?_⟩
      have nb : b ≠ a := fun z => by
        subst z
        obtain ⟨l1, g1⟩ := List.getElem?_eq_some_iff.mp e
        obtain ⟨l2, g2⟩ := List.getElem?_eq_some_iff.mp eb
        rcases Nat.lt_or_gt_of_ne ij with lt | lt
        · exact (List.pairwise_iff_getElem.mp h.nd i j l1 l2 lt) (g1.trans g2.symm)
        · exact (List.pairwise_iff_getElem.mp h.nd j i l2 l1 lt) (g2.trans g1.symm)
      rw [upd_ne nb]
      exact h2
theorem Rws.put {p q R a : Addr} {H : Hp} {rs : List Addr} {t : List (List Int)} {r : List Int} (h : Rws p q R H rs t) (nR : R ≠ p ∧ R ≠ q) (ha : H a = some (.lst (r.map V.int))) (n1 : a ∉ rs) (n2 : a ≠ R ∧ a ≠ p ∧ a ≠ q) : Rws p q R (upd H R (.lst (rs.map V.ref ++ [.ref a]))) (rs ++ [a]) (t ++ [r]) := by
  refine ⟨by rw [upd_same, List.map_append]; rfl, by rw [List.length_append, List.length_append, h.len]; rfl, fun i b eb => ?_, ?_, fun b hb => ?_⟩
  · by_cases e : i < rs.length
    · rw [List.getElem?_append_left e] at eb
      obtain ⟨r', h1, h2⟩ := h.row i b eb
      have o := h.off b (List.mem_of_getElem? eb)
      exact ⟨r', by rw [List.getElem?_append_left (by rw [← h.len]; exact e)]; exact h1, by rw [upd_ne o.1]; exact h2⟩
    · rw [List.getElem?_append_right (by omega)] at eb
      have z : i - rs.length = 0 := by
        have := (List.getElem?_eq_some_iff.mp eb).1
        rw [List.length_singleton] at this
        omega
      rw [z] at eb
      cases eb
      refine ⟨r, by rw [List.getElem?_append_right (by have := h.len; omega), ← h.len, z]; rfl, by rw [upd_ne n2.1]; exact ha⟩
  · refine List.nodup_append.mpr ⟨h.nd, List.pairwise_singleton _ a, fun x hx y hy e => ?_⟩
    rw [List.mem_singleton.mp hy] at e
    exact n1 (e ▸ hx)
  · rcases List.mem_append.mp hb with hb | hb
    · exact h.off b hb
    · rw [List.mem_singleton.mp hb]
      exact n2
theorem stp_dvd (a b : Nat) : stp a b ∣ b := Nat.div_dvd_of_dvd (Nat.gcd_dvd_left b a)
theorem TOk.still {ss : List Int} (ok : ∀ s ∈ ss, SizeOk s) : TOk ss (stillI ss.length) := by
  have g : ∀ (i j : Nat) (r : List Int) (e : Int), (stillI ss.length)[i]? = some r → r[j]? = some e → i < ss.length ∧ j < ss.length ∧ e = if i = j then 1 else 0 := fun i j r e h1 h2 => by
    unfold stillI at h1
    rw [List.getElem?_map] at h1
    have li : i < ss.length := Nat.lt_of_not_le fun z => by
      rw [List.getElem?_eq_none (by rw [List.length_range]; exact z)] at h1
      cases h1
    rw [List.getElem?_eq_getElem (by rw [List.length_range]; exact li), List.getElem_range] at h1
    cases h1
    rw [List.getElem?_map] at h2
    have lj : j < ss.length := Nat.lt_of_not_le fun z => by
      rw [List.getElem?_eq_none (by rw [List.length_range]; exact z)] at h2
      cases h2
    rw [List.getElem?_eq_getElem (by rw [List.length_range]; exact lj), List.getElem_range] at h2
    cases h2
    exact ⟨li, lj, rfl⟩
  refine ⟨by unfold stillI; rw [List.length_map, List.length_range], fun r hr => ?_, fun i j r e s h1 h2 h3 => ?_, fun i j r e h1 h2 n => ?_⟩
  · obtain ⟨i, _, rfl⟩ := List.mem_map.mp hr
    rw [List.length_map, List.length_range]
  · obtain ⟨li, lj, rfl⟩ := g i j r e h1 h2
    obtain ⟨m, rfl, m2, _⟩ := (ok s (List.mem_of_getElem? h3)).nat
    split <;> omega
  · obtain ⟨li, lj, rfl⟩ := g i j r e h1 h2
    rw [if_neg n]
    obtain ⟨m, em, _⟩ := (ok ss[j] (List.getElem_mem lj)).nat
    obtain ⟨k, ek, _⟩ := (ok ss[i] (List.getElem_mem li)).nat
    exact ⟨m, k, by rw [List.getElem?_eq_getElem lj, em], by rw [List.getElem?_eq_getElem li, ek], Int.dvd_zero _⟩
theorem TOk.set {ss : List Int} {t : List (List Int)} (h : TOk ss t) {i j : Nat} {r : List Int} {e : Int} (hi : t[i]? = some r) (low : ∀ s, ss[i]? = some s → 0 ≤ e ∧ e < s) (st : i ≠ j → ∃ a b : Nat, ss[j]? = some (a : Int) ∧ ss[i]? = some (b : Int) ∧ ((stp a b : Nat) : Int) ∣ e) : TOk ss (t.set i (r.set j e)) := by
  have li : i < t.length := (List.getElem?_eq_some_iff.mp hi).1
  have g : ∀ (k l : Nat) (r' : List Int) (e' : Int), (t.set i (r.set j e))[k]? = some r' → r'[l]? = some e' → (k = i ∧ l = j ∧ e' = e) ∨ ∃ r'', t[k]? = some r'' ∧ r''[l]? = some e' := fun k l r' e' h1 h2 => by
    by_cases ik : i = k
    · subst ik
      rw [List.getElem?_set_self li] at h1
      cases h1
      by_cases jl : j = l
      · subst jl
        have lj : j < r.length := Nat.lt_of_not_le fun z => by
          rw [List.getElem?_eq_none (by rw [List.length_set]; exact z)] at h2
          cases h2
        rw [List.getElem?_set_self lj] at h2
        cases h2
        exact .inl ⟨rfl, rfl, rfl⟩
      · rw [List.getElem?_set_ne jl] at h2
        exact .inr ⟨r, hi, h2⟩
    · rw [List.getElem?_set_ne ik] at h1
      exact .inr ⟨r', h1, h2⟩
  refine ⟨by rw [List.length_set]; exact h.len, fun r' hr => ?_, fun k l r' e' s h1 h2 h3 => ?_, fun k l r' e' h1 h2 n => ?_⟩
  · rcases List.mem_or_eq_of_mem_set hr with m | m
    · exact h.row r' m
    · rw [m, List.length_set]
      exact h.row r (List.mem_of_getElem? hi)
  · rcases g k l r' e' h1 h2 with ⟨rfl, rfl, rfl⟩ | ⟨r'', a, b⟩
    · exact low s h3
    · exact h.low k l r'' e' s a b h3
  · rcases g k l r' e' h1 h2 with ⟨rfl, rfl, rfl⟩ | ⟨r'', a, b⟩
    · exact st n
    · exact h.step k l r'' e' a b n
end NA
namespace NA
/-! ### the mathematics of deeds -/
theorem mod_eq {a b s : Int} : a % s = b % s ↔ s ∣ a - b := by
  rw [Int.emod_eq_emod_iff_emod_sub_eq_zero, Int.dvd_iff_emod_eq_zero]
theorem stp_hit {a b : Nat} {c : Int} (h : ((stp a b : Nat) : Int) ∣ c) : (b : Int) ∣ c * (a : Int) := by
  obtain ⟨k, rfl⟩ := h
  have e : b ∣ stp a b * a := by
    unfold stp
    obtain ⟨t, ht⟩ := Nat.gcd_dvd_right b a
    refine ⟨t, ?_⟩
    have d := Nat.div_mul_cancel (Nat.gcd_dvd_left b a)
    calc b / Nat.gcd b a * a = b / Nat.gcd b a * (Nat.gcd b a * t) := by rw [← ht]
      _ = b / Nat.gcd b a * Nat.gcd b a * t := by rw [Nat.mul_assoc]
      _ = b * t := by rw [d]
  have e2 : (b : Int) ∣ ((stp a b : Nat) : Int) * (a : Int) := by
    rw [← Int.natCast_mul]
    exact Int.natCast_dvd_natCast.mpr e
  rw [Int.mul_assoc, Int.mul_comm k, ← Int.mul_assoc]
  exact Int.dvd_trans e2 (Int.dvd_mul_right _ _)
/-- alike modulo the sizes -/
structure Cg (ss ns ms : List Int) : Prop where
  l1 : ns.length = ss.length
  l2 : ms.length = ss.length
  alike : ∀ (i : Nat) (s : Int), ss[i]? = some s → s ∣ ns.getD i 0 - ms.getD i 0
theorem Cg.refl {ss ns : List Int} (h : ns.length = ss.length) : Cg ss ns ns := ⟨h, h, fun i s _ => by rw [Int.sub_self]; exact Int.dvd_zero _⟩
theorem Cg.symm {ss ns ms : List Int} (h : Cg ss ns ms) : Cg ss ms ns := ⟨h.l2, h.l1, fun i s e => by
  have := h.alike i s e
  rw [← Int.neg_sub]
  exact Int.dvd_neg.mpr this⟩
theorem Cg.trans {ss ns ms ks : List Int} (h : Cg ss ns ms) (g : Cg ss ms ks) : Cg ss ns ks := ⟨h.l1, g.l2, fun i s e => by
  have a := h.alike i s e
  have b := g.alike i s e
  have := Int.dvd_add a b
  rwa [show ns.getD i 0 - ms.getD i 0 + (ms.getD i 0 - ks.getD i 0) = ns.getD i 0 - ks.getD i 0 by omega] at this⟩
theorem getD_set {ns : List Int} {i j : Nat} {x : Int} (h : i < ns.length) : (ns.set i x).getD j 0 = if i = j then x else ns.getD j 0 := by
  rw [List.getD_eq_getElem?_getD, List.getD_eq_getElem?_getD]
  by_cases e : i = j
  · subst e
    rw [List.getElem?_set_self h, if_pos rfl]
    rfl
  · rw [List.getElem?_set_ne e, if_neg e]
/-- a deed with its places among the sizes -/
structure DIn (ss : List Int) (d : Nat × Nat × Int) : Prop where
  lj : d.1 < ss.length
  li : d.2.1 < ss.length
  ne : d.1 ≠ d.2.1
  hit : ∀ a b : Int, ss[d.1]? = some a → ss[d.2.1]? = some b → b ∣ d.2.2 * a
theorem DOk.din {ss : List Int} {ws : List (Nat × Nat)} {d : Nat × Nat × Int} (h : DOk ss ws d) (ok : MOk ss ws) : DIn ss d := by
  obtain ⟨a, b, c⟩ := ok.wires.low _ h.wire
  obtain ⟨x, y, hx, hy, st⟩ := h.step
  refine ⟨a, b, c, fun p q hp hq => ?_⟩
  rw [hx] at hp
  rw [hy] at hq
  cases hp
  cases hq
  exact stp_hit st
theorem addI_getD {ns : List Int} {d : Nat × Nat × Int} (h : d.2.1 < ns.length) (j : Nat) : (addI ns d).getD j 0 = if d.2.1 = j then ns.getD d.2.1 0 + d.2.2 * ns.getD d.1 0 else ns.getD j 0 := getD_set h
theorem get_some {ss : List Int} {i : Nat} (h : i < ss.length) : ∃ s, ss[i]? = some s := ⟨ss[i], List.getElem?_eq_getElem h⟩
theorem Cg.add {ss ns ms : List Int} {d : Nat × Nat × Int} (h : Cg ss ns ms) (hd : DIn ss d) : Cg ss (addI ns d) (addI ms d) := by
  refine ⟨by rw [addI_len, h.l1], by rw [addI_len, h.l2], fun k s e => ?_⟩
  rw [addI_getD (by rw [h.l1]; exact hd.li), addI_getD (by rw [h.l2]; exact hd.li)]
  by_cases z : d.2.1 = k
  · subst z
    rw [if_pos rfl, if_pos rfl]
    obtain ⟨a, ha⟩ := get_some hd.lj
    obtain ⟨t, ht⟩ := h.alike d.1 a ha
    have e1 := h.alike _ s e
    have e2 : s ∣ d.2.2 * (ns.getD d.1 0 - ms.getD d.1 0) := by
      rw [ht, ← Int.mul_assoc]
      exact Int.dvd_trans (hd.hit a s ha e) (Int.dvd_mul_right _ _)
    have := Int.dvd_add e1 e2
    rwa [show ns.getD d.2.1 0 - ms.getD d.2.1 0 + d.2.2 * (ns.getD d.1 0 - ms.getD d.1 0) = ns.getD d.2.1 0 + d.2.2 * ns.getD d.1 0 - (ms.getD d.2.1 0 + d.2.2 * ms.getD d.1 0) by rw [Int.mul_sub]; omega] at this
  · rw [if_neg z, if_neg z]
    exact h.alike k s e
theorem Cg.far {ss : List Int} {l : List (Nat × Nat × Int)} (hl : ∀ d ∈ l, DIn ss d) : ∀ {ns ms : List Int}, Cg ss ns ms → Cg ss (farI l ns) (farI l ms) := by
  induction l with
  | nil => exact fun h => h
  | cons d l ih => exact fun h => ih (fun x hx => hl x (List.mem_cons_of_mem _ hx)) (h.add (hl d List.mem_cons_self))
theorem remI_getD {ns ss : List Int} {i : Nat} {s : Int} (h : ns.length = ss.length) (e : ss[i]? = some s) : (remI ns ss).getD i 0 = ns.getD i 0 % s := by
  have li := (List.getElem?_eq_some_iff.mp e).1
  have z : ns[i]? = some (ns.getD i 0) := by
    rw [List.getD_eq_getElem?_getD, List.getElem?_eq_getElem (by omega)]
    rfl
  rw [List.getD_eq_getElem?_getD]
  unfold remI
  rw [List.getElem?_zipWith, z, e]
  rfl
theorem remI_length {ns ss : List Int} (h : ns.length = ss.length) : (remI ns ss).length = ss.length := by
  unfold remI
  rw [List.length_zipWith]
  omega
theorem ext_getD {ns ms : List Int} (h : ns.length = ms.length) (e : ∀ i, i < ns.length → ns.getD i 0 = ms.getD i 0) : ns = ms := by
  refine List.ext_getElem h fun i h1 h2 => ?_
  have := e i h1
  rwa [List.getD_eq_getElem?_getD, List.getD_eq_getElem?_getD, List.getElem?_eq_getElem h1, List.getElem?_eq_getElem h2] at this
theorem Cg.rem {ss ns ms : List Int} (h : Cg ss ns ms) : remI ns ss = remI ms ss := by
  refine ext_getD (by rw [remI_length h.l1, remI_length h.l2]) fun i hi => ?_
  rw [remI_length h.l1] at hi
  obtain ⟨s, hs⟩ := get_some hi
  rw [remI_getD h.l1 hs, remI_getD h.l2 hs]
  exact mod_eq.mpr (h.alike i s hs)
theorem cg_rem {ss ns : List Int} (h : ns.length = ss.length) : Cg ss (remI ns ss) ns := ⟨remI_length h, h, fun i s e => by
  rw [remI_getD h e, Int.emod_def]
  exact ⟨-(ns.getD i 0 / s), by rw [Int.mul_neg]; omega⟩⟩
theorem rem_of {ss hs : List Int} (h : COk ss hs) : remI hs ss = hs := by
  refine ext_getD (by rw [remI_length h.len, h.len]) fun i hi => ?_
  rw [remI_length h.len] at hi
  obtain ⟨s, es⟩ := get_some hi
  rw [remI_getD h.len es]
  obtain ⟨x, ex⟩ := get_some (show i < hs.length by rw [h.len]; exact hi)
  obtain ⟨a, b⟩ := h.low i x s ex es
  rw [List.getD_eq_getElem?_getD, ex]
  exact Int.emod_eq_of_lt a b
theorem rem_cok {ss ns : List Int} (ok : ∀ s ∈ ss, SizeOk s) (h : ns.length = ss.length) : COk ss (remI ns ss) := by
  refine ⟨remI_length h, fun i x s ex es => ?_⟩
  have := remI_getD h es
  rw [List.getD_eq_getElem?_getD, ex] at this
  obtain ⟨m, rfl, m2, _⟩ := (ok s (List.mem_of_getElem? es)).nat
  have e : x = ns.getD i 0 % (m : Int) := this
  rw [e]
  exact ⟨Int.emod_nonneg _ (by omega), Int.emod_lt_of_pos _ (by omega)⟩
/-- deed by deed, each register modulo its size -/
def doneI (ss hs : List Int) (d : Nat × Nat × Int) : List Int := remI (addI hs d) ss
def runP (ss : List Int) (l : List (Nat × Nat × Int)) (hs : List Int) : List Int := l.foldl (doneI ss) hs
theorem runP_cg {ss : List Int} {l : List (Nat × Nat × Int)} (hl : ∀ d ∈ l, DIn ss d) : ∀ {hs ns : List Int}, Cg ss hs ns → Cg ss (runP ss l hs) (farI l ns) := by
  induction l with
  | nil => exact fun h => h
  | cons d l ih =>
    intro hs ns h
    have a := h.add (hl d List.mem_cons_self)
    exact ih (fun x hx => hl x (List.mem_cons_of_mem _ hx)) ((cg_rem a.l1).trans a)
theorem runP_cok {ss : List Int} (ok : ∀ s ∈ ss, SizeOk s) {l : List (Nat × Nat × Int)} : ∀ {hs : List Int}, COk ss hs → COk ss (runP ss l hs) := by
  induction l with
  | nil => exact fun h => h
  | cons d l ih => exact fun h => ih (rem_cok ok (by rw [addI_len, h.len]))
/-- what deeds do one by one is what they do in the whole -/
theorem runP_eq {ss : List Int} (ok : ∀ s ∈ ss, SizeOk s) {l : List (Nat × Nat × Int)} (hl : ∀ d ∈ l, DIn ss d) {hs ns : List Int} (h : COk ss hs) (g : Cg ss hs ns) : runP ss l hs = runI ss l ns := by
  have a := runP_cg hl g
  have b := rem_of (runP_cok (l := l) ok h)
  rw [← b]
  exact a.rem
/-- backward -/
def backI (l : List (Nat × Nat × Int)) : List (Nat × Nat × Int) := (l.map fun d => (d.1, d.2.1, -d.2.2)).reverse
theorem DIn.neg {ss : List Int} {d : Nat × Nat × Int} (h : DIn ss d) : DIn ss (d.1, d.2.1, -d.2.2) := ⟨h.lj, h.li, h.ne, fun a b ha hb => by
  rw [Int.neg_mul]
  exact Int.dvd_neg.mpr (h.hit a b ha hb)⟩
theorem add_back {ns : List Int} {d : Nat × Nat × Int} (hj : d.2.1 < ns.length) (ne : d.1 ≠ d.2.1) : addI (addI ns d) (d.1, d.2.1, -d.2.2) = ns := by
  refine ext_getD (by rw [addI_len, addI_len]) fun k hk => ?_
  rw [addI_getD (by rw [addI_len]; exact hj)]
  by_cases e : d.2.1 = k
  · rw [if_pos e, addI_getD hj, addI_getD hj, if_pos rfl, if_neg (Ne.symm ne), ← e, Int.neg_mul]
    dsimp only
    omega
  · rw [if_neg e, addI_getD hj, if_neg e]
theorem far_app (l m : List (Nat × Nat × Int)) (ns : List Int) : farI (l ++ m) ns = farI m (farI l ns) := List.foldl_append
theorem far_back {ss : List Int} {l : List (Nat × Nat × Int)} (hl : ∀ d ∈ l, DIn ss d) : ∀ {ns : List Int}, ns.length = ss.length → farI (backI l) (farI l ns) = ns := by
  induction l with
  | nil => exact fun _ => rfl
  | cons d l ih =>
    intro ns h
    have a := ih (fun x hx => hl x (List.mem_cons_of_mem _ hx)) (ns := addI ns d) (by rw [addI_len, h])
    have dd := hl d List.mem_cons_self
    have e : backI (d :: l) = backI l ++ [(d.1, d.2.1, -d.2.2)] := by
      unfold backI
      rw [List.map_cons, List.reverse_cons]
    rw [e, far_app]
    show addI (farI (backI l) (farI l (addI ns d))) _ = ns
    rw [a]
    exact add_back (by rw [h]; exact dd.li) dd.ne
theorem back_din {ss : List Int} {l : List (Nat × Nat × Int)} (hl : ∀ d ∈ l, DIn ss d) : ∀ d ∈ backI l, DIn ss d := fun d hd => by
  unfold backI at hd
  obtain ⟨x, hx, rfl⟩ := List.mem_map.mp (List.mem_reverse.mp hd)
  exact (hl x hx).neg
theorem runP_back {ss : List Int} (ok : ∀ s ∈ ss, SizeOk s) {l : List (Nat × Nat × Int)} (hl : ∀ d ∈ l, DIn ss d) {hs : List Int} (h : COk ss hs) : runP ss (backI l) (runP ss l hs) = hs := by
  have a := runP_cg hl (Cg.refl h.len)
  rw [runP_eq ok (back_din hl) (runP_cok ok h) a]
  unfold runI
  rw [far_back hl h.len, rem_of h]
/-- sums -/
def sumI (ns ms : List Int) : List Int := List.zipWith (fun a b => a + b) ns ms
theorem sumI_len {ns ms : List Int} {n : Nat} (h : ns.length = n) (g : ms.length = n) : (sumI ns ms).length = n := by
  unfold sumI
  rw [List.length_zipWith]
  omega
theorem sumI_getD {ns ms : List Int} (h : ns.length = ms.length) (i : Nat) : (sumI ns ms).getD i 0 = ns.getD i 0 + ms.getD i 0 := by
  rw [List.getD_eq_getElem?_getD, List.getD_eq_getElem?_getD, List.getD_eq_getElem?_getD]
  unfold sumI
  rw [List.getElem?_zipWith]
  by_cases e : i < ns.length
  · rw [List.getElem?_eq_getElem e, List.getElem?_eq_getElem (by omega)]
    rfl
  · rw [List.getElem?_eq_none (by omega), List.getElem?_eq_none (by omega)]
    rfl
theorem add_sum {ns ms : List Int} {d : Nat × Nat × Int} (h : ns.length = ms.length) (hi : d.2.1 < ns.length) : addI (sumI ns ms) d = sumI (addI ns d) (addI ms d) := by
  have l1 : (sumI ns ms).length = ns.length := sumI_len rfl h.symm
  refine ext_getD (by rw [addI_len, l1, sumI_len (addI_len ns d) (by rw [addI_len, h])]) fun k hk => ?_
  rw [addI_getD (by omega), sumI_getD (ns := addI ns d) (ms := addI ms d) (by rw [addI_len, addI_len, h]), addI_getD hi, addI_getD (ns := ms) (by omega), sumI_getD h, sumI_getD h, sumI_getD h, Int.mul_add]
  split <;> omega
theorem far_sum {l : List (Nat × Nat × Int)} : ∀ {ns ms : List Int}, ns.length = ms.length → (∀ d ∈ l, d.2.1 < ns.length) → farI l (sumI ns ms) = sumI (farI l ns) (farI l ms) := by
  induction l with
  | nil => exact fun _ _ => rfl
  | cons d l ih =>
    intro ns ms h hl
    show farI l (addI (sumI ns ms) d) = sumI (farI l (addI ns d)) (farI l (addI ms d))
    rw [add_sum h (hl d List.mem_cons_self)]
    exact ih (by rw [addI_len, addI_len, h]) fun x hx => by rw [addI_len]; exact hl x (List.mem_cons_of_mem _ hx)
end NA
namespace NA
/-! ### sums -/
def sumF : Nat → (Nat → Int) → Int
  | 0, _ => 0
  | n + 1, F => F 0 + sumF n fun k => F (k + 1)
theorem sumF_congr : ∀ {n : Nat} {F G : Nat → Int}, (∀ k, k < n → F k = G k) → sumF n F = sumF n G
  | 0, _, _, _ => rfl
  | n + 1, F, G, h => by
    show F 0 + _ = G 0 + _
    rw [h 0 (by omega), sumF_congr fun k hk => h (k + 1) (by omega)]
theorem sumF_add : ∀ (n : Nat) (F G : Nat → Int), sumF n (fun k => F k + G k) = sumF n F + sumF n G
  | 0, _, _ => rfl
  | n + 1, F, G => by
    show F 0 + G 0 + sumF n (fun k => F (k + 1) + G (k + 1)) = F 0 + sumF n _ + (G 0 + sumF n _)
    rw [sumF_add n]
    omega
theorem sumF_mul (c : Int) : ∀ (n : Nat) (F : Nat → Int), sumF n (fun k => c * F k) = c * sumF n F
  | 0, _ => by show (0 : Int) = c * 0; rw [Int.mul_zero]
  | n + 1, F => by
    show c * F 0 + sumF n (fun k => c * F (k + 1)) = c * (F 0 + sumF n _)
    rw [sumF_mul c n, Int.mul_add]
theorem sumF_zero : ∀ (n : Nat), sumF n (fun _ => 0) = 0
  | 0 => rfl
  | n + 1 => by
    show (0 : Int) + sumF n (fun _ => 0) = 0
    rw [sumF_zero n]
    rfl
theorem sumF_swap : ∀ (n m : Nat) (F : Nat → Nat → Int), sumF n (fun j => sumF m fun k => F j k) = sumF m (fun k => sumF n fun j => F j k)
  | 0, m, F => (sumF_zero m).symm
  | n + 1, m, F => by
    show sumF m (fun k => F 0 k) + sumF n (fun j => sumF m fun k => F (j + 1) k) = sumF m (fun k => F 0 k + sumF n fun j => F (j + 1) k)
    rw [sumF_add, sumF_swap n]
theorem sumF_dvd {s : Int} : ∀ {n : Nat} {F : Nat → Int}, (∀ k, k < n → s ∣ F k) → s ∣ sumF n F
  | 0, _, _ => Int.dvd_zero _
  | n + 1, F, h => Int.dvd_add (h 0 (by omega)) (sumF_dvd fun k hk => h (k + 1) (by omega))
theorem sumF_alike {s : Int} {n : Nat} {F G : Nat → Int} (h : ∀ k, k < n → s ∣ F k - G k) : s ∣ sumF n F - sumF n G := by
  have := sumF_dvd h
  rw [show sumF n (fun k => F k - G k) = sumF n F - sumF n G from ?_] at this
  · exact this
  · have e := sumF_add n (fun k => F k - G k) G
    rw [show (fun k => F k - G k + G k) = F from funext fun k => by omega] at e
    omega
theorem sumF_one (n i : Nat) (F : Nat → Int) (h : i < n) : sumF n (fun k => (if i = k then 1 else 0) * F k) = F i := by
  induction n generalizing i F with
  | zero => omega
  | succ n ih =>
    show (if i = 0 then 1 else 0) * F 0 + sumF n (fun k => (if i = k + 1 then 1 else 0) * F (k + 1)) = F i
    cases i with
    | zero =>
      rw [if_pos rfl, sumF_congr (G := fun _ => 0) fun k _ => by rw [if_neg (by omega), Int.zero_mul], sumF_zero]
      omega
    | succ i =>
      rw [if_neg (by omega), sumF_congr (G := fun k => (if i = k then 1 else 0) * F (k + 1)) fun k _ => by
        by_cases e : i = k
        · rw [if_pos e, if_pos (by omega)]
        · rw [if_neg e, if_neg (by omega)], ih i (fun k => F (k + 1)) (by omega)]
      omega
theorem dot_sum : ∀ {row hs : List Int} {n : Nat}, row.length = n → hs.length = n → dot row hs = sumF n fun k => row.getD k 0 * hs.getD k 0
  | [], [], _, e, _ => by subst e; rfl
  | r :: row, h :: hs, n + 1, e1, e2 => by
    have a := dot_sum (row := row) (hs := hs) (n := n) (by simpa using e1) (by simpa using e2)
    unfold dot at a ⊢
    rw [List.zipWith_cons_cons, List.sum_cons, a]
    rfl
  | [], _ :: _, _, e1, e2 => by rw [← e1] at e2; cases e2
  | _ :: _, [], _, e1, e2 => by rw [← e1] at e2; cases e2
  | _ :: _, _ :: _, 0, e1, _ => by cases e1
/-! ### tables by their entries -/
def en (t : List (List Int)) (i j : Nat) : Int := (t.getD i []).getD j 0
theorem en_of {t : List (List Int)} {i : Nat} {r : List Int} (h : t[i]? = some r) (j : Nat) : en t i j = r.getD j 0 := by
  unfold en
  have e : t.getD i [] = r := by
    rw [List.getD_eq_getElem?_getD, h]
    rfl
  rw [e]
/-- of the right form -/
structure Sq (n : Nat) (t : List (List Int)) : Prop where
  len : t.length = n
  row : ∀ r ∈ t, r.length = n
theorem TOk.sq {ss : List Int} {t : List (List Int)} (h : TOk ss t) : Sq ss.length t := ⟨h.len, h.row⟩
theorem Sq.get {n : Nat} {t : List (List Int)} (h : Sq n t) {i : Nat} (hi : i < n) : ∃ r, t[i]? = some r ∧ r.length = n := by
  have hi' : i < t.length := by rw [h.len]; exact hi
  exact ⟨t[i], List.getElem?_eq_getElem hi', h.row _ (List.getElem_mem hi')⟩
theorem sq_ext {n : Nat} {t u : List (List Int)} (a : Sq n t) (b : Sq n u) (e : ∀ i j, i < n → j < n → en t i j = en u i j) : t = u := by
  refine List.ext_getElem (by rw [a.len, b.len]) fun i h1 h2 => ?_
  have hi : i < n := by rw [← a.len]; exact h1
  refine ext_getD (by rw [a.row _ (List.getElem_mem h1), b.row _ (List.getElem_mem h2)]) fun j hj => ?_
  have := e i j hi (by rw [← a.row _ (List.getElem_mem h1)]; exact hj)
  rwa [en_of (List.getElem?_eq_getElem h1), en_of (List.getElem?_eq_getElem h2)] at this
theorem led_getD {ss : List Int} {t : List (List Int)} {hs : List Int} (q : Sq ss.length t) (lh : hs.length = ss.length) {i : Nat} {s : Int} (e : ss[i]? = some s) : (ledI ss t hs).getD i 0 = (sumF ss.length fun j => en t i j * hs.getD j 0) % s := by
  have hi := (List.getElem?_eq_some_iff.mp e).1
  obtain ⟨r, hr, rl⟩ := q.get hi
  rw [List.getD_eq_getElem?_getD]
  unfold ledI
  rw [List.getElem?_zipWith, hr, e]
  show dot r hs % s = _
  rw [dot_sum rl lh]
  congr 1
  exact sumF_congr fun j _ => by rw [en_of hr]
theorem led_len {ss : List Int} {t : List (List Int)} {hs : List Int} (q : Sq ss.length t) : (ledI ss t hs).length = ss.length := by
  unfold ledI
  rw [List.length_zipWith, q.len, Nat.min_self]
theorem both_get {ss : List Int} {one other : List (List Int)} {i : Nat} {r : List Int} {s : Int} (hr : other[i]? = some r) (e : ss[i]? = some s) : (bothI ss one other)[i]? = some ((List.range ss.length).map fun j => dot r (colI one j) % s) := by
  unfold bothI
  rw [List.getElem?_zipWith, hr, e]
theorem both_sq {ss : List Int} {one other : List (List Int)} (q : Sq ss.length other) : Sq ss.length (bothI ss one other) := by
  have l : (bothI ss one other).length = ss.length := by
    unfold bothI
    rw [List.length_zipWith, q.len, Nat.min_self]
  refine ⟨l, fun r hr => ?_⟩
  obtain ⟨i, hi, rfl⟩ := List.getElem_of_mem hr
  obtain ⟨s, es⟩ := get_some (show i < ss.length by omega)
  obtain ⟨r0, hr0, _⟩ := q.get (show i < ss.length by omega)
  have := both_get (one := one) hr0 es
  rw [List.getElem?_eq_getElem hi] at this
  rw [Option.some.inj this, List.length_map, List.length_range]
theorem both_en {ss : List Int} {one other : List (List Int)} (q1 : Sq ss.length one) (q2 : Sq ss.length other) {i j : Nat} {s : Int} (e : ss[i]? = some s) (hj : j < ss.length) : en (bothI ss one other) i j = (sumF ss.length fun k => en other i k * en one k j) % s := by
  have hi := (List.getElem?_eq_some_iff.mp e).1
  obtain ⟨r, hr, rl⟩ := q2.get hi
  rw [en_of (both_get hr e), List.getD_eq_getElem?_getD, List.getElem?_map, List.getElem?_eq_getElem (by rw [List.length_range]; exact hj), List.getElem_range]
  show dot r (colI one j) % s = _
  rw [dot_sum (n := ss.length) rl (by unfold colI; rw [List.length_map, q1.len])]
  congr 1
  refine sumF_congr fun k hk => ?_
  obtain ⟨r1, hr1, _⟩ := q1.get hk
  rw [en_of hr, en_of hr1]
  congr 1
  rw [List.getD_eq_getElem?_getD]
  unfold colI
  rw [List.getElem?_map, hr1]
  rfl
/-- entries that give what they must -/
def Hit (ss : List Int) (t : List (List Int)) : Prop := ∀ (i j : Nat) (s r : Int), ss[i]? = some s → ss[j]? = some r → s ∣ en t i j * r
theorem TOk.hit {ss : List Int} {t : List (List Int)} (h : TOk ss t) : Hit ss t := by
  intro i j s r hs hr
  by_cases e : i = j
  · subst e
    rw [hs] at hr
    cases hr
    exact Int.dvd_mul_left _ _
  · obtain ⟨row, hrow, rl⟩ := h.sq.get (List.getElem?_eq_some_iff.mp hs).1
    have hj := (List.getElem?_eq_some_iff.mp hr).1
    have ej : row[j]? = some (row.getD j 0) := by
      rw [List.getD_eq_getElem?_getD, List.getElem?_eq_getElem (by omega)]
      rfl
    obtain ⟨a, b, ha, hb, st⟩ := h.step i j row _ hrow ej e
    rw [hr] at ha
    rw [hs] at hb
    cases ha
    cases hb
    rw [en_of hrow]
    exact stp_hit st
/-- the sums over rests are alike the sums over what left them -/
theorem hit_sum {ss : List Int} {t : List (List Int)} (h : Hit ss t) {i : Nat} {s : Int} (e : ss[i]? = some s) {F G : Nat → Int} (fg : ∀ (k : Nat) (r : Int), ss[k]? = some r → r ∣ F k - G k) : s ∣ (sumF ss.length fun k => en t i k * F k) - sumF ss.length fun k => en t i k * G k := by
  refine sumF_alike fun k hk => ?_
  obtain ⟨r, hr⟩ := get_some hk
  obtain ⟨x, hx⟩ := fg k r hr
  rw [← Int.mul_sub, hx, ← Int.mul_assoc]
  exact Int.dvd_trans (h i k s r e hr) (Int.dvd_mul_right _ _)
theorem mod_sub (a s : Int) : s ∣ a % s - a := by
  rw [Int.emod_def]
  exact ⟨-(a / s), by rw [Int.mul_neg]; omega⟩
theorem dvd_sub_comm {a b s : Int} (h : s ∣ a - b) : s ∣ b - a := by
  rw [← Int.neg_sub]
  exact Int.dvd_neg.mpr h
theorem mod_congr {a b s : Int} (h : s ∣ a - b) : a % s = b % s := mod_eq.mpr h
/-- one table behind another leads as the one and then the other -/
theorem led_both {ss : List Int} {one other : List (List Int)} {hs : List Int} (q1 : Sq ss.length one) (q2 : Sq ss.length other) (h2 : Hit ss other) (lh : hs.length = ss.length) : ledI ss (bothI ss one other) hs = ledI ss other (ledI ss one hs) := by
  refine ext_getD (by rw [led_len (both_sq q2), led_len q2]) fun i hi => ?_
  rw [led_len (both_sq q2)] at hi
  obtain ⟨s, es⟩ := get_some hi
  rw [led_getD (both_sq q2) lh es, led_getD q2 (led_len q1) es]
  refine mod_congr ?_
  -- both are alike the double sum
  have a : s ∣ (sumF ss.length fun j => en (bothI ss one other) i j * hs.getD j 0) - sumF ss.length fun j => (sumF ss.length fun k => en other i k * en one k j) * hs.getD j 0 := by
    refine sumF_alike fun j hj => ?_
    rw [both_en q1 q2 es hj, ← Int.sub_mul]
    exact Int.dvd_trans (mod_sub _ _) (Int.dvd_mul_right _ _)
  have b : s ∣ (sumF ss.length fun k => en other i k * (ledI ss one hs).getD k 0) - sumF ss.length fun k => en other i k * sumF ss.length fun j => en one k j * hs.getD j 0 :=
    hit_sum h2 es fun k r hr => by
      rw [led_getD q1 lh hr]
      exact mod_sub _ _
  have c : (sumF ss.length fun j => (sumF ss.length fun k => en other i k * en one k j) * hs.getD j 0) = sumF ss.length fun k => en other i k * sumF ss.length fun j => en one k j * hs.getD j 0 := by
    rw [sumF_congr (G := fun j => sumF ss.length fun k => en other i k * (en one k j * hs.getD j 0)) fun j _ => by
      rw [Int.mul_comm, ← sumF_mul]
      exact sumF_congr fun k _ => by rw [Int.mul_comm, Int.mul_assoc], sumF_swap]
    exact sumF_congr fun k _ => sumF_mul _ _ _
  rw [c] at a
  have := Int.dvd_add a (dvd_sub_comm b)
  rwa [show ∀ x y z : Int, x - y + (y - z) = x - z from fun x y z => by omega] at this
theorem both_hit {ss : List Int} {one other : List (List Int)} (q1 : Sq ss.length one) (q2 : Sq ss.length other) (h1 : Hit ss one) (h2 : Hit ss other) : Hit ss (bothI ss one other) := by
  intro i j s r hs hr
  have hj := (List.getElem?_eq_some_iff.mp hr).1
  rw [both_en q1 q2 hs hj]
  have a : s ∣ (sumF ss.length fun k => en other i k * en one k j) * r := by
    rw [Int.mul_comm, ← sumF_mul]
    refine sumF_dvd fun k hk => ?_
    obtain ⟨x, hx⟩ := get_some hk
    obtain ⟨y, hy⟩ := h1 k j x r hx hr
    have e : r * (en other i k * en one k j) = en other i k * x * y := by
      rw [Int.mul_comm, Int.mul_assoc, hy, Int.mul_assoc]
    rw [e]
    exact Int.dvd_trans (h2 i k s x hs hx) (Int.dvd_mul_right _ _)
  have b : s ∣ ((sumF ss.length fun k => en other i k * en one k j) % s - sumF ss.length fun k => en other i k * en one k j) * r := Int.dvd_trans (mod_sub _ _) (Int.dvd_mul_right _ _)
  rw [Int.sub_mul] at b
  have := Int.dvd_add b a
  rwa [show ∀ x y : Int, x - y + y = x from fun x y => by omega] at this
theorem both_assoc {ss : List Int} {one other third : List (List Int)} (q1 : Sq ss.length one) (q2 : Sq ss.length other) (q3 : Sq ss.length third) (h3 : Hit ss third) : bothI ss (bothI ss one other) third = bothI ss one (bothI ss other third) := by
  refine sq_ext (both_sq q3) (both_sq (both_sq q3)) fun i j hi hj => ?_
  obtain ⟨s, es⟩ := get_some hi
  rw [both_en (both_sq q2) q3 es hj, both_en q1 (both_sq q3) es hj]
  refine mod_congr ?_
  have a : s ∣ (sumF ss.length fun k => en third i k * en (bothI ss one other) k j) - sumF ss.length fun k => en third i k * sumF ss.length fun l => en other k l * en one l j :=
    hit_sum h3 es fun k r hr => by
      rw [both_en q1 q2 hr hj]
      exact mod_sub _ _
  have b : s ∣ (sumF ss.length fun l => en (bothI ss other third) i l * en one l j) - sumF ss.length fun l => (sumF ss.length fun k => en third i k * en other k l) * en one l j := by
    refine sumF_alike fun l hl => ?_
    rw [both_en q2 q3 es hl, ← Int.sub_mul]
    exact Int.dvd_trans (mod_sub _ _) (Int.dvd_mul_right _ _)
  have c : (sumF ss.length fun l => (sumF ss.length fun k => en third i k * en other k l) * en one l j) = sumF ss.length fun k => en third i k * sumF ss.length fun l => en other k l * en one l j := by
    rw [sumF_congr (G := fun l => sumF ss.length fun k => en third i k * (en other k l * en one l j)) fun l _ => by
      rw [Int.mul_comm, ← sumF_mul]
      exact sumF_congr fun k _ => by rw [Int.mul_comm, Int.mul_assoc], sumF_swap]
    exact sumF_congr fun k _ => sumF_mul _ _ _
  rw [c] at b
  have := Int.dvd_add a (dvd_sub_comm b)
  rwa [show ∀ x y z : Int, x - y + (y - z) = x - z from fun x y z => by omega] at this
theorem still_sq (n : Nat) : Sq n (stillI n) := ⟨by unfold stillI; rw [List.length_map, List.length_range], fun r hr => by
  unfold stillI at hr
  obtain ⟨i, _, rfl⟩ := List.mem_map.mp hr
  rw [List.length_map, List.length_range]⟩
theorem still_en {n i j : Nat} (hi : i < n) (hj : j < n) : en (stillI n) i j = if i = j then 1 else 0 := by
  have e : (stillI n)[i]? = some ((List.range n).map fun j => if i = j then 1 else 0) := by
    unfold stillI
    rw [List.getElem?_map, List.getElem?_eq_getElem (by rw [List.length_range]; exact hi), List.getElem_range]
    rfl
  rw [en_of e, List.getD_eq_getElem?_getD, List.getElem?_map, List.getElem?_eq_getElem (by rw [List.length_range]; exact hj), List.getElem_range]
  rfl
theorem led_still {ss hs : List Int} (h : COk ss hs) : ledI ss (stillI ss.length) hs = hs := by
  refine ext_getD (by rw [led_len (still_sq _), h.len]) fun i hi => ?_
  rw [led_len (still_sq _)] at hi
  obtain ⟨s, es⟩ := get_some hi
  rw [led_getD (still_sq _) h.len es, sumF_congr (G := fun j => (if i = j then 1 else 0) * hs.getD j 0) fun j hj => by rw [still_en hi hj], sumF_one _ _ _ hi]
  obtain ⟨x, ex⟩ := get_some (show i < hs.length by rw [h.len]; exact hi)
  obtain ⟨a, b⟩ := h.low i x s ex es
  rw [List.getD_eq_getElem?_getD, ex]
  exact Int.emod_eq_of_lt a b
/-- entries from 0 below the size of their row -/
def Low (ss : List Int) (t : List (List Int)) : Prop := ∀ (i j : Nat) (s : Int), ss[i]? = some s → j < ss.length → 0 ≤ en t i j ∧ en t i j < s
theorem TOk.lowE {ss : List Int} {t : List (List Int)} (h : TOk ss t) : Low ss t := by
  intro i j s hs hj
  obtain ⟨row, hrow, rl⟩ := h.sq.get (List.getElem?_eq_some_iff.mp hs).1
  have ej : row[j]? = some (row.getD j 0) := by
    rw [List.getD_eq_getElem?_getD, List.getElem?_eq_getElem (by omega)]
    rfl
  rw [en_of hrow]
  exact h.low i j row _ s hrow ej hs
theorem both_low {ss : List Int} {one other : List (List Int)} (ok : ∀ s ∈ ss, SizeOk s) (q1 : Sq ss.length one) (q2 : Sq ss.length other) : Low ss (bothI ss one other) := by
  intro i j s hs hj
  rw [both_en q1 q2 hs hj]
  obtain ⟨m, rfl, m2, _⟩ := (ok s (List.mem_of_getElem? hs)).nat
  exact ⟨Int.emod_nonneg _ (by omega), Int.emod_lt_of_pos _ (by omega)⟩
theorem both_still {ss : List Int} {t : List (List Int)} (q : Sq ss.length t) (l : Low ss t) : bothI ss t (stillI ss.length) = t := by
  refine sq_ext (both_sq (still_sq _)) q fun i j hi hj => ?_
  obtain ⟨s, es⟩ := get_some hi
  rw [both_en q (still_sq _) es hj, sumF_congr (G := fun k => (if i = k then 1 else 0) * en t k j) fun k hk => by rw [still_en hi hk], sumF_one _ _ _ hi]
  obtain ⟨a, b⟩ := l i j s es hj
  exact Int.emod_eq_of_lt a b
theorem still_both {ss : List Int} {t : List (List Int)} (q : Sq ss.length t) (l : Low ss t) : bothI ss (stillI ss.length) t = t := by
  refine sq_ext (both_sq q) q fun i j hi hj => ?_
  obtain ⟨s, es⟩ := get_some hi
  rw [both_en (still_sq _) q es hj, sumF_congr (G := fun k => (if j = k then 1 else 0) * en t i k) fun k hk => by
    rw [still_en hk hj, Int.mul_comm]
    by_cases e : k = j
    · rw [if_pos e, if_pos e.symm]
    · rw [if_neg e, if_neg (Ne.symm e)], sumF_one _ _ _ hj]
  obtain ⟨a, b⟩ := l i j s es hj
  exact Int.emod_eq_of_lt a b
/-- the table of a deed -/
def deedI (ss : List Int) (d : Nat × Nat × Int) : List (List Int) := (stillI ss.length).set d.2.1 (((stillI ss.length).getD d.2.1 []).set d.1 (d.2.2 % ss.getD d.2.1 1))
theorem still_row {n i : Nat} (hi : i < n) : (stillI n).getD i [] = (List.range n).map fun j => if i = j then 1 else 0 := by
  rw [List.getD_eq_getElem?_getD]
  unfold stillI
  rw [List.getElem?_map, List.getElem?_eq_getElem (by rw [List.length_range]; exact hi), List.getElem_range]
  rfl
theorem deed_sq {ss : List Int} {d : Nat × Nat × Int} (h : DIn ss d) : Sq ss.length (deedI ss d) := by
  have q := still_sq ss.length
  refine ⟨by unfold deedI; rw [List.length_set, q.len], fun r hr => ?_⟩
  unfold deedI at hr
  rcases List.mem_or_eq_of_mem_set hr with m | m
  · exact q.row r m
  · rw [m, List.length_set, still_row h.li, List.length_map, List.length_range]
theorem deed_en {ss : List Int} {d : Nat × Nat × Int} (h : DIn ss d) {i j : Nat} {s : Int} (es : ss[i]? = some s) (hj : j < ss.length) : en (deedI ss d) i j = if i = d.2.1 ∧ j = d.1 then d.2.2 % s else if i = j then 1 else 0 := by
  have hi := (List.getElem?_eq_some_iff.mp es).1
  by_cases e : d.2.1 = i
  · subst e
    have a : (deedI ss d)[d.2.1]? = some (((stillI ss.length).getD d.2.1 []).set d.1 (d.2.2 % ss.getD d.2.1 1)) := by
      unfold deedI
      rw [List.getElem?_set_self (by rw [(still_sq _).len]; exact hi)]
    rw [en_of a, getD_set (by rw [still_row hi, List.length_map, List.length_range]; exact h.lj)]
    have b : ss.getD d.2.1 1 = s := by
      rw [List.getD_eq_getElem?_getD, es]
      rfl
    rw [b]
    by_cases z : d.1 = j
    · rw [if_pos z, if_pos ⟨rfl, z.symm⟩]
    · rw [if_neg z, if_neg (fun q => z q.2.symm)]
      exact still_en hi hj
  · rw [if_neg (fun q => e q.1.symm)]
    have a : (deedI ss d)[i]? = (stillI ss.length)[i]? := by
      unfold deedI
      rw [List.getElem?_set_ne e]
    obtain ⟨r, hr, _⟩ := (still_sq ss.length).get hi
    rw [hr] at a
    rw [en_of a, ← en_of hr]
    exact still_en hi hj
/-- it leads as the deed does -/
theorem led_deed {ss hs : List Int} {d : Nat × Nat × Int} (h : DIn ss d) (c : COk ss hs) : ledI ss (deedI ss d) hs = doneI ss hs d := by
  unfold doneI
  refine ext_getD (by rw [led_len (deed_sq h), remI_length (by rw [addI_len, c.len])]) fun i hi => ?_
  rw [led_len (deed_sq h)] at hi
  obtain ⟨s, es⟩ := get_some hi
  rw [led_getD (deed_sq h) c.len es, remI_getD (by rw [addI_len, c.len]) es, addI_getD (by rw [c.len]; exact h.li)]
  refine mod_congr ?_
  by_cases e : d.2.1 = i
  · subst e
    rw [if_pos rfl]
    have f : ∀ j, j < ss.length → en (deedI ss d) d.2.1 j * hs.getD j 0 = (if d.2.1 = j then 1 else 0) * hs.getD j 0 + (if d.1 = j then 1 else 0) * (d.2.2 % s * hs.getD j 0) := fun j hj => by
      rw [deed_en h es hj]
      by_cases z : j = d.1
      · subst z
        rw [if_pos ⟨rfl, rfl⟩, if_neg (Ne.symm h.ne), if_pos rfl]
        omega
      · rw [if_neg (fun q => z q.2), if_neg (c := d.1 = j) (Ne.symm z)]
        omega
    rw [sumF_congr f, sumF_add, sumF_one _ _ (fun j => hs.getD j 0) h.li, sumF_one _ _ (fun j => d.2.2 % s * hs.getD j 0) h.lj]
    rw [show ∀ x y z : Int, x + y - (x + z) = y - z from fun x y z => by omega, ← Int.sub_mul]
    exact Int.dvd_trans (mod_sub _ _) (Int.dvd_mul_right _ _)
  · rw [if_neg e, sumF_congr (G := fun j => (if i = j then 1 else 0) * hs.getD j 0) fun j hj => by rw [deed_en h es hj, if_neg (fun q => e q.1.symm)], sumF_one _ _ _ hi, Int.sub_self]
    exact Int.dvd_zero _
theorem deed_hit {ss : List Int} {d : Nat × Nat × Int} (h : DIn ss d) : Hit ss (deedI ss d) := by
  intro i j s r hs hr
  rw [deed_en h hs (List.getElem?_eq_some_iff.mp hr).1]
  by_cases e : i = d.2.1 ∧ j = d.1
  · rw [if_pos e]
    obtain ⟨rfl, rfl⟩ := e
    have a := h.hit r s hr hs
    have b : s ∣ (d.2.2 % s - d.2.2) * r := Int.dvd_trans (mod_sub _ _) (Int.dvd_mul_right _ _)
    rw [Int.sub_mul] at b
    have := Int.dvd_add b a
    rwa [show ∀ x y : Int, x - y + y = x from fun x y => by omega] at this
  · rw [if_neg e]
    by_cases z : i = j
    · subst z
      rw [hs] at hr
      cases hr
      exact Int.dvd_mul_left _ _
    · rw [if_neg z, Int.zero_mul]
      exact Int.dvd_zero _
theorem still_hit (ss : List Int) : Hit ss (stillI ss.length) := by
  intro i j s r hs hr
  rw [still_en (List.getElem?_eq_some_iff.mp hs).1 (List.getElem?_eq_some_iff.mp hr).1]
  by_cases z : i = j
  · subst z
    rw [hs] at hr
    cases hr
    exact Int.dvd_mul_left _ _
  · rw [if_neg z, Int.zero_mul]
    exact Int.dvd_zero _
/-- the table of a program, deed by deed -/
def tabI (ss : List Int) (l : List (Nat × Nat × Int)) : List (List Int) := l.foldl (fun t d => bothI ss t (deedI ss d)) (stillI ss.length)
theorem tab_from {ss : List Int} {l : List (Nat × Nat × Int)} (hl : ∀ d ∈ l, DIn ss d) : ∀ {t : List (List Int)}, Sq ss.length t → Hit ss t → Sq ss.length (l.foldl (fun t d => bothI ss t (deedI ss d)) t) ∧ Hit ss (l.foldl (fun t d => bothI ss t (deedI ss d)) t) ∧ ∀ hs, COk ss hs → (∀ s ∈ ss, SizeOk s) → ledI ss (l.foldl (fun t d => bothI ss t (deedI ss d)) t) hs = runP ss l (ledI ss t hs) := by
  induction l with
  | nil => exact fun q h => ⟨q, h, fun _ _ _ => rfl⟩
  | cons d l ih =>
    intro t q h
    have dd := hl d List.mem_cons_self
    obtain ⟨a, b, c⟩ := ih (fun x hx => hl x (List.mem_cons_of_mem _ hx)) (t := bothI ss t (deedI ss d)) (both_sq (deed_sq dd)) (both_hit q (deed_sq dd) h (deed_hit dd))
    refine ⟨a, b, fun hs ch ok => ?_⟩
    have lc : COk ss (ledI ss t hs) := by
      refine ⟨led_len q, fun i x s ex es => ?_⟩
      have := led_getD q ch.len es
      rw [List.getD_eq_getElem?_getD, ex] at this
      obtain ⟨m, rfl, m2, _⟩ := (ok s (List.mem_of_getElem? es)).nat
      have e : x = (sumF ss.length fun j => en t i j * hs.getD j 0) % (m : Int) := this
      rw [e]
      exact ⟨Int.emod_nonneg _ (by omega), Int.emod_lt_of_pos _ (by omega)⟩
    show ledI ss (l.foldl (fun t d => bothI ss t (deedI ss d)) (bothI ss t (deedI ss d))) hs = runP ss l (doneI ss (ledI ss t hs) d)
    rw [c hs ch ok, led_both q (deed_sq dd) (deed_hit dd) ch.len, led_deed dd lc]
/-- the table of a program leads as the program does -/
theorem led_tab {ss : List Int} {l : List (Nat × Nat × Int)} (ok : ∀ s ∈ ss, SizeOk s) (hl : ∀ d ∈ l, DIn ss d) {hs : List Int} (h : COk ss hs) : ledI ss (tabI ss l) hs = runP ss l hs := by
  obtain ⟨_, _, c⟩ := tab_from hl (still_sq ss.length) (still_hit ss)
  unfold tabI
  rw [c hs h ok, led_still h]
end NA
namespace PySem
open Sem (wp)
open PyProof.Rows
open AutoSeq1 (wpAny_loadPart')
/-! ### t[::-1], t a tuple -/
section
variable {prog : Program} {w : World} {A : Around} {E : Value → Shared → Prop} {s : Shared}
theorem fields_ {sl : Addr} {o : Obj} {a b c : Value} {Q : Value × Value × Value → Shared → Prop} (ho : s.heap.get? sl = some o) (hd : o.data = .fields #[a, b, c]) (q : Q (a, b, c) s) : wpAny (model prog w) A (Builtin.Slice.sliceFields (.ref sl)) Q E s := by
  unfold Builtin.Slice.sliceFields
  obtain ⟨hp, gg, dr, tk, os⟩ := s
  obtain ⟨oc, od, odt, osl⟩ := o
  cases (show odt = _ from hd)
  wp_walk using wpAny_loadPart' ho
  exact q
theorem applied_rev {sl : Addr} {u : Tok} {n : Nat} {Q : Int × Int × Nat → Shared → Prop} (h : s.heap.IsSliceOf sl .none .none (.int (-1) u)) (q : Q ((n : Int) - 1, -1, n) s) :
    wpAny (model prog w) A (Builtin.Slice.sliceApplied (.ref sl) (pure (n : Int))) Q E s := by
  obtain ⟨o, ho, hc, hd⟩ := h
  unfold Builtin.Slice.sliceApplied
  refine wpAny_bind (fields_ ho hd ?_)
  dsimp only
  refine wpAny_bind (slicePart_int ?_)
  dsimp only [Option.getD]
  rw [if_neg (by decide)]
  refine wpAny_bind (slicePart_none (wpAny_bind (slicePart_none ?_)))
  refine wpAny_bind (wpAny_pure ?_)
  have e : Builtin.Slice.slicePlaces ((n : Int) - 1) (-1) (-1) = n := by
    unfold Builtin.Slice.slicePlaces
    rw [if_neg (by decide)]
    by_cases h : (n : Int) - 1 > -1
    · rw [if_pos h, show - (-1 : Int) = 1 from rfl, Int.ediv_one]
      omega
    · rw [if_neg h]
      omega
  have e2 : Builtin.Slice.sliceAdjust none none (-1) (n : Int) = ((n : Int) - 1, -1) := by
    unfold Builtin.Slice.sliceAdjust
    rfl
  rw [e2]
  dsimp only
  rw [e]
  exact wpAny_pure q
theorem fm_map {α β : Type} {f : α → Option β} {g : α → β} : ∀ (l : List α), (∀ k ∈ l, f k = some (g k)) → List.filterMap f l = l.map g
  | [], _ => rfl
  | x :: l, h => by
    rw [List.filterMap_cons, h x List.mem_cons_self, List.map_cons, fm_map l fun k hk => h k (List.mem_cons_of_mem _ hk)]
theorem rev_pick (items : Array Value) : (List.filterMap (fun k : Nat => items[((items.size : Int) - 1 + (k : Int) * -1).toNat]?) (List.range items.size)) = items.toList.reverse := by
  rw [fm_map (g := fun k => (items[items.size - 1 - k]?).getD .none)]
  · refine List.ext_getElem? fun i => ?_
    rw [List.getElem?_map]
    by_cases h : i < items.size
    · rw [List.getElem?_eq_getElem (by rw [List.length_range]; exact h), List.getElem_range, List.getElem?_reverse (by simpa using h), Array.getElem?_toList, Array.length_toList]
      show some ((items[items.size - 1 - i]?).getD .none) = _
      rw [Array.getElem?_eq_getElem (show items.size - 1 - i < items.size by omega)]
      rfl
    · rw [List.getElem?_eq_none (by rw [List.length_range]; omega), List.getElem?_eq_none (by simp; omega)]
      rfl
  · intro k hk
    have := List.mem_range.mp hk
    have z : ((items.size : Int) - 1 + (k : Int) * -1).toNat = items.size - 1 - k := by omega
    rw [z, Array.getElem?_eq_getElem (show items.size - 1 - k < items.size by omega)]
    rfl
theorem tuple_rev_meets (t sl : Addr) (items : Array Value) (u : Tok) (hl : items.size ≤ sizeLine) : Meets (Builtin.«tuple.__getitem__» ⟨[.ref t, .ref sl], []⟩)
    (fun _ R s => (IsTup s.heap t items ∧ s.heap.IsSliceOf sl .none .none (.int (-1) u)) ∧ R (.ok (.ret (.ref s.heap.objs.size))) { s with heap := s.heap.push { cls := .type "tuple", data := .seq items.toList.reverse.toArray } }) :=
  .of_wp fun prog w A R s h => by
    obtain ⟨⟨T, hs⟩, h⟩ := h
    have S := hs
    obtain ⟨o2, ho2, hc2, hd2⟩ := hs
    obtain ⟨oc, od, odt, osl⟩ := o2
    cases (show oc = _ from hc2)
    cases (show odt = _ from hd2)
    obtain ⟨hp, gg, dr, tk, os⟩ := s
    wp_walk using tupleItemsOf_ T, applied_rev S, wpAny_loadPart' ho2
    rw [rev_pick, if_neg (by simp; exact hl)]
    wp_walk
    exact ⟨_, rfl, h⟩
theorem getItem_tuple_rev {t sl : Addr} {items : Array Value} {u : Tok} {Q : Value → Shared → Prop} (T : IsTup s.heap t items) (hs : s.heap.IsSliceOf sl .none .none (.int (-1) u)) (hl : items.size ≤ sizeLine)
    (q : Q (.ref s.heap.objs.size) { s with heap := s.heap.push { cls := .type "tuple", data := .seq items.toList.reverse.toArray } }) : wpAny (model prog w) A (getItem (.ref t) (.ref sl)) Q E s := by
  have T2 := T
  obtain ⟨o, ho, hc, n, hd⟩ := T2
  exact getItem_meets (T := "tuple") ⟨o, ho, hc⟩ (by decide) slot_tuple_getitem entry_tuple_getitem (args_tuple_getitem _ _) (tuple_rev_meets t sl items u hl) ⟨⟨T, hs⟩, q⟩
end
end PySem
namespace NA
open PySem PySem.Spec PyProof.Rows L2
def tRevT (K : PySem.W.Frag) (te : TE) : TE := fun σ H Q => te σ H fun x H1 => ∃ a xs, x = .ref a ∧ SqT K H1 a xs ∧ ∀ p, H1 p = none → Q (.ref p) (upd H1 p (.tup xs.reverse))
theorem vals_app {xs ys : List V} {us vs : List Value} (a : Vals xs us) (b : Vals ys vs) : Vals (xs ++ ys) (us ++ vs) := by
  induction a with
  | nil => exact b
  | cons h _ ih => exact .cons h ih
theorem vals_rev {xs : List V} {us : List Value} (a : Vals xs us) : Vals xs.reverse us.reverse := by
  induction a with
  | nil => exact .nil
  | cons h _ ih =>
    rw [List.reverse_cons, List.reverse_cons]
    exact vals_app ih (.cons h .nil)
theorem pe_revT {X : Cx} (K : PySem.W.Frag) (hK : X.K = K) {e st : Expr} {te : TE} {pos p2 : Pos} (he : PE X e te) (hst : PE X st (tC (.int (-1)))) (hl : ∀ o r : Value, letTemporaryGo e o r = pure () := by intro _ _; rfl) : PE X (.Subscript e (.Slice none none (some st) p2) pos) (tRevT K te) := by
  subst hK
  refine ⟨fun pins s σ H Q I h => ?_⟩
  rw [arm_eval_Subscript]
  refine wpAny_bind (thn (he.run pins s σ H _ I h) fun v s1 ⟨x, H1, I1, rx, q1⟩ => ?_)
  obtain ⟨a, xs, rfl, ha, q⟩ := q1
  cases (show v = Value.ref a from rx)
  refine wpAny_bind (wpAny_holding (wpAny_Slice ?_))
  refine (show wpAny _ _ (pure Value.none) _ _ _ from wpAny_pure ?_)
  refine (show wpAny _ _ (pure Value.none) _ _ _ from wpAny_pure ?_)
  refine (show wpAny _ _ (eval st X.env) _ _ _ from thn (hst.run pins s1 σ H1 (fun y H2 => y = .int (-1) ∧ H2 = H1) I1 ⟨rfl, rfl⟩) fun u s2 ⟨y, H2, I2, ry, ey, eh⟩ => ?_)
  subst ey eh
  obtain ⟨t, rfl⟩ := (show ∃ t, u = Value.int (-1) t from ry)
  refine wpAny_bind (wpAny_standAt ?_)
  obtain ⟨its, rv, tp, hz⟩ := I2.tuple ha
  have T1 : IsTup s2.heap a its.toArray := tp
  have k1 : ∀ b o, s2.heap.get? b = some o → (s2.heap.push { cls := .type "slice", data := .fields #[.none, .none, .int (-1) t] }).get? b = some o := fun b o q => Heap.get?_push_of_some _ q
  have I3 := I2.kept (t' := s2.toks) k1
  obtain ⟨o, ho, hc, n, hd⟩ := T1
  have T3 : IsTup (s2.heap.push { cls := .type "slice", data := .fields #[.none, .none, .int (-1) t] }) a its.toArray := ⟨o, k1 _ _ ho, hc, n, hd⟩
  have hs : (s2.heap.push { cls := .type "slice", data := .fields #[.none, .none, .int (-1) t] }).IsSliceOf s2.heap.objs.size .none .none (.int (-1) t) := ⟨_, Heap.get?_push_size _ rfl, rfl, rfl⟩
  have lx := rv.length
  have hn : H2 (s2.heap.push { cls := .type "slice", data := .fields #[.none, .none, .int (-1) t] }).objs.size = none := I3.hok.fresh (Nat.le_refl _)
  have new : ObjOk X.prog X.w (upd H2 (s2.heap.push { cls := .type "slice", data := .fields #[.none, .none, .int (-1) t] }).objs.size (.tup xs.reverse)) ((s2.heap.push { cls := .type "slice", data := .fields #[.none, .none, .int (-1) t] }).push { cls := .type "tuple", data := .seq its.toArray.toList.reverse.toArray }) (s2.heap.push { cls := .type "slice", data := .fields #[.none, .none, .int (-1) t] }).objs.size (.tup xs.reverse) :=
    ⟨by rw [List.length_reverse]; exact hz, its.reverse, vals_rev rv, ⟨_, Heap.get?_push_size _ rfl, rfl, _, rfl⟩⟩
  have I4 := I3.turnedNew (t' := s2.toks) (ch := []) (h' := (s2.heap.push { cls := .type "slice", data := .fields #[.none, .none, .int (-1) t] }).push { cls := .type "tuple", data := .seq its.toArray.toList.reverse.toArray }) (fun b o _ q => Heap.get?_push_of_some _ q) (fun b hb => nomatch hb) (Nat.le_refl _) new
  exact tail_of_ItemOn (value := e) (slice := .Slice none none (some st) p2) (ops := [.ref a, .ref s2.heap.objs.size]) ⟨"tuple", "tuple.__getitem__", slot_tuple_getitem.1, ⟨o, k1 _ _ ho, hc⟩, getItem_tuple_rev T3 hs (by rw [List.size_toArray]; omega) ⟨V.ref (s2.heap.push { cls := .type "slice", data := .fields #[.none, .none, .int (-1) t] }).objs.size, _, I4, rfl, q _ hn⟩⟩ rfl (fun r => hl _ _)
theorem pe_m1 {X : Cx} {a : Expr} {pos : Pos} (ha : PE X a (tC (.int 1))) : PE X (.UnaryOp .USub a pos) (tC (.int (-1))) :=
  ⟨fun pins s σ H Q I h => (pe_un un_neg ha).run pins s σ H Q I ⟨1, rfl, h⟩⟩
end NA
namespace PySem
open Sem (wp)
open PyProof.Rows
open AutoSeq1 (wpAny_loadPart')
theorem tuple_mul1 (l : Addr) (items : Array Value) (n : Nat) (dd : Option Addr) (sl : Array (Option Value)) (u : Tok) : Meets (Builtin.«tuple.__mul__» ⟨[.ref l, .int 1 u], []⟩)
    (fun _ R s => s.heap.get? l = some { cls := .type "tuple", dict := dd, data := .seq items n, slots := sl } ∧ R (.ok (.ret (.ref l))) s) :=
  .of_wp fun prog w A R s h => by
    obtain ⟨ho, h⟩ := h
    have T : IsTup s.heap l items := ⟨_, ho, rfl, n, rfl⟩
    obtain ⟨hp, gg, dr, tk, os⟩ := s
    wp_walk using tupleItemsOf_ T, wpAny_loadPart' ho
    exact ⟨_, rfl, h⟩
end PySem
namespace NA
open PySem PySem.Spec PyProof.Rows L2
/-- t * k for k from 1 on: t itself, or a new tuple -/
def rRepA (K : PySem.W.Frag) : R2 := fun x y H Q => ∃ l k xs, x = .ref l ∧ y = .int k ∧ SqT K H l xs ∧ xs ≠ [] ∧ 1 ≤ k ∧ k ≤ 1000 ∧ xs.length ≤ 1000 ∧ (k = 1 → Q (.ref l) H) ∧ (k ≠ 1 → ∀ p, H p = none → Q (.ref p) (upd H p (.tup (List.replicate k.toNat xs).flatten)))
theorem op_repA {X : Cx} (K : PySem.W.Frag) (hK : X.K = K) : OpR X (binaryOp .Mult) (rRepA K) := by
  subst hK
  intro pins s σ H x y v u Q I rx ry h
  obtain ⟨l, k, xs, rfl, rfl, hT, ne, k1, k2, l2, q1, q2⟩ := h
  by_cases e : k = 1
  · subst e
    cases (show v = Value.ref l from rx)
    obtain ⟨t, rfl⟩ := (show ∃ t, u = Value.int 1 t from ry)
    obtain ⟨its, rv, tp, hz⟩ := I.tuple hT
    obtain ⟨o, ho, hc, n, hd⟩ := tp
    obtain ⟨oc, dd, odt, sl⟩ := o
    cases (show oc = _ from hc)
    cases (show odt = _ from hd)
    refine wpAny_binaryOp_repeat_ref (T := "tuple") (U := "int") (by decide) ⟨_, ho, rfl⟩ (fun s' => typeIs_int s' 1 t) noFill_tuple_mul F.fills_int_mul F.slot_int_rmul repeat_tuple F.slot_int_index.lookup ?_
    refine call_meets F.slot_int_rmul (typeIs_int s 1 t) F.entry_int_rmul (F.args_int_rmul_2 _ _) (int_rmul_tuple 1 t l its.toArray n dd sl) ⟨ho, rfl, ⟨_, ho, rfl⟩, ?_⟩
    exact call_meets F.slot_tuple_mul ⟨_, ho, rfl⟩ F.entry_tuple_mul (F.args_tuple_mul_2 _ _) (tuple_mul1 l its.toArray n dd sl t) ⟨ho, .ref l, H, I, rfl, q1 rfl⟩
  · exact op_repT pins s σ H (.ref l) (.int k) v u Q I rx ry ⟨l, k, xs, rfl, rfl, hT, ne, by omega, k2, l2, q2 e⟩
theorem rep_any {K : PySem.W.Frag} {l : Addr} {k : Int} {xs : List V} {H : Hp} {Q : VK} (h : H l = some (.tup xs)) (ne : xs ≠ []) (k1 : 1 ≤ k) (k2 : k ≤ 1000) (l2 : xs.length ≤ 1000) (q : ∀ c H', Same H H' → H' c = some (.tup (List.replicate k.toNat xs).flatten) → Q (.ref c) H') : rRepA K (.ref l) (.int k) H Q :=
  ⟨l, k, xs, rfl, rfl, SqT.of h, ne, k1, k2, l2, fun e => q l H (Same.refl H) (by
    subst e
    rw [h]
    simp), fun _ p n => q p _ (Same.new (Same.refl H) n) upd_same⟩
end NA
namespace NA
theorem take_get2 {α : Type} {l : List α} {i : Nat} {x : α} (h : l[i]? = some x) : l.take (i + 1) = l.take i ++ [x] := by
  rw [List.take_add_one, h]
  rfl
/-! ### sums and multiples of contents, deeds put together -/
def mulI (ns : List Int) (c : Int) : List Int := ns.map fun n => n * c
theorem mulI_getD (ns : List Int) (c : Int) (i : Nat) : (mulI ns c).getD i 0 = ns.getD i 0 * c := by
  unfold mulI
  rw [List.getD_eq_getElem?_getD, List.getD_eq_getElem?_getD, List.getElem?_map]
  cases ns[i]? with
  | none => show (0 : Int) = 0 * c; rw [Int.zero_mul]
  | some x => rfl
theorem mulI_len (ns : List Int) (c : Int) : (mulI ns c).length = ns.length := List.length_map ..
theorem add_mulI {ns : List Int} {d : Nat × Nat × Int} {c : Int} (hi : d.2.1 < ns.length) : addI (mulI ns c) d = mulI (addI ns d) c := by
  refine ext_getD (by rw [addI_len, mulI_len, mulI_len, addI_len]) fun k hk => ?_
  rw [addI_getD (by rw [mulI_len]; exact hi), mulI_getD, mulI_getD, mulI_getD, mulI_getD, addI_getD hi]
  by_cases e : d.2.1 = k
  · rw [if_pos e, if_pos e, Int.add_mul, Int.mul_assoc]
  · rw [if_neg e, if_neg e]
theorem far_mul {l : List (Nat × Nat × Int)} {c : Int} : ∀ {ns : List Int}, (∀ d ∈ l, d.2.1 < ns.length) → farI l (mulI ns c) = mulI (farI l ns) c := by
  induction l with
  | nil => exact fun _ => rfl
  | cons d l ih =>
    intro ns hl
    show farI l (addI (mulI ns c) d) = mulI (farI l (addI ns d)) c
    rw [add_mulI (hl d List.mem_cons_self)]
    exact ih fun x hx => by rw [addI_len]; exact hl x (List.mem_cons_of_mem _ hx)
theorem cg_sum {ss ns ms ks ls : List Int} (a : Cg ss ns ks) (b : Cg ss ms ls) : Cg ss (sumI ns ms) (sumI ks ls) := by
  refine ⟨sumI_len a.l1 b.l1, sumI_len a.l2 b.l2, fun i s e => ?_⟩
  rw [sumI_getD (by rw [a.l1, b.l1]), sumI_getD (by rw [a.l2, b.l2])]
  have := Int.dvd_add (a.alike i s e) (b.alike i s e)
  rwa [show ∀ x y z u : Int, x - y + (z - u) = x + z - (y + u) from fun x y z u => by omega] at this
theorem cg_mul {ss ns ms : List Int} (a : Cg ss ns ms) (c : Int) : Cg ss (mulI ns c) (mulI ms c) := by
  refine ⟨by rw [mulI_len, a.l1], by rw [mulI_len, a.l2], fun i s e => ?_⟩
  rw [mulI_getD, mulI_getD, ← Int.sub_mul]
  exact Int.dvd_trans (a.alike i s e) (Int.dvd_mul_right _ _)
/-- of a sum the sum -/
theorem runP_sum {ss : List Int} (ok : ∀ s ∈ ss, SizeOk s) {l : List (Nat × Nat × Int)} (hl : ∀ d ∈ l, DIn ss d) {a b : List Int} (ha : COk ss a) (hb : COk ss b) : runP ss l (remI (sumI a b) ss) = remI (sumI (runP ss l a) (runP ss l b)) ss := by
  have ls := sumI_len ha.len hb.len
  rw [runP_eq ok hl (rem_cok ok ls) (cg_rem ls)]
  unfold runI
  rw [far_sum (by rw [ha.len, hb.len]) fun d hd => by rw [ha.len]; exact (hl d hd).li]
  exact (cg_sum (runP_cg hl (Cg.refl ha.len)) (runP_cg hl (Cg.refl hb.len))).symm.rem
/-- of a multiple the multiple -/
theorem runP_mul {ss : List Int} (ok : ∀ s ∈ ss, SizeOk s) {l : List (Nat × Nat × Int)} (hl : ∀ d ∈ l, DIn ss d) {a : List Int} (ha : COk ss a) (c : Int) : runP ss l (remI (mulI a c) ss) = remI (mulI (runP ss l a) c) ss := by
  have ls : (mulI a c).length = ss.length := by rw [mulI_len, ha.len]
  rw [runP_eq ok hl (rem_cok ok ls) (cg_rem ls)]
  unfold runI
  rw [far_mul fun d hd => by rw [ha.len]; exact (hl d hd).li]
  exact (cg_mul (runP_cg hl (Cg.refl ha.len)) c).symm.rem
/-- of noughts noughts -/
theorem runP_zero {ss : List Int} (ok : ∀ s ∈ ss, SizeOk s) {l : List (Nat × Nat × Int)} (hl : ∀ d ∈ l, DIn ss d) : runP ss l (List.replicate ss.length 0) = List.replicate ss.length 0 := by
  have z : COk ss (List.replicate ss.length 0) := ⟨List.length_replicate .., fun i h s e1 e2 => by
    have li := (List.getElem?_eq_some_iff.mp e2).1
    rw [List.getElem?_replicate, if_pos li] at e1
    cases e1
    obtain ⟨m, rfl, m2, _⟩ := (ok s (List.mem_of_getElem? e2)).nat
    omega⟩
  have e : remI (mulI (List.replicate ss.length 0) 0) ss = List.replicate ss.length 0 := by
    have : mulI (List.replicate ss.length 0) 0 = List.replicate ss.length 0 := by
      unfold mulI
      rw [List.map_replicate]
      rfl
    rw [this]
    exact rem_of z
  have h := runP_mul ok hl z 0
  rw [e] at h
  rw [h]
  refine ext_getD ?_ fun i hi => ?_
  · rw [remI_length (by rw [mulI_len, (runP_cok ok z).len]), List.length_replicate]
  · rw [remI_length (by rw [mulI_len, (runP_cok ok z).len])] at hi
    obtain ⟨s, es⟩ := get_some hi
    rw [remI_getD (by rw [mulI_len, (runP_cok ok z).len]) es, mulI_getD, Int.mul_zero, Int.zero_emod, List.getD_eq_getElem?_getD, List.getElem?_replicate, if_pos hi]
    rfl
/-- only the rest of the factor counts -/
theorem done_more {ss hs : List Int} {j i : Nat} {c k s : Int} (h : DIn ss (j, i, c)) (ch : COk ss hs) (es : ss[i]? = some s) : doneI ss hs (j, i, c + k * s) = doneI ss hs (j, i, c) := by
  unfold doneI
  refine Cg.rem ⟨by rw [addI_len, ch.len], by rw [addI_len, ch.len], fun t r e => ?_⟩
  rw [addI_getD (by rw [ch.len]; exact h.li), addI_getD (by rw [ch.len]; exact h.li)]
  by_cases z : i = t
  · subst z
    rw [es] at e
    cases e
    rw [if_pos rfl, if_pos rfl]
    refine ⟨k * hs.getD j 0, ?_⟩
    show hs.getD i 0 + (c + k * s) * hs.getD j 0 - (hs.getD i 0 + c * hs.getD j 0) = s * (k * hs.getD j 0)
    rw [Int.add_mul, show s * (k * hs.getD j 0) = k * s * hs.getD j 0 by rw [Int.mul_comm k s, Int.mul_assoc]]
    omega
  · rw [if_neg z, if_neg z, Int.sub_self]
    exact Int.dvd_zero _
/-- two deeds on one wire do what one with the sum does -/
theorem run_two {ss hs : List Int} (ok : ∀ s ∈ ss, SizeOk s) {j i : Nat} {c e : Int} (h1 : DIn ss (j, i, c)) (h2 : DIn ss (j, i, e)) (ch : COk ss hs) : runP ss [(j, i, c), (j, i, e)] hs = doneI ss hs (j, i, c + e) := by
  rw [runP_eq ok (fun d hd => by
    rcases List.mem_cons.mp hd with z | hd
    · rw [z]; exact h1
    · rw [List.mem_singleton.mp hd]; exact h2) ch (Cg.refl ch.len)]
  unfold runI doneI
  congr 1
  show addI (addI hs (j, i, c)) (j, i, e) = _
  have li : i < hs.length := by rw [ch.len]; exact h1.li
  refine ext_getD (by rw [addI_len, addI_len, addI_len]) fun k hk => ?_
  rw [addI_getD (by rw [addI_len]; exact li), addI_getD li, addI_getD li, addI_getD li, addI_getD li]
  have ne : i ≠ j := Ne.symm h1.ne
  by_cases z : i = k
  · rw [if_pos z, if_pos rfl, if_neg ne, if_pos z]
    show hs.getD i 0 + c * hs.getD j 0 + e * hs.getD j 0 = hs.getD i 0 + (c + e) * hs.getD j 0
    rw [Int.add_mul]
    omega
  · rw [if_neg z, if_neg z, if_neg z]
/-- deeds neither of which takes where the other gives change places -/
theorem run_swap {ss hs : List Int} (ok : ∀ s ∈ ss, SizeOk s) {d e : Nat × Nat × Int} (h1 : DIn ss d) (h2 : DIn ss e) (n1 : e.2.1 ≠ d.1) (n2 : e.1 ≠ d.2.1) (ch : COk ss hs) : runP ss [d, e] hs = runP ss [e, d] hs := by
  have two : ∀ {a b : Nat × Nat × Int}, DIn ss a → DIn ss b → ∀ x ∈ [a, b], DIn ss x := fun ha hb x hx => by
    rcases List.mem_cons.mp hx with z | hx
    · rw [z]; exact ha
    · rw [List.mem_singleton.mp hx]; exact hb
  rw [runP_eq ok (two h1 h2) ch (Cg.refl ch.len), runP_eq ok (two h2 h1) ch (Cg.refl ch.len)]
  unfold runI
  congr 1
  show addI (addI hs d) e = addI (addI hs e) d
  have l1 : d.2.1 < hs.length := by rw [ch.len]; exact h1.li
  have l2 : e.2.1 < hs.length := by rw [ch.len]; exact h2.li
  refine ext_getD (by rw [addI_len, addI_len, addI_len, addI_len]) fun k hk => ?_
  rw [addI_getD (by rw [addI_len]; exact l2), addI_getD (ns := addI hs e) (by rw [addI_len]; exact l1), addI_getD l1, addI_getD l1, addI_getD l1, addI_getD l2, addI_getD l2, addI_getD l2]
  rw [if_neg (c := d.2.1 = e.1) (Ne.symm n2), if_neg (c := e.2.1 = d.1) n1]
  by_cases a : d.2.1 = k <;> by_cases b : e.2.1 = k
  · have z : d.2.1 = e.2.1 := a.trans b.symm
    rw [if_pos b, if_pos a, if_pos z, if_pos z.symm, z]
    omega
  · have z : ¬ d.2.1 = e.2.1 := fun q => b (q ▸ a)
    rw [if_neg b, if_pos a, if_pos a, if_neg (fun q => z q.symm)]
  · have z : ¬ d.2.1 = e.2.1 := fun q => a (q ▸ b)
    rw [if_pos b, if_neg z, if_neg a, if_pos b]
  · rw [if_neg b, if_neg a, if_neg a, if_neg b]
end NA
namespace NA
/-! ### good tables, powers -/
structure GT (ss : List Int) (t : List (List Int)) : Prop where
  sq : Sq ss.length t
  low : Low ss t
  hit : Hit ss t
theorem TOk.gt {ss : List Int} {t : List (List Int)} (h : TOk ss t) : GT ss t := ⟨h.sq, h.lowE, h.hit⟩
theorem GT.still {ss : List Int} (ok : ∀ s ∈ ss, SizeOk s) : GT ss (stillI ss.length) := (TOk.still ok).gt
theorem GT.both {ss : List Int} {one other : List (List Int)} (ok : ∀ s ∈ ss, SizeOk s) (a : GT ss one) (b : GT ss other) : GT ss (bothI ss one other) := ⟨both_sq b.sq, both_low ok a.sq b.sq, both_hit a.sq b.sq a.hit b.hit⟩
theorem GT.deed {ss : List Int} (ok : ∀ s ∈ ss, SizeOk s) {d : Nat × Nat × Int} (h : DIn ss d) : GT ss (deedI ss d) := by
  refine ⟨deed_sq h, fun i j s hs hj => ?_, deed_hit h⟩
  rw [deed_en h hs hj]
  obtain ⟨m, rfl, m2, _⟩ := (ok s (List.mem_of_getElem? hs)).nat
  split
  · exact ⟨Int.emod_nonneg _ (by omega), Int.emod_lt_of_pos _ (by omega)⟩
  · split <;> omega
theorem GT.led {ss : List Int} {t : List (List Int)} {hs : List Int} (ok : ∀ s ∈ ss, SizeOk s) (h : GT ss t) (c : COk ss hs) : COk ss (ledI ss t hs) := by
  refine ⟨led_len h.sq, fun i x s ex es => ?_⟩
  have := led_getD h.sq c.len es
  rw [List.getD_eq_getElem?_getD, ex] at this
  obtain ⟨m, rfl, m2, _⟩ := (ok s (List.mem_of_getElem? es)).nat
  have e : x = (sumF ss.length fun j => en t i j * hs.getD j 0) % (m : Int) := this
  rw [e]
  exact ⟨Int.emod_nonneg _ (by omega), Int.emod_lt_of_pos _ (by omega)⟩
theorem GT.sh {ss : List Int} {t : List (List Int)} (ok : ∀ s ∈ ss, SizeOk s) (h : GT ss t) : TSh ss.length t := by
  refine ⟨h.sq.len, h.sq.row, fun r hr n hn => ?_⟩
  obtain ⟨i, hi, rfl⟩ := List.getElem_of_mem hr
  obtain ⟨j, hj, rfl⟩ := List.getElem_of_mem hn
  have li : i < ss.length := by rw [← h.sq.len]; exact hi
  have lj : j < ss.length := by rw [← h.sq.row _ (List.getElem_mem hi)]; exact hj
  obtain ⟨s, es⟩ := get_some li
  have e : en t i j = t[i][j] := by
    rw [en_of (List.getElem?_eq_getElem hi), List.getD_eq_getElem?_getD, List.getElem?_eq_getElem hj]
    rfl
  obtain ⟨a, b⟩ := h.low i j s es lj
  obtain ⟨m, rfl, _, m30⟩ := (ok s (List.mem_of_getElem? es)).nat
  rw [e] at a b
  exact Nat.lt_of_le_of_lt (show t[i][j].natAbs ≤ 10 ^ 30 by omega) (by decide)
def powI (ss : List Int) (t : List (List Int)) : Nat → List (List Int)
  | 0 => stillI ss.length
  | k + 1 => bothI ss (powI ss t k) t
section
variable {ss : List Int} {t : List (List Int)}
theorem powI_gt (ok : ∀ s ∈ ss, SizeOk s) (h : GT ss t) : ∀ k, GT ss (powI ss t k)
  | 0 => GT.still ok
  | k + 1 => GT.both ok (powI_gt ok h k) h
theorem powI_add (ok : ∀ s ∈ ss, SizeOk s) (h : GT ss t) (a : Nat) : ∀ b, bothI ss (powI ss t a) (powI ss t b) = powI ss t (a + b)
  | 0 => both_still (powI_gt ok h a).sq (powI_gt ok h a).low
  | b + 1 => by
    show bothI ss (powI ss t a) (bothI ss (powI ss t b) t) = bothI ss (powI ss t (a + b)) t
    rw [← both_assoc (powI_gt ok h a).sq (powI_gt ok h b).sq h.sq h.hit, powI_add ok h a b]
theorem powI_one (ok : ∀ s ∈ ss, SizeOk s) (h : GT ss t) : powI ss t 1 = t := still_both h.sq h.low
theorem powI_mul (ok : ∀ s ∈ ss, SizeOk s) (h : GT ss t) (k : Nat) : ∀ m, powI ss (powI ss t k) m = powI ss t (k * m)
  | 0 => by rw [Nat.mul_zero]; rfl
  | m + 1 => by
    show bothI ss (powI ss (powI ss t k) m) (powI ss t k) = _
    rw [powI_mul ok h k m, powI_add ok h, Nat.mul_succ]
theorem powI_two (ok : ∀ s ∈ ss, SizeOk s) (h : GT ss t) (m : Nat) : powI ss (bothI ss t t) m = powI ss t (2 * m) := by
  have e : bothI ss t t = powI ss t 2 := by
    show bothI ss t t = bothI ss (powI ss t 1) t
    rw [powI_one ok h]
  rw [e, powI_mul ok h]
theorem powI_succ' (ok : ∀ s ∈ ss, SizeOk s) (h : GT ss t) (k : Nat) : bothI ss t (powI ss t k) = powI ss t (k + 1) := by
  have := powI_add ok h 1 k
  rw [powI_one ok h] at this
  rw [this, Nat.add_comm]
theorem led_pow (ok : ∀ s ∈ ss, SizeOk s) (h : GT ss t) (k : Nat) {hs : List Int} (c : COk ss hs) : ledI ss (powI ss t (k + 1)) hs = ledI ss t (ledI ss (powI ss t k) hs) := led_both (powI_gt ok h k).sq h.sq h.hit c.len
/-- one deed more in front of the table -/
theorem tabI_gt (ok : ∀ s ∈ ss, SizeOk s) {l : List (Nat × Nat × Int)} (hl : ∀ d ∈ l, DIn ss d) : GT ss (tabI ss l) := by
  unfold tabI
  have : ∀ (l : List (Nat × Nat × Int)), (∀ d ∈ l, DIn ss d) → ∀ t, GT ss t → GT ss (l.foldl (fun t d => bothI ss t (deedI ss d)) t) := by
    intro l
    induction l with
    | nil => exact fun _ t h => h
    | cons d l ih => exact fun hl t h => ih (fun x hx => hl x (List.mem_cons_of_mem _ hx)) _ (GT.both ok h (GT.deed ok (hl d List.mem_cons_self)))
  exact this l hl _ (GT.still ok)
theorem tab_from2 (ok : ∀ s ∈ ss, SizeOk s) : ∀ {l : List (Nat × Nat × Int)}, (∀ d ∈ l, DIn ss d) → ∀ {t : List (List Int)}, GT ss t → l.foldl (fun t d => bothI ss t (deedI ss d)) t = bothI ss t (tabI ss l)
  | [], _, t, h => (both_still h.sq h.low).symm
  | d :: l, hl, t, h => by
    have dd := GT.deed ok (hl d List.mem_cons_self)
    have hl' : ∀ x ∈ l, DIn ss x := fun x hx => hl x (List.mem_cons_of_mem _ hx)
    have gt := tabI_gt ok hl'
    show l.foldl (fun t d => bothI ss t (deedI ss d)) (bothI ss t (deedI ss d)) = bothI ss t (l.foldl (fun t d => bothI ss t (deedI ss d)) (bothI ss (stillI ss.length) (deedI ss d)))
    rw [tab_from2 ok hl' (GT.both ok h dd), tab_from2 ok hl' (GT.both ok (GT.still ok) dd), still_both dd.sq dd.low, both_assoc h.sq dd.sq gt.sq gt.hit]
/-- the table of two programs one behind the other -/
theorem tab_app (ok : ∀ s ∈ ss, SizeOk s) {l m : List (Nat × Nat × Int)} (hl : ∀ d ∈ l, DIn ss d) (hm : ∀ d ∈ m, DIn ss d) : tabI ss (l ++ m) = bothI ss (tabI ss l) (tabI ss m) := by
  have e : tabI ss (l ++ m) = m.foldl (fun t d => bothI ss t (deedI ss d)) (tabI ss l) := List.foldl_append
  rw [e, tab_from2 ok hm (tabI_gt ok hl)]
end
end NA
namespace NA
open PySem PySem.Spec PyProof.Rows L2
/-! ### the program's functions: small facts, levels -/
theorem Cal.up {P : Program} {w : World} {K : PySem.W.Frag} {mg : Str → Option Value} {base : Heap} {x : Str} {k j : Nat} {sp : Sp} (h : k ≤ j) (c : Cal P w K mg base k x sp) : Cal P w K mg base j x sp := by
  obtain ⟨a, fd, ps, F, r⟩ := c.ex
  exact ⟨a, fd, ps, ⟨F.len, fun A outer s H args us vs Q E hr he hb hv h' => F.run A outer s H args us vs Q E (hr.mono h) he hb hv h'⟩, r⟩
theorem CalK.up {P : Program} {w : World} {K : PySem.W.Frag} {mg : Str → Option Value} {base : Heap} {x : Str} {k j : Nat} {sp : Sp} {ks : List Str} {gV : List V → List V → List V} (h : k ≤ j) (c : CalK P w K mg base k x sp ks gV) : CalK P w K mg base j x sp ks gV := by
  obtain ⟨a, fd, ps, g, F, r⟩ := c.ex
  exact ⟨a, fd, ps, g, ⟨F.len, fun A outer s H args us vs Q E hr he hb hv h' => F.run A outer s H args us vs Q E (hr.mono h) he hb hv h'⟩, r⟩
theorem doneI_set {ss hs : List Int} (ok : ∀ s ∈ ss, SizeOk s) (h : COk ss hs) {d : Nat × Nat × Int} {s : Int} (e : ss[d.2.1]? = some s) : doneI ss hs d = hs.set d.2.1 ((hs.getD d.2.1 0 + d.2.2 * hs.getD d.1 0) % s) := by
  have li := (List.getElem?_eq_some_iff.mp e).1
  have l1 : (addI hs d).length = ss.length := by rw [addI_len, h.len]
  unfold doneI
  refine ext_getD (by rw [remI_length l1, List.length_set, h.len]) fun i hi => ?_
  rw [remI_length l1] at hi
  obtain ⟨t, et⟩ := get_some hi
  rw [remI_getD l1 et, addI_getD (by rw [h.len]; exact li), getD_set (by rw [h.len]; exact li)]
  by_cases z : d.2.1 = i
  · subst z
    rw [if_pos rfl, if_pos rfl]
    rw [e] at et
    cases et
    rfl
  · rw [if_neg z, if_neg z]
    obtain ⟨x, ex⟩ := get_some (show i < hs.length by rw [h.len]; exact hi)
    obtain ⟨a, b⟩ := h.low i x t ex et
    rw [List.getD_eq_getElem?_getD, ex]
    exact Int.emod_eq_of_lt a b
theorem runP_next {ss : List Int} {l : List (Nat × Nat × Int)} {hs : List Int} {i : Nat} {d : Nat × Nat × Int} (h : l[i]? = some d) : runP ss (l.take (i + 1)) hs = doneI ss (runP ss (l.take i) hs) d := by
  unfold runP
  rw [List.take_add_one, h, List.foldl_append]
  rfl
theorem COk.most {ss hs : List Int} (ok : ∀ s ∈ ss, SizeOk s) (h : COk ss hs) (i : Nat) : (hs.getD i 0).natAbs < 2 ^ 110 := by
  rw [List.getD_eq_getElem?_getD]
  cases e : hs[i]? with
  | none => exact Nat.pow_pos (by decide)
  | some x =>
    have li := (List.getElem?_eq_some_iff.mp e).1
    obtain ⟨s, es⟩ := get_some (show i < ss.length by rw [← h.len]; exact li)
    obtain ⟨a, b⟩ := h.low i x s e es
    obtain ⟨m, rfl, _, d⟩ := (ok s (List.mem_of_getElem? es)).nat
    exact Nat.lt_of_le_of_lt (show x.natAbs ≤ 10 ^ 30 by omega) (by decide)
end NA
namespace NA
open PySem PySem.Spec PyProof.Rows L2
/-! ### a range kept in a name -/
theorem cr_rangeV1 {X : Cx} : CallR X (.type "range") (fun vs H Q => ∃ j, vs = [V.int j] ∧ ∀ p, H p = none → Q (.ref p) (upd H p (.rng 0 j))) := by
  intro pins s σ H vs us Q I r h
  obtain ⟨j, rfl, q⟩ := h
  obtain ⟨u, rfl, rv⟩ := r.one
  obtain ⟨t, rfl⟩ := (show ∃ t, u = Value.int j t from rv)
  refine call_range_1 ⟨.ref s.heap.objs.size, upd H s.heap.objs.size (.rng 0 j), I.laid (t' := s.toks + 1 + 1) (fun b o e => Heap.get?_push_of_some _ e) (Nat.le_refl _) ?_, rfl, q _ (I.hok.fresh (Nat.le_refl _))⟩
  exact ⟨s.toks, t, s.toks + 1, Heap.get?_push_size _ rfl⟩
def iRngV (te : TE) : TI := fun σ H R => te σ H fun v H1 => ∃ (a : Addr) (lo hi : Int), v = .ref a ∧ H1 a = some (.rng lo hi) ∧ (-(2 ^ 62) ≤ lo ∧ lo < 2 ^ 62 ∧ -(2 ^ 62) ≤ hi ∧ hi < 2 ^ 62) ∧ R (Itr lo (hi - lo).toNat) H1
theorem pi_rngVK {X : Cx} (K : PySem.W.Frag) (hK : X.K = K) {tg e : Expr} {te : TE} (he : PE X e te) : PI X tg e (iRngV te) := by
  refine ⟨fun pins s σ H R I h => ?_⟩
  refine thn (he.run pins s σ H _ I h) fun v s1 ⟨x, H1, I1, r1, q1⟩ => ?_
  obtain ⟨a, lo, hi, e, ha, ⟨b1, b2, b3, b4⟩, q⟩ := q1
  subst e
  cases r1
  obtain ⟨t, u, v, hr⟩ := I1.hok a _ ha
  refine wpAny_pyIter_range (show IsRange s1.heap a lo hi 1 t u v from hr) (small_one b1 b2 b3 b4) ?_
  refine ⟨s1.heap.objs.size, [s1.heap.objs.size], _, _, H1, rfl, I1.kept (t' := s1.toks) fun b o e => Heap.get?_push_of_some _ e, turn_range _ lo (hi - lo).toNat, ?_, fun b hb => ?_, q⟩
  · have e1 : lo + ((0 : Nat) : Int) * 1 = lo := by simp
    have e2 : (((hi - lo).toNat : Nat) : Int) - ((0 : Nat) : Int) = Builtin.Range.rangeSize lo hi 1 := by rw [rangeSize_one]; split <;> omega
    show IsRangeIter _ _ (lo + ((0 : Nat) : Int) * 1) ((((hi - lo).toNat : Nat) : Int) - ((0 : Nat) : Int)) 1
    rw [e1, e2]
    exact Heap.get?_push_size _ rfl
  · have e : b = s1.heap.objs.size := by simpa using hb
    subst e
    exact I1.fpOk (Nat.le_refl _) (I1.hok.fresh (Nat.le_refl _))
end NA
namespace NA
open PySem PySem.Spec PyProof.Rows L2
/-! ### max of a tuple of ints -/
section
variable {prog : Program} {w : World} {A : Around} {E : Value → Shared → Prop} {s : Shared} {l : Addr}
theorem max_intTup {xs : Array (Int × Tok)} {Q : Value → Shared → Prop} (hh : A.handled = none) (hl : s.heap.IsTuple l (intItems xs)) (hne : 0 < xs.size)
    (h : ∀ v h' tk, (intItems xs)[argBest (fun i j => decide (numAt xs i > numAt xs j)) (xs.size - 1)]? = some v → (∀ b o, s.heap.get? b = some o → h'.get? b = some o) → Q v { s with heap := h', toks := tk }) :
    wpAny (model prog w) A (call (.builtin "max") [.ref l]) Q E s := by
  have hlt : l < s.heap.objs.size := by obtain ⟨_, e, _⟩ := hl; exact Heap.lt_size e
  refine call_max_walk (wpAny_pyIter_tuple hl ?_)
  refine ⟨_, [_, l], [_], _, _, _, _, rfl, Walks.tuple (A := A.in1) hh _ l (Nat.ne_of_lt hlt) (intItems xs), ⟨⟨_, Heap.get?_push_size _ rfl, rfl, rfl⟩, hl.push _⟩, fun b hb => ?_, by simpa [intItems] using hne, CmpOf.ints_gt (numAt xs) (fun _ _ => intItems_at), fun v h' tk hP hk => ?_⟩
  · show b < (s.heap.push _).objs.size
    rw [Heap.size_push]
    rcases List.mem_cons.mp hb with rfl | hb
    · exact Nat.lt_succ_self _
    · rw [List.mem_singleton.mp hb]
      exact Nat.lt_succ_of_lt hlt
  · refine h v h' tk (by simpa [intItems] using hP) fun b o e => hk b o (fun hm => ?_) (Heap.get?_push_of_some _ e)
    rw [List.mem_singleton.mp hm] at e
    exact absurd (Heap.lt_size e) (Nat.lt_irrefl _)
theorem max_rawT {its : List Value} {ns : List Int} {Q : Value → Shared → Prop} (hh : A.handled = none) (hl : s.heap.IsTuple l its.toArray) (hi : IntsAre its ns) (hne : 0 < ns.length)
    (h : ∀ h' tk M t', (∀ b o, s.heap.get? b = some o → h'.get? b = some o) → M ∈ ns → (∀ a, a ∈ ns → a ≤ M) → Q (.int M t') { s with heap := h', toks := tk }) : wpAny (model prog w) A (call (.builtin "max") [.ref l]) Q E s := by
  obtain ⟨xs, e⟩ := hi.allInts.items
  have hn : numsOf (intItems xs).toList = ns := by rw [← e]; exact hi.numsOf
  rw [nums_intItems] at hn
  subst hn
  rw [e] at hl
  have hsz : 0 < xs.size := by simpa using hne
  refine max_intTup hh hl hsz fun v h' tk hv hk => ?_
  obtain ⟨t, rfl⟩ := intItems_at hv
  obtain ⟨h1, h2⟩ := argBest_gt (numAt xs) (xs.size - 1)
  refine h h' tk _ t hk ?_ fun a ha => ?_
  · rw [numAt_eq]; exact PySem.getD_mem (by rw [List.length_map, Array.length_toList]; omega)
  · obtain ⟨j, hj, rfl⟩ := mem_getD ha
    rw [List.length_map, Array.length_toList] at hj
    rw [← numAt_eq]; exact h2 j (by omega)
end
def rMaxT (K : PySem.W.Frag) : List V → Hp → VK → Prop := fun vs H Q => ∃ (a : Addr) (ns : List Int), vs = [V.ref a] ∧ SqT K H a (ns.map V.int) ∧ 0 < ns.length ∧ ∀ m, m ∈ ns → (∀ y, y ∈ ns → y ≤ m) → Q (.int m) H
theorem cr_maxTK {X : Cx} (K : PySem.W.Frag) (hK : X.K = K) (hc : X.calm = true) : CallR X (.builtin "max") (rMaxT K) := by
  subst hK
  intro pins s σ H vs us Q I r h
  obtain ⟨a, ns, rfl, hs, hne, q⟩ := h
  obtain ⟨its, rv, hl⟩ := src_of (k := .t) I hs
  rw [Vals.ref1 r]
  exact max_rawT (I.ok.hd hc) hl rv.ints hne fun h' tk m t' hk h1 h2 => ⟨.int _, H, I.kept hk, ⟨_, rfl⟩, q m h1 h2⟩
end NA
namespace NA
open PySem PySem.Spec PyProof.Rows L2
/-! ### all contents of a small machine -/
def exI (s : Int) (found : List (List Int)) : List (List Int) := found.flatMap fun h => (List.range s.toNat).map fun i : Nat => h ++ [(i : Int)]
def everyI (ss : List Int) : List (List Int) := ss.foldl (fun found s => exI s found) [[]]
def prodN (ss : List Int) : Nat := ss.foldl (fun a s => a * s.toNat) 1
theorem every_next {ss : List Int} {i : Nat} {s : Int} (h : ss[i]? = some s) : everyI (ss.take (i + 1)) = exI s (everyI (ss.take i)) := by
  unfold everyI
  rw [List.take_add_one, h, List.foldl_append]
  rfl
theorem prod_next {ss : List Int} {i : Nat} {s : Int} (h : ss[i]? = some s) : prodN (ss.take (i + 1)) = prodN (ss.take i) * s.toNat := by
  unfold prodN
  rw [List.take_add_one, h, List.foldl_append]
  rfl
theorem prod_snoc (ss : List Int) (s : Int) : prodN (ss ++ [s]) = prodN ss * s.toNat := by
  unfold prodN
  rw [List.foldl_append]
  rfl
theorem ex_len (s : Int) (f : List (List Int)) : (exI s f).length = f.length * s.toNat := by
  unfold exI
  rw [List.length_flatMap]
  have : ∀ l : List (List Int), (l.map fun h => ((List.range s.toNat).map fun i : Nat => h ++ [(i : Int)]).length).sum = l.length * s.toNat := by
    intro l
    induction l with
    | nil => rw [List.map_nil, List.length_nil, Nat.zero_mul]; rfl
    | cons h l ih =>
      rw [List.map_cons, List.sum_cons, ih, List.length_map, List.length_range, List.length_cons, Nat.succ_mul, Nat.add_comm]
  exact this f
structure EvOk (ss : List Int) (f : List (List Int)) : Prop where
  cok : ∀ h ∈ f, COk ss h
  nd : f.Nodup
  len : f.length = prodN ss
theorem every_ok (ss : List Int) (ok : ∀ s ∈ ss, SizeOk s) : ∀ i, i ≤ ss.length → EvOk (ss.take i) (everyI (ss.take i)) := by
  intro i
  induction i with
  | zero =>
    intro _
    refine ⟨fun h hh => ?_, List.pairwise_singleton _ _, rfl⟩
    rw [List.take_zero] at hh ⊢
    rw [List.mem_singleton.mp hh]
    exact ⟨rfl, fun i h s e _ => by simp at e⟩
  | succ i ih =>
    intro hi
    have e := ih (by omega)
    obtain ⟨s, hs⟩ := get_some (ss := ss) (show i < ss.length by omega)
    rw [every_next hs]
    refine ⟨fun h hh => ?_, ?_, by rw [ex_len, e.len, prod_next hs]⟩
    · obtain ⟨g, hg, hx⟩ := List.mem_flatMap.mp hh
      obtain ⟨x, hx', rfl⟩ := List.mem_map.mp hx
      have cg := e.cok g hg
      have lx := List.mem_range.mp hx'
      have lt : (ss.take i).length = i := by rw [List.length_take]; omega
      refine ⟨by rw [List.length_append, cg.len, lt, List.length_take, List.length_singleton]; omega, fun k y t hy ht => ?_⟩
      by_cases z : k < i
      · rw [List.getElem?_append_left (by rw [cg.len, lt]; exact z)] at hy
        refine cg.low k y t hy ?_
        rw [List.getElem?_take_of_lt z]
        rwa [List.getElem?_take_of_lt (by omega)] at ht
      · have lk : k < i + 1 := by
          have := (List.getElem?_eq_some_iff.mp ht).1
          rw [List.length_take] at this
          omega
        have ek : k = i := by omega
        subst ek
        rw [List.getElem?_append_right (by rw [cg.len, lt]; exact Nat.le_refl _), cg.len, lt, Nat.sub_self] at hy
        cases Option.some.inj hy
        rw [List.getElem?_take_of_lt (by omega), hs] at ht
        cases Option.some.inj ht
        omega
    · unfold exI
      refine List.pairwise_flatMap.mpr ⟨fun h _ => ?_, ?_⟩
      · rw [List.pairwise_map]
        refine List.Pairwise.imp (fun {a b} (z : a < b) q => ?_) List.pairwise_lt_range
        have q' := List.append_cancel_left q
        have q'' : (a : Int) = b := List.head_eq_of_cons_eq q'
        omega
      · refine List.Pairwise.imp_of_mem (fun {a b} ha hb z x hx y hy q => z ?_) e.nd
        obtain ⟨i1, _, rfl⟩ := List.mem_map.mp hx
        obtain ⟨i2, _, rfl⟩ := List.mem_map.mp hy
        exact (List.append_inj q (by rw [(e.cok a ha).len, (e.cok b hb).len])).1
theorem every_full (ss : List Int) (ok : ∀ s ∈ ss, SizeOk s) : EvOk ss (everyI ss) := by
  have := every_ok ss ok ss.length (Nat.le_refl _)
  rwa [List.take_length] at this
theorem prod_pos {ss : List Int} (ok : ∀ s ∈ ss, SizeOk s) : ∀ i, i ≤ ss.length → 0 < prodN (ss.take i) := by
  intro i
  induction i with
  | zero => intro _; exact Nat.one_pos
  | succ i ih =>
    intro hi
    obtain ⟨s, hs⟩ := get_some (ss := ss) (show i < ss.length by omega)
    rw [prod_next hs]
    obtain ⟨m, rfl, m2, _⟩ := (ok s (List.mem_of_getElem? hs)).nat
    exact Nat.mul_pos (ih (by omega)) (by omega)
theorem prod_le {ss : List Int} (ok : ∀ s ∈ ss, SizeOk s) : ∀ k i, i + k ≤ ss.length → prodN (ss.take i) ≤ prodN (ss.take (i + k)) := by
  intro k
  induction k with
  | zero => intro i _; exact Nat.le_refl _
  | succ k ih =>
    intro i hi
    obtain ⟨s, hs⟩ := get_some (ss := ss) (show i + k < ss.length by omega)
    rw [show i + (k + 1) = i + k + 1 by omega, prod_next hs]
    obtain ⟨m, rfl, m2, _⟩ := (ok s (List.mem_of_getElem? hs)).nat
    exact Nat.le_trans (ih i (by omega)) (Nat.le_mul_of_pos_right _ (by omega))
def spEvery : Sp := fun vs H Q _ => ∃ (x : V) (ss : List Int), vs = [x] ∧ Im H x (sD ss) ∧ (∀ s ∈ ss, SizeOk s) ∧ prodN ss ≤ 1000 ∧
  ∀ (a : Addr) (us : List V) (H' : Hp), H a = none → H' a = some (.lst us) → ImAll H' us ((everyI ss).map sD) → Same H H' → Q (.ref a) H'
def spSmall : Sp := fun vs H Q _ => ∃ (p q : Addr) (m : Nat), vs = [.ref p, .int (m : Int)] ∧ Pt H p q ∧ 2 ≤ m ∧ m ≤ 1000 ∧
  ∀ (v : V) (ss : List Int) (ws : List (Nat × Nat)) (H' : Hp), Im H' v (mD ss ws) → MOk ss ws → prodN ss ≤ m → Pt H' p q → Kp p q H H' → Q v H'
theorem pow_prod {ss : List Int} (ok : ∀ s ∈ ss, SizeOk s) : ∀ k, k ≤ ss.length → 2 ^ k ≤ prodN (ss.take k) := by
  intro k
  induction k with
  | zero => intro _; exact Nat.le_refl _
  | succ k ih =>
    intro hk
    obtain ⟨s', hs'⟩ := get_some (ss := ss) (show k < ss.length by omega)
    rw [prod_next hs', Nat.pow_succ]
    obtain ⟨m', rfl, m2', _⟩ := (ok s' (List.mem_of_getElem? hs')).nat
    exact Nat.mul_le_mul (ih (by omega)) (by omega)
theorem op_catAK {X : Cx} (K : PySem.W.Frag) (hK : X.K = K) : OpR X (binaryOp .Add) (rCatA K) := hK ▸ op_catA
end NA
namespace NA
open PySem PySem.Spec PyProof.Rows L2
/-! ### unlike tables have unlike texts -/
abbrev sg (t : Str) : List Nat := t.cps.toList
theorem sg_app (a b : Str) : sg (a ++ b) = sg a ++ sg b := by
  show (a.cps ++ b.cps).toList = _
  rw [Array.toList_append]
def dig (c : Nat) : Bool := decide (48 ≤ c ∧ c ≤ 57)
def runsGo : List Nat → List Nat → List (List Nat)
  | cur, [] => if cur = [] then [] else [cur.reverse]
  | cur, c :: cs => if dig c = true then runsGo (c :: cur) cs else (if cur = [] then [] else [cur.reverse]) ++ runsGo [] cs
theorem runs_dig : ∀ (d cur rest : List Nat), (∀ c ∈ d, dig c = true) → runsGo cur (d ++ rest) = runsGo (d.reverse ++ cur) rest
  | [], _, _, _ => rfl
  | c :: d, cur, rest, h => by
    show runsGo cur (c :: (d ++ rest)) = _
    rw [runsGo, if_pos (h c List.mem_cons_self), runs_dig d _ _ fun x hx => h x (List.mem_cons_of_mem _ hx), List.reverse_cons, List.append_assoc]
    rfl
theorem runs_no {c : Nat} (h : dig c = false) (rest : List Nat) : runsGo [] (c :: rest) = runsGo [] rest := by
  rw [runsGo, if_neg (by rw [h]; decide), if_pos rfl, List.nil_append]
/-- whatever sign but a digit follows: these runs of digits, then what is behind -/
def Gives (t : Str) (e : List (List Nat)) : Prop := ∀ (c : Nat) (rest : List Nat), dig c = false → runsGo [] (sg t ++ c :: rest) = e ++ runsGo [] rest
theorem gives_int {n : Int} (h : 0 ≤ n) : Gives (PyData.int n).shown [sg (PyData.int n).shown] := by
  intro c rest hc
  have dg : ∀ x ∈ sg (PyData.int n).shown, dig x = true := fun x hx => by
    obtain ⟨m, rfl⟩ : ∃ m : Nat, n = (m : Int) := ⟨n.toNat, by omega⟩
    rw [PyData.shown_int] at hx
    have e : (toString (m : Int) : String) = Nat.repr m := rfl
    rw [e] at hx
    have hx' : x ∈ (Str.ofString (Nat.repr m)).cps.toList := hx
    rw [signs_ofString] at hx'
    obtain ⟨ch, hch, rfl⟩ := List.mem_map.mp hx'
    rw [Nat.toList_repr] at hch
    have := digit_range (Nat.isDigit_of_mem_toDigits (by decide) (by decide) hch)
    exact decide_eq_true this
  have ne : sg (PyData.int n).shown ≠ [] := fun z => by
    obtain ⟨m, rfl⟩ : ∃ m : Nat, n = (m : Int) := ⟨n.toNat, by omega⟩
    rw [PyData.shown_int] at z
    have z' : (Str.ofString (Nat.repr m)).cps.toList = [] := z
    rw [signs_ofString, Nat.toList_repr, List.map_eq_nil_iff] at z'
    exact Nat.toDigits_ne_nil z'
  rw [runs_dig _ _ _ dg, List.append_nil, runsGo, if_neg (by rw [hc]; decide), if_neg (fun z => ne (List.reverse_eq_nil_iff.mp z)), List.reverse_reverse]
theorem gives_join : ∀ (ts : List Str) (es : List (List (List Nat))), ts ≠ [] → Paired (fun t e => Gives t e) ts es → Gives (Str.join ", " ts) es.flatten
  | [t], [e], _, h => by
    cases h with
    | cons a b =>
      intro c rest hc
      have := a c rest hc
      rw [show Str.join ", " [t] = t from rfl, this]
      simp
  | t :: t2 :: ts, e :: e2 :: es, _, h => by
    cases h with
    | cons a b =>
      intro c rest hc
      have ih := gives_join (t2 :: ts) (e2 :: es) (List.cons_ne_nil _ _) b c rest hc
      have j : Str.join ", " (t :: t2 :: ts) = t ++ ", " ++ Str.join ", " (t2 :: ts) := rfl
      have cm : sg (", " : Str) = [44, 32] := by decide
      rw [j, sg_app, sg_app, cm, List.append_assoc, List.append_assoc]
      show runsGo [] (sg t ++ (44 :: (32 :: (sg (Str.join ", " (t2 :: ts)) ++ c :: rest)))) = _
      rw [a 44 _ (by decide), runs_no (by decide), ih]
      simp [List.append_assoc]
  | [], _, h, _ => absurd rfl h
  | [_], [], _, h => by cases h
  | [_], _ :: _ :: _, _, h => by cases h with | cons a b => cases b
  | _ :: _ :: _, [], _, h => by cases h
  | _ :: _ :: _, [_], _, h => by cases h with | cons a b => cases b
theorem gives_tuple {ts : List Str} {es : List (List (List Nat))} (ne : ts ≠ []) (h : Paired (fun t e => Gives t e) ts es) : Gives (tupleText ts) es.flatten := by
  intro c rest hc
  have j := gives_join ts es ne h
  have p : sg ("(" : Str) = [40] := by decide
  unfold tupleText
  rw [sg_app, sg_app, p, List.append_assoc, List.append_assoc]
  show runsGo [] (40 :: (sg (Str.join ", " ts) ++ (sg _ ++ c :: rest))) = _
  rw [runs_no (by decide)]
  by_cases l : (ts.length == 1) = true
  · rw [if_pos l]
    have q : sg ((",)" : String) : Str) = [44, 41] := by decide
    rw [q]
    show runsGo [] (sg (Str.join ", " ts) ++ 44 :: (41 :: (c :: rest))) = _
    rw [j 44 _ (by decide), runs_no (by decide), runs_no hc]
  · rw [if_neg l]
    have q : sg ((")" : String) : Str) = [41] := by decide
    rw [q]
    show runsGo [] (sg (Str.join ", " ts) ++ 41 :: (c :: rest)) = _
    rw [j 41 _ (by decide), runs_no hc]
def rowSg (r : List Int) : List (List Nat) := r.map fun n => sg (PyData.int n).shown
theorem shownAll_map {α : Type} (f : α → PyData) : ∀ l : List α, PyData.shownAll (l.map f) = l.map fun x => (f x).shown
  | [] => rfl
  | x :: l => by
    rw [List.map_cons, List.map_cons, ← shownAll_map f l]
    rfl
theorem gives_row {r : List Int} (ne : r ≠ []) (h : ∀ n ∈ r, 0 ≤ n) : Gives (sD r).shown (rowSg r) := by
  have p : Paired (fun t e => Gives t e) (r.map fun n => (PyData.int n).shown) (r.map fun n => [sg (PyData.int n).shown]) := by
    clear ne
    induction r with
    | nil => exact .nil
    | cons n r ih => exact .cons (gives_int (h n List.mem_cons_self)) (ih fun x hx => h x (List.mem_cons_of_mem _ hx))
  have g := gives_tuple (by simpa using ne) p
  have e1 : (sD r).shown = tupleText (r.map fun n => (PyData.int n).shown) := by
    unfold sD
    rw [← shownAll_map PyData.int]
    simp only [PyData.shown]
  have e2 : ∀ l : List Int, (l.map fun n => [sg (PyData.int n).shown]).flatten = rowSg l := by
    intro l
    induction l with
    | nil => rfl
    | cons n l ih =>
      rw [List.map_cons, List.flatten_cons, ih]
      rfl
  rw [e1, ← e2]
  exact g
theorem gives_tab {t : List (List Int)} (ne : t ≠ []) (h : ∀ r ∈ t, r ≠ [] ∧ ∀ n ∈ r, 0 ≤ n) : Gives (tD t).shown (t.map rowSg).flatten := by
  have p : Paired (fun t e => Gives t e) (t.map fun r => (sD r).shown) (t.map rowSg) := by
    clear ne
    induction t with
    | nil => exact .nil
    | cons r t ih =>
      obtain ⟨a, b⟩ := h r List.mem_cons_self
      exact .cons (gives_row a b) (ih fun x hx => h x (List.mem_cons_of_mem _ hx))
  have g := gives_tuple (by simpa using ne) p
  have e1 : (tD t).shown = tupleText (t.map fun r => (sD r).shown) := by
    unfold tD
    rw [← shownAll_map sD]
    simp only [PyData.shown]
  rw [e1]
  exact g
theorem sg_int_inj {a b : Int} (ha : 0 ≤ a) (hb : 0 ≤ b) (h : sg (PyData.int a).shown = sg (PyData.int b).shown) : a = b := by
  obtain ⟨m, rfl⟩ : ∃ m : Nat, a = (m : Int) := ⟨a.toNat, by omega⟩
  obtain ⟨k, rfl⟩ : ∃ m : Nat, b = (m : Int) := ⟨b.toNat, by omega⟩
  rw [PyData.shown_int, PyData.shown_int] at h
  have h' : (Str.ofString (Nat.repr m)).cps.toList = (Str.ofString (Nat.repr k)).cps.toList := h
  rw [signs_ofString, signs_ofString] at h'
  have inj : ∀ {x y : List Char}, x.map Char.toNat = y.map Char.toNat → x = y := by
    intro x
    induction x with
    | nil => intro y e; cases y with | nil => rfl | cons _ _ => cases e
    | cons c x ih =>
      intro y e
      cases y with
      | nil => cases e
      | cons d y =>
        rw [List.map_cons, List.map_cons, List.cons.injEq] at e
        rw [ih e.2, Char.ext (UInt32.toNat_inj.mp e.1)]
  have e := inj h'
  have : Nat.repr m = Nat.repr k := String.ext e
  rw [Nat.repr_injective this]
theorem rowSg_inj {r q : List Int} (hr : ∀ n ∈ r, 0 ≤ n) (hq : ∀ n ∈ q, 0 ≤ n) (h : rowSg r = rowSg q) : r = q := by
  induction r generalizing q with
  | nil => cases q with | nil => rfl | cons _ _ => cases h
  | cons n r ih =>
    cases q with
    | nil => cases h
    | cons m q =>
      have h' : sg (PyData.int n).shown :: rowSg r = sg (PyData.int m).shown :: rowSg q := h
      rw [List.cons.injEq] at h'
      rw [sg_int_inj (hr n List.mem_cons_self) (hq m List.mem_cons_self) h'.1, ih (fun x hx => hr x (List.mem_cons_of_mem _ hx)) (fun x hx => hq x (List.mem_cons_of_mem _ hx)) h'.2]
theorem tab_inj {t u : List (List Int)} {n : Nat} (n0 : 0 < n) (lt : t.length = n) (lu : u.length = n) (ht : ∀ r ∈ t, r.length = n ∧ ∀ x ∈ r, 0 ≤ x) (hu : ∀ r ∈ u, r.length = n ∧ ∀ x ∈ r, 0 ≤ x) (h : (tD t).shown = (tD u).shown) : t = u := by
  have nr : ∀ {v : List (List Int)}, (∀ r ∈ v, r.length = n ∧ ∀ x ∈ r, 0 ≤ x) → ∀ r ∈ v, r ≠ [] ∧ ∀ x ∈ r, 0 ≤ x := fun hv r hr => ⟨List.length_pos_iff.mp (by rw [(hv r hr).1]; exact n0), (hv r hr).2⟩
  have g1 := gives_tab (List.length_pos_iff.mp (by omega)) (nr ht) 32 [] (by decide)
  have g2 := gives_tab (List.length_pos_iff.mp (by omega)) (nr hu) 32 [] (by decide)
  rw [h, g2] at g1
  have e := List.append_cancel_right g1
  clear g1 g2 h
  have : ∀ (t u : List (List Int)), t.length = u.length → (∀ r ∈ t, r.length = n ∧ ∀ x ∈ r, 0 ≤ x) → (∀ r ∈ u, r.length = n ∧ ∀ x ∈ r, 0 ≤ x) → (u.map rowSg).flatten = (t.map rowSg).flatten → t = u := by
    intro t
    induction t with
    | nil => intro u l _ _ _; exact (List.eq_nil_of_length_eq_zero l.symm).symm
    | cons r t ih =>
      intro u l a b c
      cases u with
      | nil => cases l
      | cons q u =>
        rw [List.map_cons, List.map_cons, List.flatten_cons, List.flatten_cons] at c
        have ra := a r List.mem_cons_self
        have qa := b q List.mem_cons_self
        obtain ⟨c1, c2⟩ := List.append_inj c (by unfold rowSg; rw [List.length_map, List.length_map, ra.1, qa.1])
        rw [rowSg_inj qa.2 ra.2 c1, ih u (by simpa using l) (fun x hx => a x (List.mem_cons_of_mem _ hx)) (fun x hx => b x (List.mem_cons_of_mem _ hx)) c2]
  exact this t u (by omega) ht hu e
end NA
namespace NA
open PySem PySem.Spec PyProof.Rows L2

/-! ### repr of a machine beside a value that may be an empty dict -/
mutual
def flatT : PyData → Bool
  | .int _ => true
  | .tuple xs => flatTAll xs
  | _ => false
def flatTAll : List PyData → Bool
  | [] => true
  | x :: xs => flatT x && flatTAll xs
end
mutual
theorem reads_flat {h : Heap} : ∀ (d : PyData) {v : Value} {as : List Addr}, Reads h v d as → flatT d = true → as = []
  | .int _, _, _, r, _ => by cases r; rfl
  | .tuple xs, _, _, r, f => by
    cases r with
    | tuple _ _ _ ra => exact readsAll_flat xs ra (by simpa [flatT] using f)
  | .none, _, _, _, f => by simp [flatT] at f
  | .bool _, _, _, _, f => by simp [flatT] at f
  | .str _, _, _, _, f => by simp [flatT] at f
  | .list _, _, _, _, f => by simp [flatT] at f
  | .dict _, _, _, _, f => by simp [flatT] at f
theorem readsAll_flat {h : Heap} : ∀ (ds : List PyData) {vs : List Value} {as : List Addr}, ReadsAll h vs ds as → flatTAll ds = true → as = []
  | [], _, _, r, _ => by cases r; rfl
  | d :: ds, _, _, r, f => by
    simp only [flatTAll, Bool.and_eq_true] at f
    cases r with
    | cons a b => rw [reads_flat d a f.1, readsAll_flat ds b f.2]; rfl
end
theorem flat_ints : ∀ ns : List Int, flatTAll (ns.map PyData.int) = true
  | [] => rfl
  | _ :: ns => by simp only [List.map_cons, flatTAll, flatT, flat_ints ns, Bool.and_self]
theorem flat_wires : ∀ ws : List (Nat × Nat), flatTAll (ws.map wD) = true
  | [] => rfl
  | _ :: ws => by simp only [List.map_cons, flatTAll, flatT, wD, flat_wires ws, Bool.and_self]
theorem flat_mach (ss : List Int) (ws : List (Nat × Nat)) : flatT (mD ss ws) = true := by
  simp only [mD, sD, flatT, flatTAll, flat_wires, Bool.and_true, Bool.and_eq_true]
  exact flat_ints ss
section
variable {X : Cx} {es : List Expr} {t : TA} {pos : Pos}
def tLstN (t : TA) : TE := fun σ H Q => t σ H fun xs H1 => xs.length ≤ sizeLine ∧ ∀ p, H1 p = none → p ≠ sysModules → Q (.ref p) (upd H1 p (.lst xs))
theorem pe_lstN (h : PA X es t) : PE X (.List es pos) (tLstN t) := by
  refine ⟨fun pins s σ H Q I hq => ?_⟩
  refine wpAny_List_spliced (thn (h.run pos pins s σ H _ I hq) fun us s1 ⟨xs, H1, I1, r, z, q⟩ => ⟨by rw [← r.length]; exact z, ?_⟩)
  have hf : H1 s1.heap.objs.size = none := I1.hok.fresh (Nat.le_refl _)
  refine ⟨.ref s1.heap.objs.size, upd H1 s1.heap.objs.size (.lst xs), I1.laid (t' := s1.toks) (fun b u e => Heap.get?_push_of_some _ e) (Nat.le_refl _) ?_, rfl, q _ hf (Nat.ne_of_gt I1.big)⟩
  exact ⟨z, us, 0, r, Heap.get?_push_size _ rfl⟩
/-- the machine, and the value -/
def rReprN : List V → Hp → VK → Prop := fun xs H Q => ∃ (l : Addr) (x y : V) (d e : PyData), xs = [.ref l] ∧ l ≠ sysModules ∧ H l = some (.lst [x, y]) ∧ Dg An H x d ∧ flatT d = true ∧ Dv An H y e ∧ (Sh (.list [d, e]) ∨ (e = .dict [] ∧ Sh d ∧ cost d ≤ 4000000 ∧ d.depth ≤ 50)) ∧ Q (.str (PyData.list [d, e]).shown) H
theorem call_reprN {k : Nat} (hg : Bare X.A) (hr : Room k X.A) : CallR X (.builtin "repr") rReprN := by
  intro pins s σ H xs us Q I r h
  obtain ⟨l, x, y, d, e, rfl, nl, hl, hx, fl, hy, sh, q⟩ := h
  rcases hy with hy | ⟨a, rfl, h2, rfl⟩
  · rcases sh with sh | ⟨rfl, _⟩
    · exact call_reprD hg hr pins s σ H [.ref l] us Q I r ⟨.ref l, _, rfl, .lst (SqL.of hl) (.cons (Dg.toDp d x hx) (.cons (Dg.toDp e y hy) .nil)), sh, q⟩
    · cases hy
  · obtain ⟨u, rfl, ru⟩ := r.one
    cases (show u = Value.ref l from ru)
    have sh' : Sh d ∧ cost d ≤ 4000000 ∧ d.depth ≤ 50 := by
      rcases sh with sh | ⟨_, sh⟩
      · have := sh.ok
        simp [okD, okAll] at this
      · exact sh
    obtain ⟨sd, cd, dd⟩ := sh'
    have ok : ObjOk X.prog X.w H s.heap a (.dK []) := I.hok a _ h2
    obtain ⟨_, ns, vs, kv, o, es, ep, g1, g2, g3, g4, g5⟩ := ok
    have hu := hr.un
    have vs0 : vs = [] := by cases kv; rfl
    subst vs0
    have es0 : es.toList = [] := by
      have z := g5.1
      cases h : es.toList with
      | nil => rfl
      | cons x l =>
        rw [h] at z
        cases z
    have rd : Reads s.heap (.ref a) (.dict []) (a :: [] ++ []) := .dict g1 g2.1 g3 (by rw [es0]; exact .nil) (by rw [es0]; exact .nil)
    have nsm : sysModules ≠ a := fun z => by
      rw [z, beq_self_eq_true] at ns
      cases ns
    obtain ⟨its, rv, ⟨o2, n, ho, hc, _, hd⟩, _⟩ := I.list (SqL.of hl)
    obtain ⟨ux, uy, hits, rx, ry⟩ : ∃ ux uy, its = [ux, uy] ∧ RelV x ux ∧ RelV (.ref a) uy := by
      cases rv with
      | cons r1 r2 =>
        cases r2 with
        | cons r3 r4 =>
          cases r4
          exact ⟨_, _, rfl, r1, r3⟩
    subst hits
    cases (show uy = Value.ref a from ry)
    obtain ⟨as, rdx⟩ := Dp.reads I d x ux (Dg.toDp d x hx) rx
    have as0 := reads_flat d rdx fl
    subst as0
    have rl : Reads s.heap (.ref l) (.list [d, .dict []]) (l :: ([] ++ ((a :: [] ++ []) ++ []))) := .list ho hc hd (.cons rdx (.cons rd .nil))
    obtain ⟨f1, f2, f3⟩ := okD_facts d sd.ok
    have len := listText_len_le (PyData.shownAll [d, .dict []])
    refine repr_of_reads' rl (by simp [PyData.showable, PyData.showableAll, f1, PyData.showableKv]) (fun _ => ?_) hg ?_ (fun _ _ z => z) (fun h' u tk hk => ⟨.str _, H, I.kept (t' := tk) hk, ⟨_, rfl⟩, q⟩) ?_
    · intro hm
      simp at hm
      rcases hm with z | z
      · exact nl z.symm
      · exact nsm z
    · simp only [PyData.depth, PyData.depthAll, PyData.depthKv]
      omega
    · have e2 : (PyData.shown (.dict [])).length ≤ 10 := by decide +kernel
      have sz : 16000000 ≤ sizeLine := by decide
      simp only [PyData.shown]
      simp only [PyData.shownAll, List.map_cons, List.map_nil, List.sum_cons, List.sum_nil, List.length_cons, List.length_nil] at len ⊢
      omega
def rNotInE (K : PySem.W.Frag) : R2 := fun x y H Q => ∃ d xs, Dp K H x d ∧ Dp K H y (.tuple xs) ∧ SeqAt.shaped (.tuple xs) = true ∧ SeqAt.shaped d = true ∧ (∀ z ∈ xs, SeqAt.noMix z d = true) ∧ Q (.bl (!decide (countIn d xs ≠ 0))) H
theorem op_notInE (K : PySem.W.Frag) (hK : X.K = K) (hu : X.A.units + 65 < cLine) : OpR X (compareOp .NotIn) (rNotInE K) := by
  subst hK
  intro pins s σ H x y v u Q I rx ry h
  obtain ⟨d, xs, h1, h2, h3, h4, h5, q⟩ := h
  obtain ⟨as, r1⟩ := Dp.reads I d x v h1 rx
  obtain ⟨bs, r2⟩ := Dp.reads I _ y u h2 ry
  exact notIn_tuple_dataH r2 r1 h3 h4 hu h5 ⟨.bl _, H, I, rfl, q⟩
theorem room65K {k : Nat} {A : Around} (hr : Room k A) : A.units + 65 < cLine := by
  have := hr.un
  omega
end
end NA
set_option maxHeartbeats 4000000
namespace NA
open PySem PySem.Spec PyProof.Rows L2
/-! ### a tuple times 1 is the tuple -/
theorem tuple_mulOne (l : Addr) (items : Array Value) (n : Nat) (dd : Option Addr) (sl : Array (Option Value)) (u : Tok) :
    Meets (Builtin.«tuple.__mul__» ⟨[.ref l, .int 1 u], []⟩) (fun _ R s => s.heap.get? l = some { cls := .type "tuple", dict := dd, data := .seq items n, slots := sl } ∧
      R (.ok (.ret (Value.ref l))) s) :=
  .of_wp fun prog w A R s h => by
    obtain ⟨hp, g, d, tk, os⟩ := s
    obtain ⟨hl, h⟩ := h
    have f1 := AutoSeq1.idx_int
    wp_walk using wpAny_loadPart' hl
    exact ⟨_, rfl, h⟩
def rRepN (K : PySem.W.Frag) : R2 := fun x y H Q => ∃ l k xs, x = .ref l ∧ y = .int k ∧ SqT K H l xs ∧ H l = some (.tup xs) ∧ xs ≠ [] ∧ 1 ≤ k ∧ k ≤ 1000 ∧ xs.length ≤ 1000 ∧ ∀ p H', Same H H' → H' p = some (.tup (List.replicate k.toNat xs).flatten) → Q (.ref p) H'
theorem op_repN {X : Cx} (K : PySem.W.Frag) (hK : X.K = K) : OpR X (binaryOp .Mult) (rRepN K) := by
  subst hK
  intro pins s σ H x y v u Q I rx ry h
  obtain ⟨l, k, xs, rfl, rfl, hT, hT2, hne, h1, h2, hz, q⟩ := h
  by_cases k1 : k = 1
  · subst k1
    cases rx
    obtain ⟨t, rfl⟩ := ry
    obtain ⟨its, r, ⟨⟨cls, dd, data, sl⟩, ho, hc, n, hd⟩, hs⟩ := I.tuple hT
    simp only at hc hd
    subst hc hd
    refine wpAny_binaryOp_repeat_ref (T := "tuple") (U := "int") (by decide) ⟨_, ho, rfl⟩ (fun s' => typeIs_int s' 1 t) noFill_tuple_mul F.fills_int_mul F.slot_int_rmul repeat_tuple F.slot_int_index.lookup
      (call_meets F.slot_int_rmul (typeIs_int s 1 t) F.entry_int_rmul (F.args_int_rmul_2 _ _) (int_rmul_tuple 1 t l its.toArray n dd sl)
        ⟨ho, rfl, ⟨_, ho, rfl⟩, call_meets F.slot_tuple_mul ⟨_, ho, rfl⟩ F.entry_tuple_mul (F.args_tuple_mul_2 _ _) (tuple_mulOne l its.toArray n dd sl t) ⟨ho, ?_⟩⟩)
    refine ⟨.ref l, H, I, rfl, q l H (Same.refl H) ?_⟩
    rw [hT2, show (1 : Int).toNat = 1 from rfl, List.replicate_one, List.flatten_cons, List.flatten_nil, List.append_nil]
  · exact op_repT pins s σ H _ _ v u Q I rx ry ⟨l, k, xs, rfl, rfl, hT, hne, by omega, h2, hz, fun p np => q p _ (Same.new (Same.refl H) np) upd_same⟩
end NA
namespace NA
open PySem PySem.Spec PyProof.Rows L2
def topS (i : Nat) : Stmt := PySem.Challenge.pw_narrowadds_k09_what_is_a_table.main.body.getD i (.Pass ⟨0, 0, 0, 0⟩)
abbrev s_is_an_integer : Stmt := topS 2
abbrev s_is_below : Stmt := topS 3
abbrev s_step : Stmt := topS 5
abbrev s_table_error : Stmt := topS 7
abbrev s_entry_error : Stmt := topS 8
abbrev s_is_row : Stmt := topS 9
abbrev s_is_entry : Stmt := topS 10
abbrev s_l_pot : Stmt := topS 12
abbrev s_l_dip : Stmt := topS 13
abbrev s_l_pick : Stmt := topS 14
abbrev s_l_primes : Stmt := topS 15
abbrev s_l_common : Stmt := topS 16
abbrev s_l_step : Stmt := topS 17
abbrev s_l_great : Stmt := topS 18
abbrev s_l_sizes : Stmt := topS 19
abbrev s_l_wires : Stmt := topS 20
abbrev s_l_machine : Stmt := topS 21
abbrev s_l_table : Stmt := topS 22
abbrev s_l_led : Stmt := topS 23
abbrev s_l_both : Stmt := topS 24
abbrev s_l_still : Stmt := topS 25
abbrev s_l_due : Stmt := topS 26
abbrev s_l_with : Stmt := topS 27
abbrev s_l_spoilt : Stmt := topS 28
abbrev s_law : Stmt := topS 29
section
variable {P : Program} {w : World} {K : PySem.W.Frag} {mg : Str → Option Value} {base : Heap}

/-! ### _law_dip, for great sizes too -/
abbrev sc_l_dipN : List Str := ["pot", "size", "cell", "mixed"]
theorem sc_l_dip : FnScope sc_l_dipN ["pot", "size"] (defScope s_l_dip) := ⟨rfl, rfl, rfl, by decide +kernel, rfl, by decide +kernel, by decide +kernel⟩
theorem ok_dipW {f : Addr} {fd : FuncData} (D : DefAt K mg "_law_dip" s_l_dip ["pot", "size"] f fd) (T : Blt mg) : Cal P w K mg base 1 "_law_dip" spDipW := by
  refine cal_of D sc_l_dip (fun vs H Q E h => ?_) (fun cdv A outer s H vs Q E hr h => ?_)
  · obtain ⟨p, q, n, rfl, _⟩ := h
    rfl
  · obtain ⟨p, q, n, rfl, hP, n0, n1, k⟩ := h
    obtain ⟨cs, a, b, m, hp, hq, hc, a0, a1, b0, b1⟩ := hP
    have npq : p ≠ q := pq_ne hp hq
    refine ⟨_, (pss_cons (ps_if (pt_cmpR (op_neDK K rfl hr.units) (pe_ix (ix_listK K rfl) (pv 0) pe_int (fun _ _ => rfl)) (pe_lst pa_nil) (nomark _)) (pss_cons (ps_set (i := 2) sc_l_dip.nd rfl (.inl rfl) (pe_bm0 PySem.F.plainAttrs_list PySem.F.slot_list_pop PySem.F.type_list_pop mt_pop (pe_ix (ix_listK K rfl) (pv 0) pe_int (fun _ _ => rfl))))
      (pss_cons (ps_if (pt_cmpR op_ge (pv 2) (pv 1) (nomark _)) (pss_one (ps_expr (pe_bm PySem.F.plainAttrs_list PySem.F.slot_list_append PySem.F.type_list_append mt_append (pe_ix (ix_listK K rfl) (pv 0) pe_int (fun _ _ => rfl)) (pa_cons (pe_op op_fdivW (pv 2) (pv 1)) pa_nil)))) pss_nil)
      (pss_one (ps_ret (pe_op op_mod (pe_callTy call_int1 (by rfl) T.int (by decide +kernel) (pa_cons (pv 2) pa_nil)) (pv 1)))))) pss_nil)
      (pss_cons (ps_asg (pe_op op_add (pe_ix (ix_listK K rfl) (pv 0) pe_int (fun _ _ => rfl)) pe_int) (pg_sub (pv 0) pe_int set_list))
      (pss_cons (ps_set (i := 3) sc_l_dip.nd rfl (.inl rfl) (pe_op op_mod (pe_op op_add (pe_ix (ix_listK K rfl) (pv 0) pe_int (fun _ _ => rfl)) (pe_op op_mul (pe_ix (ix_listK K rfl) (pv 0) pe_int (fun _ _ => rfl)) pe_int)) pe_int))
      (pss_cons (ps_set (i := 3) sc_l_dip.nd rfl (.inl rfl) (pe_op op_mod (pe_op op_add (pe_op op_add (pe_op op_mul (pv 3) (pv 3)) (pe_op op_mul (pe_ix (ix_listK K rfl) (pv 0) pe_int (fun _ _ => rfl)) (pe_ix (ix_listK K rfl) (pv 0) pe_int (fun _ _ => rfl)))) pe_int) pe_int))
      (pss_one (ps_ret (pe_op op_mod (pe_op op_fdiv (pe_op op_mod (pe_op op_mul (pv 3) pe_int) pe_int) pe_int) (pv 1)))))))), ?_⟩
    refine ⟨_, rfl, p, _, 0, _, rfl, rfl, SqL.of hp, atI_nat (j := 0) rfl, Nat.zero_le _, fun l nl => ?_⟩
    have nlp : p ≠ l := ne_of_none hp nl
    have nlq : q ≠ l := ne_of_none hq nl
    have hp1 : (upd H l (.lst [])) p = some (.lst [.ref q, .int a, .int b, .int m]) := by rw [upd_ne nlp]; exact hp
    have hq1 : (upd H l (.lst [])) q = some (.lst (cs.map V.int)) := by rw [upd_ne nlq]; exact hq
    have kp1 : Kp p q H (upd H l (.lst [])) := (Kp.refl p q H).new nl
    refine ⟨.list (cs.map PyData.int), .list [], .lst (SqL.of hq1) (DpAll.ints K _ cs), .lst (SqL.of upd_same) .nil, shaped_ints cs, rfl, _, rfl, ?_⟩
    have keep : ∀ (H' H'' : Hp) (c : Addr) (o : HO), Kp p q H H' → (c = p ∨ c = q) → Kp p q H (upd H' c o) := fun H' _ c o e hcq b u n1 n2 z => by
      have nb : b ≠ c := fun e => by
        rcases hcq with h | h
        · exact n1 (e.trans h)
        · exact n2 (e.trans h)
      rw [upd_ne nb]
      exact e b u n1 n2 z
    cases cs with
    | nil =>
      refine iteF ?_
      refine ⟨_, rfl, p, _, 3, _, rfl, rfl, SqL.of hp1, atI_nat (j := 3) rfl, m, 1, rfl, rfl, _, rfl, p, _, 3, 3, rfl, rfl, hp1, rfl, ?_⟩
      have hp2 : (upd (upd H l (.lst [])) p (.lst [.ref q, .int a, .int b, .int (m + 1)])) p = some (.lst [.ref q, .int a, .int b, .int (m + 1)]) := upd_same
      have hq2 : (upd (upd H l (.lst [])) p (.lst [.ref q, .int a, .int b, .int (m + 1)])) q = some (.lst []) := by rw [upd_ne npq.symm]; exact hq1
      have kp2 : Kp p q H (upd (upd H l (.lst [])) p (.lst [.ref q, .int a, .int b, .int (m + 1)])) := keep _ H _ _ kp1 (.inl rfl)
      refine ⟨_, rfl, p, _, 1, _, rfl, rfl, SqL.of hp2, atI_nat (j := 1) rfl, _, rfl, p, _, 3, _, rfl, rfl, SqL.of hp2, atI_nat (j := 3) rfl, _, _, rfl, rfl, .inr ⟨by decide, by decide⟩, _, _, rfl, rfl, _, _, rfl, rfl, (by decide : (0 : Int) < 4294967291), ?_⟩
      have m1 := Int.emod_nonneg (a + (m + 1) * 2654435761) (show (4294967291 : Int) ≠ 0 by decide)
      have m2 := Int.emod_lt_of_pos (a + (m + 1) * 2654435761) (show (0 : Int) < 4294967291 by decide)
      refine ⟨_, rfl, _, rfl, _, _, rfl, rfl, .inl ⟨by omega, by omega⟩, _, rfl, p, _, 2, _, rfl, rfl, SqL.of hp2, atI_nat (j := 2) rfl, _, rfl, p, _, 3, _, rfl, rfl, SqL.of hp2, atI_nat (j := 3) rfl, _, _, rfl, rfl, .inl ⟨by omega, by omega⟩, _, _, rfl, rfl, _, _, rfl, rfl, _, _, rfl, rfl, (by decide : (0 : Int) < 4294967279), ?_⟩
      refine ⟨_, rfl, _, _, rfl, rfl, .inl ⟨Int.lt_of_lt_of_le (by decide) (Int.emod_nonneg _ (by decide)), Int.lt_trans (Int.emod_lt_of_pos _ (by decide)) (by decide)⟩, _, _, rfl, rfl, (by decide : (0 : Int) < 4294967231), _, _, rfl, rfl, ⟨by decide, by decide⟩, _, rfl, _, _, rfl, rfl, n0, ?_⟩
      refine k _ _ (Int.emod_nonneg _ (by omega)) (Int.emod_lt_of_pos _ n0) ⟨[], a, b, m + 1, hp2, hq2, by decide, a0, a1, b0, b1⟩ kp2
    | cons c0 cs0 =>
      refine iteT ?_
      generalize hcs : c0 :: cs0 = cs at *
      have ne : cs ≠ [] := by rw [← hcs]; exact List.cons_ne_nil _ _
      obtain ⟨ini, z, rfl⟩ : ∃ (ini : List Int) (z : Int), cs = ini ++ [z] := ⟨cs.dropLast, cs.getLast ne, (List.dropLast_concat_getLast ne).symm⟩
      have hq1' : (upd H l (.lst [])) q = some (.lst (ini.map V.int ++ [V.int z])) := by rw [hq1, List.map_append]; rfl
      have hlast : (ini.map V.int ++ [V.int z])[(ini.map V.int ++ [V.int z]).length - 1]? = some (V.int z) := by simp
      have hdrop : (ini.map V.int ++ [V.int z]).dropLast = ini.map V.int := by simp
      refine ⟨_, rfl, p, _, 0, _, rfl, rfl, SqL.of hp1, atI_nat (j := 0) rfl, .inl ⟨rfl, _, SqL.of hq1'⟩, q, _, _, rfl, rfl, hq1', hlast, ?_⟩
      rw [hdrop]
      have hp2 : (upd (upd H l (.lst [])) q (.lst (ini.map V.int))) p = some (.lst [.ref q, .int a, .int b, .int m]) := by rw [upd_ne npq]; exact hp1
      have hq2 : (upd (upd H l (.lst [])) q (.lst (ini.map V.int))) q = some (.lst (ini.map V.int)) := upd_same
      have kp2 : Kp p q H (upd (upd H l (.lst [])) q (.lst (ini.map V.int))) := keep _ H _ _ kp1 (.inr rfl)
      have li : ini.length + 1 ≤ 60 := by simpa using hc
      refine ⟨_, rfl, _, rfl, _, _, rfl, rfl, _, rfl, ?_⟩
      refine ite2 (fun _ => ?_) (fun _ => ?_)
      · refine ⟨_, rfl, p, _, 0, _, rfl, rfl, SqL.of hp2, atI_nat (j := 0) rfl, .inl ⟨rfl, _, SqL.of hq2⟩, _, rfl, _, rfl, _, _, rfl, rfl, wide_div (b := 4000) n0 n1 (by decide) (by decide), q, _, _, rfl, rfl, hq2, small1000 (by rw [List.length_map]; omega), ?_⟩
        have hp3 : ∀ o, (upd (upd (upd H l (.lst [])) q (.lst (ini.map V.int))) q o) p = some (.lst [.ref q, .int a, .int b, .int m]) := fun o => by rw [upd_ne npq]; exact hp2
        refine ⟨_, rfl, .inl ⟨_, rfl, _, rfl, _, _, rfl, rfl, n0, ?_⟩⟩
        refine k _ _ (Int.emod_nonneg _ (by omega)) (Int.emod_lt_of_pos _ n0) ⟨ini ++ [z / n], a, b, m, hp3 _, by rw [upd_same, List.map_append]; rfl, by rw [List.length_append, List.length_singleton]; omega, a0, a1, b0, b1⟩ (keep _ H _ _ kp2 (.inr rfl))
      · refine ⟨_, rfl, .inl ⟨_, rfl, _, rfl, _, _, rfl, rfl, n0, ?_⟩⟩
        refine k _ _ (Int.emod_nonneg _ (by omega)) (Int.emod_lt_of_pos _ n0) ⟨ini, a, b, m, hp2, hq2, by omega, a0, a1, b0, b1⟩ kp2

/-! ### _law_pick, lists and tuples -/
abbrev sc_l_pickN : List Str := ["pot", "items"]
theorem sc_l_pick : FnScope sc_l_pickN ["pot", "items"] (defScope s_l_pick) := ⟨rfl, rfl, rfl, by decide +kernel, rfl, by decide +kernel, by decide +kernel⟩
theorem ok_pickA {f : Addr} {fd : FuncData} (D : DefAt K mg "_law_pick" s_l_pick ["pot", "items"] f fd) (T : Blt mg) (c_l_dip : Cal P w K mg base 1 "_law_dip" spDip) : Cal P w K mg base 2 "_law_pick" spPickA := by
  refine cal_of D sc_l_pick (fun vs H Q E h => ?_) (fun cdv A outer s H vs Q E hr h => ?_)
  · obtain ⟨p, q, a, xs, o, rfl, _⟩ := h
    rfl
  · obtain ⟨p, q, a, xs, o, rfl, hP, ha, ho, ne, lt, k⟩ := h
    refine ⟨_, (pss_one (ps_ret (pe_ix (ix_anyK K rfl) (pv 1) (pe_c c_l_dip hr (by decide) rfl (pa_cons (pv 0) (pa_cons (pe_callB (call_lenK K rfl) (by rfl) T.len PySem.boot_len (pa_cons (pv 1) pa_nil)) pa_nil))) (fun _ _ => rfl)))), ?_⟩
    have l0 : 0 < xs.length := List.length_pos_iff.mpr ne
    have sq : SqL K H a xs ∨ SqT K H a xs := by
      rcases ho with ⟨e, _⟩ | e
      · exact .inl (SqL.of (e ▸ ha))
      · exact .inr (SqT.of (e ▸ ha))
    refine ⟨_, rfl, _, rfl, _, rfl, a, xs, rfl, sq, p, q, _, rfl, hP, by omega, by omega, fun r H' r0 r1 hP' hk => ?_⟩
    obtain ⟨j, rfl⟩ : ∃ j : Nat, r = (j : Int) := ⟨r.toNat, by omega⟩
    have hj : j < xs.length := by omega
    have kk := k _ _ (List.getElem_mem hj) hP' hk
    rcases ho with ⟨e, n1, n2⟩ | e
    · exact .inl ⟨a, xs, j, _, rfl, rfl, SqL.of (hk a _ n1 n2 (e ▸ ha)), atI_nat (List.getElem?_eq_getElem hj), kk⟩
    · exact .inr ⟨a, xs, j, _, rfl, rfl, SqT.of ((hk.tk hP) _ _ (e ▸ ha)), atI_nat (List.getElem?_eq_getElem hj), kk⟩

/-! ### _law_dip, _law_pick, _law_primes, _law_common -/
abbrev sc_l_primesN : List Str := []
theorem sc_l_primes : FnScope sc_l_primesN [] (defScope s_l_primes) := ⟨rfl, rfl, rfl, by decide +kernel, rfl, by decide +kernel, by decide +kernel⟩
theorem ok_primes {f : Addr} {fd : FuncData} (D : DefAt K mg "_law_primes" s_l_primes [] f fd) : Cal P w K mg base 1 "_law_primes" spPrimes := by
  refine cal_of D sc_l_primes (fun vs H Q E h => ?_) (fun cdv A outer s H vs Q E hr h => ?_)
  · obtain ⟨rfl, _⟩ := h
    rfl
  · obtain ⟨rfl, k⟩ := h
    refine ⟨_, (pss_one (ps_ret (pe_lst (pa_cons pe_int (pa_cons pe_int (pa_cons pe_int (pa_cons pe_int (pa_cons pe_int (pa_cons pe_int (pa_cons pe_int (pa_cons pe_int (pa_cons pe_int (pa_cons pe_int (pa_cons pe_int (pa_cons pe_int (pa_cons pe_int (pa_cons pe_int (pa_cons pe_int (pa_cons pe_int (pa_cons pe_int (pa_cons pe_int (pa_cons pe_int (pa_cons pe_int (pa_cons pe_int (pa_cons pe_int (pa_cons pe_int (pa_cons pe_int (pa_cons pe_int pa_nil)))))))))))))))))))))))))))), ?_⟩
    exact ⟨by show 25 ≤ sizeLine; decide, fun a na => k a na⟩
abbrev sc_l_commonN : List Str := ["one", "other"]
theorem sc_l_common : FnScope sc_l_commonN ["one", "other"] (defScope s_l_common) := ⟨rfl, rfl, rfl, by decide +kernel, rfl, by decide +kernel, by decide +kernel⟩
theorem ok_common {f : Addr} {fd : FuncData} (D : DefAt K mg "_law_common" s_l_common ["one", "other"] f fd) : Cal P w K mg base 1 "_law_common" spCommon := by
  refine cal_of D sc_l_common (fun vs H Q E h => ?_) (fun cdv A outer s H vs Q E hr h => ?_)
  · obtain ⟨a, b, rfl, _⟩ := h
    rfl
  · obtain ⟨a, b, rfl, hb, k⟩ := h
    refine ⟨_, (pss_cons (ps_while PassesOwn.never (pt_cmpR op_gt (pv 1) pe_int (nomark _)) (pss_one (ps_par (i := 0) (j := 1) rfl sc_l_common.nd rfl rfl (by decide) rfl rfl (pa_cons (pv 1) (pa_cons (pe_op op_mod (pv 0) (pv 1)) pa_nil)) (by rfl))))
      (pss_one (ps_ret (pv 0)))), ?_⟩
    refine ⟨fun m σ H' => ∃ x y : Nat, σ = [some (.int x), some (.int y)] ∧ Nat.gcd x y = Nat.gcd a b ∧ m = y ∧ H' = H, ⟨b, a, b, rfl, rfl, rfl, rfl⟩, ?_⟩
    rintro m σ H' ⟨x, y, rfl, hg, rfl, rfl⟩
    refine ⟨_, rfl, _, _, rfl, rfl, _, rfl, ?_⟩
    refine ite2 (fun hy => ?_) (fun hy => ?_)
    · have hy' : (0 : Int) < (m : Int) := of_decide_eq_true hy
      refine ⟨fun σ' H'' => ∃ x' y' : Nat, σ' = [some (.int x'), some (.int y')] ∧ Nat.gcd x' y' = Nat.gcd a b ∧ y' < m ∧ H'' = H', fun σ' H'' ⟨x', y', e1, e2, e3, e4⟩ => ⟨y', e3, x', y', e1, e2, rfl, e4⟩, ?_⟩
      refine ⟨_, rfl, _, rfl, _, rfl, _, _, rfl, rfl, hy', _, _, rfl, m, x % m, rfl, ?_, Nat.mod_lt _ (by omega), rfl⟩
      rw [Nat.gcd_comm, ← Nat.gcd_rec, Nat.gcd_comm, hg]
    · have hy' : ¬ (0 : Int) < (m : Int) := of_decide_eq_false (by simpa using hy)
      have m0 : m = 0 := by omega
      subst m0
      refine ⟨_, rfl, ?_⟩
      rw [Nat.gcd_zero_right] at hg
      rw [hg]
      exact k

/-! ### _law_great, _law_sizes, _law_wires, _law_machine -/
abbrev sc_l_greatN : List Str := ["pot", "some", "found", "turn", "prime"]
theorem sc_l_great : FnScope sc_l_greatN ["pot"] (defScope s_l_great) := ⟨rfl, rfl, rfl, by decide +kernel, rfl, by decide +kernel, by decide +kernel⟩
theorem ok_great {f : Addr} {fd : FuncData} (D : DefAt K mg "_law_great" s_l_great ["pot"] f fd) (T : Blt mg) (c_l_dip : Cal P w K mg base 1 "_law_dip" spDip) (c_l_pick : Cal P w K mg base 2 "_law_pick" spPick) (c_l_primes : Cal P w K mg base 1 "_law_primes" spPrimes) :
    Cal P w K mg base 3 "_law_great" spGreat := by
  refine cal_of D sc_l_great (fun vs H Q E h => ?_) (fun cdv A outer s H vs Q E hr h => ?_)
  · obtain ⟨p, q, rfl, _⟩ := h
    rfl
  · obtain ⟨p, q, rfl, hP, k⟩ := h
    refine ⟨_, (pss_cons (ps_set (i := 1) sc_l_great.nd rfl (.inl rfl) (pe_lst (pa_cons (pe_op op_pow pe_int pe_int) (pa_cons (pe_op op_pow pe_int pe_int) (pa_cons (pe_op op_pow pe_int pe_int) (pa_cons (pe_op op_pow pe_int pe_int) (pa_cons (pe_op op_pow pe_int pe_int) (pa_cons (pe_op op_pow pe_int pe_int) (pa_cons (pe_op op_pow (pe_op op_pow pe_int pe_int) pe_int) (pa_cons (pe_op op_pow pe_int pe_int) (pa_cons (pe_op op_pow pe_int pe_int) (pa_cons pe_int (pa_cons pe_int pa_nil)))))))))))))
      (pss_cons (ps_set (i := 2) sc_l_great.nd rfl (.inl rfl) (pe_c c_l_pick hr (by decide) rfl (pa_cons (pv 0) (pa_cons (pv 1) pa_nil))))
      (pss_cons (ps_for PassesOwn.never rfl (pi_range1 (by rfl) T.range (pa_cons (pe_c c_l_dip hr (by decide) rfl (pa_cons (pv 0) (pa_cons pe_int pa_nil))) pa_nil)) (pg_name (i := 3) sc_l_great.nd rfl (.inl rfl)) (pss_cons (ps_set (i := 4) sc_l_great.nd rfl (.inl rfl) (pe_c c_l_pick hr (by decide) rfl (pa_cons (pv 0) (pa_cons (pe_lst (pa_cons pe_int (pa_cons pe_int (pa_cons pe_int (pa_cons pe_int (pa_cons (pe_c c_l_pick hr (by decide) rfl (pa_cons (pv 0) (pa_cons (pe_c0 c_l_primes hr (by decide) rfl) pa_nil))) pa_nil)))))) pa_nil))))
      (pss_one (ps_set (i := 2) sc_l_great.nd rfl (.inl rfl) (pe_ifExp (pt_cmpR op_le (pe_op op_mulW (pv 2) (pv 4)) (pe_op op_pow pe_int pe_int) (nomark _)) (pe_op op_mulW (pv 2) (pv 4)) (pv 2))))))
      (pss_one (ps_ret (pe_callB (call_max2 rfl) (by rfl) T.max boot_max (pa_cons (pv 2) (pa_cons pe_int pa_nil)))))))), ?_⟩
    refine ⟨_, _, rfl, rfl, ⟨by decide, by decide, by decide⟩, _, _, rfl, rfl, ⟨by decide, by decide, by decide⟩, _, _, rfl, rfl, ⟨by decide, by decide, by decide⟩, _, _, rfl, rfl, ⟨by decide, by decide, by decide⟩, _, _, rfl, rfl, ⟨by decide, by decide, by decide⟩, _, _, rfl, rfl, ⟨by decide, by decide, by decide⟩,
      _, _, rfl, rfl, ⟨by decide, by decide, by decide⟩, _, _, rfl, rfl, ⟨by decide, by decide, by decide⟩, _, _, rfl, rfl, ⟨by decide, by decide, by decide⟩, _, _, rfl, rfl, ⟨by decide, by decide, by decide⟩, by show 11 ≤ sizeLine; decide, fun c nc => ?_⟩
    refine ⟨_, rfl, _, rfl, p, q, c, _, rfl, hP.new nc, upd_same, (hP.np nc).1, (hP.np nc).2, List.cons_ne_nil _ _, by show 11 < 1000; decide, fun v H2 hv P2 k2 => ?_⟩
    have kp2 : Kp p q H H2 := ((Kp.refl p q H).new nc).trans k2
    have ov : okV v = true := by
      have all : ∀ l : List V, l.all okV = true → v ∈ l → okV v = true := fun l h => List.all_eq_true.mp h v
      exact all _ (by decide +kernel) hv
    obtain ⟨m, rfl, m1, m2, m3⟩ := okV_of ov
    refine ⟨_, rfl, p, q, _, rfl, P2, by decide, by decide, fun r H3 r0 r1 P3 k3 => ⟨r, rfl, by omega, by omega, for_range (lo := 0) (n := r.toNat) (fun i σ H' => ∃ (x : Nat) (v3 v4 : Option V), σ = [some (.ref p), some (.ref c), some (.int x), v3, v4] ∧ 1 ≤ x ∧ x ≤ 10 ^ 30 ∧ Smo x ∧ Pt H' p q ∧ Kp p q H H')
      ⟨m, none, none, rfl, m1, m2, m3, P3, kp2.trans k3⟩ ?_ ?_⟩⟩
    · rintro i σ H' hi ⟨x, v3, v4, rfl, x1, x2, x3, P4, k4⟩
      refine ⟨_, rfl, _, rfl, rfl, fun a na => ⟨p, q, a, _, rfl, P4.new na, upd_same, (P4.np na).1, (P4.np na).2, by decide, by decide, fun v H5 hv P5 k5 => ⟨by show 5 ≤ sizeLine; decide, fun b nb => ?_⟩⟩⟩
      refine ⟨p, q, b, _, rfl, P5.new nb, upd_same, (P5.np nb).1, (P5.np nb).2, List.cons_ne_nil _ _, by show 5 < 1000; decide, fun u H6 hu P6 k6 => ?_⟩
      have k06 : Kp p q H H6 := ((((k4.new na).trans k5).new nb)).trans k6
      obtain ⟨pr, rfl, hpr⟩ : ∃ pr : Nat, u = .int pr ∧ pr ∈ PRn := by
        have fromPR : ∀ y : V, y ∈ PR.map V.int → ∃ pr : Nat, y = .int pr ∧ pr ∈ PRn := fun y hy => by
          obtain ⟨z, hz, rfl⟩ := List.mem_map.mp hy
          have e : PR = PRn.map (fun n : Nat => (n : Int)) := by decide +kernel
          rw [e] at hz
          obtain ⟨n, hn, rfl⟩ := List.mem_map.mp hz
          exact ⟨n, rfl, hn⟩
        rcases List.mem_cons.mp hu with e | hu
        · exact ⟨2, e, by decide⟩
        rcases List.mem_cons.mp hu with e | hu
        · exact ⟨2, e, by decide⟩
        rcases List.mem_cons.mp hu with e | hu
        · exact ⟨3, e, by decide⟩
        rcases List.mem_cons.mp hu with e | hu
        · exact ⟨5, e, by decide⟩
        rcases List.mem_cons.mp hu with e | hu
        · exact fromPR _ (e ▸ hv)
        · cases hu
      have wide : CMulW (x : Int) (pr : Int) := wide_mul (a := 100) (b := 10) (by
        have : (10 : Nat) ^ 30 < 2 ^ 100 := by decide
        omega) (by
        have := PRn_le hpr
        omega) (by decide) (by decide) (by decide)
      refine ⟨_, rfl, _, rfl, _, _, rfl, rfl, wide, _, _, rfl, rfl, ⟨by decide, by decide, by decide⟩, _, _, rfl, rfl, _, rfl, ?_⟩
      refine ite2 (fun le => ?_) (fun _ => ?_)
      · have le' : (x : Int) * (pr : Int) ≤ 10 ^ 30 := of_decide_eq_true le
        have le2 : x * pr ≤ 10 ^ 30 := by
          have z : ((x * pr : Nat) : Int) ≤ 10 ^ 30 := by rw [Int.natCast_mul]; exact le'
          omega
        refine ⟨_, rfl, _, rfl, _, _, rfl, rfl, wide, x * pr, some (.int (0 + (i : Int))), some (.int pr), ?_, ?_, le2, x3.mulr hpr, P6, k06⟩
        · rw [Int.natCast_mul]
          rfl
        · exact Nat.mul_pos x1 (Nat.lt_of_lt_of_le (by decide) (PRn_two hpr))
      · exact ⟨_, rfl, x, _, _, rfl, x1, x2, x3, P6, k06⟩
    · rintro σ H' ⟨x, v3, v4, rfl, x1, x2, x3, P4, k4⟩
      refine ⟨_, rfl, _, _, rfl, ?_⟩
      have so : SizeOk (if (2 : Int) > (x : Int) then 2 else (x : Int)) := by
        by_cases h2 : (2 : Int) > (x : Int)
        · rw [if_pos h2]
          exact ⟨2, rfl, by decide, by decide, smo_of (by decide +kernel)⟩
        · rw [if_neg h2]
          exact ⟨x, rfl, by omega, x2, x3⟩
      exact k _ _ so P4 k4
abbrev sc_l_sizesN : List Str := ["pot", "is_great", "few", "base", "turn"]
theorem sc_l_sizes : FnScope sc_l_sizesN ["pot", "is_great"] (defScope s_l_sizes) := ⟨rfl, rfl, rfl, by decide +kernel, rfl, by decide +kernel, by decide +kernel⟩
theorem ok_sizes {f : Addr} {fd : FuncData} (D : DefAt K mg "_law_sizes" s_l_sizes ["pot", "is_great"] f fd) (T : Blt mg) (c_l_dip : Cal P w K mg base 1 "_law_dip" spDip) (c_l_pick : Cal P w K mg base 2 "_law_pick" spPick) (c_l_great : Cal P w K mg base 3 "_law_great" spGreat) :
    Cal P w K mg base 4 "_law_sizes" spSizes := by
  refine cal_of D sc_l_sizes (fun vs H Q E h => ?_) (fun cdv A outer s H vs Q E hr h => ?_)
  · obtain ⟨p, q, g, rfl, _⟩ := h
    rfl
  · obtain ⟨p, q, g, rfl, hP, k⟩ := h
    refine ⟨_, (pss_cons (ps_set (i := 2) sc_l_sizes.nd rfl (.inr rfl) (pe_lst (pa_cons pe_int (pa_cons pe_int (pa_cons pe_int (pa_cons pe_int (pa_cons pe_int (pa_cons pe_int (pa_cons pe_int (pa_cons pe_int (pa_cons pe_int (pa_cons pe_int (pa_cons pe_int (pa_cons pe_int (pa_cons pe_int pa_nil)))))))))))))))
      (pss_cons (ps_set (i := 3) sc_l_sizes.nd rfl (.inr rfl) (pe_lc (own := [("turn", 4)]) rfl sc_l_sizes.nd (pi_range1 (by rfl) T.range (pa_cons pe_int pa_nil)) (blkOk_by (N := sc_l_sizesN) (sc := defScope s_l_sizes) (by decide +kernel)) (fun _ _ _ _ _ => (pg_name (i := 4) sc_l_sizes.nd rfl (by first | exact .inl rfl | exact .inr rfl))) (fun _ _ _ _ _ => pts_nil) (fun _ _ _ _ _ => (pe_ifExp (pt_val (pv 1)) (pe_c c_l_great hr (by decide) rfl (pa_cons (pv 0) pa_nil)) (pe_c c_l_pick hr (by decide) rfl (pa_cons (pv 0) (pa_cons (pv 2) pa_nil)))))))
      (pss_one (ps_ret (pe_callTy (call_tupleK K rfl) (by rfl) T.tuple (by decide +kernel) (pa_cons (pe_lc (own := [("turn", 4)]) rfl sc_l_sizes.nd (pi_range1 (by rfl) T.range (pa_cons (pe_op op_add pe_int (pe_c c_l_dip hr (by decide) rfl (pa_cons (pv 0) (pa_cons pe_int pa_nil)))) pa_nil)) (blkOk_by (N := sc_l_sizesN) (sc := defScope s_l_sizes) (by decide +kernel)) (fun _ _ _ _ _ => (pg_name (i := 4) sc_l_sizes.nd rfl (by first | exact .inl rfl | exact .inr rfl))) (fun _ _ _ _ _ => pts_nil) (fun _ _ _ _ _ => (pe_c c_l_pick hr (by decide) rfl (pa_cons (pv 0) (pa_cons (pv 3) pa_nil))))) pa_nil)))))), ?_⟩
    refine ⟨by show 13 ≤ sizeLine; decide, fun c nc => ?_⟩
    have P1 : Pt (upd H c (.lst fewV)) p q := hP.new nc
    have k1 : Kp p q H (upd H c (.lst fewV)) := (Kp.refl p q H).new nc
    obtain ⟨nc1, nc2⟩ := hP.np nc
    refine ⟨3, rfl, by decide, by decide, fun b nb => ?_⟩
    have nbH : H b = none := by
      by_cases e : b = c
      · rw [e, upd_same] at nb
        cases nb
      · rw [upd_ne e] at nb
        exact nb
    obtain ⟨nb1, nb2⟩ := hP.np nbH
    have ncb : c ≠ b := ne_of_none upd_same nb
    refine lc_range (lo := 0) (n := 3) (fun i H' => Pt H' p q ∧ Kp p q H H' ∧ H' c = some (.lst fewV) ∧ ∃ acc : List Int, H' b = some (.lst (acc.map V.int)) ∧ acc.length = i ∧ ∀ s ∈ acc, SizeOk s)
      ⟨P1.new nb, k1.new nb, by rw [upd_ne ncb]; exact upd_same, [], upd_same, rfl, fun s hs => by cases hs⟩ ?_ ?_
    · rintro i H' hi ⟨P2, k2, hc, acc, hb, hl, ok⟩
      have fin : ∀ (n : Int) (H3 : Hp), SizeOk n → Pt H3 p q → Kp p q H' H3 → ∃ acc' : List V, H3 b = some (.lst acc') ∧ acc'.length < sizeLine ∧ (Pt (upd H3 b (.lst (acc' ++ [V.int n]))) p q ∧ Kp p q H (upd H3 b (.lst (acc' ++ [V.int n]))) ∧ (upd H3 b (.lst (acc' ++ [V.int n]))) c = H' c ∧ ∃ acc : List Int, (upd H3 b (.lst (acc' ++ [V.int n]))) b = some (.lst (acc.map V.int)) ∧ acc.length = i + 1 ∧ ∀ s ∈ acc, SizeOk s) := fun n H3 hn P3 k3 => by
        refine ⟨acc.map V.int, k3 _ _ nb1 nb2 hb, small1000 (by rw [List.length_map]; omega), P3.put nb1 nb2, (k2.trans k3).put nbH, ?_, acc ++ [n], by rw [upd_same, List.map_append]; rfl, by rw [List.length_append, List.length_singleton, hl], fun s hs => ?_⟩
        · rw [upd_ne ncb, hc]
          exact k3 _ _ nc1 nc2 hc
        · rcases List.mem_append.mp hs with h | h
          · exact ok s h
          · rw [List.mem_singleton.mp h]
            exact hn
      refine ⟨rfl, ⟨_, rfl, _, rfl, ?_⟩⟩
      cases g with
      | true =>
        refine iteT ⟨_, rfl, p, q, rfl, P2, fun n H3 hn P3 k3 => ?_⟩
        obtain ⟨acc', a1, a2, a3, a4, a5, a6⟩ := fin n H3 hn P3 k3
        exact ⟨acc', a1, a2, a3, a4, a5.trans hc, a6⟩
      | false =>
        refine iteF ⟨_, rfl, _, rfl, p, q, c, _, rfl, P2, hc, nc1, nc2, List.cons_ne_nil _ _, by show 13 < 1000; decide, fun v H3 hv P3 k3 => ?_⟩
        have ov : okV v = true := by
          have all : ∀ l : List V, l.all okV = true → v ∈ l → okV v = true := fun l h => List.all_eq_true.mp h v
          exact all _ (by decide +kernel) hv
        have big : ∀ l : List V, l.all (fun v => match v with | .int i => decide (2 ≤ i) | _ => false) = true → v ∈ l → ∀ i, v = V.int i → 2 ≤ i := fun l h m i e => by
          have z := List.all_eq_true.mp h v m
          rw [e] at z
          exact of_decide_eq_true z
        obtain ⟨n, rfl, n1, n2, n3⟩ := okV_of ov
        have n4 := big _ (by decide +kernel) hv _ rfl
        obtain ⟨acc', a1, a2, a3, a4, a5, a6⟩ := fin n H3 ⟨n, rfl, by omega, n2, n3⟩ P3 k3
        exact ⟨acc', a1, a2, a3, a4, a5.trans hc, a6⟩
    · rintro H' ⟨P2, k2, hc, acc, hb, hl, ok⟩
      refine ⟨_, rfl, p, q, _, rfl, P2, by decide, by decide, fun r H3 r0 r1 P3 k3 => ⟨1, r, rfl, rfl, _, rfl, by omega, by omega, fun d nd => ?_⟩⟩
      have hb3 : H3 b = some (.lst (acc.map V.int)) := k3 _ _ nb1 nb2 hb
      obtain ⟨nd1, nd2⟩ := P3.np nd
      have nbd : b ≠ d := ne_of_none hb3 nd
      have ndH : H d = none := (k2.trans k3).fresh nd1 nd2 nd
      refine lc_range (lo := 0) (n := (1 + r).toNat) (fun i H' => Pt H' p q ∧ Kp p q H H' ∧ H' b = some (.lst (acc.map V.int)) ∧ ∃ ac : List Int, H' d = some (.lst (ac.map V.int)) ∧ ac.length = i ∧ ∀ s ∈ ac, SizeOk s)
        ⟨P3.new nd, (k2.trans k3).new nd, by rw [upd_ne nbd]; exact hb3, [], upd_same, rfl, fun s hs => by cases hs⟩ ?_ ?_
      · rintro i H4 hi ⟨P4, k4, hb4, ac, hd, hl4, ok4⟩
        refine ⟨rfl, ⟨_, rfl, _, rfl, p, q, b, _, rfl, P4, hb4, nb1, nb2, ?_, ?_, fun v H5 hv P5 k5 => ?_⟩⟩
        · intro z
          have z' := congrArg List.length z
          rw [List.length_map, hl] at z'
          cases z'
        · rw [List.length_map, hl]
          decide
        · obtain ⟨n, hn, rfl⟩ := List.mem_map.mp hv
          refine ⟨ac.map V.int, k5 _ _ nd1 nd2 hd, small1000 (by rw [List.length_map]; omega), P5.put nd1 nd2, (k4.trans k5).put ndH, ?_, ac ++ [n], by rw [upd_same, List.map_append]; rfl, by rw [List.length_append, List.length_singleton, hl4], fun s hs => ?_⟩
          · rw [upd_ne nbd]
            exact k5 _ _ nb1 nb2 hb4
          · rcases List.mem_append.mp hs with h | h
            · exact ok4 s h
            · rw [List.mem_singleton.mp h]
              exact ok n hn
      · rintro H4 ⟨P4, k4, hb4, ac, hd, hl4, ok4⟩
        refine ⟨d, _, rfl, .inl ⟨SqL.of hd, fun t nt => ?_⟩⟩
        refine k _ ac _ (.tup upd_same ?_) (by omega) (by omega) ok4 (P4.new nt) (k4.new nt)
        exact ImAll.of_ints _ ac

abbrev sc_l_wiresN : List Str := ["pot", "many", "chance", "found", "j", "i"]
theorem sc_l_wires : FnScope sc_l_wiresN ["pot", "many"] (defScope s_l_wires) := ⟨rfl, rfl, rfl, by decide +kernel, rfl, by decide +kernel, by decide +kernel⟩
theorem wlt_low {ws : List (Nat × Nat)} {j i : Nat} {acc : List (Nat × Nat)} (h1 : ws.Pairwise wlt) (h2 : ∀ w ∈ ws, w.1 < j) (h3 : acc.Pairwise wlt) (h4 : ∀ w ∈ acc, w.1 = j) : (ws ++ acc).Pairwise wlt :=
  List.pairwise_append.mpr ⟨h1, h3, fun a ha b hb => .inl (by rw [h4 b hb]; exact h2 a ha)⟩
theorem ok_wires {f : Addr} {fd : FuncData} (D : DefAt K mg "_law_wires" s_l_wires ["pot", "many"] f fd) (T : Blt mg) (c_l_dip : Cal P w K mg base 1 "_law_dip" spDip) (c_l_pick : Cal P w K mg base 2 "_law_pick" spPick) :
    Cal P w K mg base 3 "_law_wires" spWires := by
  refine cal_of D sc_l_wires (fun vs H Q E h => ?_) (fun cdv A outer s H vs Q E hr h => ?_)
  · obtain ⟨p, q, m, rfl, _⟩ := h
    rfl
  · obtain ⟨p, q, m, rfl, hm, hP, k⟩ := h
    refine ⟨_, (pss_cons (ps_asg (pe_tup (pa_cons (pe_c c_l_pick hr (by decide) rfl (pa_cons (pv 0) (pa_cons (pe_lst (pa_cons pe_int (pa_cons pe_int (pa_cons pe_int (pa_cons pe_int (pa_cons pe_int (pa_cons pe_int pa_nil))))))) pa_nil))) (pa_cons (pe_lst pa_nil) pa_nil))) (pg_tup rfl (pgs_cons (pg_name (i := 2) sc_l_wires.nd rfl (.inr rfl)) (pgs_cons (pg_name (i := 3) sc_l_wires.nd rfl (.inl rfl)) pgs_nil))))
      (pss_cons (ps_for PassesOwn.never rfl (pi_range1 (by rfl) T.range (pa_cons (pv 1) pa_nil)) (pg_name (i := 4) sc_l_wires.nd rfl (.inr rfl)) (pss_one (ps_expr (pe_bm PySem.F.plainAttrs_list PySem.F.slot_list_extend PySem.F.type_list_extend mt_extend (pv 3) (pa_cons (pe_lc (own := [("i", 5)]) rfl sc_l_wires.nd (pi_range1 (by rfl) T.range (pa_cons (pv 1) pa_nil)) (blkOk_by (N := sc_l_wiresN) (sc := defScope s_l_wires) (by decide +kernel)) (fun _ _ _ _ _ => (pg_name (i := 5) sc_l_wires.nd rfl (by first | exact .inl rfl | exact .inr rfl))) (fun _ _ _ _ _ => (pts_one (PW.pt (pw_and (pt_cmpR op_ne (pv 5) (pv 4) (nomark _)) (pw_and1 (pt_cmpR op_lt (pe_c c_l_dip hr (by decide) rfl (pa_cons (pv 0) (pa_cons pe_int pa_nil))) (pv 2) (nomark _))))))) (fun _ _ _ _ _ => (pe_tup (pa_cons (pv 4) (pa_cons (pv 5) pa_nil))))) pa_nil)))))
      (pss_one (ps_ret (pe_callTy (call_tupleK K rfl) (by rfl) T.tuple (by decide +kernel) (pa_cons (pv 3) pa_nil)))))), ?_⟩
    refine ⟨_, rfl, by show 6 ≤ sizeLine; decide, fun a na => ⟨p, q, a, _, rfl, hP.new na, upd_same, (hP.np na).1, (hP.np na).2, List.cons_ne_nil _ _, by show 6 < 1000; decide, fun v H1 hv P1 k1 => ?_⟩⟩
    have k01 : Kp p q H H1 := ((Kp.refl p q H).new na).trans k1
    obtain ⟨ch, rfl⟩ : ∃ ch : Int, v = .int ch := by
      have all : ∀ l : List V, l.all (fun v => match v with | .int _ => true | _ => false) = true → v ∈ l → ∃ ch : Int, v = .int ch := fun l h m => by
        have z := List.all_eq_true.mp h v m
        cases v with
        | int c => exact ⟨c, rfl⟩
        | _ => cases z
      exact all _ (by decide +kernel) hv
    refine ⟨Nat.zero_le _, fun fo nfo => ⟨by show 2 ≤ sizeLine; decide, fun t nt => ?_⟩⟩
    obtain ⟨nf1, nf2⟩ := P1.np nfo
    have nfoH : H fo = none := k01.fresh nf1 nf2 nfo
    have nft : fo ≠ t := ne_of_none upd_same nt
    refine ⟨t, _, rfl, .inl (.inl upd_same), rfl, _, _, rfl, _, _, rfl, rfl, ?_⟩
    refine ⟨_, rfl, m, rfl, by omega, by omega, for_range (lo := 0) (n := (m : Int).toNat) (fun j σ H' => ∃ (v4 v5 : Option V) (ws : List (Nat × Nat)) (rs : List V), σ = [some (.ref p), some (.int m), some (.int ch), some (.ref fo), v4, v5] ∧
        Pt H' p q ∧ Kp p q H H' ∧ H' fo = some (.lst rs) ∧ ImAll H' rs (ws.map wD) ∧ ws.length ≤ 6 * j ∧ WOk m ws ∧ ∀ w ∈ ws, w.1 < j)
      ⟨none, none, [], [], rfl, (P1.new nfo).new nt, (k01.new nfo).new nt, by rw [upd_ne nft]; exact upd_same, .nil, by decide, ⟨.nil, fun w hw => by cases hw⟩, fun w hw => by cases hw⟩ ?_ ?_⟩
    · rintro j σ H2 hj ⟨v4, v5, ws, rs, rfl, P2, k2, hf, im, hlen, wok, low⟩
      have hj' : j < m := by omega
      have hrs : rs.length = ws.length := by rw [im.length, List.length_map]
      refine ⟨_, rfl, .inl ⟨rfl, _, SqL.of hf⟩, _, rfl, m, rfl, by omega, by omega, fun d nd => ?_⟩
      obtain ⟨nd1, nd2⟩ := P2.np nd
      have nfd : fo ≠ d := ne_of_none hf nd
      have ndH : H d = none := k2.fresh nd1 nd2 nd
      refine lc_range (lo := 0) (n := (m : Int).toNat) (fun i H' => ∃ (ac : List (Nat × Nat)) (rc : List V), Pt H' p q ∧ Kp p q H H' ∧ H' fo = some (.lst rs) ∧ ImAll H' rs (ws.map wD) ∧ H' d = some (.lst rc) ∧ ImAll H' rc (ac.map wD) ∧ ac.length ≤ i ∧ WOk m ac ∧ (∀ w ∈ ac, w.1 = j ∧ w.2 < i))
        ⟨[], [], P2.new nd, k2.new nd, by rw [upd_ne nfd]; exact hf, im.k ((Tk.refl H2).new nd), upd_same, .nil, Nat.le_refl _, ⟨.nil, fun w hw => by cases hw⟩, fun w hw => by cases hw⟩ ?_ ?_
      · rintro i H3 hi ⟨ac, rc, P3, k3, hf3, im3, hd, imc, hac, wac, lac⟩
        have hi' : i < m := by omega
        have hrc : rc.length = ac.length := by rw [imc.length, List.length_map]
        refine ⟨rfl, ?_⟩
        refine ⟨_, rfl, _, rfl, rfl, _, rfl, ?_⟩
        refine ite2 (fun ne => ?_) (fun _ => ?_)
        · have nij : i ≠ j := fun e => by
            subst e
            have z : (!decide (V.int (0 + (i : Int)) = V.int (0 + (i : Int)))) = true := ne
            rw [decide_eq_true rfl] at z
            cases z
          refine ⟨_, rfl, p, q, _, rfl, P3, by decide, by decide, fun r H4 r0 r1 P4 k4 => ⟨_, rfl, _, _, rfl, rfl, _, rfl, ?_⟩⟩
          have hf4 : H4 fo = some (.lst rs) := k4 _ _ nf1 nf2 hf3
          have hd4 : H4 d = some (.lst rc) := k4 _ _ nd1 nd2 hd
          have tk4 : Tk H3 H4 := k4.tk P3
          refine ite2 (fun _ => ?_) (fun _ => ?_)
          · refine ⟨_, rfl, _, rfl, by show 2 ≤ sizeLine; decide, fun t2 nt2 => ?_⟩
            obtain ⟨nt21, nt22⟩ := P4.np nt2
            have nft2 : fo ≠ t2 := ne_of_none hf4 nt2
            have ndt2 : d ≠ t2 := ne_of_none hd4 nt2
            have hdn : (upd H4 t2 (.tup [V.int (0 + (j : Int)), V.int (0 + (i : Int))])) d = some (.lst rc) := by rw [upd_ne ndt2]; exact hd4
            have tk5 : Tk H4 (upd (upd H4 t2 (.tup [V.int (0 + (j : Int)), V.int (0 + (i : Int))])) d (.lst (rc ++ [V.ref t2]))) := ((Tk.refl H4).new nt2).put hdn
            refine ⟨rc, hdn, small1000 (by omega), ac ++ [(j, i)], rc ++ [V.ref t2], (P4.new nt2).put nd1 nd2, ((k3.trans k4).new nt2).put ndH, ?_, (im3.k tk4).k tk5, upd_same, ?_, by rw [List.length_append, List.length_singleton]; omega, ⟨?_, fun w hw => ?_⟩, fun w hw => ?_⟩
            · rw [upd_ne nfd, upd_ne nft2]
              exact hf4
            · rw [List.map_append]
              refine ((imc.k tk4).k tk5).append (.cons (.tup (xs := [V.int (0 + (j : Int)), V.int (0 + (i : Int))]) ?_ (.cons ?_ (.cons ?_ .nil))) .nil)
              · rw [upd_ne ndt2.symm, upd_same]
              · exact Im.int0 j
              · exact Im.int0 i
            · refine List.pairwise_append.mpr ⟨wac.asc, List.pairwise_singleton _ _, fun a ha b hb => ?_⟩
              rw [List.mem_singleton.mp hb]
              obtain ⟨z1, z2⟩ := lac a ha
              exact .inr ⟨z1, z2⟩
            · rcases List.mem_append.mp hw with h | h
              · exact wac.low w h
              · rw [List.mem_singleton.mp h]
                exact ⟨hj', hi', Ne.symm nij⟩
            · rcases List.mem_append.mp hw with h | h
              · obtain ⟨z1, z2⟩ := lac w h
                exact ⟨z1, by omega⟩
              · rw [List.mem_singleton.mp h]
                exact ⟨rfl, Nat.lt_succ_self _⟩
          · exact ⟨ac, rc, P4, k3.trans k4, hf4, im3.k tk4, hd4, imc.k tk4, by omega, wac, fun w hw => ⟨(lac w hw).1, Nat.lt_succ_of_lt (lac w hw).2⟩⟩
        · exact ⟨ac, rc, P3, k3, hf3, im3, hd, imc, by omega, wac, fun w hw => ⟨(lac w hw).1, Nat.lt_succ_of_lt (lac w hw).2⟩⟩
      · rintro H3 ⟨ac, rc, P3, k3, hf3, im3, hd, imc, hac, wac, lac⟩
        have hrc : rc.length = ac.length := by rw [imc.length, List.length_map]
        refine ⟨fo, d, rs, rc, rfl, rfl, hf3, hd, Nat.le_of_lt (small1000 (by omega)), ?_⟩
        have tk : Tk H3 (upd H3 fo (.lst (rs ++ rc))) := (Tk.refl H3).put hf3
        refine ⟨_, _, ws ++ ac, rs ++ rc, rfl, P3.put nf1 nf2, k3.put nfoH, upd_same, by rw [List.map_append]; exact (im3.k tk).append (imc.k tk), by rw [List.length_append]; omega, ⟨?_, fun w hw => ?_⟩, fun w hw => ?_⟩
        · exact wlt_low (i := 0) wok.asc low wac.asc fun w hw => (lac w hw).1
        · rcases List.mem_append.mp hw with h | h
          · exact wok.low w h
          · exact wac.low w h
        · rcases List.mem_append.mp hw with h | h
          · have := low w h
            omega
          · have := (lac w h).1
            omega
    · rintro σ H2 ⟨v4, v5, ws, rs, rfl, P2, k2, hf, im, hlen, wok, low⟩
      refine ⟨_, rfl, fo, rs, rfl, .inl ⟨SqL.of hf, fun t2 nt2 => ?_⟩⟩
      exact k _ ws _ (.tup upd_same (im.k ((Tk.refl H2).new nt2))) wok (P2.new nt2) (k2.new nt2)
abbrev sc_l_machineN : List Str := ["pot", "is_great", "sizes"]
theorem sc_l_machine : FnScope sc_l_machineN ["pot", "is_great"] (defScope s_l_machine) := ⟨rfl, rfl, rfl, by decide +kernel, rfl, by decide +kernel, by decide +kernel⟩
theorem ok_machine {f : Addr} {fd : FuncData} (D : DefAt K mg "_law_machine" s_l_machine ["pot", "is_great"] f fd) (T : Blt mg) (c_l_sizes : Cal P w K mg base 4 "_law_sizes" spSizes) (c_l_wires : Cal P w K mg base 3 "_law_wires" spWires) :
    Cal P w K mg base 5 "_law_machine" spMachine := by
  refine cal_of D sc_l_machine (fun vs H Q E h => ?_) (fun cdv A outer s H vs Q E hr h => ?_)
  · obtain ⟨p, q, g, rfl, _⟩ := h
    rfl
  · obtain ⟨p, q, g, rfl, hP, k⟩ := h
    refine ⟨_, (pss_cons (ps_set (i := 2) sc_l_machine.nd rfl (.inl rfl) (pe_c c_l_sizes hr (by decide) rfl (pa_cons (pv 0) (pa_cons (pv 1) pa_nil))))
      (pss_one (ps_ret (pe_tup (pa_cons (pv 2) (pa_cons (pe_c c_l_wires hr (by decide) rfl (pa_cons (pv 0) (pa_cons (pe_callB (call_lenK K rfl) (by rfl) T.len PySem.boot_len (pa_cons (pv 2) pa_nil)) pa_nil))) pa_nil)))))), ?_⟩
    refine ⟨_, rfl, _, rfl, p, q, g, rfl, hP, fun v ss H1 im l1 l6 ok P1 k1 => ?_⟩
    obtain ⟨a, xs, rfl, ha, ia⟩ := im.tuple
    have hx : xs.length = ss.length := by rw [ia.length, List.length_map]
    refine ⟨_, rfl, _, rfl, _, rfl, a, xs, rfl, .inr (SqT.of ha), p, q, ss.length, by rw [hx]; rfl, l6, P1, fun v ws H2 iw wok P2 k2 => ⟨by show 2 ≤ sizeLine; decide, fun t nt => ?_⟩⟩
    have tk : Tk H1 (upd H2 t (.tup [V.ref a, v])) := (k2.tk P1).new nt
    refine k _ ss ws _ (.tup upd_same (.cons (im.k tk) (.cons (iw.k ((Tk.refl H2).new nt)) .nil))) ⟨l1, l6, ok, wok⟩ (P2.new nt) ((k1.trans k2).new nt)

/-! ### _law_pot -/
abbrev sc_l_potN : List Str := ["script", "cell", "cells", "first", "last"]
theorem sc_l_pot : FnScope sc_l_potN ["script"] (defScope s_l_pot) := ⟨rfl, rfl, rfl, by decide +kernel, rfl, by decide +kernel, by decide +kernel⟩
theorem pot_le {xs : List V} (h : xs.length ≤ 63) : (cutV xs none (some 60)).length ≤ 60 := by
  unfold cutV
  rw [HT.sIx_none, show HT.sIx xs.length xs.length (some 60) = min 60 xs.length from HT.sIx_nat xs.length xs.length 60]
  rw [List.drop_zero, List.length_take]
  omega
theorem cut_ints (ns : List Int) (a b : Option Int) : ∃ ms : List Int, cutV (ns.map V.int) a b = ms.map V.int := by
  unfold cutV
  exact ⟨_, by rw [← List.map_drop, ← List.map_take]⟩
theorem ok_pot {f : Addr} {fd : FuncData} (D : DefAt K mg "_law_pot" s_l_pot ["script"] f fd) (T : Blt mg) : Cal P w K mg base 1 "_law_pot" (spPot K) := by
  refine cal_of D sc_l_pot (fun vs H Q E h => ?_) (fun cdv A outer s H vs Q E hr h => ?_)
  · obtain ⟨a, ns, rfl, _⟩ := h
    rfl
  · obtain ⟨a, ns, rfl, hS, len, k⟩ := h
    refine ⟨_, (pss_cons (ps_setLc (i := 2) (own := [("cell", 1)]) rfl sc_l_pot.nd rfl rfl (sw_true rfl rfl rfl (by decide +kernel)) (pi_listK K rfl (pe_slice (sl_listK K rfl) (pv 0) po_none (po_some pe_int))) (blkOk_by (N := sc_l_potN) (sc := defScope s_l_pot) (by decide +kernel)) (fun _ _ _ _ _ => (pg_name (i := 1) sc_l_pot.nd rfl (by first | exact .inl rfl | exact .inr rfl))) (fun _ _ _ _ _ => pts_nil) (fun _ _ _ _ _ => (pe_ifExp (pt_cmpR op_ge (pv 1) pe_int (nomark _)) (pe_op op_mul pe_int (pv 1)) (pe_op op_sub (pe_un un_neg pe_int) (pe_op op_mul pe_int (pv 1))))))
      (pss_cons (ps_par (i := 3) (j := 4) rfl sc_l_pot.nd rfl rfl (by decide) rfl rfl (pa_cons pe_int (pa_cons (pe_op op_add pe_int (pe_callB (call_lenK K rfl) (by rfl) T.len PySem.boot_len (pa_cons (pv 2) pa_nil))) pa_nil)) (by rfl))
      (pss_cons (ps_for PassesOwn.never rfl (pi_listK K rfl (pv 2)) (pg_name (i := 1) sc_l_pot.nd rfl (.inl rfl)) (pss_one (ps_par (i := 3) (j := 4) rfl sc_l_pot.nd rfl rfl (by decide) rfl rfl (pa_cons (pe_op op_mod (pe_callTy call_int1 (by rfl) T.int (by decide +kernel) (pa_cons (pe_op op_add (pe_op op_add (pe_op op_mul (pv 3) pe_int) (pv 1)) pe_int) pa_nil)) pe_int) (pa_cons (pe_op op_mod (pe_callTy call_int1 (by rfl) T.int (by decide +kernel) (pa_cons (pe_op op_add (pe_op op_add (pe_op op_mul (pv 4) pe_int) (pe_op op_mul pe_int (pv 1))) pe_int) pa_nil)) pe_int) pa_nil)) (by rfl))))
      (pss_one (ps_ret (pe_lst (pa_cons (pe_lc (own := [("cell", 1)]) rfl sc_l_pot.nd (pi_listK K rfl (pv 2)) (blkOk_by (N := sc_l_potN) (sc := defScope s_l_pot) (by decide +kernel)) (fun _ _ _ _ _ => (pg_name (i := 1) sc_l_pot.nd rfl (by first | exact .inl rfl | exact .inr rfl))) (fun _ _ _ _ _ => (pts_one (pt_cmpR op_gt (pv 1) (pe_op op_pow pe_int pe_int) (nomark _)))) (fun _ _ _ _ _ => (pv 1))) (pa_cons (pv 3) (pa_cons (pv 4) (pa_cons pe_int pa_nil)))))))))), ?_⟩
    obtain ⟨ms, em⟩ := cut_ints ns none (some 60)
    have ml : ms.length ≤ 60 := by
      have z := pot_le (xs := ns.map V.int) (by rw [List.length_map]; exact len)
      rw [em, List.length_map] at z
      exact z
    refine ⟨_, rfl, 60, rfl, a, ns.map V.int, rfl, hS, fun c nc => ?_⟩
    rw [em]
    refine ⟨c, rfl, ⟨_, SqL.of upd_same⟩, fun D nD => ?_⟩
    have ncD : c ≠ D := ne_of_none upd_same nD
    have nDH : H D = none := by
      rw [upd_ne (Ne.symm ncD)] at nD
      exact nD
    refine lc_list (K := K) (a := c) (xs := ms.map V.int) (fun i H' => Same H H' ∧ H' c = some (.lst (ms.map V.int)) ∧ ∃ cs : List Int, H' D = some (.lst (cs.map V.int)) ∧ cs.length = i) ⟨Same.new (Same.new (Same.refl H) nc) nD, by rw [upd_ne ncD]; exact upd_same, [], upd_same, rfl⟩ (fun i H' _ z => SqL.of z.2.1) ?_ ?_
    · rintro i x H' hx ⟨sm, hc, cs, hD, hl⟩
      obtain ⟨z, hz, rfl⟩ := map_get hx
      have il : i < ms.length := (List.getElem?_eq_some_iff.mp hz).1
      have next : ∀ y : Int, ∃ acc : List V, H' D = some (.lst acc) ∧ acc.length < sizeLine ∧ (Same H (upd H' D (.lst (acc ++ [V.int y]))) ∧ (upd H' D (.lst (acc ++ [V.int y]))) c = some (.lst (ms.map V.int)) ∧ ∃ cs : List Int, (upd H' D (.lst (acc ++ [V.int y]))) D = some (.lst (cs.map V.int)) ∧ cs.length = i + 1) := fun y =>
        ⟨cs.map V.int, hD, small1000 (by rw [List.length_map]; omega), Same.put sm nDH, by rw [upd_ne ncD]; exact hc, cs ++ [y], by rw [upd_same, List.map_append]; rfl, by rw [List.length_append, List.length_singleton, hl]⟩
      refine ⟨rfl, ⟨_, rfl, _, _, rfl, rfl, _, rfl, ?_⟩⟩
      refine ite2 (fun _ => ?_) (fun _ => ?_)
      · exact ⟨_, rfl, _, _, rfl, rfl, .inl ⟨by decide, by decide⟩, next _⟩
      · exact ⟨_, rfl, _, rfl, _, _, rfl, rfl, .inl ⟨by decide, by decide⟩, _, _, rfl, rfl, next _⟩
    rintro H1 ⟨sm, hc, cs, hD, hl⟩
    rw [List.length_map] at hl
    have cl : cs.length ≤ 60 := by omega
    refine ⟨_, rfl, D, _, rfl, .inl (SqL.of hD), _, _, rfl, rfl, _, _, rfl, ?_⟩
    refine ⟨_, rfl, D, rfl, ⟨_, SqL.of hD⟩, for_list (K := K) (a := D) (xs := cs.map V.int) (fun i σ H' => ∃ (v1 : Option V) (x y : Int), σ = [some (.ref a), v1, some (.ref D), some (.int x), some (.int y)] ∧ H' = H1 ∧ 0 ≤ x ∧ x < 4294967296 ∧ 0 ≤ y ∧ y < 4294967296)
      ⟨none, _, _, rfl, rfl, by decide, by decide, by rw [List.length_map]; omega, by rw [List.length_map]; omega⟩ (fun i σ H' _ z => by obtain ⟨_, _, _, _, e, _⟩ := z; rw [e]; exact SqL.of hD) ?_ ?_⟩
    · rintro i v σ H' hv ⟨v1, x, y, rfl, rfl, x0, x1, y0, y1⟩
      obtain ⟨z, hz, rfl⟩ := map_get hv
      refine ⟨_, rfl, _, _, rfl, rfl, .inl ⟨by omega, by omega⟩, _, rfl, _, _, rfl, rfl, _, _, rfl, rfl, .inl ⟨_, rfl, _, _, rfl, rfl, (by decide : (0 : Int) < 4294967291), ?_⟩⟩
      refine ⟨_, rfl, _, _, rfl, rfl, .inl ⟨by omega, by omega⟩, _, rfl, _, _, rfl, rfl, .inl ⟨by decide, by decide⟩, _, _, rfl, rfl, _, _, rfl, rfl, .inl ⟨_, rfl, _, _, rfl, rfl, (by decide : (0 : Int) < 4294967279), ?_⟩⟩
      refine ⟨_, _, rfl, some (V.int z), _, _, rfl, rfl, Int.emod_nonneg _ (by decide), Int.lt_trans (Int.emod_lt_of_pos _ (by decide)) (by decide), Int.emod_nonneg _ (by decide), Int.lt_trans (Int.emod_lt_of_pos _ (by decide)) (by decide)⟩
    · rintro σ H' ⟨v1, x, y, rfl, rfl, x0, x1, y0, y1⟩
      refine ⟨_, rfl, D, rfl, ⟨_, SqL.of hD⟩, fun q nq => ?_⟩
      have nDq : D ≠ q := ne_of_none hD nq
      have nqH : H q = none := Same.free sm nq
      refine lc_list (K := K) (a := D) (xs := cs.map V.int) (fun i H2 => Same H H2 ∧ H2 D = some (.lst (cs.map V.int)) ∧ ∃ gs : List Int, H2 q = some (.lst (gs.map V.int)) ∧ gs.length ≤ i) ⟨Same.new sm nq, by rw [upd_ne nDq]; exact hD, [], upd_same, Nat.le_refl _⟩ (fun i H2 _ z => SqL.of z.2.1) ?_ ?_
      · rintro i v H2 hv ⟨sm2, hD2, gs, hq, gl⟩
        obtain ⟨z, hz, rfl⟩ := map_get hv
        have il : i < cs.length := (List.getElem?_eq_some_iff.mp hz).1
        refine ⟨rfl, ⟨_, rfl, _, _, rfl, rfl, ⟨by decide, by decide, by decide⟩, _, _, rfl, rfl, _, rfl, ?_⟩⟩
        refine ite2 (fun _ => ?_) (fun _ => ?_)
        · exact ⟨_, rfl, gs.map V.int, hq, small1000 (by rw [List.length_map]; omega), Same.put sm2 nqH, by rw [upd_ne nDq]; exact hD2, gs ++ [z], by rw [upd_same, List.map_append]; rfl, by rw [List.length_append, List.length_singleton]; omega⟩
        · exact ⟨sm2, hD2, gs, hq, by omega⟩
      · rintro H2 ⟨sm2, hD2, gs, hq, gl⟩
        rw [List.length_map] at gl
        refine ⟨_, rfl, _, rfl, by show 4 ≤ sizeLine; decide, fun p np => ?_⟩
        have npq : q ≠ p := ne_of_none hq np
        exact k p q _ ⟨gs, x, y, 0, upd_same, by rw [upd_ne npq]; exact hq, by omega, x0, x1, y0, y1⟩ (Same.new sm2 np) (Same.free sm2 np) nqH

/-! ### the law's own dividing -/
abbrev sc_l_stepN : List Str := ["sizes", "j", "i"]
theorem sc_l_step : FnScope sc_l_stepN ["sizes", "j", "i"] (defScope s_l_step) := ⟨rfl, rfl, rfl, by decide +kernel, rfl, by decide +kernel, by decide +kernel⟩
theorem ok_lstep {f : Addr} {fd : FuncData} (D : DefAt K mg "_law_step" s_l_step ["sizes", "j", "i"] f fd) (c_l_common : Cal P w K mg base 1 "_law_common" spCommon) : Cal P w K mg base 2 "_law_step" spLStep := by
  refine cal_of D sc_l_step (fun vs H Q E h => ?_) (fun cdv A outer s H vs Q E hr h => ?_)
  · obtain ⟨v, ss, j, i, a, b, rfl, _⟩ := h
    rfl
  · obtain ⟨v, ss, j, i, x, y, rfl, im, hj, hi, y0, y1, k⟩ := h
    refine ⟨_, (pss_one (ps_ret (pe_op op_fdivW (pe_ix (ix_tupK K rfl) (pv 0) (pv 2) (fun _ _ => rfl)) (pe_c c_l_common hr (by decide) rfl (pa_cons (pe_ix (ix_tupK K rfl) (pv 0) (pv 1) (fun _ _ => rfl)) (pa_cons (pe_ix (ix_tupK K rfl) (pv 0) (pv 2) (fun _ _ => rfl)) pa_nil)))))), ?_⟩
    obtain ⟨b, ys, rfl, hb, ib⟩ := im.tuple
    have ey := ib.ints
    subst ey
    have hi' : (ss.map V.int)[i]? = some (V.int (y : Int)) := by rw [List.getElem?_map, hi]; rfl
    have hj' : (ss.map V.int)[j]? = some (V.int (x : Int)) := by rw [List.getElem?_map, hj]; rfl
    have gp : 0 < Nat.gcd y x := gcd_pos' y0
    have gl : Nat.gcd y x < 2 ^ 4000 := Nat.lt_of_le_of_lt (Nat.le_of_dvd y0 (Nat.gcd_dvd_left y x)) y1
    refine ⟨_, rfl, _, rfl, b, _, i, _, rfl, rfl, SqT.of hb, atI_nat hi', _, rfl, _, rfl, b, _, j, _, rfl, rfl, SqT.of hb, atI_nat hj', _, rfl, _, rfl, b, _, i, _, rfl, rfl, SqT.of hb, atI_nat hi', x, y, rfl, y1, ?_⟩
    rw [Nat.gcd_comm]
    exact ⟨_, _, rfl, rfl, wide_div (b := 4000) (by omega) (by simpa using gl) (by decide) (by decide), k⟩

/-! ### small facts -/
theorem SizeOk.bnd {s : Int} (h : SizeOk s) : 2 ≤ s ∧ s ≤ 10 ^ 30 := by
  obtain ⟨m, rfl, a, b⟩ := h.nat
  omega
theorem ixN_of {n j : Nat} (h : j < n) : ixN n (j : Int) = some j := by
  unfold ixN
  simp [h]
theorem remI_get {ns ss : List Int} {i : Nat} {n s : Int} (h1 : ns[i]? = some n) (h2 : ss[i]? = some s) : (remI ns ss)[i]? = some (n % s) := by
  unfold remI
  rw [List.getElem?_zipWith, h1, h2]
theorem remI_take {ns ss : List Int} {i : Nat} {n s : Int} (h1 : ns[i]? = some n) (h2 : ss[i]? = some s) : (remI ns ss).take (i + 1) = (remI ns ss).take i ++ [n % s] := by
  rw [List.take_add_one, remI_get h1 h2]
  rfl
theorem remI_len {ns ss : List Int} (h : ns.length = ss.length) : (remI ns ss).length = ss.length := by
  unfold remI
  rw [List.length_zipWith]
  omega
theorem map_int_get {ns : List Int} {i : Nat} {x : V} (h : (ns.map V.int)[i]? = some x) : ∃ n, ns[i]? = some n ∧ x = .int n := map_get h
theorem getD_get {ns : List Int} {i : Nat} (h : i < ns.length) : (ns.map V.int)[i]? = some (.int (ns.getD i 0)) := by
  rw [List.getElem?_map, List.getElem?_eq_getElem h, List.getD_eq_getElem?_getD, List.getElem?_eq_getElem h]
  rfl
theorem farI_len (l : List (Nat × Nat × Int)) (ns : List Int) : (farI l ns).length = ns.length := by
  unfold farI
  induction l generalizing ns with
  | nil => rfl
  | cons d l ih => exact (ih _).trans (addI_len ns d)
theorem farI_most {l : List (Nat × Nat × Int)} (hl : ∀ d ∈ l, d.2.2.natAbs < 2 ^ 200) {B : Nat} {ns : List Int} (h : mostI B ns) : mostI (B + 201 * l.length) (farI l ns) := by
  induction l generalizing ns B with
  | nil => exact h
  | cons d l ih =>
    have a := ih (fun x hx => hl x (List.mem_cons_of_mem _ hx)) (addI_most h (hl d List.mem_cons_self))
    rw [show B + 201 * (d :: l).length = B + 201 + 201 * l.length by rw [List.length_cons]; omega]
    exact a

/-! ### _law_led, _law_still -/
theorem zw_get {α β γ : Type} {f : α → β → γ} {l : List α} {m : List β} {i : Nat} {x : α} {y : β} (h1 : l[i]? = some x) (h2 : m[i]? = some y) : (List.zipWith f l m)[i]? = some (f x y) := by
  rw [List.getElem?_zipWith, h1, h2]
theorem take_get {α : Type} {l : List α} {i : Nat} {x : α} (h : l[i]? = some x) : l.take (i + 1) = l.take i ++ [x] := by
  rw [List.take_add_one, h]
  rfl
theorem zw_len {α β γ : Type} {f : α → β → γ} {l : List α} {m : List β} {n : Nat} (h1 : l.length = n) (h2 : m.length = n) : (List.zipWith f l m).length = n := by
  rw [List.length_zipWith]
  omega
abbrev sc_l_ledN : List Str := ["sizes", "table", "held", "row", "size", "entry", "item"]
theorem sc_l_led : FnScope sc_l_ledN ["sizes", "table", "held"] (defScope s_l_led) := ⟨rfl, rfl, rfl, by decide +kernel, rfl, by decide +kernel, by decide +kernel⟩
def cs_l_led : Scope := match defBody s_l_led with
  | [.Return (some (.Call _ [.ListComp _ _ sc _] _ _)) _] => sc
  | _ => defScope s_l_led
theorem ok_led {f : Addr} {fd : FuncData} (D : DefAt K mg "_law_led" s_l_led ["sizes", "table", "held"] f fd) (T : Blt mg) (T_zip : mg "zip" = none) (T_sum : mg "sum" = none) : Cal P w K mg base 1 "_law_led" spLed := by
  refine cal_of D sc_l_led (fun vs H Q E h => ?_) (fun cdv A outer s H vs Q E hr h => ?_)
  · obtain ⟨x, y, z, ss, t, hs, rfl, _⟩ := h
    rfl
  · obtain ⟨x, y, z, ss, t, hs, rfl, imx, imy, imz, ok, l100, tsh, lh, mh, k⟩ := h
    refine ⟨_, (pss_one (ps_ret (pe_callTy (call_tupleK K rfl) (by rfl) T.tuple (by decide +kernel) (pa_cons (pe_lc (own := [("row", 3), ("size", 4)]) rfl sc_l_led.nd (pi_zipG K rfl .t .t (by rfl) T_zip (pa_cons (pv 1) (pa_cons (pv 0) pa_nil))) (blkOk_by (N := sc_l_ledN) (sc := defScope s_l_led) (by decide +kernel)) (fun _ _ _ _ _ => (pg_tupK (n := 2) K rfl rfl (pgs_cons (pg_name (i := 3) sc_l_led.nd rfl (by first | exact .inl rfl | exact .inr rfl)) (pgs_cons (pg_name (i := 4) sc_l_led.nd rfl (by first | exact .inl rfl | exact .inr rfl)) pgs_nil)))) (fun _ _ _ _ _ => pts_nil) (fun _ _ _ _ _ => (pe_op op_mod (pe_callB (cr_sumK K rfl rfl) (by rfl) T_sum (by decide +kernel) (pa_cons (pe_lc (own := [("entry", 5), ("item", 6)]) rfl sc_l_led.nd (pi_zipG K rfl .t .t (by rfl) T_zip (pa_cons (pv 3) (pa_cons (pv 2) pa_nil))) (blkOk_by (N := sc_l_ledN) (sc := relS cs_l_led (defScope s_l_led)) (by decide +kernel)) (fun _ _ _ _ _ => (pg_tupK (n := 2) K rfl rfl (pgs_cons (pg_name (i := 5) sc_l_led.nd rfl (by first | exact .inl rfl | exact .inr rfl)) (pgs_cons (pg_name (i := 6) sc_l_led.nd rfl (by first | exact .inl rfl | exact .inr rfl)) pgs_nil)))) (fun _ _ _ _ _ => pts_nil) (fun _ _ _ _ _ => (pe_op op_mulW (pv 5) (pv 6)))) pa_nil)) (pv 4)))) pa_nil)))), ?_⟩
    obtain ⟨b, bs, rfl, hb, ib⟩ := imx.tuple
    have ey := ib.ints
    subst ey
    obtain ⟨c, cs, rfl, hc, ic⟩ := imy.tuple
    obtain ⟨e, es, rfl, he, ie⟩ := imz.tuple
    have ey := ie.ints
    subst ey
    have lc0 : cs.length = ss.length := by rw [ic.length, List.length_map, tsh.len]
    refine ⟨_, rfl, _, rfl, c, b, _, _, rfl, SqS.of_t hc, SqS.of_t hb, fun d nd => ?_⟩
    refine lc_it (walk_zipG (n := ss.length) (by rw [List.length_map]; omega)) (fun i H' => Same H H' ∧ H' d = some (.lst (((ledI ss t hs).take i).map V.int))) ⟨Same.new (Same.refl H) nd, upd_same⟩ (fun i H' _ z => ⟨SqS.of_t (z.1 _ _ hc), SqS.of_t (z.1 _ _ hb)⟩) ?_ ?_
    · rintro i x H2 H3 hi ⟨sm, hd⟩ ⟨T1, x1, x2, rfl, nT, rfl, e1, e2⟩
      obtain ⟨s, hs', rfl⟩ := map_get e2
      obtain ⟨s2, _⟩ := (ok s (List.mem_of_getElem? hs')).bnd
      obtain ⟨r, hr'⟩ : ∃ r, t[i]? = some r := ⟨t[i]'(by rw [tsh.len]; exact hi), List.getElem?_eq_getElem _⟩
      obtain ⟨a, e1', ha⟩ := Im.row (H := H) ic hr'
      rw [show cs[i]? = some x1 from e1] at e1'
      cases e1'
      have rl := tsh.row r (List.mem_of_getElem? hr')
      have rm := tsh.most r (List.mem_of_getElem? hr')
      have sm3 : Same H (upd H2 T1 (.tup [.ref a, .int s])) := Same.new sm nT
      have hd3 : (upd H2 T1 (.tup [.ref a, .int s])) d = some (.lst (((ledI ss t hs).take i).map V.int)) := keepN hd nT
      refine ⟨T1, _, rfl, SqT.of upd_same, rfl, _, _, rfl, _, _, rfl, rfl, rfl, ?_⟩
      generalize upd H2 T1 (.tup [.ref a, .int s]) = H3 at *
      refine ⟨_, rfl, _, rfl, a, e, _, _, rfl, SqS.of_t (sm3 _ _ ha), SqS.of_t (sm3 _ _ he), fun g ng => ?_⟩
      refine lc_it (walk_zipG (n := ss.length) (by rw [List.length_map, List.length_map]; omega)) (fun j H' => Same H3 H' ∧ H' g = some (.lst (((List.zipWith (fun e h => e * h) r hs).take j).map V.int))) ⟨Same.new (Same.refl H3) ng, upd_same⟩ (fun j H' _ z => ⟨SqS.of_t (z.1 _ _ (sm3 _ _ ha)), SqS.of_t (z.1 _ _ (sm3 _ _ he))⟩) ?_ ?_
      · rintro j y H4 H5 hj ⟨sm4, hg⟩ ⟨T2, y1, y2, rfl, nT2, rfl, f1, f2⟩
        obtain ⟨en, hen, rfl⟩ := map_get f1
        obtain ⟨ho, hho, rfl⟩ := map_get f2
        have w := mul_wide (rm en (List.mem_of_getElem? hen)) (mh ho (List.mem_of_getElem? hho)) (by decide)
        refine ⟨T2, _, rfl, SqT.of upd_same, rfl, _, _, rfl, _, _, rfl, rfl, rfl, ?_⟩
        refine ⟨_, rfl, _, rfl, _, _, rfl, rfl, w, _, keepN hg nT2, small1000 (by rw [List.length_map, List.length_take]; omega), Same.put (Same.new sm4 nT2) ng, ?_⟩
        rw [upd_same, take_get (zw_get (f := fun e h : Int => e * h) hen hho), List.map_append]
        rfl
      · rintro H4 ⟨sm4, hg⟩
        have full : (List.zipWith (fun e h : Int => e * h) r hs).take ss.length = List.zipWith (fun e h => e * h) r hs := List.take_of_length_le (Nat.le_of_eq (zw_len rl lh))
        rw [full] at hg
        have ndH : H d = none := nd
        refine ⟨g, _, rfl, SqL.of hg, _, rfl, _, _, rfl, rfl, (show (0 : Int) < s by omega), _, sm4 _ _ hd3, small1000 (by rw [List.length_map, List.length_take]; omega), Same.put (sm3.trans sm4) ndH, ?_⟩
        unfold ledI
        rw [upd_same, take_get (zw_get (f := fun (row : List Int) (s : Int) => dot row hs % s) hr' hs'), List.map_append]
        rfl
    · rintro H2 ⟨sm, hd⟩
      have full : (ledI ss t hs).take ss.length = ledI ss t hs := List.take_of_length_le (Nat.le_of_eq (zw_len tsh.len rfl))
      rw [full] at hd
      exact ⟨d, _, rfl, .inl ⟨SqL.of hd, fun u nu => k _ _ (.tup upd_same (ImAll.of_ints _ _)) (Same.new sm nu)⟩⟩
abbrev sc_l_stillN : List Str := ["sizes", "i", "j"]
theorem sc_l_still : FnScope sc_l_stillN ["sizes"] (defScope s_l_still) := ⟨rfl, rfl, rfl, by decide +kernel, rfl, by decide +kernel, by decide +kernel⟩
def cs_l_still : Scope := match defBody s_l_still with
  | [.Return (some (.Call _ [.ListComp _ _ sc _] _ _)) _] => sc
  | _ => defScope s_l_still
theorem range_get {n i : Nat} (h : i < n) : (List.range n)[i]? = some i := by
  rw [List.getElem?_eq_getElem (by rw [List.length_range]; exact h), List.getElem_range]
theorem rm_get {α : Type} {n i : Nat} (f : Nat → α) (h : i < n) : ((List.range n).map f)[i]? = some (f i) := by
  rw [List.getElem?_map, range_get h]
  rfl
theorem rm_full {α : Type} {n : Nat} (f : Nat → α) : ((List.range n).map f).take n = (List.range n).map f := List.take_of_length_le (by rw [List.length_map, List.length_range]; exact Nat.le_refl _)
theorem int_if (i j : Nat) : (if decide (V.int ((0 : Int) + (i : Int)) = V.int ((0 : Int) + (j : Int))) = true then (1 : Int) else 0) = if i = j then 1 else 0 := by
  rw [dec_int0]
  by_cases h : i = j
  · subst h
    rw [decide_eq_true rfl, if_pos rfl, if_pos rfl]
  · rw [decide_eq_false (by omega), if_neg (by decide), if_neg h]
theorem ok_still {f : Addr} {fd : FuncData} (D : DefAt K mg "_law_still" s_l_still ["sizes"] f fd) (T : Blt mg) : Cal P w K mg base 1 "_law_still" spStill := by
  refine cal_of D sc_l_still (fun vs H Q E h => ?_) (fun cdv A outer s H vs Q E hr h => ?_)
  · obtain ⟨x, ss, rfl, _⟩ := h
    rfl
  · obtain ⟨x, ss, rfl, imx, l100, k⟩ := h
    refine ⟨_, (pss_one (ps_ret (pe_callTy (call_tupleK K rfl) (by rfl) T.tuple (by decide +kernel) (pa_cons (pe_lc (own := [("i", 1)]) rfl sc_l_still.nd (pi_range1 (by rfl) T.range (pa_cons (pe_callB (call_lenK K rfl) (by rfl) T.len PySem.boot_len (pa_cons (pv 0) pa_nil)) pa_nil)) (blkOk_by (N := sc_l_stillN) (sc := defScope s_l_still) (by decide +kernel)) (fun _ _ _ _ _ => (pg_name (i := 1) sc_l_still.nd rfl (by first | exact .inl rfl | exact .inr rfl))) (fun _ _ _ _ _ => pts_nil) (fun _ _ _ _ _ => (pe_callTy (call_tupleK K rfl) (by rfl) T.tuple (by decide +kernel) (pa_cons (pe_lc (own := [("j", 2)]) rfl sc_l_still.nd (pi_range1 (by rfl) T.range (pa_cons (pe_callB (call_lenK K rfl) (by rfl) T.len PySem.boot_len (pa_cons (pv 0) pa_nil)) pa_nil)) (blkOk_by (N := sc_l_stillN) (sc := relS cs_l_still (defScope s_l_still)) (by decide +kernel)) (fun _ _ _ _ _ => (pg_name (i := 2) sc_l_still.nd rfl (by first | exact .inl rfl | exact .inr rfl))) (fun _ _ _ _ _ => pts_nil) (fun _ _ _ _ _ => (pe_callTy call_int1 (by rfl) T.int (by decide +kernel) (pa_cons (pe_cmpR op_eq (pv 1) (pv 2) (nomark _)) pa_nil)))) pa_nil)))) pa_nil)))), ?_⟩
    obtain ⟨b, bs, rfl, hb, ib⟩ := imx.tuple
    have ey := ib.ints
    subst ey
    have lb : (ss.map V.int).length = ss.length := List.length_map ..
    refine ⟨_, rfl, b, _, rfl, .inr (SqT.of hb), _, rfl, by omega, by omega, fun d nd => ?_⟩
    rw [lb, Int.toNat_natCast]
    refine lc_range (lo := 0) (n := ss.length) (fun i H' => Same H H' ∧ ∃ vs : List V, H' d = some (.lst vs) ∧ ImAll H' vs (((stillI ss.length).take i).map sD)) ⟨Same.new (Same.refl H) nd, [], upd_same, .nil⟩ ?_ ?_
    · rintro i H2 hi ⟨sm, vs, hd, ia⟩
      have lv : vs.length ≤ 100 := by
        rw [ia.length, List.length_map, List.length_take]
        omega
      refine ⟨rfl, _, rfl, b, _, rfl, .inr (SqT.of (sm _ _ hb)), _, rfl, by omega, by omega, fun g ng => ?_⟩
      rw [lb, Int.toNat_natCast]
      refine lc_range (lo := 0) (n := ss.length) (fun j H' => Same H2 H' ∧ H' g = some (.lst ((((List.range ss.length).map fun j => if i = j then (1 : Int) else 0).take j).map V.int))) ⟨Same.new (Same.refl H2) ng, upd_same⟩ ?_ ?_
      · rintro j H3 hj ⟨sm3, hg⟩
        refine ⟨rfl, _, rfl, _, rfl, rfl, .inr ⟨_, rfl, _, hg, small1000 (by rw [List.length_map, List.length_take]; omega), Same.put sm3 ng, ?_⟩⟩
        rw [upd_same, int_if, take_get (rm_get _ hj), List.map_append]
        rfl
      · rintro H3 ⟨sm3, hg⟩
        rw [rm_full] at hg
        refine ⟨g, _, rfl, .inl ⟨SqL.of hg, fun u nu => ?_⟩⟩
        have sm4 : Same H2 (upd H3 u (.tup (((List.range ss.length).map fun j => if i = j then (1 : Int) else 0).map V.int))) := Same.new sm3 nu
        have hd4 := sm4 _ _ hd
        have tk : Tk (upd H3 u (.tup (((List.range ss.length).map fun j => if i = j then (1 : Int) else 0).map V.int))) (upd (upd H3 u (.tup (((List.range ss.length).map fun j => if i = j then (1 : Int) else 0).map V.int))) d (.lst (vs ++ [.ref u]))) := (Tk.refl _).put hd4
        refine ⟨_, hd4, small1000 (by omega), Same.put (sm.trans sm4) nd, _, upd_same, ?_⟩
        unfold stillI
        rw [take_get (rm_get _ hi), List.map_append]
        exact ((ia.k (Tk.same sm4)).k tk).append (.cons (Im.k (.tup upd_same (ImAll.of_ints _ _)) tk) .nil)
    · rintro H2 ⟨sm, vs, hd, ia⟩
      unfold stillI at ia
      rw [rm_full] at ia
      refine ⟨d, _, rfl, .inl ⟨SqL.of hd, fun u nu => k _ _ (.tup upd_same (ia.k ((Tk.refl H2).new nu))) (Same.new sm nu)⟩⟩

/-! ### _law_table -/
abbrev sc_l_tableN : List Str := ["pot", "sizes", "i", "j", "rows", "chance", "size", "ask", "row"]
theorem sc_l_table : FnScope sc_l_tableN ["pot", "sizes"] (defScope s_l_table) := ⟨rfl, rfl, rfl, by decide +kernel, rfl, by decide +kernel, by decide +kernel⟩
def cs_l_table : Scope := match defBody s_l_table with
  | .Assign _ (.ListComp _ _ sc _) _ :: _ => sc
  | _ => defScope s_l_table
theorem ok_table {f : Addr} {fd : FuncData} (D : DefAt K mg "_law_table" s_l_table ["pot", "sizes"] f fd) (T : Blt mg) (c_l_dip : Cal P w K mg base 1 "_law_dip" spDipW) (c_l_pick : Cal P w K mg base 2 "_law_pick" spPick) (c_l_step : Cal P w K mg base 2 "_law_step" spLStep) : Cal P w K mg base 3 "_law_table" spTable := by
  refine cal_of D sc_l_table (fun vs H Q E h => ?_) (fun cdv A outer s H vs Q E hr h => ?_)
  · obtain ⟨p, q, v, ss, rfl, _⟩ := h
    rfl
  · obtain ⟨p, q, v, ss, rfl, hP, im, ok, l100, k⟩ := h
    refine ⟨_, (pss_cons (ps_setLc (i := 4) (own := [("i", 2)]) rfl sc_l_table.nd rfl rfl (sw_true rfl rfl rfl (by decide +kernel)) (pi_range1 (by rfl) T.range (pa_cons (pe_callB (call_lenK K rfl) (by rfl) T.len PySem.boot_len (pa_cons (pv 1) pa_nil)) pa_nil)) (blkOk_by (N := sc_l_tableN) (sc := defScope s_l_table) (by decide +kernel)) (fun _ _ _ _ _ => (pg_name (i := 2) sc_l_table.nd rfl (by first | exact .inl rfl | exact .inr rfl))) (fun _ _ _ _ _ => pts_nil) (fun _ _ _ _ _ => (pe_lc (own := [("j", 3)]) rfl sc_l_table.nd (pi_range1 (by rfl) T.range (pa_cons (pe_callB (call_lenK K rfl) (by rfl) T.len PySem.boot_len (pa_cons (pv 1) pa_nil)) pa_nil)) (blkOk_by (N := sc_l_tableN) (sc := relS cs_l_table (defScope s_l_table)) (by decide +kernel)) (fun _ _ _ _ _ => (pg_name (i := 3) sc_l_table.nd rfl (by first | exact .inl rfl | exact .inr rfl))) (fun _ _ _ _ _ => pts_nil) (fun _ _ _ _ _ => (pe_callTy call_int1 (by rfl) T.int (by decide +kernel) (pa_cons (pe_cmpR op_eq (pv 2) (pv 3) (nomark _)) pa_nil))))))
      (pss_cons (ps_set (i := 5) sc_l_table.nd rfl (.inl rfl) (pe_c c_l_pick hr (by decide) rfl (pa_cons (pv 0) (pa_cons (pe_lst (pa_cons pe_int (pa_cons pe_int (pa_cons pe_int (pa_cons pe_int pa_nil))))) pa_nil))))
      (pss_cons (ps_for PassesOwn.never rfl (pi_enumTK K rfl (by rfl) T.enumerate (pa_cons (pv 1) pa_nil)) (pg_tup rfl (pgs_cons (pg_name (i := 2) sc_l_table.nd rfl (.inl rfl)) (pgs_cons (pg_name (i := 6) sc_l_table.nd rfl (.inl rfl)) pgs_nil))) (pss_one (ps_for PassesOwn.never rfl (pi_range1 (by rfl) T.range (pa_cons (pe_callB (call_lenK K rfl) (by rfl) T.len PySem.boot_len (pa_cons (pv 1) pa_nil)) pa_nil)) (pg_name (i := 3) sc_l_table.nd rfl (.inl rfl)) (pss_cons (ps_set (i := 7) sc_l_table.nd rfl (.inl rfl) (pe_ifExp (pt_cmpR op_eq (pv 2) (pv 3) (nomark _)) pe_int (pe_c c_l_step hr (by decide) rfl (pa_cons (pv 1) (pa_cons (pv 3) (pa_cons (pv 2) pa_nil))))))
      (pss_one (ps_if (PW.pt (pw_and (pt_cmpR op_lt (pe_c c_l_dip hr (by decide) rfl (pa_cons (pv 0) (pa_cons pe_int pa_nil))) (pv 5) (nomark _)) (pw_and1 (PW.pt (pw_or (pt_cmpR op_ne (pv 2) (pv 3) (nomark _)) (pw_or1 (pt_cmpR op_eq (pe_c c_l_dip hr (by decide) rfl (pa_cons (pv 0) (pa_cons pe_int pa_nil))) pe_int (nomark _)))))))) (pss_one (ps_asg (pe_op op_mod (pe_op op_mulW (pv 7) (pe_c c_l_pick hr (by decide) rfl (pa_cons (pv 0) (pa_cons (pe_lst (pa_cons pe_int (pa_cons pe_int (pa_cons pe_int (pa_cons pe_int (pa_cons (pe_op op_sub (pv 6) pe_int) (pa_cons (pe_c c_l_dip hr (by decide) rfl (pa_cons (pv 0) (pa_cons (pv 6) pa_nil))) pa_nil))))))) pa_nil)))) (pv 6)) (pg_sub (pe_ix (ix_listK K rfl) (pv 4) (pv 2) (fun _ _ => rfl)) (pv 3) set_list))) pss_nil))))))
      (pss_one (ps_ret (pe_callTy (call_tupleK K rfl) (by rfl) T.tuple (by decide +kernel) (pa_cons (pe_lc (own := [("row", 8)]) rfl sc_l_table.nd (pi_listK K rfl (pv 4)) (blkOk_by (N := sc_l_tableN) (sc := defScope s_l_table) (by decide +kernel)) (fun _ _ _ _ _ => (pg_name (i := 8) sc_l_table.nd rfl (by first | exact .inl rfl | exact .inr rfl))) (fun _ _ _ _ _ => pts_nil) (fun _ _ _ _ _ => (pe_callTy (call_tupleK K rfl) (by rfl) T.tuple (by decide +kernel) (pa_cons (pv 8) pa_nil)))) pa_nil))))))), ?_⟩
    obtain ⟨b, bs, rfl, hb, ib⟩ := id im.tuple
    have ey := ib.ints
    subst ey
    have lb : (ss.map V.int).length = ss.length := List.length_map ..
    refine ⟨_, rfl, b, _, rfl, .inr (SqT.of hb), _, rfl, by omega, by omega, fun R nR0 => ?_⟩
    have nR := hP.np nR0
    rw [lb, Int.toNat_natCast]
    refine lc_range (lo := 0) (n := ss.length) (fun i H' => Same H H' ∧ ∃ rs : List Addr, Rws p q R H' rs ((stillI ss.length).take i) ∧ ∀ a ∈ rs, H a = none) ⟨Same.new (Same.refl H) nR0, [], ⟨upd_same, rfl, fun i a e => by simp at e, List.nodup_nil, fun a h => by cases h⟩, fun a h => by cases h⟩ ?_ ?_
    · rintro i H2 hi ⟨sm, rs, rw1, fr⟩
      have lr : rs.length ≤ 100 := by
        rw [rw1.len, List.length_take]
        omega
      refine ⟨rfl, _, rfl, b, _, rfl, .inr (SqT.of (sm _ _ hb)), _, rfl, by omega, by omega, fun g ng => ?_⟩
      rw [lb, Int.toNat_natCast]
      refine lc_range (lo := 0) (n := ss.length) (fun j H' => Same H2 H' ∧ H' g = some (.lst ((((List.range ss.length).map fun j => if i = j then (1 : Int) else 0).take j).map V.int))) ⟨Same.new (Same.refl H2) ng, upd_same⟩ ?_ ?_
      · rintro j H3 hj ⟨sm3, hg⟩
        refine ⟨rfl, _, rfl, _, rfl, rfl, .inr ⟨_, rfl, _, hg, small1000 (by rw [List.length_map, List.length_take]; omega), Same.put sm3 ng, ?_⟩⟩
        rw [upd_same, int_if, take_get (rm_get _ hj), List.map_append]
        rfl
      · rintro H3 ⟨sm3, hg⟩
        rw [rm_full] at hg
        have rw3 := rw1.same sm3
        have gR : g ≠ R := fun z => by rw [z, rw1.top] at ng; cases ng
        have gP := (hP.same sm).np ng
        have gN : g ∉ rs := fun m => by
          obtain ⟨i, hi, e⟩ := List.getElem_of_mem m
          obtain ⟨r, _, h2⟩ := rw1.row i g (by rw [List.getElem?_eq_getElem hi, e])
          rw [h2] at ng
          cases ng
        refine ⟨_, rw3.top, small1000 (by rw [List.length_map]; omega), Same.put (sm.trans sm3) nR0, rs ++ [g], ?_, fun a ha => ?_⟩
        · unfold stillI
          rw [take_get (rm_get _ hi)]
          exact rw3.put nR hg gN ⟨gR, gP⟩
        · rcases List.mem_append.mp ha with ha | ha
          · exact fr a ha
          · rw [List.mem_singleton.mp ha]
            exact Same.free sm ng
    rintro H2 ⟨sm2, rs, rw2, fr⟩
    unfold stillI at rw2
    rw [rm_full] at rw2
    have P2 := hP.same sm2
    have tok : TOk ss (stillI ss.length) := TOk.still ok
    refine ⟨_, rfl, by show 4 ≤ sizeLine; decide, fun c nc => ?_⟩
    obtain ⟨nc1, nc2⟩ := P2.np nc
    refine ⟨p, q, c, _, rfl, P2.new nc, upd_same, nc1, nc2, List.cons_ne_nil _ _, by show 4 < 1000; decide, fun ch H3 hch P3 k3 => ?_⟩
    obtain ⟨chz, rfl⟩ : ∃ z : Int, ch = .int z := by
      rcases List.mem_cons.mp hch with e | hch
      · exact ⟨_, e⟩
      rcases List.mem_cons.mp hch with e | hch
      · exact ⟨_, e⟩
      rcases List.mem_cons.mp hch with e | hch
      · exact ⟨_, e⟩
      · exact ⟨_, List.mem_singleton.mp hch⟩
    have kp3 : Kp p q H H3 := ((Kp.same sm2).new nc).trans k3
    have rw3 : Rws p q R H3 rs (stillI ss.length) := (rw2.same (Same.new (Same.refl H2) nc)).kp nR k3
    have hb3 := (kp3.tk hP) _ _ hb
    refine ⟨_, rfl, b, _, rfl, SqT.of hb3, for_it walk_enumT (fun i σ H' => ∃ (v2 v3 v6 v7 v8 : Option V) (t : List (List Int)), σ = [some (.ref p), some (.ref b), v2, v3, some (.ref R), some (.int chz), v6, v7, v8] ∧ Pt H' p q ∧ Kp p q H H' ∧ Rws p q R H' rs t ∧ TOk ss t)
      ⟨_, _, _, _, _, _, rfl, P3, kp3, rw3, tok⟩ (fun i σ H' _ ⟨_, _, _, _, _, _, _, _, z, _⟩ => SqT.of ((z.tk hP) _ _ hb)) ?_ ?_⟩
    · rintro i x σ H4 H5 hi ⟨v2, v3, v6, v7, v8, t, rfl, P4, k4, rw4, tok4⟩ ⟨T1, x1, x2, rfl, nT, rfl, e1, e2⟩
      cases e1
      obtain ⟨s, es, rfl⟩ := map_get e2
      obtain ⟨s2, s30⟩ := (ok s (List.mem_of_getElem? es)).bnd
      have hi' : i < ss.length := by rw [← lb]; exact hi
      refine ⟨T1, _, rfl, SqT.of upd_same, rfl, _, _, rfl, _, _, rfl, rfl, ?_⟩
      have P5 := P4.new (o := .tup [.int (i : Nat), .int s]) nT
      have k5 := k4.new (o := .tup [.int (i : Nat), .int s]) nT
      have rw5 := rw4.same (Same.new (o := .tup [.int (i : Nat), .int s]) (Same.refl H4) nT)
      generalize upd H4 T1 (.tup [.int (i : Nat), .int s]) = H5 at *
      refine ⟨_, rfl, b, _, rfl, .inr (SqT.of ((k5.tk hP) _ _ hb)), _, rfl, by omega, by omega, ?_⟩
      rw [lb, Int.toNat_natCast]
      refine for_range (lo := 0) (n := ss.length) (fun j σ H' => ∃ (v3 v7 : Option V) (t : List (List Int)), σ = [some (.ref p), some (.ref b), some (.int (i : Nat)), v3, some (.ref R), some (.int chz), some (.int s), v7, v8] ∧ Pt H' p q ∧ Kp p q H H' ∧ Rws p q R H' rs t ∧ TOk ss t)
        ⟨_, _, _, rfl, P5, k5, rw5, tok4⟩ ?_ ?_
      · rintro j σ H6 hj ⟨v3', v7', t, rfl, P6, k6, rw6, tok6⟩
        have e0 : (0 : Int) + (j : Int) = (j : Int) := by omega
        rw [e0]
        refine ⟨_, rfl, _, rfl, rfl, _, rfl, ?_⟩
        refine ite2 (fun eq => ?_) (fun _ => ?_)
        · have ij : i = j := by
            have := V.int.inj (of_decide_eq_true eq)
            omega
          have askS : (1 : Int).natAbs ≤ 10 ^ 30 := by decide
          have askD : i ≠ j → ∃ a b : Nat, ss[j]? = some (a : Int) ∧ ss[i]? = some (b : Int) ∧ ((stp a b : Nat) : Int) = 1 := fun n => absurd ij n
          refine ⟨_, rfl, p, q, _, rfl, P6, by decide, by decide, fun r1 H7 _ _ P7 k7 => ⟨_, rfl, _, _, rfl, rfl, _, rfl, ?_⟩⟩
          refine ite2 (fun _ => ?_) (fun _ => iteF ⟨_, _, t, rfl, P7, k6.trans k7, rw6.kp nR k7, tok6⟩)
          refine ⟨_, rfl, _, rfl, rfl, _, rfl, ?_⟩
          refine ite2 (fun _ => iteT ?_) (fun _ => ?_)
          · have PB := P7
            have kB := k6.trans k7
            have rwB := rw6.kp nR k7
            have sp : (0 : Int) < s := by omega
            have s4 : s.natAbs < 2 ^ 4000 := Nat.lt_of_le_of_lt (show s.natAbs ≤ 10 ^ 30 by omega) (by decide)
            refine ⟨_, rfl, _, rfl, _, rfl, _, _, rfl, rfl, _, rfl, _, rfl, p, q, _, rfl, PB, sp, s4, fun r3 H9 c0 c1 P9 k9 => ⟨by show 6 ≤ sizeLine; decide, fun l nl => ?_⟩⟩
            obtain ⟨nl1, nl2⟩ := P9.np nl
            refine ⟨p, q, l, _, rfl, P9.new nl, upd_same, nl1, nl2, List.cons_ne_nil _ _, by show 6 < 1000; decide, fun v HA hv PA kA => ?_⟩
            obtain ⟨z, rfl, z0, z1⟩ : ∃ z : Int, v = .int z ∧ 0 ≤ z ∧ z ≤ 10 ^ 30 := by
              rcases List.mem_cons.mp hv with e | hv
              · exact ⟨_, e, by decide, by decide⟩
              rcases List.mem_cons.mp hv with e | hv
              · exact ⟨_, e, by decide, by decide⟩
              rcases List.mem_cons.mp hv with e | hv
              · exact ⟨_, e, by decide, by decide⟩
              rcases List.mem_cons.mp hv with e | hv
              · exact ⟨_, e, by decide, by decide⟩
              rcases List.mem_cons.mp hv with e | hv
              · exact ⟨_, e, by show 0 ≤ s - 1; omega, by show s - 1 ≤ _; omega⟩
              · exact ⟨_, List.mem_singleton.mp hv, c0, by omega⟩
            have kZ : Kp p q H HA := ((kB.trans k9).new nl).trans kA
            have rwZ : Rws p q R HA rs t := ((rwB.kp nR k9).same (Same.new (Same.refl H9) nl)).kp nR kA
            have wd : CMulW 1 z := mul_wide (A := 120) (B := 120) (Nat.lt_of_le_of_lt askS (by decide)) (Nat.lt_of_le_of_lt (show z.natAbs ≤ 10 ^ 30 by omega) (by decide)) (by decide)
            have li : i < rs.length := by
              rw [rwZ.len, tok6.len]
              exact hi'
            obtain ⟨a, ea⟩ : ∃ a, rs[i]? = some a := ⟨rs[i], List.getElem?_eq_getElem li⟩
            obtain ⟨r, er, ha⟩ := rwZ.row i a ea
            have rl := tok6.row r (List.mem_of_getElem? er)
            refine ⟨_, _, rfl, rfl, wd, _, rfl, _, _, rfl, rfl, sp, _, rfl, _, rfl, R, _, i, _, rfl, rfl, SqL.of rwZ.top, atI_nat (by rw [List.getElem?_map, ea]; rfl), _, rfl, a, _, j, j, rfl, rfl, ha, ixN_of (by rw [List.length_map]; omega), ?_⟩
            refine ⟨some (.int (j : Int)), some (.int 1), t.set i (r.set j (1 * z % s)), rfl, PA.put (rwZ.off a (List.mem_of_getElem? ea)).2.1 (rwZ.off a (List.mem_of_getElem? ea)).2.2, kZ.put (fr a (List.mem_of_getElem? ea)), ?_, tok6.set er (fun s' hs' => ?_) (fun n => ?_)⟩
            · have := rwZ.set ea (r.set j (1 * z % s))
              rw [List.map_set] at this
              exact this
            · rw [es] at hs'
              cases hs'
              exact ⟨Int.emod_nonneg _ (by omega), Int.emod_lt_of_pos _ sp⟩
            · obtain ⟨x', y', hx', hy', st'⟩ := askD n
              refine ⟨x', y', hx', hy', ?_⟩
              rw [es] at hy'
              cases hy'
              have d1 : ((stp x' y' : Nat) : Int) ∣ 1 * z := by
                rw [st']
                exact Int.dvd_mul_right _ _
              rw [Int.emod_def]
              exact Int.dvd_sub d1 (Int.dvd_trans (Int.natCast_dvd_natCast.mpr (stp_dvd x' y')) (Int.dvd_mul_right _ _))
          · refine ⟨_, rfl, p, q, _, rfl, P7, by decide, by decide, fun r2 H8 _ _ P8 k8 => ⟨rfl, _, rfl, ?_⟩⟩
            refine ite2 (fun _ => ?_) (fun _ => ⟨_, _, t, rfl, P8, (k6.trans k7).trans k8, (rw6.kp nR k7).kp nR k8, tok6⟩)
            have PB := P8
            have kB := (k6.trans k7).trans k8
            have rwB := (rw6.kp nR k7).kp nR k8
            have sp : (0 : Int) < s := by omega
            have s4 : s.natAbs < 2 ^ 4000 := Nat.lt_of_le_of_lt (show s.natAbs ≤ 10 ^ 30 by omega) (by decide)
            refine ⟨_, rfl, _, rfl, _, rfl, _, _, rfl, rfl, _, rfl, _, rfl, p, q, _, rfl, PB, sp, s4, fun r3 H9 c0 c1 P9 k9 => ⟨by show 6 ≤ sizeLine; decide, fun l nl => ?_⟩⟩
            obtain ⟨nl1, nl2⟩ := P9.np nl
            refine ⟨p, q, l, _, rfl, P9.new nl, upd_same, nl1, nl2, List.cons_ne_nil _ _, by show 6 < 1000; decide, fun v HA hv PA kA => ?_⟩
            obtain ⟨z, rfl, z0, z1⟩ : ∃ z : Int, v = .int z ∧ 0 ≤ z ∧ z ≤ 10 ^ 30 := by
              rcases List.mem_cons.mp hv with e | hv
              · exact ⟨_, e, by decide, by decide⟩
              rcases List.mem_cons.mp hv with e | hv
              · exact ⟨_, e, by decide, by decide⟩
              rcases List.mem_cons.mp hv with e | hv
              · exact ⟨_, e, by decide, by decide⟩
              rcases List.mem_cons.mp hv with e | hv
              · exact ⟨_, e, by decide, by decide⟩
              rcases List.mem_cons.mp hv with e | hv
              · exact ⟨_, e, by show 0 ≤ s - 1; omega, by show s - 1 ≤ _; omega⟩
              · exact ⟨_, List.mem_singleton.mp hv, c0, by omega⟩
            have kZ : Kp p q H HA := ((kB.trans k9).new nl).trans kA
            have rwZ : Rws p q R HA rs t := ((rwB.kp nR k9).same (Same.new (Same.refl H9) nl)).kp nR kA
            have wd : CMulW 1 z := mul_wide (A := 120) (B := 120) (Nat.lt_of_le_of_lt askS (by decide)) (Nat.lt_of_le_of_lt (show z.natAbs ≤ 10 ^ 30 by omega) (by decide)) (by decide)
            have li : i < rs.length := by
              rw [rwZ.len, tok6.len]
              exact hi'
            obtain ⟨a, ea⟩ : ∃ a, rs[i]? = some a := ⟨rs[i], List.getElem?_eq_getElem li⟩
            obtain ⟨r, er, ha⟩ := rwZ.row i a ea
            have rl := tok6.row r (List.mem_of_getElem? er)
            refine ⟨_, _, rfl, rfl, wd, _, rfl, _, _, rfl, rfl, sp, _, rfl, _, rfl, R, _, i, _, rfl, rfl, SqL.of rwZ.top, atI_nat (by rw [List.getElem?_map, ea]; rfl), _, rfl, a, _, j, j, rfl, rfl, ha, ixN_of (by rw [List.length_map]; omega), ?_⟩
            refine ⟨some (.int (j : Int)), some (.int 1), t.set i (r.set j (1 * z % s)), rfl, PA.put (rwZ.off a (List.mem_of_getElem? ea)).2.1 (rwZ.off a (List.mem_of_getElem? ea)).2.2, kZ.put (fr a (List.mem_of_getElem? ea)), ?_, tok6.set er (fun s' hs' => ?_) (fun n => ?_)⟩
            · have := rwZ.set ea (r.set j (1 * z % s))
              rw [List.map_set] at this
              exact this
            · rw [es] at hs'
              cases hs'
              exact ⟨Int.emod_nonneg _ (by omega), Int.emod_lt_of_pos _ sp⟩
            · obtain ⟨x', y', hx', hy', st'⟩ := askD n
              refine ⟨x', y', hx', hy', ?_⟩
              rw [es] at hy'
              cases hy'
              have d1 : ((stp x' y' : Nat) : Int) ∣ 1 * z := by
                rw [st']
                exact Int.dvd_mul_right _ _
              rw [Int.emod_def]
              exact Int.dvd_sub d1 (Int.dvd_trans (Int.natCast_dvd_natCast.mpr (stp_dvd x' y')) (Int.dvd_mul_right _ _))
        · have im6 := im.k (k6.tk hP)
          obtain ⟨x, ex, x2, x30⟩ := (ok ss[j] (List.getElem_mem hj)).nat
          obtain ⟨y, ey, y2, y30⟩ := (ok s (List.mem_of_getElem? es)).nat
          have hx : ss[j]? = some (x : Int) := by rw [List.getElem?_eq_getElem hj, ex]
          have hy : ss[i]? = some (y : Int) := by rw [es, ey]
          refine ⟨_, rfl, _, rfl, _, rfl, .ref b, ss, j, i, x, y, rfl, im6, hx, hy, by omega, Nat.lt_of_le_of_lt y30 (by decide), ?_⟩
          have askS : ((stp x y : Nat) : Int).natAbs ≤ 10 ^ 30 := by
            rw [Int.natAbs_natCast]
            exact Nat.le_trans (stp_le (by omega)).2 y30
          have askD : i ≠ j → ∃ a b : Nat, ss[j]? = some (a : Int) ∧ ss[i]? = some (b : Int) ∧ ((stp a b : Nat) : Int) = ((stp x y : Nat) : Int) := fun _ => ⟨x, y, hx, hy, rfl⟩
          refine ⟨_, rfl, p, q, _, rfl, P6, by decide, by decide, fun r1 H7 _ _ P7 k7 => ⟨_, rfl, _, _, rfl, rfl, _, rfl, ?_⟩⟩
          refine ite2 (fun _ => ?_) (fun _ => iteF ⟨_, _, t, rfl, P7, k6.trans k7, rw6.kp nR k7, tok6⟩)
          refine ⟨_, rfl, _, rfl, rfl, _, rfl, ?_⟩
          refine ite2 (fun _ => iteT ?_) (fun _ => ?_)
          · have PB := P7
            have kB := k6.trans k7
            have rwB := rw6.kp nR k7
            have sp : (0 : Int) < s := by omega
            have s4 : s.natAbs < 2 ^ 4000 := Nat.lt_of_le_of_lt (show s.natAbs ≤ 10 ^ 30 by omega) (by decide)
            refine ⟨_, rfl, _, rfl, _, rfl, _, _, rfl, rfl, _, rfl, _, rfl, p, q, _, rfl, PB, sp, s4, fun r3 H9 c0 c1 P9 k9 => ⟨by show 6 ≤ sizeLine; decide, fun l nl => ?_⟩⟩
            obtain ⟨nl1, nl2⟩ := P9.np nl
            refine ⟨p, q, l, _, rfl, P9.new nl, upd_same, nl1, nl2, List.cons_ne_nil _ _, by show 6 < 1000; decide, fun v HA hv PA kA => ?_⟩
            obtain ⟨z, rfl, z0, z1⟩ : ∃ z : Int, v = .int z ∧ 0 ≤ z ∧ z ≤ 10 ^ 30 := by
              rcases List.mem_cons.mp hv with e | hv
              · exact ⟨_, e, by decide, by decide⟩
              rcases List.mem_cons.mp hv with e | hv
              · exact ⟨_, e, by decide, by decide⟩
              rcases List.mem_cons.mp hv with e | hv
              · exact ⟨_, e, by decide, by decide⟩
              rcases List.mem_cons.mp hv with e | hv
              · exact ⟨_, e, by decide, by decide⟩
              rcases List.mem_cons.mp hv with e | hv
              · exact ⟨_, e, by show 0 ≤ s - 1; omega, by show s - 1 ≤ _; omega⟩
              · exact ⟨_, List.mem_singleton.mp hv, c0, by omega⟩
            have kZ : Kp p q H HA := ((kB.trans k9).new nl).trans kA
            have rwZ : Rws p q R HA rs t := ((rwB.kp nR k9).same (Same.new (Same.refl H9) nl)).kp nR kA
            have wd : CMulW ((stp x y : Nat) : Int) z := mul_wide (A := 120) (B := 120) (Nat.lt_of_le_of_lt askS (by decide)) (Nat.lt_of_le_of_lt (show z.natAbs ≤ 10 ^ 30 by omega) (by decide)) (by decide)
            have li : i < rs.length := by
              rw [rwZ.len, tok6.len]
              exact hi'
            obtain ⟨a, ea⟩ : ∃ a, rs[i]? = some a := ⟨rs[i], List.getElem?_eq_getElem li⟩
            obtain ⟨r, er, ha⟩ := rwZ.row i a ea
            have rl := tok6.row r (List.mem_of_getElem? er)
            refine ⟨_, _, rfl, rfl, wd, _, rfl, _, _, rfl, rfl, sp, _, rfl, _, rfl, R, _, i, _, rfl, rfl, SqL.of rwZ.top, atI_nat (by rw [List.getElem?_map, ea]; rfl), _, rfl, a, _, j, j, rfl, rfl, ha, ixN_of (by rw [List.length_map]; omega), ?_⟩
            refine ⟨some (.int (j : Int)), some (.int ((stp x y : Nat) : Int)), t.set i (r.set j (((stp x y : Nat) : Int) * z % s)), rfl, PA.put (rwZ.off a (List.mem_of_getElem? ea)).2.1 (rwZ.off a (List.mem_of_getElem? ea)).2.2, kZ.put (fr a (List.mem_of_getElem? ea)), ?_, tok6.set er (fun s' hs' => ?_) (fun n => ?_)⟩
            · have := rwZ.set ea (r.set j (((stp x y : Nat) : Int) * z % s))
              rw [List.map_set] at this
              exact this
            · rw [es] at hs'
              cases hs'
              exact ⟨Int.emod_nonneg _ (by omega), Int.emod_lt_of_pos _ sp⟩
            · obtain ⟨x', y', hx', hy', st'⟩ := askD n
              refine ⟨x', y', hx', hy', ?_⟩
              rw [es] at hy'
              cases hy'
              have d1 : ((stp x' y' : Nat) : Int) ∣ ((stp x y : Nat) : Int) * z := by
                rw [st']
                exact Int.dvd_mul_right _ _
              rw [Int.emod_def]
              exact Int.dvd_sub d1 (Int.dvd_trans (Int.natCast_dvd_natCast.mpr (stp_dvd x' y')) (Int.dvd_mul_right _ _))
          · refine ⟨_, rfl, p, q, _, rfl, P7, by decide, by decide, fun r2 H8 _ _ P8 k8 => ⟨rfl, _, rfl, ?_⟩⟩
            refine ite2 (fun _ => ?_) (fun _ => ⟨_, _, t, rfl, P8, (k6.trans k7).trans k8, (rw6.kp nR k7).kp nR k8, tok6⟩)
            have PB := P8
            have kB := (k6.trans k7).trans k8
            have rwB := (rw6.kp nR k7).kp nR k8
            have sp : (0 : Int) < s := by omega
            have s4 : s.natAbs < 2 ^ 4000 := Nat.lt_of_le_of_lt (show s.natAbs ≤ 10 ^ 30 by omega) (by decide)
            refine ⟨_, rfl, _, rfl, _, rfl, _, _, rfl, rfl, _, rfl, _, rfl, p, q, _, rfl, PB, sp, s4, fun r3 H9 c0 c1 P9 k9 => ⟨by show 6 ≤ sizeLine; decide, fun l nl => ?_⟩⟩
            obtain ⟨nl1, nl2⟩ := P9.np nl
            refine ⟨p, q, l, _, rfl, P9.new nl, upd_same, nl1, nl2, List.cons_ne_nil _ _, by show 6 < 1000; decide, fun v HA hv PA kA => ?_⟩
            obtain ⟨z, rfl, z0, z1⟩ : ∃ z : Int, v = .int z ∧ 0 ≤ z ∧ z ≤ 10 ^ 30 := by
              rcases List.mem_cons.mp hv with e | hv
              · exact ⟨_, e, by decide, by decide⟩
              rcases List.mem_cons.mp hv with e | hv
              · exact ⟨_, e, by decide, by decide⟩
              rcases List.mem_cons.mp hv with e | hv
              · exact ⟨_, e, by decide, by decide⟩
              rcases List.mem_cons.mp hv with e | hv
              · exact ⟨_, e, by decide, by decide⟩
              rcases List.mem_cons.mp hv with e | hv
              · exact ⟨_, e, by show 0 ≤ s - 1; omega, by show s - 1 ≤ _; omega⟩
              · exact ⟨_, List.mem_singleton.mp hv, c0, by omega⟩
            have kZ : Kp p q H HA := ((kB.trans k9).new nl).trans kA
            have rwZ : Rws p q R HA rs t := ((rwB.kp nR k9).same (Same.new (Same.refl H9) nl)).kp nR kA
            have wd : CMulW ((stp x y : Nat) : Int) z := mul_wide (A := 120) (B := 120) (Nat.lt_of_le_of_lt askS (by decide)) (Nat.lt_of_le_of_lt (show z.natAbs ≤ 10 ^ 30 by omega) (by decide)) (by decide)
            have li : i < rs.length := by
              rw [rwZ.len, tok6.len]
              exact hi'
            obtain ⟨a, ea⟩ : ∃ a, rs[i]? = some a := ⟨rs[i], List.getElem?_eq_getElem li⟩
            obtain ⟨r, er, ha⟩ := rwZ.row i a ea
            have rl := tok6.row r (List.mem_of_getElem? er)
            refine ⟨_, _, rfl, rfl, wd, _, rfl, _, _, rfl, rfl, sp, _, rfl, _, rfl, R, _, i, _, rfl, rfl, SqL.of rwZ.top, atI_nat (by rw [List.getElem?_map, ea]; rfl), _, rfl, a, _, j, j, rfl, rfl, ha, ixN_of (by rw [List.length_map]; omega), ?_⟩
            refine ⟨some (.int (j : Int)), some (.int ((stp x y : Nat) : Int)), t.set i (r.set j (((stp x y : Nat) : Int) * z % s)), rfl, PA.put (rwZ.off a (List.mem_of_getElem? ea)).2.1 (rwZ.off a (List.mem_of_getElem? ea)).2.2, kZ.put (fr a (List.mem_of_getElem? ea)), ?_, tok6.set er (fun s' hs' => ?_) (fun n => ?_)⟩
            · have := rwZ.set ea (r.set j (((stp x y : Nat) : Int) * z % s))
              rw [List.map_set] at this
              exact this
            · rw [es] at hs'
              cases hs'
              exact ⟨Int.emod_nonneg _ (by omega), Int.emod_lt_of_pos _ sp⟩
            · obtain ⟨x', y', hx', hy', st'⟩ := askD n
              refine ⟨x', y', hx', hy', ?_⟩
              rw [es] at hy'
              cases hy'
              have d1 : ((stp x' y' : Nat) : Int) ∣ ((stp x y : Nat) : Int) * z := by
                rw [st']
                exact Int.dvd_mul_right _ _
              rw [Int.emod_def]
              exact Int.dvd_sub d1 (Int.dvd_trans (Int.natCast_dvd_natCast.mpr (stp_dvd x' y')) (Int.dvd_mul_right _ _))
      · rintro σ H6 ⟨v3', v7', t, rfl, P6, k6, rw6, tok6⟩
        exact ⟨_, _, _, _, _, t, rfl, P6, k6, rw6, tok6⟩
    · rintro σ H4 ⟨v2, v3, v6, v7, v8, t, rfl, P4, k4, rw4, tok4⟩
      have lr : rs.length ≤ 100 := by rw [rw4.len, tok4.len]; exact l100
      refine ⟨_, rfl, R, rfl, ⟨_, SqL.of rw4.top⟩, fun d nd => ?_⟩
      obtain ⟨nd1, nd2⟩ := P4.np nd
      have ndR : R ≠ d := fun z => by rw [← z, rw4.top] at nd; cases nd
      refine lc_list (K := K) (a := R) (xs := rs.map V.ref) (fun i H' => Same H4 H' ∧ ∃ vs : List V, H' d = some (.lst vs) ∧ ImAll H' vs ((t.take i).map sD)) ⟨Same.new (Same.refl H4) nd, [], upd_same, .nil⟩ (fun i H' _ z => SqL.of (z.1 _ _ rw4.top)) ?_ ?_
      · rintro i x H5 hx ⟨sm5, vs, hd, ia⟩
        obtain ⟨a, ea, rfl⟩ := map_get hx
        obtain ⟨r, er, ha⟩ := rw4.row i a ea
        have lv : vs.length ≤ 100 := by
          rw [ia.length, List.length_map, List.length_take, tok4.len]
          omega
        refine ⟨rfl, _, rfl, a, _, rfl, .inl ⟨SqL.of (sm5 _ _ ha), fun u nu => ?_⟩⟩
        have hd5 := keepN (o' := .tup (r.map V.int)) hd nu
        have tk : Tk (upd H5 u (.tup (r.map V.int))) (upd (upd H5 u (.tup (r.map V.int))) d (.lst (vs ++ [.ref u]))) := (Tk.refl _).put hd5
        refine ⟨_, hd5, small1000 (by omega), Same.put (Same.new sm5 nu) nd, _, upd_same, ?_⟩
        rw [take_get er, List.map_append]
        exact ((ia.k ((Tk.refl H5).new nu)).k tk).append (.cons (Im.k (.tup upd_same (ImAll.of_ints _ _)) tk) .nil)
      · rintro H5 ⟨sm5, vs, hd, ia⟩
        rw [show t.take (rs.map V.ref).length = t by rw [List.length_map, rw4.len, List.take_length]] at ia
        refine ⟨d, _, rfl, .inl ⟨SqL.of hd, fun u nu => k _ t _ (.tup upd_same (ia.k ((Tk.refl H5).new nu))) tok4 ((P4.same sm5).new nu) ((k4.trans (Kp.same sm5)).new nu)⟩⟩

/-! ### the program's kinds and machine_error -/
theorem tyI : ClsV (V.ty "int") (.type "int") := .ty _
theorem tyB : ClsV (V.ty "bool") (.type "bool") := .ty _
theorem tyT : ClsV (V.ty "tuple") (.type "tuple") := .ty _
theorem isI_eq (d : PyData) : (isIB d && !isB d) = isI d := by cases d <;> rfl
abbrev sc_is_an_integerN : List Str := ["value"]
theorem sc_is_an_integer : FnScope sc_is_an_integerN ["value"] (defScope s_is_an_integer) := ⟨rfl, rfl, rfl, by decide +kernel, rfl, by decide +kernel, by decide +kernel⟩
def spInt : Sp := fun vs H Q _ => ∃ (v : V) (d : PyData), vs = [v] ∧ Dv An H v d ∧ Q (.bl (isI d)) H
theorem ok_isint {f : Addr} {fd : FuncData} (D : DefAt K mg "is_an_integer" s_is_an_integer ["value"] f fd) (T : Blt mg) : Cal P w K mg base 1 "is_an_integer" spInt := by
  refine cal_of D sc_is_an_integer (fun vs H Q E h => ?_) (fun cdv A outer s H vs Q E hr h => ?_)
  · obtain ⟨v, d, rfl, _⟩ := h
    rfl
  · obtain ⟨v, d, rfl, hd, k⟩ := h
    refine ⟨_, (pss_one (ps_ret (pe_and (pe_callB (call_isiK' K rfl) (by rfl) T.isinstance (by decide +kernel) (pa_cons (pv 0) (pa_cons (pe_bltn (v := .ty "int") (u := .type "int") (by rfl) T.int (by decide +kernel) rfl) pa_nil))) (pe_one (pe_not (pe_callB (call_isiK' K rfl) (by rfl) T.isinstance (by decide +kernel) (pa_cons (pv 0) (pa_cons (pe_bltn (v := .ty "bool") (u := .type "bool") (by rfl) T.bool (by decide +kernel) rfl) pa_nil)))))))), ?_⟩
    rw [← isI_eq] at k
    refine ⟨_, rfl, _, _, _, _, _, rfl, tyI, hd.ty, kit_int K d, _, rfl, ?_⟩
    cases h1 : isIB d with
    | false =>
      rw [h1] at k
      exact iteF k
    | true =>
      rw [h1] at k
      exact iteT ⟨_, rfl, _, _, _, _, _, rfl, tyB, hd.ty, kit_bool K d, _, rfl, k⟩
abbrev sc_is_belowN : List Str := ["value", "bound"]
theorem sc_is_below : FnScope sc_is_belowN ["value", "bound"] (defScope s_is_below) := ⟨rfl, rfl, rfl, by decide +kernel, rfl, by decide +kernel, by decide +kernel⟩
def spBel : Sp := fun vs H Q _ => ∃ (v : V) (d : PyData) (m : Nat), vs = [v, .int m] ∧ Dv An H v d ∧ Q (.bl (isBl m d)) H
theorem isBl_no {d : PyData} (m : Nat) (h : isI d = false) : isBl m d = false := by cases d <;> first | rfl | cases h
theorem ok_isbelow {f : Addr} {fd : FuncData} (D : DefAt K mg "is_below" s_is_below ["value", "bound"] f fd) (c_is_an_integer : Cal P w K mg base 1 "is_an_integer" spInt) : Cal P w K mg base 2 "is_below" spBel := by
  refine cal_of D sc_is_below (fun vs H Q E h => ?_) (fun cdv A outer s H vs Q E hr h => ?_)
  · obtain ⟨v, d, m, rfl, _⟩ := h
    rfl
  · obtain ⟨v, d, m, rfl, hd, k⟩ := h
    refine ⟨_, (pss_one (ps_ret (pe_and (pe_c c_is_an_integer hr (by decide) rfl (pa_cons (pv 0) pa_nil)) (pe_one (pe_chain op_le op_lt pe_int (pv 0) (pv 1)))))), ?_⟩
    refine ⟨_, rfl, v, d, rfl, hd, _, rfl, ?_⟩
    cases h1 : isI d with
    | false =>
      rw [isBl_no m h1] at k
      exact iteF k
    | true =>
      refine iteT ?_
      obtain ⟨i, rfl, rfl⟩ := hd.int h1
      simp only [isBl] at k
      refine ⟨_, rfl, _, _, rfl, rfl, _, rfl, ?_⟩
      refine ite2 (fun h2 => ⟨_, rfl, _, _, rfl, rfl, ?_⟩) (fun h2 => ?_)
      · rw [h2] at k
        exact k
      · rw [show decide ((0 : Int) ≤ i) = false by simpa using h2] at k
        exact k
theorem Dg.dv {N : Addr → Prop} {H : Hp} {v : V} {d : PyData} (h : Dg N H v d) : Dv N H v d := .inl h
theorem Dg.tuple {N : Addr → Prop} {H : Hp} {v : V} {ds : List PyData} (h : Dg N H v (.tuple ds)) : ∃ a xs, v = .ref a ∧ H a = some (.tup xs) ∧ DgAll N H xs ds := by
  cases h with
  | tup a b => exact ⟨_, _, rfl, a, b⟩
theorem isT_ex {d : PyData} (h : isT d = true) : ∃ ds, d = .tuple ds := by
  cases d with
  | tuple ds => exact ⟨ds, rfl⟩
  | _ => cases h
theorem isBl_int {m : Nat} {d : PyData} (h : isBl m d = true) : isI d = true := by cases d <;> first | rfl | cases h
abbrev sc_stepN : List Str := ["machine", "j", "i", "sizes"]
theorem sc_step : FnScope sc_stepN ["machine", "j", "i"] (defScope s_step) := ⟨rfl, rfl, rfl, by decide +kernel, rfl, by decide +kernel, by decide +kernel⟩
theorem fn_step {f : Addr} {fd : FuncData} (D : DefAt K mg "step" s_step ["machine", "j", "i"] f fd) (T_gcd : mg "gcd" = some (.builtin "math.gcd")) : FnOk P w K mg base CX0 1 f fd ["machine", "j", "i"] spStep := by
  refine D.fn.ok sc_step (fun vs H Q E h => ?_) (fun cdv A outer s H vs Q E hr h => ?_)
  · obtain ⟨v, ss, d, j, i, a, b, rfl, _⟩ := h
    rfl
  · obtain ⟨v, ss, d, j, i, x, y, rfl, im, hj, hi, y0, y1, k⟩ := h
    refine ⟨_, (pss_cons (ps_set (i := 3) sc_step.nd rfl (.inl rfl) (pe_ix (ix_tupK K rfl) (pv 0) pe_int (fun _ _ => rfl)))
      (pss_one (ps_ret (pe_op op_fdivW (pe_ix (ix_tupK K rfl) (pv 3) (pv 2) (fun _ _ => rfl)) (pe_callBfun cr_gcd rfl T_gcd (pa_cons (pe_ix (ix_tupK K rfl) (pv 3) (pv 2) (fun _ _ => rfl)) (pa_cons (pe_ix (ix_tupK K rfl) (pv 3) (pv 1) (fun _ _ => rfl)) pa_nil))))))), ?_⟩
    obtain ⟨a, xs, rfl, ha, ia⟩ := im.tuple
    obtain ⟨v1, g1, im1⟩ := ia.get (i := 0) rfl
    obtain ⟨b, ys, rfl, hb, ib⟩ := im1.tuple
    have ey := ib.ints
    subst ey
    have hi' : (ss.map V.int)[i]? = some (V.int (y : Int)) := by rw [List.getElem?_map, hi]; rfl
    have hj' : (ss.map V.int)[j]? = some (V.int (x : Int)) := by rw [List.getElem?_map, hj]; rfl
    have gp : 0 < Nat.gcd y x := gcd_pos' y0
    have gl : Nat.gcd y x < 2 ^ 4000 := Nat.lt_of_le_of_lt (Nat.le_of_dvd y0 (Nat.gcd_dvd_left y x)) y1
    refine ⟨_, rfl, a, _, 0, _, rfl, rfl, SqT.of ha, atI_nat (j := 0) g1, ?_⟩
    refine ⟨_, rfl, _, rfl, b, _, i, _, rfl, rfl, SqT.of hb, atI_nat hi', _, rfl, _, rfl, b, _, i, _, rfl, rfl, SqT.of hb, atI_nat hi', _, rfl, _, rfl, b, _, j, _, rfl, rfl, SqT.of hb, atI_nat hj', _, _, rfl, ?_⟩
    exact ⟨_, _, rfl, rfl, wide_div (b := 4000) (by show (0 : Int) < ((Nat.gcd y x : Nat) : Int); omega) (by simpa using gl) (by decide) (by decide), k⟩
theorem k_step {f : Addr} {fd : FuncData} (F : Fun K "step" "step" s_step f fd) : KBinds K fd ["machine", "j", "i"] ["i", "j", "machine"] kg321 kg321 := by
  obtain ⟨oc, od, kV, doc, pm, an, cdv, ct, osl, rfl, lk, hcd⟩ := F.ex
  refine ⟨fun s us ws _ hl => ?_, kg321_rel⟩
  match us, ws, hl with
  | [], [a, b, c], _ => exact .of_eq rfl

/-! ### k09: what is a table -/
theorem iteSK {c A B : Prop} [Decidable c] (hc : c) (h : A) : if decide c = true then A else B := by
  rw [decide_eq_true hc]
  exact iteT h
theorem qSK {c : Prop} [Decidable c] (hc : c) {Q : VK} {H : Hp} (h : Q (.bl true) H) : Q (.bl (decide c)) H := by
  rw [decide_eq_true hc]
  exact h
theorem iteNF {c A B : Prop} [Decidable c] (hc : ¬ c) (h : A) : if (!decide c) = true then A else B := by
  rw [decide_eq_false hc]
  exact iteT h
def entB (ss : List Int) (i j : Nat) (x : PyData) : Bool :=
  isBl (ss.getD i 0).toNat x && (decide (i = j) || (match x with | .int n => decide (n % ((stp (ss.getD j 0).toNat (ss.getD i 0).toNat : Nat) : Int) = 0) | _ => false))
def isRow (n : Nat) : PyData → Bool
  | .tuple l => decide (l.length = n)
  | _ => false
def isForm (n : Nat) : PyData → Bool
  | .tuple l => decide (l.length = n) && l.all (isRow n)
  | _ => false
def atD (rows : List PyData) (i j : Nat) : PyData := match rows.getD i .none with
  | .tuple l => l.getD j .none
  | _ => .none
def eE (i j : Nat) : PyData := .tuple [.str "entry", .int (i : Int), .int (j : Int)]
/-- what is wrong first -/
inductive Terr (ss : List Int) : PyData → PyData → Prop
  | form {d : PyData} : isForm ss.length d = false → Terr ss d (.str "form")
  | entry {rows : List PyData} {i j : Nat} : isForm ss.length (.tuple rows) = true → i < ss.length → j < ss.length →
      (∀ i' j', i' < ss.length → j' < ss.length → (i' < i ∨ (i' = i ∧ j' < j)) → entB ss i' j' (atD rows i' j') = true) → entB ss i j (atD rows i j) = false → Terr ss (.tuple rows) (eE i j)
  | none {rows : List PyData} : isForm ss.length (.tuple rows) = true → (∀ i' j', i' < ss.length → j' < ss.length → entB ss i' j' (atD rows i' j') = true) → Terr ss (.tuple rows) .none
theorem Terr.det {ss : List Int} {d e e' : PyData} (a : Terr ss d e) (b : Terr ss d e') : e = e' := by
  cases a with
  | form h =>
    cases b with
    | form _ => rfl
    | entry h' _ _ _ _ => rw [h] at h'; cases h'
    | none h' _ => rw [h] at h'; cases h'
  | entry h i1 j1 f g =>
    rename_i i j
    cases b with
    | form h' => rw [h] at h'; cases h'
    | entry h' i2 j2 f' g' =>
      rename_i i' j'
      by_cases c1 : i' < i ∨ (i' = i ∧ j' < j)
      · rw [f i' j' i2 j2 c1] at g'; cases g'
      by_cases c2 : i < i' ∨ (i = i' ∧ j < j')
      · rw [f' i j i1 j1 c2] at g; cases g
      have e1 : i = i' := by omega
      have e2 : j = j' := by omega
      rw [e1, e2]
    | none _ f' => rw [f' i j i1 j1] at g; cases g
  | none h f =>
    cases b with
    | form h' => rw [h] at h'; cases h'
    | entry h' i2 j2 f' g' => rw [f _ _ i2 j2] at g'; cases g'
    | none _ _ => rfl
theorem row_dec (ds : List PyData) (n : Nat) : (((ds.length : Nat) : Int) == (n : Int)) = isRow n (.tuple ds) := by
  simp only [isRow]
  by_cases z : ds.length = n
  · rw [z, decide_eq_true rfl]
    exact beq_self_eq_true _
  · rw [decide_eq_false z]
    exact beq_eq_false_iff_ne.mpr (fun q => z (by omega))
abbrev sc_is_rowN : List Str := ["value", "many"]
theorem sc_is_row : FnScope sc_is_rowN ["value", "many"] (defScope s_is_row) := ⟨rfl, rfl, rfl, by decide +kernel, rfl, by decide +kernel, by decide +kernel⟩
def spIsRow : Sp := fun vs H Q _ => ∃ (v : V) (d : PyData) (n : Nat), vs = [v, .int n] ∧ Dv An H v d ∧ Q (.bl (isRow n d)) H
theorem ok_isrow {f : Addr} {fd : FuncData} (D : DefAt K mg "is_row" s_is_row ["value", "many"] f fd) (T : Blt mg) : Cal P w K mg base 1 "is_row" spIsRow := by
  refine cal_of D sc_is_row (fun vs H Q E h => ?_) (fun cdv A outer s H vs Q E hr h => ?_)
  · obtain ⟨v, d, n, rfl, _⟩ := h
    rfl
  · obtain ⟨v, d, n, rfl, hd, k⟩ := h
    refine ⟨_, (pss_one (ps_ret (pe_and (pe_callB (call_isiK' K rfl) (by rfl) T.isinstance (by decide +kernel) (pa_cons (pv 0) (pa_cons (pe_bltn (v := .ty "tuple") (u := .type "tuple") (by rfl) T.tuple (by decide +kernel) rfl) pa_nil))) (pe_one (pe_cmpR op_eq (pe_callB (call_lenK K rfl) (by rfl) T.len PySem.boot_len (pa_cons (pv 0) pa_nil)) (pv 1) (nomark _)))))), ?_⟩
    refine ⟨_, rfl, _, _, _, _, _, rfl, tyT, hd.ty, kit_tup K d, _, rfl, ?_⟩
    cases h1 : isT d with
    | false =>
      have e : isRow n d = false := by cases d <;> first | rfl | cases h1
      rw [e] at k
      exact iteF k
    | true =>
      obtain ⟨a, xs, ds, rfl, rfl, ha, hs⟩ := hd.tuple h1
      have e : decide (V.int ((xs.length : Nat) : Int) = V.int (n : Int)) = isRow n (.tuple ds) := by
        rw [hs.length, dec_int]
        exact row_dec ds n
      refine iteT ⟨_, rfl, a, _, rfl, .inr (SqT.of ha), _, rfl, rfl, ?_⟩
      rw [e]
      exact k
theorem sz_nat {ss : List Int} (ok : ∀ s ∈ ss, SizeOk s) {i : Nat} (h : i < ss.length) : ∃ y : Nat, ss[i]? = some (y : Int) ∧ 2 ≤ y ∧ y ≤ 10 ^ 30 ∧ (ss.getD i 0).toNat = y := by
  obtain ⟨s, es⟩ := get_some h
  obtain ⟨s2, s3⟩ := (ok s (List.mem_of_getElem? es)).bnd
  refine ⟨s.toNat, ?_, by omega, by omega, ?_⟩
  · rw [es, Int.toNat_of_nonneg (by omega)]
  · rw [List.getD_eq_getElem?_getD, es]
    rfl
theorem at_get {rows l : List PyData} {i j : Nat} {x : PyData} (h : rows[i]? = some (.tuple l)) (h2 : l[j]? = some x) : atD rows i j = x := by
  unfold atD
  rw [List.getD_eq_getElem?_getD, h]
  show l.getD j .none = x
  rw [List.getD_eq_getElem?_getD, h2]
  rfl
theorem row_of {n : Nat} {d : PyData} (h : isRow n d = true) : ∃ l, d = .tuple l ∧ l.length = n := by
  cases d with
  | tuple l => exact ⟨l, rfl, of_decide_eq_true h⟩
  | _ => cases h
theorem form_of {n : Nat} {d : PyData} (h : isForm n d = true) : ∃ rows, d = .tuple rows ∧ rows.length = n ∧ ∀ r ∈ rows, isRow n r = true := by
  cases d with
  | tuple l =>
    simp only [isForm, Bool.and_eq_true, decide_eq_true_eq, List.all_eq_true] at h
    exact ⟨l, rfl, h.1, h.2⟩
  | _ => cases h
theorem form_no {n : Nat} {d : PyData} (h : isRow n d = false) : isForm n d = false := by
  cases d with
  | tuple l =>
    simp only [isRow] at h
    simp only [isForm, h, Bool.false_and]
  | _ => rfl
abbrev sc_is_entryN : List Str := ["machine", "i", "j", "value"]
theorem sc_is_entry : FnScope sc_is_entryN ["machine", "i", "j", "value"] (defScope s_is_entry) := ⟨rfl, rfl, rfl, by decide +kernel, rfl, by decide +kernel, by decide +kernel⟩
def spIsEnt : Sp := fun vs H Q _ => ∃ (m v : V) (ss : List Int) (ws : List (Nat × Nat)) (i j : Nat) (d : PyData), vs = [m, .int i, .int j, v] ∧ Im H m (mD ss ws) ∧ (∀ s ∈ ss, SizeOk s) ∧ i < ss.length ∧ j < ss.length ∧ Dv An H v d ∧ Q (.bl (entB ss i j d)) H
theorem ok_isent {f : Addr} {fd : FuncData} (D : DefAt K mg "is_entry" s_is_entry ["machine", "i", "j", "value"] f fd) (T : Blt mg) (c_is_below : Cal P w K mg base 2 "is_below" spBel) (c_step : Cal P w K mg base 1 "step" spStep) : Cal P w K mg base 3 "is_entry" spIsEnt := by
  refine cal_of D sc_is_entry (fun vs H Q E h => ?_) (fun cdv A outer s H vs Q E hr h => ?_)
  · obtain ⟨m, v, ss, ws, i, j, d, rfl, _⟩ := h
    rfl
  · obtain ⟨m, v, ss, ws, i, j, d, rfl, im, ok, hi, hj, hd, k⟩ := h
    refine ⟨_, (pss_cons (ps_if (pt_not (pt_val (pe_c c_is_below hr (by decide) rfl (pa_cons (pv 3) (pa_cons (pe_ix (ix_tupK K rfl) (pe_ix (ix_tupK K rfl) (pv 0) pe_int (fun _ _ => rfl)) (pv 1) (fun _ _ => rfl)) pa_nil))))) (pss_one (ps_ret pe_bl)) pss_nil)
      (pss_one (ps_ret (pe_or (pe_cmpR op_eq (pv 1) (pv 2) (nomark _)) (pe_one (pe_cmpR op_eq (pe_op op_mod (pv 3) (pe_c c_step hr (by decide) rfl (pa_cons (pv 0) (pa_cons (pv 2) (pa_cons (pv 1) pa_nil))))) pe_int (nomark _))))))), ?_⟩
    obtain ⟨a, xs, rfl, ha, ia⟩ := id im.tuple
    obtain ⟨b0, g0, im0⟩ := ia.get (i := 0) rfl
    obtain ⟨b, ys, rfl, hb, ib⟩ := id im0.tuple
    have ey := ib.ints
    subst ey
    obtain ⟨y, ey, y2, y3, yn⟩ := sz_nat ok hi
    obtain ⟨x, ex, x2, x3, xn⟩ := sz_nat ok hj
    have hiV : (ss.map V.int)[i]? = some (V.int (y : Int)) := by rw [List.getElem?_map, ey]; rfl
    unfold entB at k
    rw [yn, xn] at k
    refine ⟨_, rfl, _, rfl, a, _, 0, _, rfl, rfl, SqT.of ha, atI_nat (j := 0) g0, _, rfl, b, _, i, _, rfl, rfl, SqT.of hb, atI_nat hiV, v, d, y, rfl, hd, _, rfl, ?_⟩
    cases h1 : isBl y d with
    | false =>
      rw [h1] at k
      exact iteT k
    | true =>
      rw [h1] at k
      obtain ⟨n, rfl, rfl⟩ := hd.int (isBl_int h1)
      refine iteF ⟨_, rfl, _, rfl, rfl, _, rfl, ?_⟩
      rw [Bool.true_and] at k
      by_cases e : i = j
      · rw [decide_eq_true e, Bool.true_or] at k
        subst e
        exact iteSK rfl k
      · rw [decide_eq_false e, Bool.false_or] at k
        rw [decide_eq_false (fun z => e (by have := V.int.inj z; omega))]
        refine iteF ⟨_, rfl, _, rfl, _, rfl, _, rfl, _, ss, _, j, i, x, y, rfl, im, ex, ey, by omega, Nat.lt_of_le_of_lt y3 (by decide), _, _, rfl, rfl, ?_, rfl, ?_⟩
        · have := stp_pos (a := x) (b := y) (by omega)
          show (0 : Int) < ((stp x y : Nat) : Int)
          omega
        · have e2 : decide (V.int (n % ((stp x y : Nat) : Int)) = V.int 0) = decide (n % ((stp x y : Nat) : Int) = 0) := by
            by_cases z : n % ((stp x y : Nat) : Int) = 0
            · rw [z]; rfl
            · rw [decide_eq_false z, decide_eq_false (fun q => z (V.int.inj q))]
          rw [e2]
          exact k
def kg21c {α : Type} : List α → List α → List α
  | [], [a, b] => [b, a]
  | _, _ => []
theorem kg21c_rel {vs zs : List V} {us ws : List Value} (h1 : Vals vs us) (h2 : Vals zs ws) : Vals (kg21c vs zs) (kg21c us ws) := by
  cases h1 with
  | cons _ _ => exact .nil
  | nil =>
    cases h2 with
    | nil => exact .nil
    | cons a h2 =>
      cases h2 with
      | nil => exact .nil
      | cons b h2 =>
        cases h2 with
        | nil => exact .cons b (.cons a .nil)
        | cons _ _ => exact .nil
abbrev sc_entry_errorN : List Str := ["machine", "rows", "i", "row", "j", "entry"]
theorem sc_entry_error : FnScope sc_entry_errorN ["machine", "rows"] (defScope s_entry_error) := ⟨rfl, rfl, rfl, by decide +kernel, rfl, by decide +kernel, by decide +kernel⟩
def spEnts : Sp := fun vs H Q _ => ∃ (m v : V) (ss : List Int) (ws : List (Nat × Nat)) (rows : List PyData), vs = [m, v] ∧ Im H m (mD ss ws) ∧ MOk ss ws ∧ Dv An H v (.tuple rows) ∧ isForm ss.length (.tuple rows) = true ∧ ∀ (u : V) (e : PyData) (H' : Hp), Terr ss (.tuple rows) e → Im H' u e → Same H H' → Q u H'
theorem ok_ents {f : Addr} {fd : FuncData} (D : DefAt K mg "entry_error" s_entry_error ["machine", "rows"] f fd) (T : Blt mg) (c_is_entry : Cal P w K mg base 3 "is_entry" spIsEnt) : Cal P w K mg base 4 "entry_error" spEnts := by
  refine cal_of D sc_entry_error (fun vs H Q E h => ?_) (fun cdv A outer s H vs Q E hr h => ?_)
  · obtain ⟨m, v, ss, ws, rows, rfl, _⟩ := h
    rfl
  · obtain ⟨m, v, ss, ws, rows, rfl, im, ok, hd, hf, k⟩ := h
    refine ⟨_, (pss_cons (ps_for PassesOwn.never rfl (pi_enumTK K rfl (by rfl) T.enumerate (pa_cons (pv 1) pa_nil)) (pg_tup rfl (pgs_cons (pg_name (i := 2) sc_entry_error.nd rfl (.inl rfl)) (pgs_cons (pg_name (i := 3) sc_entry_error.nd rfl (.inl rfl)) pgs_nil))) (pss_one (ps_if (pt_cmpR op_notN (pv 3) pe_non (nomark _)) (pss_one (ps_for PassesOwn.never rfl (pi_enumTK K rfl (by rfl) T.enumerate (pa_cons (pv 3) pa_nil)) (pg_tup rfl (pgs_cons (pg_name (i := 4) sc_entry_error.nd rfl (.inl rfl)) (pgs_cons (pg_name (i := 5) sc_entry_error.nd rfl (.inl rfl)) pgs_nil))) (pss_one (ps_if (pt_not (pt_val (pe_c c_is_entry hr (by decide) rfl (pa_cons (pv 0) (pa_cons (pv 2) (pa_cons (pv 4) (pa_cons (pv 5) pa_nil))))))) (pss_one (ps_ret (pe_tup (pa_cons pe_str (pa_cons (pv 2) (pa_cons (pv 4) pa_nil)))))) pss_nil)))) pss_nil)))
      (pss_one (ps_ret pe_non))), ?_⟩
    obtain ⟨a, xs, rfl, ha, ia⟩ := id im.tuple
    have l6 := ok.six
    obtain ⟨c, zs, ds, rfl, e0, hc, hs⟩ := hd.tuple rfl
    cases e0
    obtain ⟨_, z1, lr, rok⟩ := form_of hf
    cases z1
    have lz : zs.length = rows.length := hs.length
    refine ⟨_, rfl, c, zs, rfl, SqT.of hc, for_it walk_enumT (fun t σ H' => ∃ v3 v4 v5 v6 : Option V, σ = [some (.ref a), some (.ref c), v3, v4, v5, v6] ∧ Same H H' ∧ ∀ i' j', i' < t → j' < ss.length → entB ss i' j' (atD rows i' j') = true)
      ⟨none, none, none, none, rfl, Same.refl H, fun _ _ z => absurd z (Nat.not_lt_zero _)⟩ (fun t σ H' _ ⟨_, _, _, _, _, z, _⟩ => SqT.of (z _ _ hc)) ?_ ?_⟩
    · rintro t x σ H3 H4 ht ⟨v3, v4, v5, v6, rfl, s3, al⟩ ⟨T1, x1, x2, rfl, nT, rfl, e1, e2⟩
      cases e1
      obtain ⟨dr, hdr, dgr⟩ := hs.get e2
      obtain ⟨l, rfl, ll⟩ := row_of (rok dr (List.mem_of_getElem? hdr))
      obtain ⟨ar, vs, rfl, har, hvs⟩ := dgr.tuple
      have ti : t < ss.length := by omega
      have s4 : Same H (upd H3 T1 (.tup [.int (t : Nat), .ref ar])) := Same.new s3 nT
      refine ⟨T1, _, rfl, SqT.of upd_same, rfl, _, _, rfl, _, _, rfl, rfl, ?_⟩
      generalize upd H3 T1 (.tup [.int (t : Nat), .ref ar]) = H4 at *
      have lv : vs.length = ss.length := by rw [hvs.length, ll]
      refine ⟨_, rfl, rfl, _, rfl, ?_⟩
      refine iteT ⟨_, rfl, ar, vs, rfl, SqT.of (s4 _ _ har), for_it walk_enumT (fun u σ H' => ∃ v5 v6 : Option V, σ = [some (.ref a), some (.ref c), some (.int (t : Nat)), some (.ref ar), v5, v6] ∧ Same H H' ∧ ∀ j', j' < u → entB ss t j' (atD rows t j') = true)
        ⟨v5, v6, rfl, s4, fun _ z => absurd z (Nat.not_lt_zero _)⟩ (fun t σ H' _ ⟨_, _, _, z, _⟩ => SqT.of (z _ _ har)) ?_ ?_⟩
      · rintro u y σ H5 H6 hu' ⟨v5, v6, rfl, s5, al2⟩ ⟨T2, y1, y2, rfl, nT2, rfl, f1, f2⟩
        cases f1
        obtain ⟨de, hde, dge⟩ := hvs.get f2
        have uj : u < ss.length := by omega
        have s6 : Same H (upd H5 T2 (.tup [.int (u : Nat), y2])) := Same.new s5 nT2
        refine ⟨T2, _, rfl, SqT.of upd_same, rfl, _, _, rfl, _, _, rfl, rfl, ?_⟩
        generalize upd H5 T2 (.tup [.int (u : Nat), y2]) = H6 at *
        have ea : atD rows t u = de := at_get hdr hde
        refine ⟨_, rfl, _, rfl, _, rfl, _, rfl, _, y2, ss, ws, t, u, de, rfl, Same.k s6 im, ok.size, ti, uj, ((dge.any).k (Ks.same s6)).dv, _, rfl, ?_⟩
        cases h3 : entB ss t u de with
        | false =>
          refine iteT ⟨_, rfl, _, rfl, by show 3 ≤ sizeLine; decide, fun t9 nt9 => ?_⟩
          refine k _ (eE t u) _ (.entry hf ti uj (fun i' j' hi' hj' hlt => ?_) (by rw [ea]; exact h3)) (.tup upd_same (.cons (.str _) (.cons (.int _) (.cons (.int _) .nil)))) (Same.new s6 nt9)
          rcases hlt with hlt | ⟨rfl, hlt⟩
          · exact al i' j' hlt hj'
          · exact al2 j' hlt
        | true =>
          refine iteF ⟨_, _, rfl, s6, fun j' hj' => ?_⟩
          by_cases z : j' < u
          · exact al2 j' z
          · have : j' = u := by omega
            subst this
            rw [ea]
            exact h3
      · rintro σ H5 ⟨v5, v6, rfl, s5, al2⟩
        refine ⟨_, _, _, _, rfl, s5, fun i' j' hi' hj' => ?_⟩
        by_cases z : i' < t
        · exact al i' j' z hj'
        · have : i' = t := by omega
          subst this
          exact al2 j' (by omega)
    · rintro σ H3 ⟨v3, v4, v5, v6, rfl, s3, al⟩
      exact k _ _ _ (.none hf fun i' j' hi' hj' => al i' j' (by omega) hj') .non s3
abbrev sc_table_errorN : List Str := ["machine", "value", "many", "row"]
theorem sc_table_error : FnScope sc_table_errorN ["machine", "value"] (defScope s_table_error) := ⟨rfl, rfl, rfl, by decide +kernel, rfl, by decide +kernel, by decide +kernel⟩
def spTerr : Sp := fun vs H Q _ => ∃ (m v : V) (ss : List Int) (ws : List (Nat × Nat)) (d : PyData), vs = [m, v] ∧ Im H m (mD ss ws) ∧ MOk ss ws ∧ Dv An H v d ∧ (∀ rows, d = .tuple rows → rows.length ≤ 100) ∧ ∀ (u : V) (e : PyData) (H' : Hp), Terr ss d e → Im H' u e → Same H H' → Q u H'
theorem fn_terr {f : Addr} {fd : FuncData} (D : DefAt K mg "table_error" s_table_error ["machine", "value"] f fd) (T : Blt mg) (c_is_row : Cal P w K mg base 1 "is_row" spIsRow) (c_entry_error : Cal P w K mg base 4 "entry_error" spEnts) : FnOk P w K mg base CX0 5 f fd ["machine", "value"] spTerr := by
  refine D.fn.ok sc_table_error (fun vs H Q E h => ?_) (fun cdv A outer s H vs Q E hr h => ?_)
  · obtain ⟨m, v, ss, ws, d, rfl, _⟩ := h
    rfl
  · obtain ⟨m, v, ss, ws, d, rfl, im, ok, hd, l100, k⟩ := h
    refine ⟨_, (pss_cons (ps_set (i := 2) sc_table_error.nd rfl (.inr rfl) (pe_callB (call_lenK K rfl) (by rfl) T.len PySem.boot_len (pa_cons (pe_ix (ix_tupK K rfl) (pv 0) pe_int (fun _ _ => rfl)) pa_nil)))
      (pss_cons (ps_if (PW.pt (pw_or (pt_not (pt_val (pe_c c_is_row hr (by decide) rfl (pa_cons (pv 1) (pa_cons (pv 2) pa_nil))))) (pw_or1 (pt_not (pt_val (pe_callB (cr_allK K rfl rfl) (by rfl) T.all boot_all (pa_cons (pe_lc (own := [("row", 3)]) rfl sc_table_error.nd (pi_tupK K rfl (pv 1)) (blkOk_by (N := sc_table_errorN) (sc := defScope s_table_error) (by decide +kernel)) (fun _ _ _ _ _ => (pg_name (i := 3) sc_table_error.nd rfl (by first | exact .inl rfl | exact .inr rfl))) (fun _ _ _ _ _ => pts_nil) (fun _ _ _ _ _ => (pe_c c_is_row hr (by decide) rfl (pa_cons (pv 3) (pa_cons (pv 2) pa_nil))))) pa_nil))))))) (pss_one (ps_ret pe_str)) pss_nil)
      (pss_one (ps_ret (pe_c c_entry_error hr (by decide) rfl (pa_cons (pv 0) (pa_cons (pv 1) pa_nil))))))), ?_⟩
    obtain ⟨a, xs, rfl, ha, ia⟩ := id im.tuple
    obtain ⟨b0, g0, im0⟩ := ia.get (i := 0) rfl
    obtain ⟨b, ys, rfl, hb, ib⟩ := id im0.tuple
    have ey := ib.ints
    subst ey
    have l6 := ok.six
    refine ⟨_, rfl, a, _, 0, _, rfl, rfl, SqT.of ha, atI_nat (j := 0) g0, b, _, rfl, .inr (SqT.of hb), ?_⟩
    rw [List.length_map]
    refine ⟨_, rfl, _, rfl, v, d, ss.length, rfl, hd, _, rfl, ?_⟩
    cases h1 : isRow ss.length d with
    | false =>
      exact iteT (iteT (k _ _ _ (.form (form_no h1)) (.str _) (Same.refl H)))
    | true =>
      obtain ⟨rows, rfl, lr⟩ := row_of h1
      obtain ⟨c, zs, ds, rfl, e0, hc, hs⟩ := hd.tuple rfl
      cases e0
      refine iteF ⟨_, rfl, c, rfl, ⟨_, SqT.of hc⟩, fun D nD => ?_⟩
      refine lc_tup (K := K) (a := c) (xs := zs) (fun i H' => Same H H' ∧ H' D = some (.lst (((rows.take i).map (isRow ss.length)).map V.bl))) ⟨Same.new (Same.refl H) nD, upd_same⟩ (fun i H' _ z => SqT.of (z.1 _ _ hc)) ?_ ?_
      · rintro i x H2 hx ⟨sm, hD⟩
        obtain ⟨dx, hdx, dgx⟩ := hs.get hx
        refine ⟨rfl, _, rfl, _, rfl, x, dx, ss.length, rfl, ((dgx.any).k (Ks.same sm)).dv, ?_⟩
        have lt := (List.getElem?_eq_some_iff.mp hdx).1
        refine ⟨_, hD, small1000 (by rw [List.length_map, List.length_map, List.length_take]; omega), Same.put sm nD, ?_⟩
        rw [upd_same, take_get hdx, List.map_append, List.map_append]
        rfl
      rintro H2 ⟨sm, hD⟩
      have full : rows.take zs.length = rows := by rw [hs.length, List.take_length]
      rw [full] at hD
      refine ⟨D, _, rfl, SqL.of hD, _, rfl, ?_⟩
      cases h2 : (rows.map (isRow ss.length)).all id with
      | false =>
        refine iteT (k _ _ _ (.form ?_) (.str _) sm)
        rw [List.all_map] at h2
        have h3 : rows.all (isRow ss.length) = false := h2
        simp only [isForm, h3, Bool.and_false]
      | true =>
        refine iteF ?_
        have hf : isForm ss.length (.tuple rows) = true := by
          rw [List.all_map] at h2
          simp only [isForm, lr, decide_true, Bool.true_and]
          exact h2
        obtain ⟨_, z1, _, rok⟩ := form_of hf
        cases z1
        exact ⟨_, rfl, _, rfl, _, _, ss, ws, rows, rfl, Same.k sm im, ok, .inl (.tup (sm _ _ hc) ((hs.k (Ks.same sm)))), hf, fun u e H' t iu s' => k u e H' t iu (sm.trans s')⟩
def rbl (n : Nat) (ds : List PyData) : List Int := (ds.filter fun d => !isRow n d).map fun _ => 1
theorem rbl_next {n : Nat} {ds : List PyData} {i : Nat} {d : PyData} (h : ds[i]? = some d) : rbl n (ds.take (i + 1)) = rbl n (ds.take i) ++ (if isRow n d = true then [] else [1]) := by
  unfold rbl
  rw [take_filter _ h, List.map_append]
  cases isRow n d <;> rfl
theorem rbl_len (n : Nat) (ds : List PyData) : (rbl n ds).length ≤ ds.length := by
  unfold rbl
  rw [List.length_map]
  exact List.length_filter_le _ _
theorem rbl_nil (n : Nat) : ∀ ds : List PyData, (rbl n ds).isEmpty = ds.all (isRow n)
  | [] => rfl
  | d :: ds => by
    have ih := rbl_nil n ds
    unfold rbl at ih ⊢
    rw [List.filter_cons, List.all_cons]
    cases h : isRow n d with
    | true => simpa using ih
    | false => rfl
theorem ent_no (ss : List Int) (i j : Nat) {d : PyData} (h : isI d = false) : entB ss i j d = false := by
  unfold entB
  rw [isBl_no _ h]
  rfl
theorem k_terr {f : Addr} {fd : FuncData} (F : Fun K "table_error" "table_error" s_table_error f fd) : KBinds K fd ["machine", "value"] ["value", "machine"] kg21c kg21c := by
  obtain ⟨oc, od, kV, doc, pm, an, cdv, ct, osl, rfl, lk, hcd⟩ := F.ex
  refine ⟨fun s us ws _ hl => ?_, kg21c_rel⟩
  match us, ws, hl with
  | [], [a, b], _ => exact .of_eq rfl
abbrev sc_l_dueN : List Str := ["sizes", "value", "row", "i", "j", "item"]
theorem sc_l_due : FnScope sc_l_dueN ["sizes", "value"] (defScope s_l_due) := ⟨rfl, rfl, rfl, by decide +kernel, rfl, by decide +kernel, by decide +kernel⟩
def spDue : Sp := fun vs H Q _ => ∃ (m v : V) (ss : List Int) (d : PyData), vs = [m, v] ∧ Im H m (sD ss) ∧ (∀ s ∈ ss, SizeOk s) ∧ ss.length ≤ 6 ∧ Dv An H v d ∧ (∀ rows, d = .tuple rows → rows.length ≤ 100) ∧ ∀ (u : V) (e : PyData) (H' : Hp), Terr ss d e → Im H' u e → Same H H' → Q u H'
theorem ok_due {f : Addr} {fd : FuncData} (D : DefAt K mg "_law_due" s_l_due ["sizes", "value"] f fd) (T : Blt mg) (c_l_step : Cal P w K mg base 2 "_law_step" spLStep) : Cal P w K mg base 3 "_law_due" spDue := by
  refine cal_of D sc_l_due (fun vs H Q E h => ?_) (fun cdv A outer s H vs Q E hr h => ?_)
  · obtain ⟨m, v, ss, d, rfl, _⟩ := h
    rfl
  · obtain ⟨m, v, ss, d, rfl, im, ok, l6, hd, l100, k⟩ := h
    refine ⟨_, (pss_cons (ps_if (PW.pt (pw_or (pt_not (pt_val (pe_callB (call_isiK' K rfl) (by rfl) T.isinstance (by decide +kernel) (pa_cons (pv 1) (pa_cons (pe_bltn (v := .ty "tuple") (u := .type "tuple") (by rfl) T.tuple (by decide +kernel) rfl) pa_nil))))) (pw_or1 (pt_cmpR op_ne (pe_callB (call_lenK K rfl) (by rfl) T.len PySem.boot_len (pa_cons (pv 1) pa_nil)) (pe_callB (call_lenK K rfl) (by rfl) T.len PySem.boot_len (pa_cons (pv 0) pa_nil)) (nomark _))))) (pss_one (ps_ret pe_str)) pss_nil)
      (pss_cons (ps_if (pt_cmpR (op_neDK K rfl hr.units) (pe_lc (own := [("row", 2)]) rfl sc_l_due.nd (pi_tupK K rfl (pv 1)) (blkOk_by (N := sc_l_dueN) (sc := defScope s_l_due) (by decide +kernel)) (fun _ _ _ _ _ => (pg_name (i := 2) sc_l_due.nd rfl (by first | exact .inl rfl | exact .inr rfl))) (fun _ _ _ _ _ => (pts_one (PW.pt (pw_or (pt_not (pt_val (pe_callB (call_isiK' K rfl) (by rfl) T.isinstance (by decide +kernel) (pa_cons (pv 2) (pa_cons (pe_bltn (v := .ty "tuple") (u := .type "tuple") (by rfl) T.tuple (by decide +kernel) rfl) pa_nil))))) (pw_or1 (pt_cmpR op_ne (pe_callB (call_lenK K rfl) (by rfl) T.len PySem.boot_len (pa_cons (pv 2) pa_nil)) (pe_callB (call_lenK K rfl) (by rfl) T.len PySem.boot_len (pa_cons (pv 0) pa_nil)) (nomark _))))))) (fun _ _ _ _ _ => pe_int)) (pe_lst pa_nil) (nomark _)) (pss_one (ps_ret pe_str)) pss_nil)
      (pss_cons (ps_for PassesOwn.never rfl (pi_enumTK K rfl (by rfl) T.enumerate (pa_cons (pv 1) pa_nil)) (pg_tup rfl (pgs_cons (pg_name (i := 3) sc_l_due.nd rfl (.inl rfl)) (pgs_cons (pg_name (i := 2) sc_l_due.nd rfl (.inl rfl)) pgs_nil))) (pss_one (ps_for PassesOwn.never rfl (pi_enumTK K rfl (by rfl) T.enumerate (pa_cons (pv 2) pa_nil)) (pg_tup rfl (pgs_cons (pg_name (i := 4) sc_l_due.nd rfl (.inl rfl)) (pgs_cons (pg_name (i := 5) sc_l_due.nd rfl (.inl rfl)) pgs_nil))) (pss_cons (ps_if (PW.pt (pw_or (pt_not (pt_val (pe_callB (call_isiK' K rfl) (by rfl) T.isinstance (by decide +kernel) (pa_cons (pv 5) (pa_cons (pe_bltn (v := .ty "int") (u := .type "int") (by rfl) T.int (by decide +kernel) rfl) pa_nil))))) (pw_or (pt_val (pe_callB (call_isiK' K rfl) (by rfl) T.isinstance (by decide +kernel) (pa_cons (pv 5) (pa_cons (pe_bltn (v := .ty "bool") (u := .type "bool") (by rfl) T.bool (by decide +kernel) rfl) pa_nil)))) (pw_or1 (pt_not (pt_chain op_le op_lt pe_int (pv 5) (pe_ix (ix_tupK K rfl) (pv 0) (pv 3) (fun _ _ => rfl)))))))) (pss_one (ps_ret (pe_tup (pa_cons pe_str (pa_cons (pv 3) (pa_cons (pv 4) pa_nil)))))) pss_nil)
      (pss_one (ps_if (PW.pt (pw_and (pt_cmpR op_ne (pv 3) (pv 4) (nomark _)) (pw_and1 (pt_cmpR op_ne (pe_op op_mod (pv 5) (pe_c c_l_step hr (by decide) rfl (pa_cons (pv 0) (pa_cons (pv 4) (pa_cons (pv 3) pa_nil))))) pe_int (nomark _))))) (pss_one (ps_ret (pe_tup (pa_cons pe_str (pa_cons (pv 3) (pa_cons (pv 4) pa_nil)))))) pss_nil))))))
      (pss_one (ps_ret pe_non))))), ?_⟩
    obtain ⟨b, ys, rfl, hb, ib⟩ := id im.tuple
    have ey := ib.ints
    subst ey
    refine ⟨_, rfl, _, _, _, _, _, rfl, tyT, hd.ty, kit_tup K d, _, rfl, ?_⟩
    cases h0 : isT d with
    | false =>
      have e : isRow ss.length d = false := by cases d <;> first | rfl | cases h0
      exact iteT (iteT (k _ _ _ (.form (form_no e)) (.str _) (Same.refl H)))
    | true =>
    obtain ⟨c, zs, rows, rfl, rfl, hc, hs⟩ := hd.tuple h0
    have lz : zs.length = rows.length := hs.length
    refine iteF ⟨_, rfl, c, _, rfl, .inr (SqT.of hc), _, rfl, b, _, rfl, .inr (SqT.of hb), rfl, _, rfl, ?_⟩
    rw [hs.length, List.length_map, dec_int, row_dec]
    cases h1 : isRow ss.length (.tuple rows) with
    | false => exact iteT (k _ _ _ (.form (form_no h1)) (.str _) (Same.refl H))
    | true =>
    have lr : rows.length = ss.length := of_decide_eq_true h1
    refine iteF ?_
    refine ⟨_, rfl, c, rfl, ⟨_, SqT.of hc⟩, fun l nl => ?_⟩
    refine lc_tup (K := K) (a := c) (xs := zs) (fun j H' => Same H H' ∧ H' l = some (.lst ((rbl ss.length (rows.take j)).map V.int))) ⟨Same.new (Same.refl H) nl, upd_same⟩ (fun j H' _ z => SqT.of (z.1 _ _ hc)) ?_ ?_
    · rintro j z H1 hz ⟨sm, hl⟩
      obtain ⟨dz, g1, dg0⟩ := (hs.k (Ks.same sm)).get hz
      have dg := dg0
      have nx := rbl_next (n := ss.length) g1
      have ll := rbl_len ss.length (rows.take j)
      have l2 : (rows.take j).length ≤ 6 := by
        rw [List.length_take]
        omega
      have bad : isRow ss.length dz = false → ∃ acc : List V, H1 l = some (.lst acc) ∧ acc.length < sizeLine ∧ (Same H (upd H1 l (.lst (acc ++ [V.int 1]))) ∧ (upd H1 l (.lst (acc ++ [V.int 1]))) l = some (.lst ((rbl ss.length (rows.take (j + 1))).map V.int))) := fun hb =>
        ⟨_, hl, small1000 (by rw [List.length_map]; omega), Same.put sm nl, by rw [upd_same, nx, hb, if_neg (by decide), List.map_append]; rfl⟩
      refine ⟨rfl, ⟨_, rfl, _, _, _, _, _, rfl, tyT, dg.dv.ty, kit_tup K dz, _, rfl, ?_⟩⟩
      cases i1 : isT dz with
      | false =>
        have e : isRow ss.length dz = false := by cases dz <;> first | rfl | cases i1
        exact iteT (iteT (bad e))
      | true =>
      obtain ⟨q, us, es, rfl, rfl, hq, hes⟩ := dg.dv.tuple i1
      refine iteF ⟨_, rfl, q, _, rfl, .inr (SqT.of hq), _, rfl, b, _, rfl, .inr (SqT.of (sm _ _ hb)), rfl, _, rfl, ?_⟩
      rw [hes.length, List.length_map, dec_int, row_dec]
      cases i2 : isRow ss.length (.tuple es) with
      | false => exact iteT (bad i2)
      | true =>
        refine iteF ⟨sm, ?_⟩
        rw [nx, if_pos i2, List.append_nil]
        exact hl
    rintro H1 ⟨sm, hl⟩
    have full : rows.take zs.length = rows := by rw [lz, List.take_length]
    rw [full] at hl
    refine ⟨by show 0 ≤ sizeLine; decide, fun c0 nc0 => ?_⟩
    have sm2 : Same H (upd H1 c0 (.lst [])) := Same.new sm nc0
    have hl2 : (upd H1 c0 (.lst [])) l = some (.lst ((rbl ss.length rows).map V.int)) := by
      rw [upd_ne (ne_of_none hl nc0)]
      exact hl
    refine ⟨.list ((rbl ss.length rows).map PyData.int), .list [], .lst (SqL.of hl2) (DpAll.ints K _ _), .lst (SqL.of upd_same) .nil, shaped_ints _, rfl, _, rfl, ?_⟩
    generalize upd H1 c0 (.lst []) = H2 at *
    rw [eqv_nil, rbl_nil]
    cases h2 : rows.all (isRow ss.length) with
    | false => exact iteT (k _ _ _ (.form (by simp only [isForm, h2, Bool.and_false])) (.str _) sm2)
    | true =>
    refine iteF ?_
    have hf : isForm ss.length (.tuple rows) = true := by simp only [isForm, lr, decide_true, Bool.true_and, h2]
    obtain ⟨_, z1, _, rok⟩ := form_of hf
    cases z1
    refine ⟨_, rfl, c, zs, rfl, SqT.of (sm2 _ _ hc), for_it walk_enumT (fun t σ H' => ∃ v2 v3 v4 v5 : Option V, σ = [some (.ref b), some (.ref c), v2, v3, v4, v5] ∧ Same H H' ∧ ∀ i' j', i' < t → j' < ss.length → entB ss i' j' (atD rows i' j') = true)
      ⟨none, none, none, none, rfl, sm2, fun _ _ z => absurd z (Nat.not_lt_zero _)⟩ (fun t σ H' _ ⟨_, _, _, _, _, z, _⟩ => SqT.of (z _ _ hc)) ?_ ?_⟩
    · rintro t x σ H3 H4 ht ⟨v2, v3, v4, v5, rfl, s3, al⟩ ⟨T1, x1, x2, rfl, nT, rfl, e1, e2⟩
      cases e1
      obtain ⟨dr, hdr, dgr⟩ := hs.get e2
      obtain ⟨lw, rfl, ll⟩ := row_of (rok dr (List.mem_of_getElem? hdr))
      obtain ⟨ar, vs, rfl, har, hvs⟩ := dgr.tuple
      have ti : t < ss.length := by omega
      have s4 : Same H (upd H3 T1 (.tup [.int (t : Nat), .ref ar])) := Same.new s3 nT
      refine ⟨T1, _, rfl, SqT.of upd_same, rfl, _, _, rfl, _, _, rfl, rfl, ?_⟩
      generalize upd H3 T1 (.tup [.int (t : Nat), .ref ar]) = H4 at *
      have lv : vs.length = ss.length := by rw [hvs.length, ll]
      refine ⟨_, rfl, ar, vs, rfl, SqT.of (s4 _ _ har), for_it walk_enumT (fun u σ H' => ∃ v4 v5 : Option V, σ = [some (.ref b), some (.ref c), some (.ref ar), some (.int (t : Nat)), v4, v5] ∧ Same H H' ∧ ∀ j', j' < u → entB ss t j' (atD rows t j') = true)
        ⟨v4, v5, rfl, s4, fun _ z => absurd z (Nat.not_lt_zero _)⟩ (fun t σ H' _ ⟨_, _, _, z, _⟩ => SqT.of (z _ _ har)) ?_ ?_⟩
      · rintro u y σ H5 H6 hu' ⟨v4, v5, rfl, s5, al2⟩ ⟨T2, y1, y2, rfl, nT2, rfl, f1, f2⟩
        cases f1
        obtain ⟨de, hde, dge0⟩ := hvs.get f2
        have uj : u < ss.length := by omega
        have s6 : Same H (upd H5 T2 (.tup [.int (u : Nat), y2])) := Same.new s5 nT2
        refine ⟨T2, _, rfl, SqT.of upd_same, rfl, _, _, rfl, _, _, rfl, rfl, ?_⟩
        generalize upd H5 T2 (.tup [.int (u : Nat), y2]) = H6 at *
        have ea : atD rows t u = de := at_get hdr hde
        have dg := dge0.k (Ks.same s6)
        have ret : entB ss t u de = false → ∀ (t9 : Addr) (nt9 : H6 t9 = none), Q (.ref t9) (upd H6 t9 (.tup [.str "entry", .int (t : Nat), .int (u : Nat)])) := fun h3 t9 nt9 => by
          refine k _ (eE t u) _ (.entry hf ti uj (fun i' j' hi' hj' hlt => ?_) (by rw [ea]; exact h3)) (.tup upd_same (.cons (.str _) (.cons (.int _) (.cons (.int _) .nil)))) (Same.new s6 nt9)
          rcases hlt with hlt | ⟨rfl, hlt⟩
          · exact al i' j' hlt hj'
          · exact al2 j' hlt
        have nxt : entB ss t u de = true → ∀ j', j' < u + 1 → entB ss t j' (atD rows t j') = true := fun h3 j' hj' => by
          by_cases z : j' < u
          · exact al2 j' z
          · have : j' = u := by omega
            subst this
            rw [ea]
            exact h3
        obtain ⟨yi, eyi, y2', y3, yn⟩ := sz_nat ok ti
        obtain ⟨xj, exj, x2', x3, xn⟩ := sz_nat ok uj
        have hiV : (ss.map V.int)[t]? = some (V.int (yi : Int)) := by rw [List.getElem?_map, eyi]; rfl
        have ie := isI_eq de
        refine ⟨_, rfl, _, _, _, _, _, rfl, tyI, dg.dv.ty, kit_int K de, _, rfl, ?_⟩
        cases i1 : isIB de with
        | false =>
          rw [i1] at ie
          exact iteT (iteT ⟨_, rfl, _, rfl, by show 3 ≤ sizeLine; decide, fun t9 nt9 => ret (ent_no ss t u ie.symm) t9 nt9⟩)
        | true =>
        rw [i1] at ie
        refine iteF ⟨_, rfl, _, _, _, _, _, rfl, tyB, dg.dv.ty, kit_bool K de, _, rfl, ?_⟩
        cases i2 : isB de with
        | true =>
          rw [i2] at ie
          exact iteT (iteT ⟨_, rfl, _, rfl, by show 3 ≤ sizeLine; decide, fun t9 nt9 => ret (ent_no ss t u ie.symm) t9 nt9⟩)
        | false =>
        rw [i2] at ie
        obtain ⟨i, rfl, rfl⟩ := dg.dv.int ie.symm
        refine iteF ⟨_, rfl, _, _, rfl, rfl, _, rfl, ?_⟩
        have hE : entB ss t u (.int i) = (decide (0 ≤ i) && decide (i < (yi : Int)) && (decide (t = u) || decide (i % ((stp xj yi : Nat) : Int) = 0))) := by
          unfold entB
          rw [yn, xn]
          rfl
        have RET : (decide (0 ≤ i) && decide (i < (yi : Int)) && (decide (t = u) || decide (i % ((stp xj yi : Nat) : Int) = 0))) = false → ∀ (t9 : Addr) (nt9 : H6 t9 = none), Q (.ref t9) (upd H6 t9 (.tup [.str "entry", .int (t : Nat), .int (u : Nat)])) := fun h => ret (hE.trans h)
        have NXT : (decide (0 ≤ i) && decide (i < (yi : Int)) && (decide (t = u) || decide (i % ((stp xj yi : Nat) : Int) = 0))) = true → ∀ j', j' < u + 1 → entB ss t j' (atD rows t j') = true := fun h => nxt (hE.trans h)
        clear ret nxt
        by_cases p0 : 0 ≤ i
        · refine iteSK p0 ⟨_, rfl, _, rfl, b, _, t, _, rfl, rfl, SqT.of (s6 _ _ hb), atI_nat hiV, _, _, rfl, rfl, _, rfl, ?_⟩
          by_cases p1 : i < (yi : Int)
          · refine iteNS p1 ?_
            rw [decide_eq_true p0, decide_eq_true p1] at RET NXT
            rw [Bool.true_and, Bool.true_and] at RET NXT
            refine ⟨_, rfl, _, rfl, rfl, _, rfl, ?_⟩
            by_cases p2 : t = u
            · subst p2
              rw [decide_eq_true rfl, Bool.true_or] at NXT
              refine iteNS rfl (iteF ⟨_, _, rfl, s6, NXT rfl⟩)
            · rw [decide_eq_false p2, Bool.false_or] at RET NXT
              refine iteNF (fun z => p2 (by have := V.int.inj z; omega)) ?_
              refine ⟨_, rfl, _, rfl, _, rfl, _, rfl, _, ss, u, t, xj, yi, rfl, Same.k s6 im, exj, eyi, by omega, Nat.lt_of_le_of_lt y3 (by decide), _, _, rfl, rfl, ?_, rfl, _, rfl, ?_⟩
              · have := stp_pos (a := xj) (b := yi) (by omega)
                show (0 : Int) < ((stp xj yi : Nat) : Int)
                omega
              · by_cases p3 : i % ((stp xj yi : Nat) : Int) = 0
                · refine iteNS (congrArg V.int p3) ⟨_, _, rfl, s6, NXT (decide_eq_true p3)⟩
                · refine iteNF (fun z => p3 (V.int.inj z)) ⟨_, rfl, _, rfl, by show 3 ≤ sizeLine; decide, fun t9 nt9 => RET (decide_eq_false p3) t9 nt9⟩
          · refine iteNF p1 ?_
            rw [decide_eq_false p1, Bool.and_false, Bool.false_and] at RET
            exact ⟨_, rfl, _, rfl, by show 3 ≤ sizeLine; decide, fun t9 nt9 => RET rfl t9 nt9⟩
        · rw [decide_eq_false p0] at RET
          rw [decide_eq_false p0]
          rw [Bool.false_and, Bool.false_and] at RET
          refine iteF ⟨_, rfl, iteT ?_⟩
          exact ⟨_, rfl, _, rfl, by show 3 ≤ sizeLine; decide, fun t9 nt9 => RET rfl t9 nt9⟩
      · rintro σ H5 ⟨v4, v5, rfl, s5, al2⟩
        refine ⟨_, _, _, _, rfl, s5, fun i' j' hi' hj' => ?_⟩
        by_cases z : i' < t
        · exact al i' j' z hj'
        · have : i' = t := by omega
          subst this
          exact al2 j' (by omega)
    · rintro σ H3 ⟨v2, v3, v4, v5, rfl, s3, al⟩
      exact k _ _ _ (.none hf fun i' j' hi' hj' => al i' j' (by omega) hj') .non s3
theorem DgAll.new {N : Addr → Prop} {H : Hp} {xs : List V} {ds : List PyData} {c : Addr} {o : HO} (D : DgAll N H xs ds) (h : H c = none) : DgAll N (upd H c o) xs ds := D.k (Ks.same (Same.new (Same.refl H) h))

/-! ### _law_spoilt -/
theorem cut_all {xs : List V} {lo hi : Option Int} (h : HT.sIx xs.length 0 lo = 0 ∧ HT.sIx xs.length xs.length hi = xs.length) : cutV xs lo hi = xs := by
  unfold cutV
  rw [h.1, h.2, List.drop_zero, Nat.sub_zero, List.take_length]
theorem sl_any {K : PySem.W.Frag} {a : Addr} {xs : List V} {lo hi : Option Int} {H : Hp} {Q : VK} (h : H a = some (.tup xs)) (k : ∀ c H', Same H H' → H' c = some (.tup (cutV xs lo hi)) → Q (.ref c) H') : rSlA K (.ref a) lo hi H Q :=
  ⟨a, xs, rfl, SqT.of h, fun e => k a H (Same.refl H) (by rw [cut_all e]; exact h), fun _ p n => k p _ (Same.new (Same.refl H) n) upd_same⟩
theorem cat_any {K : PySem.W.Frag} {a b : Addr} {xs ys : List V} {H : Hp} {Q : VK} (h : H a = some (.tup xs)) (h2 : H b = some (.tup ys)) (l : xs.length + ys.length ≤ sizeLine) (k : ∀ c H', Same H H' → H' c = some (.tup (xs ++ ys)) → Q (.ref c) H') : rCatA K (.ref a) (.ref b) H Q :=
  ⟨a, b, xs, ys, rfl, rfl, SqT.of h, SqT.of h2, l, fun e => k b H (Same.refl H) (by rw [e, List.nil_append]; exact h2), fun _ e => k a H (Same.refl H) (by rw [e, List.append_nil]; exact h), fun _ _ p n => k p _ (Same.new (Same.refl H) n) upd_same⟩
theorem DgAll.cut {N : Addr → Prop} {H : Hp} {xs : List V} {ds : List PyData} (lo hi : Option Int) (h : DgAll N H xs ds) : ∃ es, DgAll N H (cutV xs lo hi) es ∧ es.length ≤ ds.length ∧ ∀ x ∈ es, x ∈ ds := by
  unfold cutV
  refine ⟨_, (h.drop _).take _, ?_, fun x hx => List.mem_of_mem_drop (List.mem_of_mem_take hx)⟩
  rw [List.length_take, List.length_drop]
  omega
theorem DgAll.s {N : Addr → Prop} {H H' : Hp} {xs : List V} {ds : List PyData} (h : DgAll N H xs ds) (e : Same H H') : DgAll N H' xs ds := h.k (Ks.same e)
theorem DgAll.fst {N : Addr → Prop} {H : Hp} {x y : V} {a b : PyData} (h : DgAll N H [x, y] [a, b]) : Dg N H x a := by cases h with | cons h _ => exact h
theorem DgAll.snd {N : Addr → Prop} {H : Hp} {x y : V} {a b : PyData} (h : DgAll N H [x, y] [a, b]) : Dg N H y b := by cases h with | cons _ h => cases h with | cons h _ => exact h
theorem Kp.sm {p q : Addr} {H H1 H' : Hp} (k : Kp p q H H1) (e : Same H1 H') : Kp p q H H' := fun b u n1 n2 z => e b u (k b u n1 n2 z)
theorem noPart {σ : L2.St} {H : Hp} {Q : Option Int → Hp → Prop} (h : Q none H) : tNoPart σ H Q := h
theorem tupG {l : List PyData} (h : ∀ x ∈ l, okI x = true) (n : l.length ≤ 100) : okG 1000203 4 (.tuple l) = true := okG_tup h (by omega) (by decide)
theorem lstG {l : List PyData} (h : ∀ x ∈ l, okI x = true) (n : l.length ≤ 100) : okG 1000203 4 (.list l) = true := okG_lst h (by omega) (by decide)
theorem mem2 {f : PyData → Bool} {a b : PyData} (h1 : f a = true) (h2 : f b = true) : ∀ x ∈ [a, b], f x = true := fun x hx => by
  rcases List.mem_cons.mp hx with e | hx
  · rw [e]; exact h1
  · rw [List.mem_singleton.mp hx]; exact h2
theorem mem3 {f : PyData → Bool} {a b c : PyData} (h1 : f a = true) (h2 : f b = true) (h3 : f c = true) : ∀ x ∈ [a, b, c], f x = true := fun x hx => by
  rcases List.mem_cons.mp hx with e | hx
  · rw [e]; exact h1
  · exact mem2 h2 h3 x hx
theorem mem1 {f : PyData → Bool} {a : PyData} (h1 : f a = true) : ∀ x ∈ [a], f x = true := fun x hx => by rw [List.mem_singleton.mp hx]; exact h1
theorem len1 (r : Int) (h : 0 ≤ r) : ∃ n : Nat, r = (n : Int) := ⟨r.toNat, by omega⟩

/-! ### k09: _law_with, _law_spoilt -/
def okA (d : PyData) : Bool := okG 30000 5 d
def Row9 (r : PyData) : Prop := okG 400000 6 r = true ∧ ∀ l, r = .tuple l → l.length ≤ 13 ∧ ∀ x ∈ l, okA x = true
def Tab9 (d : PyData) : Prop := d = .dict [] ∨ (okG 5300000 8 d = true ∧ ∀ rows, d = .tuple rows → rows.length ≤ 13 ∧ ∀ r ∈ rows, Row9 r)
def MenP (P : PyData → Prop) (N : Addr → Prop) (H : Hp) (xs : List V) : Prop := ∀ v ∈ xs, ∃ d, Dv N H v d ∧ P d
theorem MenP.nil {P : PyData → Prop} {N : Addr → Prop} {H : Hp} : MenP P N H [] := fun v h => by cases h
theorem MenP.cons {P : PyData → Prop} {N : Addr → Prop} {H : Hp} {v : V} {xs : List V} {d : PyData} (h : Dv N H v d) (s : P d) (m : MenP P N H xs) : MenP P N H (v :: xs) := fun u hu => by
  rcases List.mem_cons.mp hu with rfl | hu
  · exact ⟨d, h, s⟩
  · exact m u hu
theorem MenP.append {P : PyData → Prop} {N : Addr → Prop} {H : Hp} {xs ys : List V} (a : MenP P N H xs) (b : MenP P N H ys) : MenP P N H (xs ++ ys) := fun u hu => by
  rcases List.mem_append.mp hu with hu | hu
  · exact a u hu
  · exact b u hu
theorem MenP.k {P : PyData → Prop} {N : Addr → Prop} {H H' : Hp} {xs : List V} (m : MenP P N H xs) (e : Ks N H H') : MenP P N H' xs := fun v hv => by
  obtain ⟨d, a, b⟩ := m v hv
  exact ⟨d, a.k e, b⟩
theorem MenP.s {P : PyData → Prop} {N : Addr → Prop} {H H' : Hp} {xs : List V} (m : MenP P N H xs) (e : Same H H') : MenP P N H' xs := m.k (Ks.same e)
theorem DgAll.idx {N : Addr → Prop} {H : Hp} : ∀ {vs : List V} {ds : List PyData} {i : Nat} {d : PyData}, DgAll N H vs ds → ds[i]? = some d → ∃ v, vs[i]? = some v ∧ Dg N H v d
  | _, _, _, _, .nil, e => by simp at e
  | _, _, 0, _, .cons a _, e => by
    simp at e
    subst e
    exact ⟨_, rfl, a⟩
  | _, _, i + 1, d, .cons _ b, e => by
    obtain ⟨v, h1, h2⟩ := DgAll.idx (i := i) (d := d) b (by simpa using e)
    exact ⟨v, by simpa using h1, h2⟩
theorem row9 {l : List PyData} (n : l.length ≤ 13) (h : ∀ x ∈ l, okA x = true) : Row9 (.tuple l) := ⟨okG_tup h (by omega) (by decide), fun l' e => by cases e; exact ⟨n, h⟩⟩
theorem tab9 {l : List PyData} (n : l.length ≤ 13) (h : ∀ x ∈ l, Row9 x) : Tab9 (.tuple l) := .inr ⟨okG_tup (fun x hx => (h x hx).1) (by omega) (by decide), fun l' e => by cases e; exact ⟨n, h⟩⟩
theorem mem_mid {P : PyData → Prop} {a b : List PyData} {x : PyData} (h1 : ∀ y ∈ a, P y) (hx : P x) (h2 : ∀ y ∈ b, P y) : ∀ y ∈ a ++ [x] ++ b, P y := fun y hy => by
  rcases List.mem_append.mp hy with hy | hy
  · rcases List.mem_append.mp hy with hy | hy
    · exact h1 y hy
    · rw [List.mem_singleton.mp hy]
      exact hx
  · exact h2 y hy
def spWith : Sp := fun vs H Q _ => ∃ (N : Addr → Prop) (v it : V) (rows l : List PyData) (x : PyData) (i j : Nat), vs = [v, .int i, .int j, it] ∧ Dg N H v (.tuple rows) ∧ rows.length ≤ 6 ∧ rows[i]? = some (.tuple l) ∧ l.length ≤ 6 ∧ (∀ r ∈ rows, Row9 r) ∧ Dg N H it x ∧ okA x = true ∧
  ∀ (u : V) (d : PyData) (H' : Hp), Dg N H' u d → Tab9 d → Same H H' → Q u H'
abbrev sc_l_withN : List Str := ["table", "i", "j", "item", "row"]
theorem sc_l_with : FnScope sc_l_withN ["table", "i", "j", "item"] (defScope s_l_with) := ⟨rfl, rfl, rfl, by decide +kernel, rfl, by decide +kernel, by decide +kernel⟩
theorem ok_with {f : Addr} {fd : FuncData} (D : DefAt K mg "_law_with" s_l_with ["table", "i", "j", "item"] f fd) (T : Blt mg) : Cal P w K mg base 1 "_law_with" spWith := by
  refine cal_of D sc_l_with (fun vs H Q E h => ?_) (fun cdv A outer s H vs Q E hr h => ?_)
  · obtain ⟨N, v, it, rows, l, x, i, j, rfl, _⟩ := h
    rfl
  · obtain ⟨N, v, it, rows, l, x, i, j, rfl, hd, l6, hi, ll, ro, hx, ox, k⟩ := h
    refine ⟨_, (pss_cons (ps_set (i := 4) sc_l_with.nd rfl (.inl rfl) (pe_op op_catA (pe_op op_catA (pe_slice sl_tupA (pe_ix (ix_tupK K rfl) (pv 0) (pv 1) (fun _ _ => rfl)) po_none (po_some (pv 2))) (pe_tup (pa_cons (pv 3) pa_nil))) (pe_slice sl_tupA (pe_ix (ix_tupK K rfl) (pv 0) (pv 1) (fun _ _ => rfl)) (po_some (pe_op op_add (pv 2) pe_int)) po_none)))
      (pss_one (ps_ret (pe_op op_catA (pe_op op_catA (pe_slice sl_tupA (pv 0) po_none (po_some (pv 1))) (pe_tup (pa_cons (pv 4) pa_nil))) (pe_slice sl_tupA (pv 0) (po_some (pe_op op_add (pv 1) pe_int)) po_none))))), ?_⟩
    obtain ⟨a, zs, rfl, ha, hz⟩ := hd.tuple
    obtain ⟨y, hy, dy⟩ := hz.idx hi
    obtain ⟨b, ws, rfl, hb, hw⟩ := dy.tuple
    have lz := hz.length
    have lw := hw.length
    have oA : ∀ z ∈ l, okA z = true := ((ro _ (List.mem_of_getElem? hi)).2 l rfl).2
    refine ⟨_, rfl, _, rfl, a, _, i, _, rfl, rfl, SqT.of ha, atI_nat hy, _, rfl, _, rfl, sl_any hb fun c1 H1 s1 h1 => ?_⟩
    obtain ⟨e1, g1, le1, me1⟩ := hw.cut none (some (j : Int))
    have lc1 := g1.length
    refine ⟨_, rfl, by show 1 ≤ sizeLine; decide, fun c2 n2 => ?_⟩
    have s2 : Same H (upd H1 c2 (.tup [it])) := Same.new s1 n2
    refine cat_any (keepN h1 n2) upd_same (by rw [lc1]; exact Nat.le_trans (show e1.length + 1 ≤ 7 by omega) (by decide)) fun c3 H3 s3 h3 => ?_
    have g3 : DgAll N H3 _ (e1 ++ [x]) := ((g1.s (s1.trans (Same.new (o := .tup [it]) (Same.refl H1) n2))).append (.cons (hx.k (Ks.same s2)) .nil)).s s3
    have t3 := s2.trans s3
    have lc3 := g3.length
    refine ⟨_, rfl, _, rfl, a, _, i, _, rfl, rfl, SqT.of (t3 _ _ ha), atI_nat hy, _, rfl, _, _, rfl, rfl, _, rfl, noPart (sl_any (t3 _ _ hb) fun c4 H4 s4 h4 => ?_)⟩
    obtain ⟨e2, g2, le2, me2⟩ := (hw.s t3).cut (some ((j : Int) + 1)) none
    have lc2 := g2.length
    refine cat_any (s4 _ _ h3) h4 (by rw [lc2, lc3, List.length_append, List.length_singleton]; exact Nat.le_trans (show e1.length + 1 + e2.length ≤ 13 by omega) (by decide)) fun c5 H5 s5 h5 => ?_
    have t5 := (t3.trans s4).trans s5
    have g5 : DgAll N H5 _ (e1 ++ [x] ++ e2) := ((g3.s s4).append (g2.s s4)).s s5
    have r5 : Row9 (.tuple (e1 ++ [x] ++ e2)) := row9 (by rw [List.length_append, List.length_append, List.length_singleton]; omega) (mem_mid (P := fun z => okA z = true) (fun z hz => oA z (me1 z hz)) ox (fun z hz => oA z (me2 z hz)))
    refine ⟨_, rfl, _, rfl, _, rfl, sl_any (t5 _ _ ha) fun c6 H6 s6 h6 => ?_⟩
    obtain ⟨e6, g6, le6, me6⟩ := (hz.s t5).cut none (some (i : Int))
    have lc6 := g6.length
    refine ⟨_, rfl, by show 1 ≤ sizeLine; decide, fun c7 n7 => ?_⟩
    have s7 : Same H6 (upd H6 c7 (.tup [.ref c5])) := Same.new (Same.refl H6) n7
    refine cat_any (keepN h6 n7) upd_same (by rw [lc6]; exact Nat.le_trans (show e6.length + 1 ≤ 7 by omega) (by decide)) fun c8 H8 s8 h8 => ?_
    have g8 : DgAll N H8 _ (e6 ++ [.tuple (e1 ++ [x] ++ e2)]) := ((g6.s (s6.trans s7)).append (.cons (.tup (s7 _ _ (s6 _ _ h5)) (g5.s (s6.trans s7))) .nil)).s s8
    have t8 := ((t5.trans s6).trans s7).trans s8
    have lc8 := g8.length
    refine ⟨_, rfl, _, rfl, _, _, rfl, rfl, _, rfl, noPart (sl_any (t8 _ _ ha) fun c9 H9 s9 h9 => ?_)⟩
    obtain ⟨e9, g9, le9, me9⟩ := (hz.s t8).cut (some ((i : Int) + 1)) none
    have lc9 := g9.length
    refine cat_any (s9 _ _ h8) h9 (by rw [lc8, lc9, List.length_append, List.length_singleton]; exact Nat.le_trans (show e6.length + 1 + e9.length ≤ 13 by omega) (by decide)) fun cA HA sA hA => ?_
    refine k _ (.tuple (e6 ++ [.tuple (e1 ++ [x] ++ e2)] ++ e9)) _ (.tup hA (((g8.s s9).append (g9.s s9)).s sA)) (tab9 (by rw [List.length_append, List.length_append, List.length_singleton]; omega) (mem_mid (fun z hz => ro z (me6 z hz)) r5 (fun z hz => ro z (me9 z hz)))) ((t8.trans s9).trans sA)
theorem okG_intK {n : Int} (h : n.natAbs ≤ 10 ^ 61) : okG 2000 0 (.int n) = true := okG_iff.mpr ⟨by simp only [okD]; exact decide_eq_true (small_log (Nat.lt_of_le_of_lt h (by decide))), by simp only [cost]; decide, by simp only [PyData.depth]; decide⟩
theorem okA_of {d : PyData} (h : okG 2000 0 d = true) : okA d = true := okG_mono h (by decide) (by decide)
theorem okA_int {n : Int} (h : n.natAbs ≤ 10 ^ 61) : okA (.int n) = true := okA_of (okG_intK h)
theorem menP_lit {P : PyData → Prop} {N : Addr → Prop} {H : Hp} {c c' : Addr} {zs : List V} (_ : (upd H c (.lst zs)) c' = none) (D : MenP P N (upd H c (.lst zs)) zs) : MenP P N (upd H c (.lst zs)) zs := D
theorem MenP.new {P : PyData → Prop} {N : Addr → Prop} {H : Hp} {xs : List V} {c : Addr} {o : HO} (m : MenP P N H xs) (h : H c = none) : MenP P N (upd H c o) xs := m.s (Same.new (Same.refl H) h)
theorem Dv.dg {N : Addr → Prop} {H : Hp} {v : V} {d : PyData} (h : Dv N H v d) (o : okD d = true) : Dg N H v d := by
  rcases h with h | ⟨a, rfl, h2, rfl⟩
  · exact h
  · simp [okD] at o
theorem shareV {c : Bool} {ta tb : TE} {σ : L2.St} {H : Hp} {Q : VK} {N : V → Hp → Prop} (h1 : (∀ u H', N u H' → Q u H') → ta σ H Q) (h2 : (∀ u H', N u H' → Q u H') → tb σ H Q) (rest : ∀ u H', N u H' → Q u H') : if c = true then ta σ H Q else tb σ H Q := by
  cases c with
  | true => exact iteT (h1 rest)
  | false => exact iteF (h2 rest)
theorem rep_mem {α : Type} {x y : α} {n : Nat} (h : y ∈ (List.replicate n [x]).flatten) : y = x := by
  obtain ⟨l, hl, hy⟩ := List.mem_flatten.mp h
  rw [List.eq_of_mem_replicate hl] at hy
  exact List.mem_singleton.mp hy
theorem rep_len1 {α : Type} (x : α) : ∀ n : Nat, ((List.replicate n [x]).flatten).length = n
  | 0 => rfl
  | n + 1 => by rw [List.replicate_succ, List.flatten_cons, List.length_append, rep_len1 x n, List.length_singleton]; omega
theorem DgAll.rep1 {N : Addr → Prop} {H : Hp} {v : V} {d : PyData} (h : Dg N H v d) : ∀ n : Nat, DgAll N H (List.replicate n [v]).flatten (List.replicate n [d]).flatten
  | 0 => .nil
  | n + 1 => by
    rw [List.replicate_succ, List.replicate_succ, List.flatten_cons, List.flatten_cons]
    exact .cons h (DgAll.rep1 h n)
theorem fin_pick {P : PyData → Prop} {p q o : Addr} {H0 H9 : Hp} {v : V} {xs ys : List V} (M : MenP P (Np p q) H0 ys) (P0 : Pt H0 p q) (n : H0 o = none) (k9 : Kp p q (upd H0 o (.lst xs)) H9) (hv : v ∈ ys) : ∃ d, Dv (Np p q) H9 v d ∧ P d :=
  ((M.new n).k (Ks.kp k9 (P0.new n))) v hv
theorem DgAll.rev {N : Addr → Prop} {H : Hp} : ∀ {vs : List V} {ds : List PyData}, DgAll N H vs ds → DgAll N H vs.reverse ds.reverse
  | _, _, .nil => .nil
  | _, _, .cons a b => by
    rw [List.reverse_cons, List.reverse_cons]
    exact (DgAll.rev b).append (.cons a .nil)
theorem ks_put {N : Addr → Prop} {D : Addr} {H : Hp} {xs : List V} {o : HO} (h : H D = some (.lst xs)) : Ks (fun x => N x ∧ x ≠ D) H (upd H D o) := ⟨(Tk.refl H).put h, fun b ys n z => by rw [upd_ne n.2]; exact z, fun b ys z => by rw [upd_ne (ne_of z h (by intro q; cases q))]; exact z⟩
theorem ints_dg {N M : Addr → Prop} {H : Hp} : ∀ {vs : List V} {ds : List PyData}, (∀ x ∈ ds, okG 2000 0 x = true) → DgAll N H vs ds → DgAll M H vs ds
  | _, _, _, .nil => .nil
  | _, _, o, .cons a b => .cons (by
      have o1 := (okG_iff.mp (o _ List.mem_cons_self)).2.2
      cases a with
      | non => exact .non
      | bl x => exact .bl x
      | int x => exact .int x
      | str x => exact .str x
      | lst _ _ _ => simp [PyData.depth] at o1
      | tup _ _ => simp [PyData.depth] at o1) (ints_dg (fun x hx => o x (List.mem_cons_of_mem _ hx)) b)
def spSpoil : Sp := fun vs H Q _ => ∃ (p q : Addr) (m v : V) (ss : List Int) (rows : List PyData), vs = [.ref p, m, v] ∧ Pt H p q ∧ Im H m (sD ss) ∧ (∀ s ∈ ss, SizeOk s) ∧ 0 < ss.length ∧ ss.length ≤ 6 ∧ Dg (Np p q) H v (.tuple rows) ∧ rows.length = ss.length ∧
  (∀ r ∈ rows, ∃ l, r = .tuple l ∧ l.length = ss.length ∧ ∀ x ∈ l, okG 2000 0 x = true) ∧ ∀ (u : V) (d : PyData) (H' : Hp), Dv (Np p q) H' u d → Tab9 d → Pt H' p q → Kp p q H H' → Q u H'
abbrev sc_l_spoiltN : List Str := ["pot", "sizes", "table", "many", "kind", "i", "j", "ask", "odd", "row"]
theorem sc_l_spoilt : FnScope sc_l_spoiltN ["pot", "sizes", "table"] (defScope s_l_spoilt) := ⟨rfl, rfl, rfl, by decide +kernel, rfl, by decide +kernel, by decide +kernel⟩
theorem ok_spoil {f : Addr} {fd : FuncData} (D : DefAt K mg "_law_spoilt" s_l_spoilt ["pot", "sizes", "table"] f fd) (T : Blt mg) (c_l_dip : Cal P w K mg base 1 "_law_dip" spDip) (c_l_pick : Cal P w K mg base 2 "_law_pick" spPick) (c_l_step : Cal P w K mg base 2 "_law_step" spLStep) (c_l_with : Cal P w K mg base 1 "_law_with" spWith) : Cal P w K mg base 3 "_law_spoilt" spSpoil := by
  refine cal_of D sc_l_spoilt (fun vs H Q E h => ?_) (fun cdv A outer s H vs Q E hr h => ?_)
  · obtain ⟨p, q, m, v, ss, rows, rfl, _⟩ := h
    rfl
  · obtain ⟨p, q, m, v, ss, rows, rfl, hP, im, ok, l1, l6, hd, lr, ro, k⟩ := h
    refine ⟨_, (pss_cons (ps_par (i := 3) (j := 4) rfl sc_l_spoilt.nd rfl rfl (by decide) rfl rfl (pa_cons (pe_callB (call_lenK K rfl) (by rfl) T.len PySem.boot_len (pa_cons (pv 1) pa_nil)) (pa_cons (pe_c c_l_dip hr (by decide) rfl (pa_cons (pv 0) (pa_cons pe_int pa_nil))) pa_nil)) (by rfl))
      (pss_cons (ps_par (i := 5) (j := 6) rfl sc_l_spoilt.nd rfl rfl (by decide) rfl rfl (pa_cons (pe_c c_l_dip hr (by decide) rfl (pa_cons (pv 0) (pa_cons (pv 3) pa_nil))) (pa_cons (pe_c c_l_dip hr (by decide) rfl (pa_cons (pv 0) (pa_cons (pv 3) pa_nil))) pa_nil)) (by rfl))
      (pss_cons (ps_set (i := 7) sc_l_spoilt.nd rfl (.inl rfl) (pe_ifExp (pt_cmpR op_eq (pv 5) (pv 6) (nomark _)) pe_int (pe_c c_l_step hr (by decide) rfl (pa_cons (pv 1) (pa_cons (pv 6) (pa_cons (pv 5) pa_nil))))))
      (pss_cons (ps_if (pt_cmpR op_lt (pv 4) pe_int (nomark _)) (pss_cons (ps_set (i := 8) sc_l_spoilt.nd rfl (.inl rfl) (pe_lst (pa_cons (pe_ix (ix_tupK K rfl) (pv 1) (pv 5) (fun _ _ => rfl)) (pa_cons (pe_un un_neg pe_int) (pa_cons (pv 7) (pa_cons (pe_op op_add (pv 7) pe_int) (pa_cons (pe_callB (call_max2 rfl) (by rfl) T.max boot_max (pa_cons (pe_op op_sub (pv 7) pe_int) (pa_cons pe_int pa_nil))) (pa_cons (pe_op op_sub (pe_ix (ix_tupK K rfl) (pv 1) (pv 5) (fun _ _ => rfl)) (pv 7)) (pa_cons (pe_op op_sub (pe_ix (ix_tupK K rfl) (pv 1) (pv 5) (fun _ _ => rfl)) pe_int) (pa_cons pe_bl (pa_cons pe_bl (pa_cons pe_str (pa_cons pe_non pa_nil)))))))))))))
      (pss_one (ps_ret (pe_c c_l_with hr (by decide) rfl (pa_cons (pv 2) (pa_cons (pv 5) (pa_cons (pv 6) (pa_cons (pe_c c_l_pick hr (by decide) rfl (pa_cons (pv 0) (pa_cons (pe_op op_cat (pv 8) (pe_lst (pa_cons (pe_tup (pa_cons pe_int pa_nil)) (pa_cons (pe_lst (pa_cons pe_int pa_nil)) (pa_cons (pe_op op_pow pe_int pe_int) (pa_cons (pe_un un_neg (pv 7)) (pa_cons pe_int (pa_cons pe_int pa_nil)))))))) pa_nil))) pa_nil)))))))) pss_nil)
      (pss_cons (ps_if (pt_cmpR op_eq (pv 4) pe_int (nomark _)) (pss_cons (ps_set (i := 9) sc_l_spoilt.nd rfl (.inl rfl) (pe_c c_l_pick hr (by decide) rfl (pa_cons (pv 0) (pa_cons (pe_lst (pa_cons (pe_slice sl_tupA (pe_ix (ix_tupK K rfl) (pv 2) (pv 5) (fun _ _ => rfl)) po_none (po_some (pe_un un_neg pe_int))) (pa_cons (pe_op op_catA (pe_ix (ix_tupK K rfl) (pv 2) (pv 5) (fun _ _ => rfl)) (pe_tup (pa_cons pe_int pa_nil))) (pa_cons (pe_callTy (call_listK K rfl) (by rfl) T.list (by decide +kernel) (pa_cons (pe_ix (ix_tupK K rfl) (pv 2) (pv 5) (fun _ _ => rfl)) pa_nil)) (pa_cons pe_non (pa_cons pe_int (pa_cons (pe_tup pa_nil) pa_nil))))))) pa_nil))))
      (pss_one (ps_ret (pe_op op_catA (pe_op op_catA (pe_slice sl_tupA (pv 2) po_none (po_some (pv 5))) (pe_tup (pa_cons (pv 9) pa_nil))) (pe_slice sl_tupA (pv 2) (po_some (pe_op op_add (pv 5) pe_int)) po_none))))) pss_nil)
      (pss_cons (ps_if (pt_cmpR op_eq (pv 4) pe_int (nomark _)) (pss_cons (ps_set (i := 8) sc_l_spoilt.nd rfl (.inl rfl) (pe_lst (pa_cons (pe_slice sl_tupA (pv 2) po_none (po_some (pe_un un_neg pe_int))) (pa_cons (pe_op op_catA (pv 2) (pe_slice sl_tupA (pv 2) po_none (po_some pe_int))) (pa_cons (pe_callTy (call_listK K rfl) (by rfl) T.list (by decide +kernel) (pa_cons (pv 2) pa_nil)) (pa_cons (pe_revT K rfl (pv 2) (pe_m1 pe_int)) (pa_cons (pe_tup (pa_cons (pv 2) pa_nil)) pa_nil)))))))
      (pss_one (ps_ret (pe_c c_l_pick hr (by decide) rfl (pa_cons (pv 0) (pa_cons (pe_op op_cat (pv 8) (pe_lst (pa_cons (pe_op op_catA (pe_slice sl_tupA (pv 2) (po_some pe_int) po_none) (pe_slice sl_tupA (pv 2) po_none (po_some pe_int))) pa_nil))) pa_nil)))))) pss_nil)
      (pss_one (ps_ret (pe_c c_l_pick hr (by decide) rfl (pa_cons (pv 0) (pa_cons (pe_lst (pa_cons pe_non (pa_cons pe_dnewK (pa_cons (pe_tup pa_nil) (pa_cons pe_int (pa_cons pe_str (pa_cons pe_bl (pa_cons (pe_op (op_repN K rfl) (pe_tup (pa_cons (pe_tup pa_nil) pa_nil)) (pv 3)) (pa_cons (pe_op (op_repN K rfl) (pe_tup (pa_cons pe_int pa_nil)) (pv 3)) (pa_cons (pe_lc (own := [("row", 9)]) rfl sc_l_spoilt.nd (pi_tupK K rfl (pv 2)) (blkOk_by (N := sc_l_spoiltN) (sc := defScope s_l_spoilt) (by decide +kernel)) (fun _ _ _ _ _ => (pg_name (i := 9) sc_l_spoilt.nd rfl (by first | exact .inl rfl | exact .inr rfl))) (fun _ _ _ _ _ => pts_nil) (fun _ _ _ _ _ => (pe_callTy (call_listK K rfl) (by rfl) T.list (by decide +kernel) (pa_cons (pv 9) pa_nil)))) pa_nil)))))))))) pa_nil))))))))))), ?_⟩
    obtain ⟨b, ys, rfl, hb, ib⟩ := id im.tuple
    have ey := ib.ints
    subst ey
    obtain ⟨a, zs, rfl, ha, hz0⟩ := hd.tuple
    refine ⟨_, rfl, b, _, rfl, .inr (SqT.of hb), ?_⟩
    rw [List.length_map]
    refine ⟨_, rfl, p, q, _, rfl, hP, by decide, by decide, fun kd H1 _ _ P1 k1 => ⟨_, _, rfl, ?_⟩⟩
    refine ⟨_, rfl, _, rfl, p, q, _, rfl, P1, by omega, by omega, fun ri H2 i0 i1 P2 k2 => ?_⟩
    refine ⟨_, rfl, _, rfl, p, q, _, rfl, P2, by omega, by omega, fun rj H3 j0 j1 P3 k3 => ⟨_, _, rfl, ?_⟩⟩
    obtain ⟨i, rfl⟩ := len1 ri i0
    obtain ⟨j, rfl⟩ := len1 rj j0
    have ii : i < ss.length := by omega
    have jj : j < ss.length := by omega
    have kp : Kp p q H H3 := (k1.trans k2).trans k3
    have t3 := kp.tk hP
    have hb3 := t3 _ _ hb
    have ha3 := t3 _ _ ha
    have im3 := im.k t3
    have hz : DgAll (Np p q) H3 zs rows := hz0.k (Ks.kp kp hP)
    have lz : zs.length = rows.length := hz.length
    clear hz0 hb ha k1 k2 k3 P1 P2 hd
    obtain ⟨yi, eyi, y2, y3, yn⟩ := sz_nat ok ii
    obtain ⟨xj, exj, x2, x3, xn⟩ := sz_nat ok jj
    have hiV : (ss.map V.int)[i]? = some (V.int (yi : Int)) := by rw [List.getElem?_map, eyi]; rfl
    obtain ⟨ri, hri⟩ : ∃ r, rows[i]? = some r := ⟨rows[i]'(by omega), List.getElem?_eq_getElem _⟩
    obtain ⟨l, rfl, ll, lo⟩ := ro _ (List.mem_of_getElem? hri)
    obtain ⟨y, hy, dy⟩ := hz.idx hri
    obtain ⟨br, ws, rfl, hbr, hw⟩ := dy.tuple
    have lw : ws.length = l.length := hw.length
    have lA : ∀ x ∈ l, okA x = true := fun x hx => okA_of (lo x hx)
    have rA : ∀ r ∈ rows, okA r = true := fun r hr => by
      obtain ⟨l', rfl, ll', lo'⟩ := ro r hr
      exact okG_tup lo' (by omega) (by decide)
    have r9 : ∀ r ∈ rows, Row9 r := fun r hr => by
      obtain ⟨l', rfl, ll', lo'⟩ := ro r hr
      exact row9 (by omega) fun x hx => okA_of (lo' x hx)
    refine ⟨_, rfl, _, rfl, rfl, _, rfl, ?_⟩
    refine shareV (H := H3) (N := fun u H' => H' = H3 ∧ ∃ st : Nat, u = .int (st : Int) ∧ 1 ≤ st ∧ st ≤ 10 ^ 30) (fun r => r _ _ ⟨rfl, 1, rfl, by decide, by decide⟩) (fun r => ?_) ?_
    · refine ⟨_, rfl, _, rfl, _, rfl, _, ss, j, i, xj, yi, rfl, im3, exj, eyi, by omega, Nat.lt_of_le_of_lt y3 (by decide), r _ _ ⟨rfl, stp xj yi, rfl, ?_⟩⟩
      obtain ⟨s1, s2⟩ := stp_le (a := xj) (b := yi) (by omega)
      exact ⟨s1, Nat.le_trans s2 y3⟩
    rintro u H' ⟨rfl, st, rfl, st1, st2⟩
    refine ⟨_, rfl, _, _, rfl, rfl, _, rfl, ?_⟩
    refine ite2 (fun _ => ?_) (fun _ => ?_)
    · refine ⟨_, rfl, _, rfl, b, _, i, _, rfl, rfl, SqT.of hb3, atI_nat hiV, _, rfl, _, rfl, _, rfl, _, _, rfl, rfl, _, rfl, _, _, rfl, rfl, _, _, rfl, _, rfl, _, rfl, b, _, i, _, rfl, rfl, SqT.of hb3, atI_nat hiV, _, rfl, _, _, rfl, rfl, _, rfl, _, rfl, b, _, i, _, rfl, rfl, SqT.of hb3, atI_nat hiV, _, _, rfl, rfl, by show 11 ≤ sizeLine; decide, fun o no => ?_⟩
      refine ⟨_, rfl, _, rfl, _, rfl, _, rfl, _, rfl, by show 1 ≤ sizeLine; decide, fun t1 nt1 => ⟨by show 1 ≤ sizeLine; decide, fun l2 nl2 => ⟨_, _, rfl, rfl, ⟨by decide, by decide, by decide⟩, _, rfl, _, rfl, by show 6 ≤ sizeLine; decide, fun o2 no2 => ⟨o, o2, _, _, rfl, rfl, keepN (keepN (keepN upd_same nt1) nl2) no2, upd_same, by show 11 + 6 ≤ sizeLine; decide, fun o3 no3 => ?_⟩⟩⟩⟩
      have npl : Np p q l2 := Pt.np (h := nl2) (by exact (P3.new no).new nt1)
      have M1 := menP_lit (P := fun d => okA d = true) (N := Np p q) nt1 (.cons (d := .int _) (.inl (.int _)) (okA_int (by omega)) (.cons (d := .int _) (.inl (.int _)) (okA_int (by decide)) (.cons (d := .int _) (.inl (.int _)) (okA_int (by omega)) (.cons (d := .int _) (.inl (.int _)) (okA_int (by omega)) (.cons (d := .int _) (.inl (.int _)) (okA_int (by split <;> omega)) (.cons (d := .int _) (.inl (.int _)) (okA_int (by omega)) (.cons (d := .int _) (.inl (.int _)) (okA_int (by omega))
        (.cons (d := .bool _) (.inl (.bl _)) (by decide +kernel) (.cons (d := .bool _) (.inl (.bl _)) (by decide +kernel) (.cons (d := .str _) (.inl (.str _)) (by decide +kernel) (.cons (d := .none) (.inl .non) (by decide +kernel) .nil)))))))))))
      have M2 := menP_lit (P := fun d => okA d = true) (N := Np p q) no3 (.cons (d := .tuple [.int 0]) (.inl (.tup (keepN (keepN upd_same nl2) no2) (.cons (.int _) .nil))) (by decide +kernel) (.cons (d := .list [.int 0]) (.inl (.lst npl (keepN upd_same no2) (.cons (.int _) .nil))) (by decide +kernel) (.cons (d := .int _) (.inl (.int _)) (okA_int (by decide)) (.cons (d := .int _) (.inl (.int _)) (okA_int (by omega)) (.cons (d := .int _) (.inl (.int _)) (okA_int (by decide)) (.cons (d := .int _) (.inl (.int _)) (okA_int (by decide)) .nil))))))
      have M := MenP.append (((M1.new nt1).new nl2).new no2) M2
      obtain ⟨q1, q2⟩ := Pt.np (p := p) (q := q) (h := no3) (by exact (((P3.new no).new nt1).new nl2).new no2)
      refine ⟨p, q, o3, _, rfl, ((((P3.new no).new nt1).new nl2).new no2).new no3, upd_same, q1, q2, List.cons_ne_nil _ _, by show 17 < 1000; decide, fun v H9 hv P9 k9 => ?_⟩
      obtain ⟨x, dx, ox⟩ := fin_pick M ((((P3.new no).new nt1).new nl2).new no2) no3 k9 hv
      have k39 : Kp p q _ H9 := Kp.trans (((((Kp.refl p q _).new no).new nt1).new nl2).new no2 |>.new no3) k9
      have s39 : Ks (Np p q) _ H9 := Ks.kp k39 P3
      refine ⟨Np p q, _, _, rows, l, x, i, j, rfl, .tup (s39.tup _ _ ha3) (hz.k s39), by omega, hri, by omega, r9, dx.dg (okG_iff.mp ox).1, ox, fun u d HA dd td sA => ?_⟩
      exact k u d HA (.inl dd) td (P9.same sA) (Kp.sm (kp.trans k39) sA)
    refine ⟨_, rfl, rfl, _, rfl, ?_⟩
    refine ite2 (fun _ => ?_) (fun _ => ?_)
    · refine ⟨_, rfl, _, rfl, _, rfl, a, _, i, _, rfl, rfl, SqT.of ha3, atI_nat hy, _, rfl, _, rfl, sl_any hbr fun c1 H4 s4 h4 => ?_⟩
      obtain ⟨e1, g1, le1, me1⟩ := hw.cut none (some (-1))
      have lc1 := g1.length
      refine ⟨_, rfl, _, rfl, a, _, i, _, rfl, rfl, SqT.of (s4 _ _ ha3), atI_nat hy, by show 1 ≤ sizeLine; decide, fun c2 n2 => ?_⟩
      have s5 : Same H' (upd H4 c2 (.tup [.int 0])) := Same.new s4 n2
      refine cat_any (s5 _ _ hbr) upd_same (by rw [lw]; exact Nat.le_trans (show l.length + 1 ≤ 7 by omega) (by decide)) fun c3 H6 s6 h6 => ?_
      have g3 : DgAll (Np p q) H6 _ (l ++ [.int 0]) := ((hw.s s5).append (.cons (.int 0) .nil)).s s6
      have t6 := s5.trans s6
      refine ⟨_, rfl, _, rfl, a, _, i, _, rfl, rfl, SqT.of (t6 _ _ ha3), atI_nat hy, br, _, rfl, .inr (SqT.of (t6 _ _ hbr)), fun l4 nl4 => ⟨by show 0 ≤ sizeLine; decide, fun t5 nt5 => ⟨by show 6 ≤ sizeLine; decide, fun o no => ?_⟩⟩⟩
      have P6 := P3.same t6
      have npl : Np p q l4 := Pt.np (h := nl4) (by exact P6)
      have s46 : Same H4 H6 := Same.trans (Same.new (o := .tup [.int 0]) (Same.refl H4) n2) s6
      have T1 : Same H6 (upd (upd H6 l4 (.lst ws)) t5 (.tup [])) := Same.new (Same.new (Same.refl H6) nl4) nt5
      have sO : Same (upd (upd H6 l4 (.lst ws)) t5 (.tup [])) (upd (upd (upd H6 l4 (.lst ws)) t5 (.tup [])) o (.lst [.ref c1, .ref c3, .ref l4, .non, .int 0, .ref t5])) := Same.new (Same.refl _) no
      have M : MenP Row9 (Np p q) (upd (upd H6 l4 (.lst ws)) t5 (.tup [])) [.ref c1, .ref c3, .ref l4, .non, .int 0, .ref t5] :=
        .cons (d := .tuple e1) (.inl (.tup (T1 _ _ (s46 _ _ h4)) ((g1.s (s4.trans s46)).s T1))) (row9 (by omega) fun x hx => lA x (me1 x hx))
        (.cons (d := .tuple (l ++ [.int 0])) (.inl (.tup (T1 _ _ h6) (g3.s T1))) (row9 (by rw [List.length_append, List.length_singleton]; omega) (fun x hx => by
          rcases List.mem_append.mp hx with hx | hx
          · exact lA x hx
          · rw [List.mem_singleton.mp hx]
            exact okA_int (by decide)))
        (.cons (d := .list l) (.inl (.lst npl (keepN upd_same nt5) ((hw.s t6).s T1))) ⟨okG_lst lA (by omega) (by decide), fun l' e => by cases e⟩
        (.cons (d := .none) (.inl .non) ⟨by decide +kernel, fun l' e => by cases e⟩ (.cons (d := .int 0) (.inl (.int 0)) ⟨by decide +kernel, fun l' e => by cases e⟩ (.cons (d := .tuple []) (.inl (.tup upd_same .nil)) (row9 (by decide) (fun x hx => by cases hx)) .nil)))))
      have P7 := P6.same T1
      obtain ⟨q1, q2⟩ := P7.np no
      have P8 := P7.new (o := .lst [.ref c1, .ref c3, .ref l4, .non, .int 0, .ref t5]) no
      refine ⟨p, q, o, _, rfl, P8, upd_same, q1, q2, List.cons_ne_nil _ _, by show 6 < 1000; decide, fun v H9 hv P9 k9 => ?_⟩
      obtain ⟨x, dx, ox⟩ := ((M.s sO).k (Ks.kp k9 P8)) v hv
      have dg := dx.dg (okG_iff.mp ox.1).1
      have k39 : Kp p q H' H9 := (Kp.same ((t6.trans T1).trans sO)).trans k9
      have s39 : Ks (Np p q) H' H9 := Ks.kp k39 P3
      have ha9 := s39.tup _ _ ha3
      have hz9 := hz.k s39
      refine ⟨_, rfl, _, rfl, _, rfl, sl_any ha9 fun c6 H10 s10 h6' => ?_⟩
      obtain ⟨e6, g6, le6, me6⟩ := hz9.cut none (some (i : Int))
      have lc6 := g6.length
      refine ⟨_, rfl, by show 1 ≤ sizeLine; decide, fun c7 n7 => ?_⟩
      have s11 : Same H10 (upd H10 c7 (.tup [v])) := Same.new (Same.refl H10) n7
      refine cat_any (keepN h6' n7) upd_same (by rw [lc6]; exact Nat.le_trans (show e6.length + 1 ≤ 7 by omega) (by decide)) fun c8 H12 s12 h8 => ?_
      have g8 : DgAll (Np p q) H12 _ (e6 ++ [x]) := ((g6.s (s10.trans s11)).append (.cons (dg.k (Ks.same (s10.trans s11))) .nil)).s s12
      have t12 := (s10.trans s11).trans s12
      have lc8 := g8.length
      refine ⟨_, rfl, _, rfl, _, _, rfl, rfl, _, rfl, noPart (sl_any (t12 _ _ ha9) fun c9 H13 s13 h9 => ?_)⟩
      obtain ⟨e9, g9, le9, me9⟩ := (hz9.s t12).cut (some ((i : Int) + 1)) none
      have lc9 := g9.length
      refine cat_any (s13 _ _ h8) h9 (by rw [lc8, lc9, List.length_append, List.length_singleton]; exact Nat.le_trans (show e6.length + 1 + e9.length ≤ 13 by omega) (by decide)) fun cA HA sA hA => ?_
      exact k _ (.tuple (e6 ++ [x] ++ e9)) _ (.inl (.tup hA (((g8.s s13).append (g9.s s13)).s sA))) (tab9 (by rw [List.length_append, List.length_append, List.length_singleton]; omega) (mem_mid (fun z hz => r9 z (me6 z hz)) ox (fun z hz => r9 z (me9 z hz)))) (P9.same ((t12.trans s13).trans sA)) (Kp.sm (kp.trans k39) ((t12.trans s13).trans sA))
    refine ⟨_, rfl, rfl, _, rfl, ?_⟩
    refine ite2 (fun _ => ?_) (fun _ => ?_)
    · refine ⟨_, rfl, _, rfl, _, rfl, sl_any ha3 fun c1 H4 s4 h4 => ?_⟩
      obtain ⟨e1, g1, le1, me1⟩ := hz.cut none (some (-1))
      have lc1 := g1.length
      refine ⟨_, rfl, _, rfl, _, rfl, sl_any (s4 _ _ ha3) fun c2 H5 s5 h5 => ?_⟩
      have t5 := s4.trans s5
      obtain ⟨e2, g2, le2, me2⟩ := (hz.s s4).cut none (some 1)
      have lc2 := g2.length
      refine cat_any (t5 _ _ ha3) h5 (by rw [lc2]; exact Nat.le_trans (show zs.length + e2.length ≤ 12 by omega) (by decide)) fun c3 H6 s6 h6 => ?_
      have t6 := t5.trans s6
      have g3 : DgAll (Np p q) H6 _ (rows ++ e2) := ((hz.s t5).append (g2.s s5)).s s6
      refine ⟨_, rfl, a, _, rfl, .inr (SqT.of (t6 _ _ ha3)), fun l4 nl4 => ⟨_, rfl, a, _, rfl, SqT.of (keepN (t6 _ _ ha3) nl4), fun r5 nr5 => ⟨_, rfl, by show 1 ≤ sizeLine; decide, fun u6 nu6 => ⟨by show 5 ≤ sizeLine; decide, fun o no => ?_⟩⟩⟩⟩
      have P6 := P3.same t6
      have npl : Np p q l4 := Pt.np (h := nl4) (by exact P6)
      have T1 : Same H6 (upd (upd (upd H6 l4 (.lst zs)) r5 (.tup zs.reverse)) u6 (.tup [.ref a])) := Same.new (Same.new (Same.new (Same.refl H6) nl4) nr5) nu6
      have M : MenP Tab9 (Np p q) (upd (upd (upd H6 l4 (.lst zs)) r5 (.tup zs.reverse)) u6 (.tup [.ref a])) [.ref c1, .ref c3, .ref l4, .ref r5, .ref u6] :=
        .cons (d := .tuple e1) (.inl (.tup (T1 _ _ (s6 _ _ (s5 _ _ h4))) (((g1.s s4).s (s5.trans s6)).s T1))) (tab9 (by omega) fun x hx => r9 x (me1 x hx))
        (.cons (d := .tuple (rows ++ e2)) (.inl (.tup (T1 _ _ h6) (g3.s T1))) (tab9 (by rw [List.length_append]; omega) (fun x hx => by
          rcases List.mem_append.mp hx with hx | hx
          · exact r9 x hx
          · exact r9 x (me2 x hx)))
        (.cons (d := .list rows) (.inl (.lst npl (keepN (keepN upd_same nr5) nu6) ((hz.s t6).s T1))) (.inr ⟨okG_lst rA (by omega) (by decide), fun l' e => by cases e⟩)
        (.cons (d := .tuple rows.reverse) (.inl (.tup (keepN upd_same nu6) (((hz.s t6).s T1).rev))) (tab9 (by rw [List.length_reverse]; omega) (fun x hx => r9 x (List.mem_reverse.mp hx)))
        (.cons (d := .tuple [.tuple rows]) (.inl (.tup upd_same (.cons (.tup (T1 _ _ (t6 _ _ ha3)) ((hz.s t6).s T1)) .nil))) (tab9 (by show 1 ≤ 13; decide) (fun x hx => by
          rw [List.mem_singleton.mp hx]
          exact row9 (by omega) rA)) .nil))))
      have P7 := P6.same T1
      generalize upd (upd (upd H6 l4 (.lst zs)) r5 (.tup zs.reverse)) u6 (.tup [.ref a]) = H7 at *
      have t7 : Same _ H7 := t6.trans T1
      have s8 : Same H7 (upd H7 o (.lst [.ref c1, .ref c3, .ref l4, .ref r5, .ref u6])) := Same.new (Same.refl H7) no
      have ho : (upd H7 o (.lst [.ref c1, .ref c3, .ref l4, .ref r5, .ref u6])) o = some (.lst [.ref c1, .ref c3, .ref l4, .ref r5, .ref u6]) := upd_same
      have P8 := P7.same s8
      generalize upd H7 o (.lst [.ref c1, .ref c3, .ref l4, .ref r5, .ref u6]) = H8 at *
      have t8 := t7.trans s8
      refine ⟨_, rfl, _, rfl, _, rfl, _, rfl, noPart (sl_any (t8 _ _ ha3) fun c7 H9 s9 h9 => ?_)⟩
      have t9 := t8.trans s9
      obtain ⟨e7, g7, le7, me7⟩ := (hz.s t8).cut (some 1) none
      have lc7 := g7.length
      refine ⟨_, rfl, _, rfl, sl_any (t9 _ _ ha3) fun c8 H10 s10 h10 => ?_⟩
      obtain ⟨e8, g8, le8, me8⟩ := (hz.s t9).cut none (some 1)
      have lc8 := g8.length
      refine cat_any (s10 _ _ h9) h10 (by rw [lc7, lc8]; exact Nat.le_trans (show e7.length + e8.length ≤ 12 by omega) (by decide)) fun c9 H11 s11 h11 => ?_
      have gg : DgAll (Np p q) H11 _ (e7 ++ e8) := (((g7.s s9).s s10).append (g8.s s10)).s s11
      have t11 := (t9.trans s10).trans s11
      have s811 : Same H8 H11 := (s9.trans s10).trans s11
      refine ⟨by show 1 ≤ sizeLine; decide, fun o2 no2 => ⟨o, o2, _, _, rfl, rfl, keepN (s811 _ _ ho) no2, upd_same, by show 5 + 1 ≤ sizeLine; decide, fun o3 no3 => ?_⟩⟩
      have M3 : MenP Tab9 (Np p q) H11 ([.ref c1, .ref c3, .ref l4, .ref r5, .ref u6] ++ [.ref c9]) := MenP.append (M.s (s8.trans s811)) (.cons (d := .tuple (e7 ++ e8)) (.inl (.tup h11 gg)) (tab9 (by rw [List.length_append]; omega) (fun x hx => by
          rcases List.mem_append.mp hx with hx | hx
          · exact r9 x (me7 x hx)
          · exact r9 x (me8 x hx))) .nil)
      have P11 := P3.same t11
      obtain ⟨q1, q2⟩ := Pt.np (p := p) (q := q) (h := no3) (by exact P11.new no2)
      refine ⟨p, q, o3, _, rfl, (P11.new no2).new no3, upd_same, q1, q2, List.cons_ne_nil _ _, by show 6 < 1000; decide, fun v H12 hv P12 k12 => ?_⟩
      obtain ⟨x, dx, ox⟩ := fin_pick (M3.new no2) (P11.new no2) no3 k12 hv
      exact k v x H12 dx ox P12 (Kp.trans (Kp.sm kp t11) (Kp.trans (((Kp.refl p q _).new no2).new no3) k12))
    refine ⟨_, rfl, fun dk ndk => ⟨by show 0 ≤ sizeLine; decide, fun t1 n1 => ⟨by show 0 ≤ sizeLine; decide, fun t2 n2 => ⟨by show 1 ≤ sizeLine; decide, fun t3 n3 => ⟨_, rfl, t3, _, [.ref t2], rfl, rfl, SqT.of upd_same, upd_same, List.cons_ne_nil _ _, by omega, by omega, by show 1 ≤ 1000; decide, fun r4 H4 s4 h4 => ?_⟩⟩⟩⟩⟩
    have hdk : H4 dk = some (.dK []) := s4 _ _ (keepN (keepN (keepN upd_same n1) n2) n3)
    have ht1 : H4 t1 = some (.tup []) := s4 _ _ (keepN (keepN upd_same n2) n3)
    have ht2 : H4 t2 = some (.tup []) := s4 _ _ (keepN upd_same n3)
    have sA : Same H' H4 := Same.trans (Same.new (o := .tup [.ref t2]) (Same.new (o := .tup []) (Same.new (o := .tup []) (Same.new (o := .dK []) (Same.refl H') ndk) n1) n2) n3) s4
    clear s4
    refine ⟨by show 1 ≤ sizeLine; decide, fun t5 n5 => ⟨_, rfl, t5, _, [.int 0], rfl, rfl, SqT.of upd_same, upd_same, List.cons_ne_nil _ _, by omega, by omega, by show 1 ≤ 1000; decide, fun r6 H6 s6 h6 => ?_⟩⟩
    have sB : Same H4 H6 := Same.trans (Same.new (o := .tup [.int 0]) (Same.refl H4) n5) s6
    clear s6
    have s06 := sA.trans sB
    have P6 := P3.same s06
    have hz6 := hz.s s06
    refine ⟨_, rfl, a, rfl, ⟨_, SqT.of (s06 _ _ ha3)⟩, fun D nD => ?_⟩
    have npD : Np p q D := P6.np nD
    refine lc_tup (K := K) (a := a) (xs := zs) (fun t H1 => Same H6 H1 ∧ ∃ (vs : List V) (es : List PyData), H1 D = some (.lst vs) ∧ DgAll (fun x => Np p q x ∧ x ≠ D) H1 vs es ∧ es.length = t ∧ ∀ x ∈ es, okG 13000 4 x = true) ⟨Same.new (Same.refl H6) nD, [], [], upd_same, .nil, rfl, fun x hx => by cases hx⟩ (fun t H1 _ z => SqT.of (z.1 _ _ (s06 _ _ ha3))) ?_ ?_
    · rintro t x H1 hx ⟨sm, vs, es, hD, dv, le, oe⟩
      obtain ⟨dx, hdx, dgx⟩ := hz6.get hx
      obtain ⟨l', rfl, ll', lo'⟩ := ro dx (List.mem_of_getElem? hdx)
      obtain ⟨ar, us, rfl, har, hus⟩ := dgx.tuple
      have lt := (List.getElem?_eq_some_iff.mp hdx).1
      have lv := dv.length
      refine ⟨rfl, _, rfl, ar, _, rfl, .inr (SqT.of (sm _ _ har)), fun l7 nl7 => ?_⟩
      have hD7 : (upd H1 l7 (.lst us)) D = some (.lst vs) := keepN hD nl7
      have np7 : Np p q l7 := Pt.np (h := nl7) (by exact P6.same sm)
      have n7D : l7 ≠ D := fun z => by rw [z, hD] at nl7; cases nl7
      have s7 : Same H1 (upd H1 l7 (.lst us)) := Same.new (Same.refl H1) nl7
      refine ⟨vs, hD7, small1000 (by omega), Same.put (sm.trans s7) nD, vs ++ [.ref l7], es ++ [.list l'], upd_same, ?_, by rw [List.length_append, List.length_singleton, le], fun y hy => ?_⟩
      · refine DgAll.k (H := upd H1 l7 (.lst us)) ((dv.s s7).append (.cons (.lst ⟨np7, n7D⟩ upd_same (ints_dg (fun y hy => lo' y hy) ((hus.s sm).s s7))) .nil)) (ks_put hD7)
      · rcases List.mem_append.mp hy with hy | hy
        · exact oe y hy
        · rw [List.mem_singleton.mp hy]
          exact okG_lst lo' (by omega) (by decide)
    rintro H7 ⟨sm, vs, es, hD, dv, le, oe⟩
    have dvw : DgAll (Np p q) H7 vs es := DgAll.keep (Ks.refl _ H7) (fun _ z => z.1) es vs dv
    have s4' : Same H4 H7 := sB.trans sm
    refine ⟨by show 9 ≤ sizeLine; decide, fun o no => ?_⟩
    have M : MenP Tab9 (Np p q) H7 [.non, .ref dk, .ref t1, .int 0, .str "table", .bl true, .ref r4, .ref r6, .ref D] :=
      .cons (d := .none) (.inl .non) (.inr ⟨by decide +kernel, fun l' e => by cases e⟩) (.cons (d := .dict []) (.inr ⟨dk, rfl, s4' _ _ hdk, rfl⟩) (.inl rfl)
      (.cons (d := .tuple []) (.inl (.tup (s4' _ _ ht1) .nil)) (tab9 (by decide) (fun x hx => by cases hx)) (.cons (d := .int 0) (.inl (.int 0)) (.inr ⟨by decide +kernel, fun l' e => by cases e⟩)
      (.cons (d := .str "table") (.inl (.str _)) (.inr ⟨by decide +kernel, fun l' e => by cases e⟩) (.cons (d := .bool true) (.inl (.bl _)) (.inr ⟨by decide +kernel, fun l' e => by cases e⟩)
      (.cons (d := .tuple (List.replicate ((ss.length : Int).toNat) [PyData.tuple []]).flatten) (.inl (.tup (s4' _ _ h4) (DgAll.rep1 (.tup (s4' _ _ ht2) .nil) _))) (tab9 (by rw [rep_len1]; omega) (fun x hx => by rw [rep_mem hx]; exact row9 (by decide) (fun x hx => by cases hx)))
      (.cons (d := .tuple (List.replicate ((ss.length : Int).toNat) [PyData.int 0]).flatten) (.inl (.tup (sm _ _ h6) (DgAll.rep1 (.int 0) _))) (tab9 (by rw [rep_len1]; omega) (fun x hx => by rw [rep_mem hx]; exact ⟨by decide +kernel, fun l' e => by cases e⟩))
      (.cons (d := .list es) (.inl (.lst npD hD dvw)) (.inr ⟨okG_lst oe (by have := hz.length; have := le; omega) (by decide), fun l' e => by cases e⟩) .nil))))))))
    have P7 := P6.same sm
    obtain ⟨q1, q2⟩ := P7.np no
    refine ⟨p, q, o, _, rfl, P7.new no, upd_same, q1, q2, List.cons_ne_nil _ _, by show 9 < 1000; decide, fun v H9 hv P9 k9 => ?_⟩
    obtain ⟨x, dx, ox⟩ := fin_pick M P7 no k9 hv
    exact k v x H9 dx ox P9 (Kp.trans (Kp.sm kp (s06.trans sm)) (Kp.trans ((Kp.refl p q _).new no) k9))

/-! ### k09: law -/
def errs9 : List PyData := [.none, .str "form"] ++ (List.range 6).flatMap fun i => (List.range 6).map fun j => eE i j
def errP9 (e : PyData) : Bool := okD e && decide (cost e ≤ 6000) && decide (e.depth ≤ 3) && SeqAt.shaped e && PyData.strOk e.shown && ([PyData.none, .str "form"].all fun z => SeqAt.noMix z e)
theorem errs9_P : errs9.all errP9 = true := by decide +kernel
structure Err9 (e : PyData) : Prop where
  sh : Sh e
  shaped : SeqAt.shaped e = true
  str : PyData.strOk e.shown = true
  mix : ∀ z ∈ [PyData.none, .str "form"], SeqAt.noMix z e = true
theorem err9_ok {e : PyData} (h : e ∈ errs9) : Err9 e := by
  have z := List.all_eq_true.mp errs9_P e h
  unfold errP9 at z
  simp only [Bool.and_eq_true, decide_eq_true_eq] at z
  obtain ⟨⟨⟨⟨⟨a, b⟩, c⟩, e1⟩, f⟩, g⟩ := z
  exact ⟨⟨a, by omega, by omega⟩, e1, f, List.all_eq_true.mp g⟩
theorem terr_mem {ss : List Int} (l6 : ss.length ≤ 6) {d e : PyData} (h : Terr ss d e) : e ∈ errs9 := by
  unfold errs9
  cases h with
  | form _ => exact List.mem_append.mpr (.inl (by simp))
  | none _ _ => exact List.mem_append.mpr (.inl (by simp))
  | entry _ hi hj _ _ => exact List.mem_append.mpr (.inr (List.mem_flatMap.mpr ⟨_, List.mem_range.mpr (by omega), List.mem_map.mpr ⟨_, List.mem_range.mpr (by omega), rfl⟩⟩))
theorem two_eq (s : Str) : PyData.eqv (.list [.str s, .str s]) (.list [.str s, .str s]) = true := by
  simp only [PyData.eqv, PyData.eqvAll, Bool.and_self, Bool.and_true, beq_self_eq_true, decide_true]
theorem two_shaped {s : Str} (h : PyData.strOk s = true) : SeqAt.shaped (.list [.str s, .str s]) = true := by
  unfold SeqAt.shaped
  simp only [PyData.canLay0, PyData.canLayAll0, PyData.depth, PyData.depthAll, h, Bool.and_self]
  rfl
theorem isBl_ex {m : Nat} {d : PyData} (h : isBl m d = true) : ∃ n : Int, d = .int n ∧ 0 ≤ n ∧ n < (m : Int) := by
  cases d with
  | int n =>
    simp only [isBl, Bool.and_eq_true, decide_eq_true_eq] at h
    exact ⟨n, rfl, h.1, h.2⟩
  | _ => cases h
theorem terr_none {ss : List Int} (ok : ∀ s ∈ ss, SizeOk s) {d e : PyData} (h : Terr ss d e) (he : e = .none) : ∃ rows, d = .tuple rows ∧ rows.length = ss.length ∧ ∀ r ∈ rows, ∃ l, r = .tuple l ∧ l.length = ss.length ∧ ∀ x ∈ l, okG 2000 0 x = true := by
  cases h with
  | form _ => cases he
  | entry _ _ _ _ _ => cases he
  | none hf al =>
    rename_i rows
    obtain ⟨_, e1, lr, ro⟩ := form_of hf
    cases e1
    refine ⟨_, rfl, lr, fun r hr => ?_⟩
    obtain ⟨l, rfl, ll⟩ := row_of (ro r hr)
    refine ⟨l, rfl, ll, fun x hx => ?_⟩
    obtain ⟨i, hi, ei⟩ := List.getElem_of_mem hr
    obtain ⟨j, hj, ej⟩ := List.getElem_of_mem hx
    have hb := al i j (by omega) (by omega)
    have q1 : rows[i]? = some (.tuple l) := by rw [List.getElem?_eq_getElem hi, ei]
    have q2 : l[j]? = some x := by rw [List.getElem?_eq_getElem hj, ej]
    rw [at_get q1 q2] at hb
    unfold entB at hb
    rw [Bool.and_eq_true] at hb
    obtain ⟨y, ey, y2, y3, yn⟩ := sz_nat ok (i := i) (by omega)
    rw [yn] at hb
    obtain ⟨n, rfl, n0, n1⟩ := isBl_ex hb.1
    exact okG_intK (by omega)
theorem terr_form {ss : List Int} {d e : PyData} (h : Terr ss d e) (he : countIn e [.none, .str "form"] = 0) : ∃ rows, d = .tuple rows ∧ rows.length = ss.length ∧ ∀ r ∈ rows, ∃ l, r = .tuple l ∧ l.length = ss.length := by
  cases h with
  | form _ => exact absurd he (by decide +kernel)
  | none _ _ => exact absurd he (by decide +kernel)
  | entry hf _ _ _ _ =>
    obtain ⟨rows, e1, lr, ro⟩ := form_of hf
    cases e1
    refine ⟨_, rfl, lr, fun r hr => ?_⟩
    obtain ⟨l, rfl, ll⟩ := row_of (ro r hr)
    exact ⟨l, rfl, ll⟩
theorem tab9_len {d : PyData} (h : Tab9 d) : ∀ rows, d = .tuple rows → rows.length ≤ 100 := fun rows e => by
  rcases h with h | h
  · rw [e] at h; cases h
  · have := (h.2 rows e).1
    omega
theorem tab9_rows {rows : List PyData} (h : Tab9 (.tuple rows)) : ∀ r ∈ rows, Row9 r := by
  rcases h with h | h
  · cases h
  · exact (h.2 rows rfl).2
theorem tab9_t {ss : List Int} (ok : ∀ s ∈ ss, SizeOk s) (l6 : ss.length ≤ 6) {t : List (List Int)} (h : TOk ss t) : Tab9 (tD t) := by
  have ht := h.len
  refine tab9 (by rw [List.length_map]; omega) (fun x hx => ?_)
  obtain ⟨r, hr, rfl⟩ := List.mem_map.mp hx
  have lr := h.row r hr
  refine row9 (by rw [List.length_map]; omega) (fun y hy => ?_)
  obtain ⟨n, hn, rfl⟩ := List.mem_map.mp hy
  obtain ⟨i, hi, ei⟩ := List.getElem_of_mem hr
  obtain ⟨j, hj, ej⟩ := List.getElem_of_mem hn
  obtain ⟨y, ey, y2, y3, _⟩ := sz_nat ok (i := i) (by omega)
  obtain ⟨a, b⟩ := h.low i j r n y (by rw [List.getElem?_eq_getElem hi, ei]) (by rw [List.getElem?_eq_getElem hj, ej]) ey
  exact okA_int (by omega)
theorem sh_tab9 {ss : List Int} {ws : List (Nat × Nat)} (ok : MOk ss ws) {d : PyData} (h : Tab9 d) : Sh (.list [mD ss ws, d]) ∨ (d = .dict [] ∧ Sh (mD ss ws) ∧ cost (mD ss ws) ≤ 4000000 ∧ (mD ss ws).depth ≤ 50) := by
  have l1 := ok.six
  have l2 := ok.wires.len l1
  have c : cost (mD ss ws) ≤ 1000000 := by
    simp only [mD, sD, NA.cost, costAll, costAll_ints, costAll_wires]
    omega
  have dp : (mD ss ws).depth ≤ 8 := by
    have := depth_wires ws
    simp only [mD, sD, PyData.depth, PyData.depthAll, depth_ints]
    omega
  rcases h with rfl | ⟨g, _⟩
  · exact .inr ⟨rfl, Sh.mach ok, by omega, by omega⟩
  · have gm : okG 5300000 8 (mD ss ws) = true := okG_iff.mpr ⟨(Sh.mach ok).ok, by omega, dp⟩
    have gl : okG 10600100 9 (.list [mD ss ws, d]) = true := okG_lst (c := 5300000) (dp := 8) (fun x hx => by
      rcases List.mem_cons.mp hx with rfl | hx
      · exact gm
      · rw [List.mem_singleton.mp hx]
        exact g) (by show (5300000 + 2) * 2 + 3 ≤ 10600100; decide) (by decide)
    obtain ⟨h1, h2, h3⟩ := okG_iff.mp gl
    exact .inl ⟨h1, by omega, by omega⟩
theorem atI_m1 {xs : List V} (h : xs ≠ []) : ∃ v ∈ xs, atI xs (-1) = some v := ⟨xs.getLast h, List.getLast_mem h, by
  have := atI_last xs.dropLast (xs.getLast h)
  rwa [List.dropLast_concat_getLast h] at this⟩
theorem ifS_share {tt : TT} {ta tb : TS} {D : Ends} {σ : L2.St} {H : Hp} {N : L2.St → Hp → Prop} (h : (∀ σ' H', N σ' H' → tb D σ' H') → tSeq (tIfS tt ta tNext) tb D σ H) (rest : ∀ σ' H', N σ' H' → tb D σ' H') : tSeq (tIfS tt ta tNext) tb D σ H := h rest
theorem Dv.tupleDg {N : Addr → Prop} {H : Hp} {v : V} {ds : List PyData} (h : Dv N H v (.tuple ds)) : Dg N H v (.tuple ds) := by
  rcases h with h | ⟨_, _, _, h⟩
  · exact h
  · cases h
theorem Im.non_of {H : Hp} {d : PyData} (h : Im H .non d) : d = .none := by cases h; rfl
abbrev sc_lawN : List Str := ["script", "pot", "turn", "machine", "sizes", "value", "again", "held", "kept", "due", "told", "own"]
theorem sc_law : FnScope sc_lawN ["script"] (defScope s_law) := ⟨rfl, rfl, rfl, by decide +kernel, rfl, by decide +kernel, by decide +kernel⟩
theorem ok_law {f : Addr} {fd : FuncData} (F : Fun K "law" "law" s_law f fd) (T : Blt mg) (c_l_pot : Cal P w K mg base 1 "_law_pot" (spPot K)) (c_l_dip : Cal P w K mg base 1 "_law_dip" spDip) (c_l_pick : Cal P w K mg base 2 "_law_pick" spPick) (c_l_machine : Cal P w K mg base 5 "_law_machine" spMachine) (c_l_table : Cal P w K mg base 3 "_law_table" spTable) (c_l_still : Cal P w K mg base 1 "_law_still" spStill)
    (c_l_due : Cal P w K mg base 3 "_law_due" spDue) (c_l_spoilt : Cal P w K mg base 3 "_law_spoilt" spSpoil) (c_l_with : Cal P w K mg base 1 "_law_with" spWith) (c_table_error : Cal P w K mg base 5 "table_error" spTerr) (k_table_error_vm : CalK P w K mg base 5 "table_error" spTerr ["value", "machine"] kg21c) : GFn P w K mg base 6 f fd ["script"] (spLaw K) := by
  refine gfn_of F sc_law (fun vs H Q E h => ?_) (fun cdv A outer s H vs Q E hcd0 hg hr h => ?_)
  · obtain ⟨a, ns, rfl, _⟩ := h
    rfl
  · obtain ⟨sa, ns, rfl, hS, hlen, k⟩ := h
    refine ⟨_, (pss_cons (ps_set (i := 1) sc_law.nd rfl (.inl rfl) (pe_c c_l_pot hr (by decide) rfl (pa_cons (pv 0) pa_nil)))
      (pss_cons (ps_for PassesOwn.never rfl (pi_range1 (by rfl) T.range (pa_cons pe_int pa_nil)) (pg_name (i := 2) sc_law.nd rfl (.inl rfl)) (pss_cons (ps_set (i := 3) sc_law.nd rfl (.inl rfl) (pe_c c_l_machine hr (by decide) rfl (pa_cons (pv 1) (pa_cons (pe_cmpR op_eq (pe_op op_mod (pv 2) pe_int) pe_int (nomark _)) pa_nil))))
      (pss_cons (ps_set (i := 4) sc_law.nd rfl (.inl rfl) (pe_ix (ix_tupK K rfl) (pv 3) pe_int (fun _ _ => rfl)))
      (pss_cons (ps_set (i := 5) sc_law.nd rfl (.inl rfl) (pe_c c_l_table hr (by decide) rfl (pa_cons (pv 1) (pa_cons (pv 4) pa_nil))))
      (pss_cons (ps_for PassesOwn.never rfl (pi_range1 (by rfl) T.range (pa_cons (pe_op op_add pe_int (pe_c c_l_dip hr (by decide) rfl (pa_cons (pv 1) (pa_cons pe_int pa_nil)))) pa_nil)) (pg_name (i := 6) sc_law.nd rfl (.inl rfl)) (pss_one (ps_set (i := 5) sc_law.nd rfl (.inl rfl) (pe_ifExp (pt_cmpR op_isN (pe_c c_l_due hr (by decide) rfl (pa_cons (pv 4) (pa_cons (pv 5) pa_nil))) pe_non (nomark _)) (pe_c c_l_spoilt hr (by decide) rfl (pa_cons (pv 1) (pa_cons (pv 4) (pa_cons (pv 5) pa_nil)))) (pv 5)))))
      (pss_cons (ps_if (PW.pt (pw_and (pt_cmpR op_eq (pe_op op_mod (pv 2) pe_int) pe_int (nomark _)) (pw_and (pt_val (pe_callB (call_isiK' K rfl) (by rfl) T.isinstance (by decide +kernel) (pa_cons (pv 5) (pa_cons (pe_bltn (v := .ty "tuple") (u := .type "tuple") (by rfl) T.tuple (by decide +kernel) rfl) pa_nil)))) (pw_and1 (pt_cmpR (op_notInE K rfl (room65K hr)) (pe_c c_l_due hr (by decide) rfl (pa_cons (pv 4) (pa_cons (pv 5) pa_nil))) (pe_tup (pa_cons pe_non (pa_cons pe_str pa_nil))) rfl))))) (pss_one (ps_set (i := 5) sc_law.nd rfl (.inl rfl) (pe_c c_l_with hr (by decide) rfl (pa_cons (pv 5) (pa_cons (pe_op op_sub (pe_callB (call_lenK K rfl) (by rfl) T.len PySem.boot_len (pa_cons (pv 4) pa_nil)) pe_int) (pa_cons (pe_c c_l_dip hr (by decide) rfl (pa_cons (pv 1) (pa_cons (pe_callB (call_lenK K rfl) (by rfl) T.len PySem.boot_len (pa_cons (pv 4) pa_nil)) pa_nil))) (pa_cons (pe_c c_l_pick hr (by decide) rfl (pa_cons (pv 1) (pa_cons (pe_lst (pa_cons (pe_un un_neg pe_int) (pa_cons pe_bl (pa_cons (pe_ix (ix_tupK K rfl) (pv 4) (pe_un un_neg pe_int) (fun _ _ => rfl)) pa_nil)))) pa_nil))) pa_nil))))))) pss_nil)
      (pss_one (ps_for PassesOwn.never rfl (pi_tupK K rfl (pe_tup (pa_cons (pv 5) (pa_cons (pe_c c_l_table hr (by decide) rfl (pa_cons (pv 1) (pa_cons (pv 4) pa_nil))) (pa_cons (pe_c c_l_still hr (by decide) rfl (pa_cons (pv 4) pa_nil)) pa_nil))))) (pg_name (i := 7) sc_law.nd rfl (.inl rfl)) (pss_cons (ps_par (i := 8) (j := 9) rfl sc_law.nd rfl rfl (by decide) rfl rfl (pa_cons (pe_callB (call_reprN hg hr) (by rfl) T.repr boot_repr (pa_cons (pe_lstN (pa_cons (pv 3) (pa_cons (pv 7) pa_nil))) pa_nil)) (pa_cons (pe_callB (call_reprK K rfl hg hr) (by rfl) T.repr boot_repr (pa_cons (pe_c c_l_due hr (by decide) rfl (pa_cons (pv 4) (pa_cons (pv 7) pa_nil))) pa_nil)) pa_nil)) (by rfl))
      (pss_cons (ps_set (i := 10) sc_law.nd rfl (.inl rfl) (pe_lst (pa_cons (pe_c c_table_error hr (by decide) rfl (pa_cons (pv 3) (pa_cons (pv 7) pa_nil))) (pa_cons (pe_ck k_table_error_vm hr (by decide) rfl (pk_cons (pv 7) (pk_cons (pv 3) pk_nil))) pa_nil))))
      (pss_one (ps_if (PW.pt (pw_or (pt_cmpR (op_neDK K rfl hr.units) (pe_lc (own := [("own", 11)]) rfl sc_law.nd (pi_listK K rfl (pv 10)) (blkOk_by (N := sc_lawN) (sc := defScope s_law) (by decide +kernel)) (fun _ _ _ _ _ => (pg_name (i := 11) sc_law.nd rfl (by first | exact .inl rfl | exact .inr rfl))) (fun _ _ _ _ _ => pts_nil) (fun _ _ _ _ _ => (pe_callB (call_reprK K rfl hg hr) (by rfl) T.repr boot_repr (pa_cons (pv 11) pa_nil)))) (pe_lst (pa_cons (pv 9) (pa_cons (pv 9) pa_nil))) (nomark _)) (pw_or1 (pt_cmpR op_ne (pe_callB (call_reprN hg hr) (by rfl) T.repr boot_repr (pa_cons (pe_lstN (pa_cons (pv 3) (pa_cons (pv 7) pa_nil))) pa_nil)) (pv 8) (nomark _))))) (pss_one (ps_ret pe_bl)) pss_nil))))))))))))
      (pss_one (ps_ret pe_bl)))), ?_⟩
    refine ⟨_, rfl, sa, ns, rfl, hS, hlen, fun p q H1 P1 sm1 np nq => ?_⟩
    refine ⟨12, rfl, by decide, by decide, for_range (lo := 0) (n := 12) (fun _ σ H' => ∃ v2 v3 v4 v5 v6 v7 v8 v9 v10 : Option V, σ = [some (.ref sa), some (.ref p), v2, v3, v4, v5, v6, v7, v8, v9, v10, none] ∧ Pt H' p q)
      ⟨none, none, none, none, none, none, none, none, none, rfl, P1⟩ ?_ ?_⟩
    · rintro t σ H2 ht ⟨v2, v3, v4, v5, v6, v7, v8, v9, v10, rfl, P2⟩
      refine ⟨_, rfl, _, rfl, _, _, rfl, rfl, (by decide : (0 : Int) < 2), rfl, p, q, _, rfl, P2, fun mv ss ws H3 im ok P3 k3 => ?_⟩
      obtain ⟨a, xs, rfl, ha, ia⟩ := id im.tuple
      obtain ⟨b0, g0, is3⟩ := ia.get (i := 0) rfl
      obtain ⟨b, bs, rfl, hb, ib⟩ := id is3.tuple
      have ey := ib.ints
      subst ey
      have l6 := ok.six
      have l1 := ok.one
      refine ⟨_, rfl, a, _, 0, _, rfl, rfl, SqT.of ha, atI_nat (j := 0) g0, ?_⟩
      refine ⟨_, rfl, _, rfl, p, q, _, ss, rfl, P3, is3, ok.size, by omega, fun tv tt H4 itv tok P4 k4 => ?_⟩
      have t34 := k4.tk P3
      refine ⟨_, rfl, p, q, _, rfl, P4, by decide, by decide, fun r H5 r0 r1 P5 k5 => ⟨_, _, rfl, rfl, 1 + r, rfl, by omega, by omega, for_range (lo := 0) (n := (1 + r).toNat) (fun _ σ H' => ∃ (v : V) (d : PyData) (v6 : Option V), σ = [some (.ref sa), some (.ref p), some (.int (0 + (t : Int))), some (.ref a), some (.ref b), some v, v6, v7, v8, v9, v10, none] ∧ Dv (Np p q) H' v d ∧ Tab9 d ∧ Pt H' p q ∧ Tk H5 H') ⟨tv, _, v6, rfl, (itv.dg.k (Ks.kp k5 P4)).dv, tab9_t ok.size l6 tok, P5, Tk.refl H5⟩ ?_ ?_⟩⟩
      · rintro i σ H6 hi ⟨v, d, v6, rfl, dv, tb, P6, t56⟩
        have is6 := (is3.k (t34.trans (k5.tk P4))).k t56
        refine ⟨_, rfl, _, rfl, _, v, ss, d, rfl, is6, ok.size, l6, dv.any, tab9_len tb, fun u e H7 te imu s7 => ⟨rfl, _, rfl, ?_⟩⟩
        refine ite2 (fun hu => ?_) (fun hu => ⟨_, rfl, v, d, _, rfl, dv.k (Ks.same s7), tb, P6.same s7, t56.trans (Tk.same s7)⟩)
        have eu : u = V.non := of_decide_eq_true hu
        subst eu
        obtain ⟨rows, rfl, lr, ro⟩ := terr_none ok.size te imu.non_of
        refine ⟨_, rfl, _, rfl, _, rfl, p, q, _, v, ss, rows, rfl, P6.same s7, Same.k s7 is6, ok.size, by omega, l6, (dv.k (Ks.same s7)).tupleDg, lr, ro, fun u' d' H8 dv' tb' P8 k8 => ⟨u', d', _, rfl, dv', tb', P8, (t56.trans (Tk.same s7)).trans (k8.tk (P6.same s7))⟩⟩
      · rintro σ H6 ⟨v, d, v6, rfl, dv, tb, P6, t56⟩
        have t36 : Tk H3 H6 := (t34.trans (k5.tk P4)).trans t56
        dsimp only
        refine ifS_share (N := fun σ' H' => ∃ (v : V) (d : PyData), σ' = [some (.ref sa), some (.ref p), some (.int (0 + (t : Int))), some (.ref a), some (.ref b), some v, v6, v7, v8, v9, v10, none] ∧ Dv (Np p q) H' v d ∧ Tab9 d ∧ Pt H' p q ∧ Tk H3 H') (fun rest => ?_) ?_
        · refine ⟨_, rfl, _, _, rfl, rfl, (by decide : (0 : Int) < 4), rfl, _, rfl, ?_⟩
          refine ite2 (fun _ => ?_) (fun _ => iteF (rest _ _ ⟨v, d, rfl, dv, tb, P6, t36⟩))
          refine ⟨_, rfl, _, _, _, _, _, rfl, tyT, dv.ty, kit_tup K d, _, rfl, ?_⟩
          cases i1 : isT d with
          | false => exact iteF (iteF (rest _ _ ⟨v, d, rfl, dv, tb, P6, t36⟩))
          | true =>
          have t3 := t36
          have is6 := is3.k t3
          refine iteT ⟨_, rfl, _, rfl, _, v, ss, d, rfl, is6, ok.size, l6, dv.any, tab9_len tb, fun u e H7 te imu s7 => ⟨by show 2 ≤ sizeLine; decide, fun t1 n1 => ?_⟩⟩
          have eo := err9_ok (terr_mem l6 te)
          have s8 : Same H6 (upd H7 t1 (.tup [.non, .str "form"])) := Same.new s7 n1
          refine ⟨e, [.none, .str "form"], (imu.k ((Tk.refl H7).new (o := .tup [.non, .str "form"]) n1)).dp, .tup (SqT.of upd_same) (.cons .non (.cons (.str _) .nil)), by decide +kernel, eo.shaped, eo.mix, _, rfl, ?_⟩
          generalize upd H7 t1 (.tup [.non, .str "form"]) = H8 at *
          have P8 := P6.same s8
          have dv8 := dv.k (Ks.same s8)
          by_cases hc : countIn e [.none, .str "form"] = 0
          · refine iteNF (fun z => z hc) ?_
            obtain ⟨rows, rfl, lr, ro⟩ := terr_form te hc
            have r9 := tab9_rows tb
            have hb8 := s8 _ _ (t3 _ _ hb)
            refine ⟨_, rfl, _, rfl, b, _, rfl, .inr (SqT.of hb8), _, _, rfl, rfl, _, rfl, _, rfl, b, _, rfl, .inr (SqT.of hb8), p, q, _, rfl, P8, by rw [List.length_map]; omega, by rw [List.length_map]; omega, fun rj H9 j0 j1 P9 k9 => ?_⟩
            have hb9 := (k9.tk P8) _ _ hb8
            obtain ⟨lv, hlv, elv⟩ := atI_m1 (xs := ss.map V.int) (fun z => by have := congrArg List.length z; rw [List.length_map] at this; have : ss.length = 0 := this; omega)
            refine ⟨_, rfl, _, rfl, _, rfl, _, rfl, b, _, _, _, rfl, rfl, SqT.of hb9, elv, by show 3 ≤ sizeLine; decide, fun o no => ?_⟩
            obtain ⟨q1, q2⟩ := P9.np no
            refine ⟨p, q, o, _, rfl, P9.new no, upd_same, q1, q2, List.cons_ne_nil _ _, by show 3 < 1000; decide, fun w H10 hw P10 k10 => ?_⟩
            obtain ⟨sv, hsv, rfl⟩ := List.mem_map.mp hlv
            obtain ⟨sv2, sv3⟩ := (ok.size sv hsv).bnd
            have M : MenP (fun d => okA d = true) (Np p q) H9 [.int (-1), .bl true, .int sv] := .cons (d := .int (-1)) (.inl (.int _)) (okA_int (by decide)) (.cons (d := .bool true) (.inl (.bl _)) (by decide +kernel) (.cons (d := .int sv) (.inl (.int _)) (okA_int (by omega)) .nil))
            obtain ⟨x, dx, ox⟩ := fin_pick M P9 no k10 hw
            obtain ⟨j, rfl⟩ := len1 rj j0
            have k810 : Kp p q H8 H10 := Kp.trans k9 (Kp.trans ((Kp.refl p q _).new no) k10)
            have dg := (dv8.k (Ks.kp k810 P8)).tupleDg
            obtain ⟨lrow, hrow⟩ : ∃ r, rows[ss.length - 1]? = some r := ⟨rows[ss.length - 1]'(by omega), List.getElem?_eq_getElem _⟩
            obtain ⟨l, rfl, ll⟩ := ro _ (List.mem_of_getElem? hrow)
            have e1 : (((ss.map V.int).length : Nat) : Int) - 1 = ((ss.length - 1 : Nat) : Int) := by rw [List.length_map]; omega
            refine ⟨Np p q, v, w, rows, l, x, ss.length - 1, j, congrArg (fun z => [v, V.int z, V.int (j : Int), w]) e1, dg, by omega, hrow, by omega, r9, dx.dg (okG_iff.mp ox).1, ox, fun u2 d2 H11 dd td sA => ?_⟩
            exact rest _ _ ⟨u2, d2, rfl, .inl dd, td, P10.same sA, ((t3.trans (Tk.same s8)).trans (k810.tk P8)).trans (Tk.same sA)⟩
          · exact iteNS hc (rest _ _ ⟨v, d, rfl, dv8, tb, P8, t3.trans (Tk.same s8)⟩)
        · rintro σ' H7 ⟨v, d, rfl, dv, tb, P7, t37⟩
          have is7 := is3.k t37
          refine ⟨_, rfl, _, rfl, _, rfl, p, q, _, ss, rfl, P7, is7, ok.size, by omega, fun tv2 tt2 H8 itv2 tok2 P8 k8 => ?_⟩
          have is8 := is7.k (k8.tk P7)
          refine ⟨_, rfl, _, ss, rfl, is8, by omega, fun sv H9 isv s9 => ⟨by show 3 ≤ sizeLine; decide, fun tp ntp => ?_⟩⟩
          have sT : Same H9 (upd H9 tp (.tup [v, tv2, sv])) := Same.new (Same.refl H9) ntp
          have htp : (upd H9 tp (.tup [v, tv2, sv])) tp = some (.tup [v, tv2, sv]) := upd_same
          have M : MenP Tab9 (Np p q) (upd H9 tp (.tup [v, tv2, sv])) [v, tv2, sv] :=
            .cons (((dv.k (Ks.kp k8 P7)).k (Ks.same s9)).k (Ks.same sT)) tb (.cons ((itv2.dg.k (Ks.same s9)).k (Ks.same sT)).dv (tab9_t ok.size l6 tok2) (.cons ((isv.dg.k (Ks.same sT)).dv) (tab9_t ok.size l6 (TOk.still ok.size)) .nil))
          have t3T : Tk H3 (upd H9 tp (.tup [v, tv2, sv])) := (t37.trans (k8.tk P7)).trans (Tk.same (s9.trans sT))
          have PT := (P8.same s9).same sT
          generalize upd H9 tp (.tup [v, tv2, sv]) = HT at *
          have imT := im.k t3T
          have isT' := is3.k t3T
          refine ⟨tp, rfl, ⟨_, SqT.of htp⟩, for_tup (K := K) (a := tp) (xs := [v, tv2, sv]) (fun _ σ H' => ∃ v7 v8 v9 v10 : Option V, σ = [some (.ref sa), some (.ref p), some (.int (0 + (t : Int))), some (.ref a), some (.ref b), some v, v6, v7, v8, v9, v10, none] ∧ Same HT H')
            ⟨v7, v8, v9, v10, rfl, Same.refl HT⟩ (fun t σ H' _ ⟨_, _, _, _, _, z⟩ => SqT.of (z _ _ htp)) ?_ ?_⟩
          · rintro i y σ H10 hy ⟨v7, v8, v9, v10, rfl, sm⟩
            obtain ⟨d, dy, tb⟩ := (M.s sm) y (List.mem_of_getElem? hy)
            have im10 := Same.k sm imT
            have is10 := Same.k sm isT'
            refine ⟨_, rfl, _, rfl, by show 2 ≤ sizeLine; decide, fun l nl nls => ⟨l, _, _, _, d, rfl, nls, upd_same, (im10.k ((Tk.refl H10).new nl)).dg, flat_mach ss ws, (dy.k (Ks.same (Same.new (Same.refl H10) nl))).any, sh_tab9 ok tb, ?_⟩⟩
            have sL : Same H10 (upd H10 l (.lst [.ref a, y])) := Same.new (Same.refl H10) nl
            generalize upd H10 l (.lst [.ref a, y]) = H11 at *
            refine ⟨_, rfl, _, rfl, _, y, ss, d, rfl, Same.k sL is10, ok.size, l6, (dy.k (Ks.same sL)).any, tab9_len tb, fun u1 e J1 te im1 sm1 => ?_⟩
            have eo := err9_ok (terr_mem l6 te)
            refine ⟨u1, _, rfl, im1.dp, eo.sh, _, _, rfl, ?_⟩
            have sJ1 := sL.trans sm1
            refine ⟨_, rfl, _, rfl, _, y, ss, ws, d, rfl, Same.k sJ1 im10, ok, (dy.k (Ks.same sJ1)).any, tab9_len tb, fun u2 e2 J2 te2 im2 sm2 => ?_⟩
            cases te.det te2
            have sJ2 := sJ1.trans sm2
            refine ⟨_, rfl, _, rfl, _, y, ss, ws, d, rfl, Same.k sJ2 im10, ok, (dy.k (Ks.same sJ2)).any, tab9_len tb, fun u3 e3 J3 te3 im3 sm3 => ⟨by show 2 ≤ sizeLine; decide, fun l nl => ?_⟩⟩
            cases te.det te3
            have im2' := im2.k ((Tk.same sm3).new (o := .lst [u2, u3]) nl)
            have im3' := im3.k ((Tk.refl J3).new (o := .lst [u2, u3]) nl)
            have hl : (upd J3 l (.lst [u2, u3])) l = some (.lst [u2, u3]) := upd_same
            have sJ4 : Same H10 (upd J3 l (.lst [u2, u3])) := Same.new (sJ2.trans sm3) nl
            generalize upd J3 l (.lst [u2, u3]) = J4 at *
            refine ⟨_, rfl, l, rfl, ⟨_, SqL.of hl⟩, fun m nm => ?_⟩
            refine lc_list (K := K) (a := l) (xs := [u2, u3]) (fun j H' => Same J4 H' ∧ H' m = some (.lst (List.replicate j (V.str e.shown)))) ⟨Same.new (Same.refl J4) nm, upd_same⟩ (fun j H' _ z => SqL.of (z.1 _ _ hl)) ?_ ?_
            · rintro j y J5 hy ⟨sm5, hm⟩
              have jl : j < 2 := (List.getElem?_eq_some_iff.mp hy).1
              have imy : Im J5 y e := by
                match j, hy with
                | 0, hy =>
                  cases hy
                  exact im2'.k (Tk.same sm5)
                | 1, hy =>
                  cases hy
                  exact im3'.k (Tk.same sm5)
              refine ⟨rfl, _, rfl, y, _, rfl, imy.dp, eo.sh, _, hm, small1000 (by rw [List.length_replicate]; omega), Same.put sm5 nm, by rw [upd_same, List.replicate_succ']⟩
            rintro J5 ⟨sm5, hm⟩
            refine ⟨_, rfl, _, rfl, by show 2 ≤ sizeLine; decide, fun z nz => ⟨.list [.str _, .str _], .list [.str _, .str _], .lst (SqL.of (keepN hm nz)) (.cons (.str _) (.cons (.str _) .nil)), .lst (SqL.of upd_same) (.cons (.str _) (.cons (.str _) .nil)), two_shaped eo.str, two_shaped eo.str, _, rfl, ?_⟩⟩
            rw [two_eq]
            refine iteF ?_
            have sm6 : Same H10 (upd J5 z (.lst [.str e.shown, .str e.shown])) := sJ4.trans (Same.new sm5 nz)
            refine ⟨_, rfl, _, rfl, by show 2 ≤ sizeLine; decide, fun l2 nl2 nls2 => ⟨l2, _, _, _, d, rfl, nls2, upd_same, ((Same.k sm6 im10).k ((Tk.refl _).new nl2)).dg, flat_mach ss ws, ((dy.k (Ks.same sm6)).k (Ks.same (Same.new (Same.refl _) nl2))).any, sh_tab9 ok tb, _, rfl, rfl, _, rfl, iteNS rfl ⟨_, _, _, _, rfl, sm.trans (Same.new sm6 nl2)⟩⟩⟩
          · rintro σ H10 ⟨v7, v8, v9, v10, rfl, sm⟩
            exact ⟨_, _, _, _, _, _, _, _, _, rfl, PT.same sm⟩
    · rintro σ H2 ⟨v2, v3, v4, v5, v6, v7, v8, v9, v10, rfl, P2⟩
      exact k _

end
/-! ### what the top has written -/
theorem all_mk {l : PySem.W.OpenLaw} {w : World} {K : PySem.W.Frag} {h : Heap} {mg : Str → Option Value} {fa f1 f2 f3 f4 f5 f6 f7 f8 f9 f10 f11 f12 f13 f14 f15 f16 f17 f18 f19 f20 f21 f22 f23 : Addr} (X : K.In h) (G : h.Ns mainGlobals mg) (hfa : mg "law" = some (.ref fa))
    {od1 an1 od2 an2 od3 an3 od4 an4 od5 an5 od6 an6 od7 an7 od8 an8 od9 an9 od10 an10 od11 an11 od12 an12 od13 an13 od14 an14 od15 an15 od16 an16 od17 an17 od18 an18 od19 an19 od20 an20 od21 an21 od22 an22 od23 an23 : Option Addr} {sl1 sl2 sl3 sl4 sl5 sl6 sl7 sl8 sl9 sl10 sl11 sl12 sl13 sl14 sl15 sl16 sl17 sl18 sl19 sl20 sl21 sl22 sl23 : Array (Option Value)} {oc1 kV1 dc1 pm1 cd1 ct1 oc2 kV2 dc2 pm2 cd2 ct2 oc3 kV3 dc3 pm3 cd3 ct3 oc4 kV4 dc4 pm4 cd4 ct4 oc5 kV5 dc5 pm5 cd5 ct5 oc6 kV6 dc6 pm6 cd6 ct6 oc7 kV7 dc7 pm7 cd7 ct7 oc8 kV8 dc8 pm8 cd8 ct8 oc9 kV9 dc9 pm9 cd9 ct9 oc10 kV10 dc10 pm10 cd10 ct10 oc11 kV11 dc11 pm11 cd11 ct11 oc12 kV12 dc12 pm12 cd12 ct12 oc13 kV13 dc13 pm13 cd13 ct13 oc14 kV14 dc14 pm14 cd14 ct14 oc15 kV15 dc15 pm15 cd15 ct15 oc16 kV16 dc16 pm16 cd16 ct16 oc17 kV17 dc17 pm17 cd17 ct17 oc18 kV18 dc18 pm18 cd18 ct18 oc19 kV19 dc19 pm19 cd19 ct19 oc20 kV20 dc20 pm20 cd20 ct20 oc21 kV21 dc21 pm21 cd21 ct21 oc22 kV22 dc22 pm22 cd22 ct22 oc23 kV23 dc23 pm23 cd23 ct23 : Value}
    (a1 : PySem.W.nsIn K mainGlobals "is_an_integer" = some (some (.ref f1))) (l1 : K.lookup f1 = some ⟨oc1, od1, .func (PySem.W.fnOf "is_an_integer" "is_an_integer" (defArgs s_is_an_integer) (defBody s_is_an_integer) (defScope s_is_an_integer) .none kV1 dc1 pm1 an1 cd1 ct1), sl1⟩) (c1 : PySem.W.codeIn K cd1 "is_an_integer" = true) (k1 : PySem.W.keepIn K (.ref f1) = true)
    (a2 : PySem.W.nsIn K mainGlobals "is_below" = some (some (.ref f2))) (l2 : K.lookup f2 = some ⟨oc2, od2, .func (PySem.W.fnOf "is_below" "is_below" (defArgs s_is_below) (defBody s_is_below) (defScope s_is_below) .none kV2 dc2 pm2 an2 cd2 ct2), sl2⟩) (c2 : PySem.W.codeIn K cd2 "is_below" = true) (k2 : PySem.W.keepIn K (.ref f2) = true)
    (a3 : PySem.W.nsIn K mainGlobals "step" = some (some (.ref f3))) (l3 : K.lookup f3 = some ⟨oc3, od3, .func (PySem.W.fnOf "step" "step" (defArgs s_step) (defBody s_step) (defScope s_step) .none kV3 dc3 pm3 an3 cd3 ct3), sl3⟩) (c3 : PySem.W.codeIn K cd3 "step" = true) (k3 : PySem.W.keepIn K (.ref f3) = true)
    (a4 : PySem.W.nsIn K mainGlobals "table_error" = some (some (.ref f4))) (l4 : K.lookup f4 = some ⟨oc4, od4, .func (PySem.W.fnOf "table_error" "table_error" (defArgs s_table_error) (defBody s_table_error) (defScope s_table_error) .none kV4 dc4 pm4 an4 cd4 ct4), sl4⟩) (c4 : PySem.W.codeIn K cd4 "table_error" = true) (k4 : PySem.W.keepIn K (.ref f4) = true)
    (a5 : PySem.W.nsIn K mainGlobals "entry_error" = some (some (.ref f5))) (l5 : K.lookup f5 = some ⟨oc5, od5, .func (PySem.W.fnOf "entry_error" "entry_error" (defArgs s_entry_error) (defBody s_entry_error) (defScope s_entry_error) .none kV5 dc5 pm5 an5 cd5 ct5), sl5⟩) (c5 : PySem.W.codeIn K cd5 "entry_error" = true) (k5 : PySem.W.keepIn K (.ref f5) = true)
    (a6 : PySem.W.nsIn K mainGlobals "is_row" = some (some (.ref f6))) (l6 : K.lookup f6 = some ⟨oc6, od6, .func (PySem.W.fnOf "is_row" "is_row" (defArgs s_is_row) (defBody s_is_row) (defScope s_is_row) .none kV6 dc6 pm6 an6 cd6 ct6), sl6⟩) (c6 : PySem.W.codeIn K cd6 "is_row" = true) (k6 : PySem.W.keepIn K (.ref f6) = true)
    (a7 : PySem.W.nsIn K mainGlobals "is_entry" = some (some (.ref f7))) (l7 : K.lookup f7 = some ⟨oc7, od7, .func (PySem.W.fnOf "is_entry" "is_entry" (defArgs s_is_entry) (defBody s_is_entry) (defScope s_is_entry) .none kV7 dc7 pm7 an7 cd7 ct7), sl7⟩) (c7 : PySem.W.codeIn K cd7 "is_entry" = true) (k7 : PySem.W.keepIn K (.ref f7) = true)
    (a8 : PySem.W.nsIn K mainGlobals "_law_pot" = some (some (.ref f8))) (l8 : K.lookup f8 = some ⟨oc8, od8, .func (PySem.W.fnOf "_law_pot" "_law_pot" (defArgs s_l_pot) (defBody s_l_pot) (defScope s_l_pot) .none kV8 dc8 pm8 an8 cd8 ct8), sl8⟩) (c8 : PySem.W.codeIn K cd8 "_law_pot" = true) (k8 : PySem.W.keepIn K (.ref f8) = true)
    (a9 : PySem.W.nsIn K mainGlobals "_law_dip" = some (some (.ref f9))) (l9 : K.lookup f9 = some ⟨oc9, od9, .func (PySem.W.fnOf "_law_dip" "_law_dip" (defArgs s_l_dip) (defBody s_l_dip) (defScope s_l_dip) .none kV9 dc9 pm9 an9 cd9 ct9), sl9⟩) (c9 : PySem.W.codeIn K cd9 "_law_dip" = true) (k9 : PySem.W.keepIn K (.ref f9) = true)
    (a10 : PySem.W.nsIn K mainGlobals "_law_pick" = some (some (.ref f10))) (l10 : K.lookup f10 = some ⟨oc10, od10, .func (PySem.W.fnOf "_law_pick" "_law_pick" (defArgs s_l_pick) (defBody s_l_pick) (defScope s_l_pick) .none kV10 dc10 pm10 an10 cd10 ct10), sl10⟩) (c10 : PySem.W.codeIn K cd10 "_law_pick" = true) (k10 : PySem.W.keepIn K (.ref f10) = true)
    (a11 : PySem.W.nsIn K mainGlobals "_law_primes" = some (some (.ref f11))) (l11 : K.lookup f11 = some ⟨oc11, od11, .func (PySem.W.fnOf "_law_primes" "_law_primes" (defArgs s_l_primes) (defBody s_l_primes) (defScope s_l_primes) .none kV11 dc11 pm11 an11 cd11 ct11), sl11⟩) (c11 : PySem.W.codeIn K cd11 "_law_primes" = true) (k11 : PySem.W.keepIn K (.ref f11) = true)
    (a12 : PySem.W.nsIn K mainGlobals "_law_common" = some (some (.ref f12))) (l12 : K.lookup f12 = some ⟨oc12, od12, .func (PySem.W.fnOf "_law_common" "_law_common" (defArgs s_l_common) (defBody s_l_common) (defScope s_l_common) .none kV12 dc12 pm12 an12 cd12 ct12), sl12⟩) (c12 : PySem.W.codeIn K cd12 "_law_common" = true) (k12 : PySem.W.keepIn K (.ref f12) = true)
    (a13 : PySem.W.nsIn K mainGlobals "_law_step" = some (some (.ref f13))) (l13 : K.lookup f13 = some ⟨oc13, od13, .func (PySem.W.fnOf "_law_step" "_law_step" (defArgs s_l_step) (defBody s_l_step) (defScope s_l_step) .none kV13 dc13 pm13 an13 cd13 ct13), sl13⟩) (c13 : PySem.W.codeIn K cd13 "_law_step" = true) (k13 : PySem.W.keepIn K (.ref f13) = true)
    (a14 : PySem.W.nsIn K mainGlobals "_law_great" = some (some (.ref f14))) (l14 : K.lookup f14 = some ⟨oc14, od14, .func (PySem.W.fnOf "_law_great" "_law_great" (defArgs s_l_great) (defBody s_l_great) (defScope s_l_great) .none kV14 dc14 pm14 an14 cd14 ct14), sl14⟩) (c14 : PySem.W.codeIn K cd14 "_law_great" = true) (k14 : PySem.W.keepIn K (.ref f14) = true)
    (a15 : PySem.W.nsIn K mainGlobals "_law_sizes" = some (some (.ref f15))) (l15 : K.lookup f15 = some ⟨oc15, od15, .func (PySem.W.fnOf "_law_sizes" "_law_sizes" (defArgs s_l_sizes) (defBody s_l_sizes) (defScope s_l_sizes) .none kV15 dc15 pm15 an15 cd15 ct15), sl15⟩) (c15 : PySem.W.codeIn K cd15 "_law_sizes" = true) (k15 : PySem.W.keepIn K (.ref f15) = true)
    (a16 : PySem.W.nsIn K mainGlobals "_law_wires" = some (some (.ref f16))) (l16 : K.lookup f16 = some ⟨oc16, od16, .func (PySem.W.fnOf "_law_wires" "_law_wires" (defArgs s_l_wires) (defBody s_l_wires) (defScope s_l_wires) .none kV16 dc16 pm16 an16 cd16 ct16), sl16⟩) (c16 : PySem.W.codeIn K cd16 "_law_wires" = true) (k16 : PySem.W.keepIn K (.ref f16) = true)
    (a17 : PySem.W.nsIn K mainGlobals "_law_machine" = some (some (.ref f17))) (l17 : K.lookup f17 = some ⟨oc17, od17, .func (PySem.W.fnOf "_law_machine" "_law_machine" (defArgs s_l_machine) (defBody s_l_machine) (defScope s_l_machine) .none kV17 dc17 pm17 an17 cd17 ct17), sl17⟩) (c17 : PySem.W.codeIn K cd17 "_law_machine" = true) (k17 : PySem.W.keepIn K (.ref f17) = true)
    (a18 : PySem.W.nsIn K mainGlobals "_law_table" = some (some (.ref f18))) (l18 : K.lookup f18 = some ⟨oc18, od18, .func (PySem.W.fnOf "_law_table" "_law_table" (defArgs s_l_table) (defBody s_l_table) (defScope s_l_table) .none kV18 dc18 pm18 an18 cd18 ct18), sl18⟩) (c18 : PySem.W.codeIn K cd18 "_law_table" = true) (k18 : PySem.W.keepIn K (.ref f18) = true)
    (a19 : PySem.W.nsIn K mainGlobals "_law_still" = some (some (.ref f19))) (l19 : K.lookup f19 = some ⟨oc19, od19, .func (PySem.W.fnOf "_law_still" "_law_still" (defArgs s_l_still) (defBody s_l_still) (defScope s_l_still) .none kV19 dc19 pm19 an19 cd19 ct19), sl19⟩) (c19 : PySem.W.codeIn K cd19 "_law_still" = true) (k19 : PySem.W.keepIn K (.ref f19) = true)
    (a20 : PySem.W.nsIn K mainGlobals "_law_due" = some (some (.ref f20))) (l20 : K.lookup f20 = some ⟨oc20, od20, .func (PySem.W.fnOf "_law_due" "_law_due" (defArgs s_l_due) (defBody s_l_due) (defScope s_l_due) .none kV20 dc20 pm20 an20 cd20 ct20), sl20⟩) (c20 : PySem.W.codeIn K cd20 "_law_due" = true) (k20 : PySem.W.keepIn K (.ref f20) = true)
    (a21 : PySem.W.nsIn K mainGlobals "_law_with" = some (some (.ref f21))) (l21 : K.lookup f21 = some ⟨oc21, od21, .func (PySem.W.fnOf "_law_with" "_law_with" (defArgs s_l_with) (defBody s_l_with) (defScope s_l_with) .none kV21 dc21 pm21 an21 cd21 ct21), sl21⟩) (c21 : PySem.W.codeIn K cd21 "_law_with" = true) (k21 : PySem.W.keepIn K (.ref f21) = true)
    (a22 : PySem.W.nsIn K mainGlobals "_law_spoilt" = some (some (.ref f22))) (l22 : K.lookup f22 = some ⟨oc22, od22, .func (PySem.W.fnOf "_law_spoilt" "_law_spoilt" (defArgs s_l_spoilt) (defBody s_l_spoilt) (defScope s_l_spoilt) .none kV22 dc22 pm22 an22 cd22 ct22), sl22⟩) (c22 : PySem.W.codeIn K cd22 "_law_spoilt" = true) (k22 : PySem.W.keepIn K (.ref f22) = true)
    (a23 : PySem.W.nsIn K mainGlobals "law" = some (some (.ref f23))) (l23 : K.lookup f23 = some ⟨oc23, od23, .func (PySem.W.fnOf "law" "law" (defArgs s_law) (defBody s_law) (defScope s_law) .none kV23 dc23 pm23 an23 cd23 ct23), sl23⟩) (c23 : PySem.W.codeIn K cd23 "law" = true) (k23 : PySem.W.keepIn K (.ref f23) = true)
    (z_len : PySem.W.nsIn K mainGlobals "len" = some none)
    (z_int : PySem.W.nsIn K mainGlobals "int" = some none)
    (z_max : PySem.W.nsIn K mainGlobals "max" = some none)
    (z_min : PySem.W.nsIn K mainGlobals "min" = some none)
    (z_tuple : PySem.W.nsIn K mainGlobals "tuple" = some none)
    (z_list : PySem.W.nsIn K mainGlobals "list" = some none)
    (z_range : PySem.W.nsIn K mainGlobals "range" = some none)
    (z_any : PySem.W.nsIn K mainGlobals "any" = some none)
    (z_all : PySem.W.nsIn K mainGlobals "all" = some none)
    (z_repr : PySem.W.nsIn K mainGlobals "repr" = some none)
    (z_enumerate : PySem.W.nsIn K mainGlobals "enumerate" = some none)
    (z_isinstance : PySem.W.nsIn K mainGlobals "isinstance" = some none)
    (z_bool : PySem.W.nsIn K mainGlobals "bool" = some none)
    (g_gcd : PySem.W.nsIn K mainGlobals "gcd" = some (some (.builtin "math.gcd"))) :
    ∃ fd : FuncData, (∀ (s : Shared) (v : Value), BindsTo s fd ⟨[v], []⟩ [("script", v)]) ∧ ∀ base : Heap, K.In base → base.Ns mainGlobals mg → GFn l.prog w K mg base 6 fa fd ["script"] (spLaw K) := by
  have e := hfa.symm.trans (PySem.W.mg_of X G a23)
  cases e
  have T : Blt mg := ⟨PySem.W.mg_none_of X G z_len, PySem.W.mg_none_of X G z_int, PySem.W.mg_none_of X G z_max, PySem.W.mg_none_of X G z_min, PySem.W.mg_none_of X G z_tuple, PySem.W.mg_none_of X G z_list, PySem.W.mg_none_of X G z_range, PySem.W.mg_none_of X G z_any, PySem.W.mg_none_of X G z_all, PySem.W.mg_none_of X G z_repr, PySem.W.mg_none_of X G z_enumerate, PySem.W.mg_none_of X G z_isinstance, PySem.W.mg_none_of X G z_bool⟩
  have F1 := fun_mk (st := s_is_an_integer) l1 c1 k1
  have D_is_an_integer : DefAt K mg "is_an_integer" s_is_an_integer ["value"] f1 _ := ⟨F1, PySem.W.mg_of X G a1, F1.binds (ps := ["value"]) fun _ _ _ _ _ _ us hl => match us, hl with | [_], _ => rfl⟩
  have F2 := fun_mk (st := s_is_below) l2 c2 k2
  have D_is_below : DefAt K mg "is_below" s_is_below ["value", "bound"] f2 _ := ⟨F2, PySem.W.mg_of X G a2, F2.binds (ps := ["value", "bound"]) fun _ _ _ _ _ _ us hl => match us, hl with | [_, _], _ => rfl⟩
  have F3 := fun_mk (st := s_step) l3 c3 k3
  have D_step : DefAt K mg "step" s_step ["machine", "j", "i"] f3 _ := ⟨F3, PySem.W.mg_of X G a3, F3.binds (ps := ["machine", "j", "i"]) fun _ _ _ _ _ _ us hl => match us, hl with | [_, _, _], _ => rfl⟩
  have F4 := fun_mk (st := s_table_error) l4 c4 k4
  have D_table_error : DefAt K mg "table_error" s_table_error ["machine", "value"] f4 _ := ⟨F4, PySem.W.mg_of X G a4, F4.binds (ps := ["machine", "value"]) fun _ _ _ _ _ _ us hl => match us, hl with | [_, _], _ => rfl⟩
  have F5 := fun_mk (st := s_entry_error) l5 c5 k5
  have D_entry_error : DefAt K mg "entry_error" s_entry_error ["machine", "rows"] f5 _ := ⟨F5, PySem.W.mg_of X G a5, F5.binds (ps := ["machine", "rows"]) fun _ _ _ _ _ _ us hl => match us, hl with | [_, _], _ => rfl⟩
  have F6 := fun_mk (st := s_is_row) l6 c6 k6
  have D_is_row : DefAt K mg "is_row" s_is_row ["value", "many"] f6 _ := ⟨F6, PySem.W.mg_of X G a6, F6.binds (ps := ["value", "many"]) fun _ _ _ _ _ _ us hl => match us, hl with | [_, _], _ => rfl⟩
  have F7 := fun_mk (st := s_is_entry) l7 c7 k7
  have D_is_entry : DefAt K mg "is_entry" s_is_entry ["machine", "i", "j", "value"] f7 _ := ⟨F7, PySem.W.mg_of X G a7, F7.binds (ps := ["machine", "i", "j", "value"]) fun _ _ _ _ _ _ us hl => match us, hl with | [_, _, _, _], _ => rfl⟩
  have F8 := fun_mk (st := s_l_pot) l8 c8 k8
  have D_l_pot : DefAt K mg "_law_pot" s_l_pot ["script"] f8 _ := ⟨F8, PySem.W.mg_of X G a8, F8.binds (ps := ["script"]) fun _ _ _ _ _ _ us hl => match us, hl with | [_], _ => rfl⟩
  have F9 := fun_mk (st := s_l_dip) l9 c9 k9
  have D_l_dip : DefAt K mg "_law_dip" s_l_dip ["pot", "size"] f9 _ := ⟨F9, PySem.W.mg_of X G a9, F9.binds (ps := ["pot", "size"]) fun _ _ _ _ _ _ us hl => match us, hl with | [_, _], _ => rfl⟩
  have F10 := fun_mk (st := s_l_pick) l10 c10 k10
  have D_l_pick : DefAt K mg "_law_pick" s_l_pick ["pot", "items"] f10 _ := ⟨F10, PySem.W.mg_of X G a10, F10.binds (ps := ["pot", "items"]) fun _ _ _ _ _ _ us hl => match us, hl with | [_, _], _ => rfl⟩
  have F11 := fun_mk (st := s_l_primes) l11 c11 k11
  have D_l_primes : DefAt K mg "_law_primes" s_l_primes [] f11 _ := ⟨F11, PySem.W.mg_of X G a11, F11.binds (ps := []) fun _ _ _ _ _ _ us hl => match us, hl with | [], _ => rfl⟩
  have F12 := fun_mk (st := s_l_common) l12 c12 k12
  have D_l_common : DefAt K mg "_law_common" s_l_common ["one", "other"] f12 _ := ⟨F12, PySem.W.mg_of X G a12, F12.binds (ps := ["one", "other"]) fun _ _ _ _ _ _ us hl => match us, hl with | [_, _], _ => rfl⟩
  have F13 := fun_mk (st := s_l_step) l13 c13 k13
  have D_l_step : DefAt K mg "_law_step" s_l_step ["sizes", "j", "i"] f13 _ := ⟨F13, PySem.W.mg_of X G a13, F13.binds (ps := ["sizes", "j", "i"]) fun _ _ _ _ _ _ us hl => match us, hl with | [_, _, _], _ => rfl⟩
  have F14 := fun_mk (st := s_l_great) l14 c14 k14
  have D_l_great : DefAt K mg "_law_great" s_l_great ["pot"] f14 _ := ⟨F14, PySem.W.mg_of X G a14, F14.binds (ps := ["pot"]) fun _ _ _ _ _ _ us hl => match us, hl with | [_], _ => rfl⟩
  have F15 := fun_mk (st := s_l_sizes) l15 c15 k15
  have D_l_sizes : DefAt K mg "_law_sizes" s_l_sizes ["pot", "is_great"] f15 _ := ⟨F15, PySem.W.mg_of X G a15, F15.binds (ps := ["pot", "is_great"]) fun _ _ _ _ _ _ us hl => match us, hl with | [_, _], _ => rfl⟩
  have F16 := fun_mk (st := s_l_wires) l16 c16 k16
  have D_l_wires : DefAt K mg "_law_wires" s_l_wires ["pot", "many"] f16 _ := ⟨F16, PySem.W.mg_of X G a16, F16.binds (ps := ["pot", "many"]) fun _ _ _ _ _ _ us hl => match us, hl with | [_, _], _ => rfl⟩
  have F17 := fun_mk (st := s_l_machine) l17 c17 k17
  have D_l_machine : DefAt K mg "_law_machine" s_l_machine ["pot", "is_great"] f17 _ := ⟨F17, PySem.W.mg_of X G a17, F17.binds (ps := ["pot", "is_great"]) fun _ _ _ _ _ _ us hl => match us, hl with | [_, _], _ => rfl⟩
  have F18 := fun_mk (st := s_l_table) l18 c18 k18
  have D_l_table : DefAt K mg "_law_table" s_l_table ["pot", "sizes"] f18 _ := ⟨F18, PySem.W.mg_of X G a18, F18.binds (ps := ["pot", "sizes"]) fun _ _ _ _ _ _ us hl => match us, hl with | [_, _], _ => rfl⟩
  have F19 := fun_mk (st := s_l_still) l19 c19 k19
  have D_l_still : DefAt K mg "_law_still" s_l_still ["sizes"] f19 _ := ⟨F19, PySem.W.mg_of X G a19, F19.binds (ps := ["sizes"]) fun _ _ _ _ _ _ us hl => match us, hl with | [_], _ => rfl⟩
  have F20 := fun_mk (st := s_l_due) l20 c20 k20
  have D_l_due : DefAt K mg "_law_due" s_l_due ["sizes", "value"] f20 _ := ⟨F20, PySem.W.mg_of X G a20, F20.binds (ps := ["sizes", "value"]) fun _ _ _ _ _ _ us hl => match us, hl with | [_, _], _ => rfl⟩
  have F21 := fun_mk (st := s_l_with) l21 c21 k21
  have D_l_with : DefAt K mg "_law_with" s_l_with ["table", "i", "j", "item"] f21 _ := ⟨F21, PySem.W.mg_of X G a21, F21.binds (ps := ["table", "i", "j", "item"]) fun _ _ _ _ _ _ us hl => match us, hl with | [_, _, _, _], _ => rfl⟩
  have F22 := fun_mk (st := s_l_spoilt) l22 c22 k22
  have D_l_spoilt : DefAt K mg "_law_spoilt" s_l_spoilt ["pot", "sizes", "table"] f22 _ := ⟨F22, PySem.W.mg_of X G a22, F22.binds (ps := ["pot", "sizes", "table"]) fun _ _ _ _ _ _ us hl => match us, hl with | [_, _, _], _ => rfl⟩
  have F23 := fun_mk (st := s_law) l23 c23 k23
  refine ⟨PySem.W.fnOf "law" "law" (defArgs s_law) (defBody s_law) (defScope s_law) .none kV23 dc23 pm23 an23 cd23 ct23, fun s v => .of_eq rfl, fun base _ _ => ?_⟩
  have c_dipW := ok_dipW (P := l.prog) (w := w) (base := base) D_l_dip T
  have c_dip := Cal.weak c_dipW (fun _ _ _ _ h => dip_of h)
  have c_pickA := ok_pickA D_l_pick T c_dip
  have c_pick := Cal.weak c_pickA (fun _ _ _ _ h => pick_of h)
  have c_primes := ok_primes (P := l.prog) (w := w) (base := base) D_l_primes
  have c_common := ok_common (P := l.prog) (w := w) (base := base) D_l_common
  have c_great := ok_great D_l_great T c_dip c_pick c_primes
  have c_sizes := ok_sizes D_l_sizes T c_dip c_pick c_great
  have c_wires := ok_wires D_l_wires T c_dip c_pick
  have c_machine := ok_machine D_l_machine T c_sizes c_wires
  have c_pot := ok_pot (P := l.prog) (w := w) (base := base) D_l_pot T
  have c_lstep := ok_lstep D_l_step c_common
  have c_int := ok_isint (P := l.prog) (w := w) (base := base) D_is_an_integer T
  have c_below := ok_isbelow D_is_below c_int
  have f_step := fn_step (P := l.prog) (w := w) (base := base) D_step (PySem.W.mg_of X G g_gcd)
  have c_isrow := ok_isrow (P := l.prog) (w := w) (base := base) D_is_row T
  have c_isent := ok_isent D_is_entry T c_below (Cal.of D_step f_step)
  have c_ents := ok_ents D_entry_error T c_isent
  have f_terr := fn_terr D_table_error T c_isrow c_ents
  have c_ltable := ok_table D_l_table T c_dipW c_pick c_lstep
  have c_lstill := ok_still (P := l.prog) (w := w) (base := base) D_l_still T
  have c_due := ok_due D_l_due T c_lstep
  have c_with := ok_with (P := l.prog) (w := w) (base := base) D_l_with T
  have c_spoil := ok_spoil D_l_spoilt T c_dip c_pick c_lstep c_with
  exact ok_law F23 T c_pot c_dip c_pick c_machine c_ltable c_lstill c_due c_spoil c_with (Cal.of D_table_error f_terr) (CalK.of D_table_error f_terr (k_terr D_table_error.fn))
end NA
open PySem PySem.W PyProof.Rows in
set_option maxRecDepth 100000 in
set_option maxHeartbeats 0 in
theorem PySem.Challenge.cw_narrowadds_k09_what_is_a_table_holds : PySem.Challenge.rw_narrowadds_k09_what_is_a_table.Holds := by
  w_on; o_law; k_head; (case hw => w_witness2)
  k_fill
  refine NA.walkG (l := PySem.Challenge.rw_narrowadds_k09_what_is_a_table) (n := 63) (k := 6) (x := "script") (sp := NA.spLaw) rfl (by decide) rfl ⟨rfl, by decide, by decide⟩ (fun w h Y => PySem.W.kIn_of Y) ?F (fun _ _ a ns hl _ hS => ⟨a, ns, rfl, hS, hl, fun _ => rfl⟩)
  case F =>
    intro w mg fa h KX G hmg
    refine' NA.all_mk KX G hmg ?a1 ?l1 ?c1 ?k1 ?a2 ?l2 ?c2 ?k2 ?a3 ?l3 ?c3 ?k3 ?a4 ?l4 ?c4 ?k4 ?a5 ?l5 ?c5 ?k5 ?a6 ?l6 ?c6 ?k6 ?a7 ?l7 ?c7 ?k7 ?a8 ?l8 ?c8 ?k8 ?a9 ?l9 ?c9 ?k9 ?a10 ?l10 ?c10 ?k10 ?a11 ?l11 ?c11 ?k11 ?a12 ?l12 ?c12 ?k12 ?a13 ?l13 ?c13 ?k13 ?a14 ?l14 ?c14 ?k14 ?a15 ?l15 ?c15 ?k15 ?a16 ?l16 ?c16 ?k16 ?a17 ?l17 ?c17 ?k17 ?a18 ?l18 ?c18 ?k18 ?a19 ?l19 ?c19 ?k19 ?a20 ?l20 ?c20 ?k20 ?a21 ?l21 ?c21 ?k21 ?a22 ?l22 ?c22 ?k22 ?a23 ?l23 ?c23 ?k23 ?z_len ?z_int ?z_max ?z_min ?z_tuple ?z_list ?z_range ?z_any ?z_all ?z_repr ?z_enumerate ?z_isinstance ?z_bool ?g_gcd
    (case a1 => k_is)
    (case l1 => k_is)
    (case c1 => k_is)
    (case k1 => k_is)
    (case a2 => k_is)
    (case l2 => k_is)
    (case c2 => k_is)
    (case k2 => k_is)
    (case a3 => k_is)
    (case l3 => k_is)
    (case c3 => k_is)
    (case k3 => k_is)
    (case a4 => k_is)
    (case l4 => k_is)
    (case c4 => k_is)
    (case k4 => k_is)
    (case a5 => k_is)
    (case l5 => k_is)
    (case c5 => k_is)
    (case k5 => k_is)
    (case a6 => k_is)
    (case l6 => k_is)
    (case c6 => k_is)
    (case k6 => k_is)
    (case a7 => k_is)
    (case l7 => k_is)
    (case c7 => k_is)
    (case k7 => k_is)
    (case a8 => k_is)
    (case l8 => k_is)
    (case c8 => k_is)
    (case k8 => k_is)
    (case a9 => k_is)
    (case l9 => k_is)
    (case c9 => k_is)
    (case k9 => k_is)
    (case a10 => k_is)
    (case l10 => k_is)
    (case c10 => k_is)
    (case k10 => k_is)
    (case a11 => k_is)
    (case l11 => k_is)
    (case c11 => k_is)
    (case k11 => k_is)
    (case a12 => k_is)
    (case l12 => k_is)
    (case c12 => k_is)
    (case k12 => k_is)
    (case a13 => k_is)
    (case l13 => k_is)
    (case c13 => k_is)
    (case k13 => k_is)
    (case a14 => k_is)
    (case l14 => k_is)
    (case c14 => k_is)
    (case k14 => k_is)
    (case a15 => k_is)
    (case l15 => k_is)
    (case c15 => k_is)
    (case k15 => k_is)
    (case a16 => k_is)
    (case l16 => k_is)
    (case c16 => k_is)
    (case k16 => k_is)
    (case a17 => k_is)
    (case l17 => k_is)
    (case c17 => k_is)
    (case k17 => k_is)
    (case a18 => k_is)
    (case l18 => k_is)
    (case c18 => k_is)
    (case k18 => k_is)
    (case a19 => k_is)
    (case l19 => k_is)
    (case c19 => k_is)
    (case k19 => k_is)
    (case a20 => k_is)
    (case l20 => k_is)
    (case c20 => k_is)
    (case k20 => k_is)
    (case a21 => k_is)
    (case l21 => k_is)
    (case c21 => k_is)
    (case k21 => k_is)
    (case a22 => k_is)
    (case l22 => k_is)
    (case c22 => k_is)
    (case k22 => k_is)
    (case a23 => k_is)
    (case l23 => k_is)
    (case c23 => k_is)
    (case k23 => k_is)
    (case z_len => k_is)
    (case z_int => k_is)
    (case z_max => k_is)
    (case z_min => k_is)
    (case z_tuple => k_is)
    (case z_list => k_is)
    (case z_range => k_is)
    (case z_any => k_is)
    (case z_all => k_is)
    (case z_repr => k_is)
    (case z_enumerate => k_is)
    (case z_isinstance => k_is)
    (case z_bool => k_is)
    (case g_gcd => k_is)
