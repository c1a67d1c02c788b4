import PyProof.Rows.All
import Wide.All
import OpenK.AllK
import Wide.FinOn
import HandS.ForMost
import HandS.Codes
import HandS.Wide
import HandS.WideMore
import HandS.Gcd
import HandS.Walk
import HandS.Style
import HandS.Conv
import HandS.IsInst
import HandS.SetIn
import HandS.TupLe
import HandS.TupAny
import HandS.TupMul
import HandS.Zip
import HandS.Star
import HandS.ListItems
import HandS.Sort
import HandS.TryOnly
import HandS.TupLen
import PyProof.Rows.ReprOcc
import KE.GoesZip
import PyProof.CollectWalk
import PyProof.ListNew
import PyProof.MeetsSeq2
import PyProof.WalkInts
import KE.GoesMore
import KE.GoesEnum
import KE.KSetDisp
import PySem.Challenge.RW_narrowadds_k06_whole_runs_by_any_integer
set_option Elab.async false
set_option linter.all false
set_option maxRecDepth 100000
set_option maxHeartbeats 2000000
set_option exponentiation.threshold 5000
/-! the mathematics of sizes: primes to 97, how often they divide -/
namespace NA
def PRn : List Nat := [2, 3, 5, 7, 11, 13, 17, 19, 23, 29, 31, 37, 41, 43, 47, 53, 59, 61, 67, 71, 73, 79, 83, 89, 97]
inductive Smo : Nat → Prop
  | one : Smo 1
  | mul {p n : Nat} : p ∈ PRn → Smo n → Smo (p * n)
theorem PRn_two {p : Nat} (h : p ∈ PRn) : 2 ≤ p := by
  have e : PRn.all (fun p => decide (2 ≤ p)) = true := by decide
  exact of_decide_eq_true (List.all_eq_true.mp e p h)
theorem PRn_le {p : Nat} (h : p ∈ PRn) : p ≤ 97 := by
  have e : PRn.all (fun p => decide (p ≤ 97)) = true := by decide
  exact of_decide_eq_true (List.all_eq_true.mp e p h)
theorem Smo.pos {n : Nat} (h : Smo n) : 0 < n := by
  induction h with
  | one => decide
  | mul hp _ ih => exact Nat.mul_pos (Nat.lt_of_lt_of_le (by decide) (PRn_two hp)) ih
theorem Smo.mulr {p n : Nat} (hp : p ∈ PRn) (h : Smo n) : Smo (n * p) := by
  rw [Nat.mul_comm]
  exact .mul hp h
def stripN (p : Nat) : Nat → Nat → Nat
  | 0, n => n
  | f + 1, n => if n % p = 0 then stripN p f (n / p) else n
theorem stripN_smo {p : Nat} (hp : p ∈ PRn) : ∀ (f n : Nat), Smo (stripN p f n) → Smo n
  | 0, _, h => h
  | f + 1, n, h => by
    unfold stripN at h
    by_cases e : n % p = 0
    · rw [if_pos e] at h
      have h1 := stripN_smo hp f (n / p) h
      have h2 : n = p * (n / p) := by
        have := Nat.div_add_mod n p
        omega
      rw [h2]
      exact .mul hp h1
    · rw [if_neg e] at h
      exact h
def smoB (n : Nat) : Bool := PRn.foldl (fun n p => stripN p 110 n) n == 1
theorem foldl_smo : ∀ (l : List Nat), (∀ p ∈ l, p ∈ PRn) → ∀ n, Smo (l.foldl (fun n p => stripN p 110 n) n) → Smo n
  | [], _, _, h => h
  | p :: l, hl, n, h => stripN_smo (hl p List.mem_cons_self) 110 n (foldl_smo l (fun q hq => hl q (List.mem_cons_of_mem _ hq)) _ h)
theorem smo_of {n : Nat} (h : smoB n = true) : Smo n := by
  refine foldl_smo PRn (fun _ h => h) n ?_
  rw [show List.foldl (fun n p => stripN p 110 n) n PRn = 1 from eq_of_beq h]
  exact .one
def SizeOk (n : Int) : Prop := ∃ m : Nat, n = m ∧ 2 ≤ m ∧ m ≤ 10 ^ 30 ∧ Smo m
def wlt (a b : Nat × Nat) : Prop := a.1 < b.1 ∨ (a.1 = b.1 ∧ a.2 < b.2)
/-- wires of a machine of many registers -/
structure WOk (many : Nat) (ws : List (Nat × Nat)) : Prop where
  asc : ws.Pairwise wlt
  low : ∀ w ∈ ws, w.1 < many ∧ w.2 < many ∧ w.1 ≠ w.2
structure MOk (ss : List Int) (ws : List (Nat × Nat)) : Prop where
  one : 1 ≤ ss.length
  six : ss.length ≤ 6
  size : ∀ s ∈ ss, SizeOk s
  wires : WOk ss.length ws
end NA
namespace NA
def val (p n : Nat) : Nat := if h : 2 ≤ p ∧ 0 < n ∧ n % p = 0 then val p (n / p) + 1 else 0
termination_by n
decreasing_by exact Nat.div_lt_self h.2.1 h.1
theorem val_yes {p n : Nat} (hp : 2 ≤ p) (hn : 0 < n) (h : n % p = 0) : val p n = val p (n / p) + 1 := by
  rw [val]
  exact dif_pos ⟨hp, hn, h⟩
theorem val_no {p n : Nat} (h : n % p ≠ 0) : val p n = 0 := by
  rw [val]
  exact dif_neg fun z => h z.2.2
theorem pow_dvd_val {p : Nat} (hp : 2 ≤ p) : ∀ (k n : Nat), 0 < n → (p ^ k ∣ n ↔ k ≤ val p n)
  | 0, n, _ => by simp
  | k + 1, n, hn => by
    by_cases h : n % p = 0
    · have e : n = p * (n / p) := by
        have := Nat.div_add_mod n p
        omega
      have hq : 0 < n / p := Nat.div_pos (Nat.le_of_dvd hn (Nat.dvd_of_mod_eq_zero h)) (by omega)
      rw [val_yes hp hn h]
      have ih := pow_dvd_val hp k (n / p) hq
      constructor
      · intro d
        rw [e, Nat.pow_succ, Nat.mul_comm] at d
        have := ih.mp (Nat.dvd_of_mul_dvd_mul_left (by omega) d)
        omega
      · intro d
        have := ih.mpr (by omega)
        rw [e, Nat.pow_succ, Nat.mul_comm]
        exact Nat.mul_dvd_mul_left p this
    · rw [val_no h]
      constructor
      · intro d
        exact absurd (Nat.mod_eq_zero_of_dvd (Nat.dvd_trans (by rw [Nat.pow_succ]; exact Nat.dvd_mul_left p _) d)) h
      · intro d
        omega
theorem val_eq {p n m : Nat} (hp : 2 ≤ p) (hn : 0 < n) (hm : 0 < m) (h : ∀ k, p ^ k ∣ n ↔ p ^ k ∣ m) : val p n = val p m := by
  have a := (pow_dvd_val hp (val p n) m hm).mp ((h _).mp ((pow_dvd_val hp _ n hn).mpr (Nat.le_refl _)))
  have b := (pow_dvd_val hp (val p m) n hn).mp ((h _).mpr ((pow_dvd_val hp _ m hm).mpr (Nat.le_refl _)))
  omega
theorem PRn_prime {p : Nat} (h : p ∈ PRn) {d : Nat} (hd : d ∣ p) : d = 1 ∨ d = p := by
  have e : (PRn.all fun p => (List.range (p + 1)).all fun d => p % d != 0 || d == 1 || d == p) = true := by decide +kernel
  have e1 := List.all_eq_true.mp e p h
  have dl : d ≤ p := Nat.le_of_dvd (Nat.lt_of_lt_of_le (by decide) (PRn_two h)) hd
  have e2 := List.all_eq_true.mp e1 d (List.mem_range.mpr (by omega))
  have m := Nat.mod_eq_zero_of_dvd hd
  simp only [m, bne_self_eq_false, Bool.false_or, Bool.or_eq_true, beq_iff_eq] at e2
  exact e2
theorem PRn_cop {p x : Nat} (h : p ∈ PRn) (hx : ¬ p ∣ x) : Nat.Coprime p x := by
  rcases PRn_prime h (Nat.gcd_dvd_left p x) with e | e
  · exact e
  · exact absurd (e ▸ Nat.gcd_dvd_right p x) hx
theorem PRn_euclid {p x y : Nat} (h : p ∈ PRn) (d : p ∣ x * y) : p ∣ x ∨ p ∣ y := by
  by_cases hx : p ∣ x
  · exact .inl hx
  · exact .inr ((PRn_cop h hx).dvd_of_dvd_mul_left d)
theorem PRn_ne {p q : Nat} (hp : p ∈ PRn) (hq : q ∈ PRn) (h : p ≠ q) : Nat.Coprime p q := PRn_cop hp fun d => by
  rcases PRn_prime hq d with e | e
  · have := PRn_two hp
    omega
  · exact h e
theorem val_mul_ne {p q n : Nat} (hp : p ∈ PRn) (hq : q ∈ PRn) (hn : 0 < n) (h : p ≠ q) : val p (q * n) = val p n := by
  refine val_eq (PRn_two hp) (Nat.mul_pos (Nat.lt_of_lt_of_le (by decide) (PRn_two hq)) hn) hn fun k => ⟨fun d => ?_, fun d => Nat.dvd_trans d (Nat.dvd_mul_left n q)⟩
  exact (Nat.Coprime.pow_left k (PRn_ne hp hq h)).dvd_of_dvd_mul_left d
theorem val_mul_self {p n : Nat} (hp : 2 ≤ p) (hn : 0 < n) : val p (p * n) = val p n + 1 := by
  rw [val_yes hp (Nat.mul_pos (by omega) hn) (Nat.mul_mod_right p n), Nat.mul_div_cancel_left n (by omega)]
theorem val_add {p : Nat} (hp : p ∈ PRn) : ∀ (x y : Nat), 0 < x → 0 < y → val p (x * y) = val p x + val p y := by
  intro x
  induction x using Nat.strongRecOn with
  | ind x ih =>
    intro y hx hy
    have h2 := PRn_two hp
    by_cases h : x % p = 0
    · have e : x = p * (x / p) := by
        have := Nat.div_add_mod x p
        omega
      have hq : 0 < x / p := Nat.div_pos (Nat.le_of_dvd hx (Nat.dvd_of_mod_eq_zero h)) (by omega)
      have i := ih (x / p) (Nat.div_lt_self hx h2) y hq hy
      rw [val_yes h2 hx h, show x * y = p * (x / p * y) by rw [← Nat.mul_assoc, ← e], val_mul_self h2 (Nat.mul_pos hq hy), i]
      omega
    · rw [val_no h, Nat.zero_add]
      have c : Nat.Coprime p x := PRn_cop hp fun d => h (Nat.mod_eq_zero_of_dvd d)
      refine val_eq h2 (Nat.mul_pos hx hy) hy fun k => ⟨fun d => (Nat.Coprime.pow_left k c).dvd_of_dvd_mul_left d, fun d => Nat.dvd_trans d (Nat.dvd_mul_left y x)⟩
theorem val_gcd {p a b : Nat} (hp : 2 ≤ p) (ha : 0 < a) (hb : 0 < b) : val p (Nat.gcd a b) = min (val p a) (val p b) := by
  have hg : 0 < Nat.gcd a b := Nat.gcd_pos_of_pos_left b ha
  have le : ∀ k, k ≤ val p (Nat.gcd a b) ↔ k ≤ val p a ∧ k ≤ val p b := fun k => by
    rw [← pow_dvd_val hp k _ hg, ← pow_dvd_val hp k a ha, ← pow_dvd_val hp k b hb]
    exact ⟨fun d => ⟨Nat.dvd_trans d (Nat.gcd_dvd_left a b), Nat.dvd_trans d (Nat.gcd_dvd_right a b)⟩, fun ⟨x, y⟩ => Nat.dvd_gcd x y⟩
  have h1 := (le _).mp (Nat.le_refl _)
  have h2 := (le (min (val p a) (val p b))).mpr ⟨Nat.min_le_left _ _, Nat.min_le_right _ _⟩
  omega
/-! ### a size is put together of its primes -/
def made (l : List Nat) (m s : Nat) : Nat := l.foldl (fun m p => m * p ^ val p s) m
theorem made_acc : ∀ (l : List Nat) (m s : Nat), made l m s = m * made l 1 s
  | [], m, s => by simp [made]
  | p :: l, m, s => by
    show made l (m * p ^ val p s) s = m * made l (1 * p ^ val p s) s
    rw [made_acc l (m * p ^ val p s) s, made_acc l (1 * p ^ val p s) s, Nat.one_mul, Nat.mul_assoc]
theorem made_one : ∀ l : List Nat, made l 1 1 = 1
  | [] => rfl
  | p :: l => by
    show made l (1 * p ^ val p 1) 1 = 1
    have v : val p 1 = 0 := by
      by_cases h : 1 % p = 0
      · by_cases h2 : 2 ≤ p
        · rw [Nat.mod_eq_of_lt (by omega)] at h
          cases h
        · rw [val]
          exact dif_neg fun z => h2 z.1
      · exact val_no h
    rw [v, Nat.pow_zero, Nat.mul_one, made_one l]
theorem made_mul {q n : Nat} (hq : q ∈ PRn) (hn : 0 < n) : ∀ l : List Nat, (∀ p ∈ l, p ∈ PRn) → made l 1 (q * n) = q ^ l.count q * made l 1 n
  | [], _ => by simp [made]
  | p :: l, hl => by
    have ih := made_mul hq hn l fun x hx => hl x (List.mem_cons_of_mem _ hx)
    have hp := hl p List.mem_cons_self
    show made l (1 * p ^ val p (q * n)) (q * n) = q ^ (p :: l).count q * made l (1 * p ^ val p n) n
    rw [made_acc l (1 * p ^ val p (q * n)), made_acc l (1 * p ^ val p n), ih, Nat.one_mul, Nat.one_mul]
    by_cases e : p = q
    · subst e
      rw [val_mul_self (PRn_two hp) hn, List.count_cons_self, Nat.pow_succ, Nat.pow_succ]
      simp only [Nat.mul_assoc, Nat.mul_left_comm]
    · rw [val_mul_ne hp hq hn e, List.count_cons_of_ne e]
      simp only [Nat.mul_left_comm]
theorem made_smo {s : Nat} (h : Smo s) : made PRn 1 s = s := by
  induction h with
  | one => exact made_one PRn
  | @mul q n hq hn ih =>
    rw [made_mul hq hn.pos PRn fun _ z => z, ih]
    have c : PRn.count q = 1 := by
      have e : (PRn.all fun q => PRn.count q == 1) = true := by decide +kernel
      exact eq_of_beq (List.all_eq_true.mp e q hq)
    rw [c, Nat.pow_one]
theorem made_filter {s : Nat} (f : Nat → Bool) : ∀ (l : List Nat) (m : Nat), (∀ p ∈ l, f p = false → val p s = 0) → made (l.filter f) m s = made l m s
  | [], _, _ => rfl
  | p :: l, m, h => by
    have hl : ∀ q ∈ l, f q = false → val q s = 0 := fun q hq => h q (List.mem_cons_of_mem _ hq)
    cases e : f p with
    | true =>
      rw [List.filter_cons_of_pos e]
      exact made_filter f l _ hl
    | false =>
      rw [List.filter_cons_of_neg (by rw [e]; exact Bool.false_ne_true), made_filter f l m hl]
      show made l m s = made l (m * p ^ val p s) s
      rw [h p List.mem_cons_self e, Nat.pow_zero, Nat.mul_one]
/-! ### steps: b by what it has in common with a -/
def stp (a b : Nat) : Nat := b / Nat.gcd b a
section
variable {a b : Nat}
theorem gcd_pos' (hb : 0 < b) : 0 < Nat.gcd b a := Nat.gcd_pos_of_pos_left a hb
theorem stp_mul (a b : Nat) : stp a b * Nat.gcd b a = b := Nat.div_mul_cancel (Nat.gcd_dvd_left b a)
theorem stp_pos (hb : 0 < b) : 0 < stp a b := Nat.div_pos (Nat.le_of_dvd hb (Nat.gcd_dvd_left b a)) (gcd_pos' hb)
theorem stp_cop (hb : 0 < b) : Nat.Coprime (stp a b) (a / Nat.gcd b a) := Nat.coprime_div_gcd_div_gcd (gcd_pos' hb)
theorem a_eq (a b : Nat) : a / Nat.gcd b a * Nat.gcd b a = a := Nat.div_mul_cancel (Nat.gcd_dvd_right b a)
/-- the multiples that do -/
theorem stp_iff (hb : 0 < b) (x : Nat) : b ∣ x * a ↔ stp a b ∣ x := by
  have g := gcd_pos' (a := a) hb
  have eb : b = Nat.gcd b a * stp a b := by rw [Nat.mul_comm]; exact (stp_mul a b).symm
  have ea : x * a = Nat.gcd b a * (x * (a / Nat.gcd b a)) := by
    rw [Nat.mul_left_comm, Nat.mul_comm (Nat.gcd b a), a_eq]
  constructor
  · intro d
    rw [ea] at d
    have d2 : Nat.gcd b a * stp a b ∣ Nat.gcd b a * (x * (a / Nat.gcd b a)) := by rw [← eb]; exact d
    exact (stp_cop hb).dvd_of_dvd_mul_right (Nat.dvd_of_mul_dvd_mul_left g d2)
  · intro d
    rw [ea]
    have d2 : Nat.gcd b a * stp a b ∣ Nat.gcd b a * (x * (a / Nat.gcd b a)) := Nat.mul_dvd_mul_left _ (Nat.dvd_trans d (Nat.dvd_mul_right x _))
    rw [← eb] at d2
    exact d2
theorem stp_least (hb : 0 < b) {p : Nat} (hp : 2 ≤ p) (h : stp a b % p = 0) : stp a b / p * a % b ≠ 0 := fun z => by
  have d := (stp_iff hb _).mp (Nat.dvd_of_mod_eq_zero z)
  have pos := stp_pos (a := a) hb
  have q : 0 < stp a b / p := Nat.div_pos (Nat.le_of_dvd pos (Nat.dvd_of_mod_eq_zero h)) (by omega)
  have := Nat.le_of_dvd q d
  have := Nat.div_lt_self pos hp
  omega
theorem stp_val (ha : 0 < a) (hb : 0 < b) {p : Nat} (hp : p ∈ PRn) : val p (stp a b) = val p b - val p a := by
  have e := val_add hp (stp a b) (Nat.gcd b a) (stp_pos hb) (gcd_pos' hb)
  rw [stp_mul, val_gcd (PRn_two hp) hb ha] at e
  omega
theorem stp_one (hb : 0 < b) : stp a b = 1 ↔ a % b = 0 := by
  constructor
  · intro e
    have d := (stp_iff hb 1).mpr (by rw [e]; exact Nat.dvd_refl 1)
    rw [Nat.one_mul] at d
    exact Nat.mod_eq_zero_of_dvd d
  · intro e
    have d := (stp_iff hb 1).mp (by rw [Nat.one_mul]; exact Nat.dvd_of_mod_eq_zero e)
    exact Nat.dvd_one.mp d
theorem stp_all (hb : 0 < b) : stp a b = b ↔ Nat.gcd b a = 1 := by
  have e := stp_mul a b
  constructor
  · intro h
    rw [h] at e
    have : b * Nat.gcd b a = b * 1 := by rw [e, Nat.mul_one]
    exact Nat.eq_of_mul_eq_mul_left hb this
  · intro h
    rw [h, Nat.mul_one] at e
    exact e
theorem stp_does (hb : 0 < b) : stp a b * a % b = 0 := Nat.mod_eq_zero_of_dvd ((stp_iff hb _).mpr (Nat.dvd_refl _))
theorem stp_two {c : Nat} (hb : 0 < b) (hc : 0 < c) : stp a b * stp b c % stp a c = 0 := by
  refine Nat.mod_eq_zero_of_dvd ((stp_iff hc _).mp ?_)
  have d1 : b ∣ stp a b * a := (stp_iff hb _).mpr (Nat.dvd_refl _)
  have d2 : c ∣ stp b c * b := (stp_iff hc _).mpr (Nat.dvd_refl _)
  have e : stp a b * stp b c * a = stp b c * (stp a b * a) := by
    rw [Nat.mul_comm (stp a b), Nat.mul_assoc]
  rw [e]
  exact Nat.dvd_trans d2 (Nat.mul_dvd_mul_left _ d1)
end
end NA
namespace NA
open PySem PySem.Spec PyProof.Rows L2

/-! ### defs while no repr is under way -/
abbrev Bare (A : Around) : Prop := A.guards = some []
structure GFn (P : Program) (w : World) (K : PySem.W.Frag) (mg : Str → Option Value) (base : Heap) (k : Nat) (f : Addr) (fd : FuncData) (ps : List Str) (sp : Sp) : Prop where
  len : ∀ vs H Q E, sp vs H Q E → vs.length = ps.length
  go : ∀ (A : Around) (outer : List Env) (s : Shared) (H : Hp) (args : Args) (us : List Value) (vs : List V) (Q : VK) (E : XK),
    Bare A → Room k A → Env0 P w K mg base A outer s H → BindsTo s fd args (ps.zip us) → Vals vs us → sp vs H Q E →
    codeAny (model P w) A (.call (.ref f) args) (CR CX0 outer P w H s Q E) s
/-- a def of the text: where it stands, how it binds -/
structure DefAt (K : PySem.W.Frag) (mg : Str → Option Value) (x : Str) (st : Stmt) (ps : List Str) (f : Addr) (fd : FuncData) : Prop where
  fn : Fun K x x st f fd
  mgf : mg x = some (.ref f)
  bd : Binds K fd ps []
structure Cal (P : Program) (w : World) (K : PySem.W.Frag) (mg : Str → Option Value) (base : Heap) (k : Nat) (x : Str) (sp : Sp) : Prop where
  ex : ∃ (f : Addr) (fd : FuncData) (ps : List Str), FnOk P w K mg base CX0 k f fd ps sp ∧ mg x = some (.ref f) ∧ PySem.W.keepIn K (.ref f) = true ∧ Binds K fd ps []
structure GCal (P : Program) (w : World) (K : PySem.W.Frag) (mg : Str → Option Value) (base : Heap) (k : Nat) (x : Str) (sp : Sp) : Prop where
  ex : ∃ (f : Addr) (fd : FuncData) (ps : List Str), GFn P w K mg base k f fd ps sp ∧ mg x = some (.ref f) ∧ PySem.W.keepIn K (.ref f) = true ∧ Binds K fd ps []
section
variable {P : Program} {w : World} {K : PySem.W.Frag} {mg : Str → Option Value} {base : Heap}
theorem cal_of {x : Str} {st : Stmt} {f : Addr} {fd : FuncData} {N ps : List Str} {k : Nat} {sp : Sp} (D : DefAt K mg x st ps f fd) (S : FnScope N ps (defScope st)) (len : ∀ vs H Q E, sp vs H Q E → vs.length = ps.length)
    (body : ∀ (cdv : Value) (A : Around) (outer : List Env) (s : Shared) (H : Hp) (vs : List V) (Q : VK) (E : XK), Room k (A.deeper (envOfC x (defScope st) s.heap.objs.size f cdv)) → sp vs H Q E →
      ∃ t, PSs (cxOf CX0 P w K mg base N x (defScope st) f cdv A outer s H E).nox (defBody st) t ∧ t { nx := fun _ H' => Q .non H', rt := Q } (start N vs) H) : Cal P w K mg base (k + 1) x sp :=
  ⟨f, fd, ps, D.fn.ok S len body, D.mgf, D.fn.kp, D.bd⟩
theorem gfn_of {x : Str} {st : Stmt} {f : Addr} {fd : FuncData} {N ps : List Str} {k : Nat} {sp : Sp} (F : Fun K x x st f fd) (S : FnScope N ps (defScope st)) (len : ∀ vs H Q E, sp vs H Q E → vs.length = ps.length)
    (body : ∀ (cdv : Value) (A : Around) (outer : List Env) (s : Shared) (H : Hp) (vs : List V) (Q : VK) (E : XK), PySem.W.codeIn K cdv x = true → Bare A → Room k (A.deeper (envOfC x (defScope st) s.heap.objs.size f cdv)) → sp vs H Q E →
      ∃ t, PSs (cxOf CX0 P w K mg base N x (defScope st) f cdv A outer s H E).nox (defBody st) t ∧ t { nx := fun _ H' => Q .non H', rt := Q } (start N vs) H) : GFn P w K mg base (k + 1) f fd ps sp := by
  obtain ⟨oc, od, kV, doc, pm, an, cdv, ct, osl, rfl, lk, hcode⟩ := F.ex
  refine ⟨len, fun A outer s H args us vs Q E hg room e0 bind rel want => ?_⟩
  have hlen := len _ _ _ _ want
  have KX : K.In s.heap := e0.mod.kin.keeps fun b o z => (e0.bs b o z).1
  have nolim : s.heap.NoLimit := e0.mod.nolimit.keeps fun b o z => (e0.bs b o z).1
  have kinds : ∀ y ∈ ps.zip us, (defScope st).names.lookup y.1 = some .local ∨ ((defScope st).names.lookup y.1 = some .cell ∧ ((cellsFrom (s.heap.objs.size + 1) (defScope st).names []).lookup y.1).isSome = true) := by
    intro ⟨nm, v⟩ hy
    rcases S.par nm (List.of_mem_zip hy).1 with z | z
    · exact .inl z
    · exact .inr ⟨z, PySem.W.cellsFrom_some _ _ _ (.inl z)⟩
  refine codeAny_call_function room.depth (KX _ _ lk) rfl S.co S.gen rfl (PySem.W.codeRec_of KX hcode) (bind _ _ _ _ ?_)
  refine wpAny_newFunctionEnv_cells S.kind kinds fun env henv s1 inc => ?_
  subst henv
  refine ⟨nolim.keeps inc.toInCall.keep, codeAny_func ?_⟩
  obtain ⟨t, derives, reads⟩ := body cdv A outer s H vs Q E hcode hg (room.deeper _) want
  have I := inv_start (CX := CX0) (E := E) (cd := cdv) S room.hd e0 hlen rel inc
  refine wpAny_mono (derives.nox.run [] s1 (start N vs) H _ I reads) (fun fl s' hs => ?_) fun e s' hs => hs
  cases fl with
  | ret u =>
    obtain ⟨v, σ', H', J, rv, q⟩ := hs
    exact ⟨v, H', J.os, J.bare, J.base, J.hok, rv, q⟩
  | next =>
    obtain ⟨σ', H', J, q⟩ := hs
    exact ⟨V.non, H', J.os, J.bare, J.base, J.hok, rfl, q⟩
  | brk =>
    obtain ⟨σ', H', J, q⟩ := hs
    exact False.elim q
  | cont =>
    obtain ⟨σ', H', J, q⟩ := hs
    exact False.elim q
theorem gcal_of {x : Str} {st : Stmt} {f : Addr} {fd : FuncData} {N ps : List Str} {k : Nat} {sp : Sp} (D : DefAt K mg x st ps f fd) (S : FnScope N ps (defScope st)) (len : ∀ vs H Q E, sp vs H Q E → vs.length = ps.length)
    (body : ∀ (cdv : Value) (A : Around) (outer : List Env) (s : Shared) (H : Hp) (vs : List V) (Q : VK) (E : XK), PySem.W.codeIn K cdv x = true → Bare A → Room k (A.deeper (envOfC x (defScope st) s.heap.objs.size f cdv)) → sp vs H Q E →
      ∃ t, PSs (cxOf CX0 P w K mg base N x (defScope st) f cdv A outer s H E).nox (defBody st) t ∧ t { nx := fun _ H' => Q .non H', rt := Q } (start N vs) H) : GCal P w K mg base (k + 1) x sp :=
  ⟨f, fd, ps, gfn_of D.fn S len body, D.mgf, D.fn.kp, D.bd⟩
end
section
variable {X : Cx} {x : Str} {p pos : Pos} {e : Expr} {es : List Expr} {t : TA} {k j : Nat} {sp : Sp}
/-- f(..) of such a def -/
theorem pe_g (c : GCal X.prog X.w X.K X.mg X.base k x sp) (hg : Bare X.A) (hr : Room j X.A) (hk : k ≤ j) (hgl : Gl X x) (ha : PA X (e :: es) t) (hdb : (x == ("__debug__" : Str)) = false := by decide)
    (he : starEach (e :: es) X.env = (false, eval e X.env) :: starEach es X.env := by rfl) (hpl : (backTo pos (starEach es X.env)).any (·.1) = false := by rfl) :
    PE X (.Call (.Name x p) (e :: es) [] pos) (tCall sp [] E0 t) := by
  obtain ⟨f, fd, ps, F, hm, hkeep, hb⟩ := c.ex
  refine ⟨fun pins s σ H Q I h => wpAny_Call_Name_kw (ld_glob I hgl hm ?_ hdb)⟩
  refine PySem.W.callWith_K (h₀ := X.base) I.ok.mod.kin hkeep (thn (ha.run pos pins s σ H _ I h) fun us s1 ⟨vs, H1, I1, r, q⟩ => ⟨I1.kIn, ?_⟩) he hpl
  have q' : sp (vs ++ []) H1 Q E0 := q
  rw [List.append_nil] at q'
  have l : (us ++ []).length = ps.length := by rw [List.append_nil, ← r.length]; exact F.len _ _ _ _ q'
  have b := hb s1 us I1.kIn l
  rw [List.append_nil] at b
  refine wpAny_call (codeAny_mono (F.go X.A X.stack s1 H1 ⟨us, []⟩ us vs Q E0 hg (hr.mono hk) I1.env0 b r q') fun res s' hq => ?_)
  cases res with
  | error err => exact False.elim hq
  | ok fl =>
    cases fl with
    | ret u => exact I1.after hq
    | next => exact False.elim hq
    | brk => exact False.elim hq
    | cont => exact False.elim hq
/-- f(k=v, ..): keywords alone -/
theorem pe_kw {CX : CXT} {f : Addr} {fd : FuncData} {ps ks : List Str} {E : XK} {kws : List Keyword} {tk : TA} {g : List Value → List Value → List Value} {gV : List V → List V → List V} (F : FnOk X.prog X.w X.K X.mg X.base CX k f fd ps sp) (hr : Room k X.A) (hgl : Gl X x) (hm : X.mg x = some (.ref f))
    (hkeep : PySem.W.keepIn X.K (.ref f) = true) (hb : KBinds X.K fd ps ks g gV) (hx : Passes CX X E) (hkw : PK X kws tk) (hall : (backToKw pos (keywordEach kws X.env)).all (·.1.isSome) = true := by rfl)
    (hks : (backToKw pos (keywordEach kws X.env)).filterMap (·.1) = ks := by rfl) (hdb : (x == ("__debug__" : Str)) = false := by decide)
    (hpl : ((backTo pos (starEach [] X.env)).any (·.1) || (backToKw pos (keywordEach kws X.env)).any (·.1.isNone)) = false := by rfl) :
    PE X (.Call (.Name x p) [] kws pos) (tCallK sp gV E tNil tk) := by
  refine ⟨fun pins s σ H Q I h => wpAny_Call_Name_kw (ld_glob I hgl hm ?_ hdb)⟩
  refine PySem.W.callWith_KW0 (h₀ := X.base) I.ok.mod.kin hkeep hall (thn (hkw.run pos pins s σ H _ I h) fun ws s2 ⟨zs, H2, I2, rz, q2⟩ => ⟨I2.kIn, ?_⟩) hpl
  rw [hks]
  exact run_fnk (us := []) F hr hb hx I2 .nil rz q2
end
/-- a def that may be called by keywords, in the order ks -/
structure CalK (P : Program) (w : World) (K : PySem.W.Frag) (mg : Str → Option Value) (base : Heap) (k : Nat) (x : Str) (sp : Sp) (ks : List Str) (gV : List V → List V → List V) : Prop where
  ex : ∃ (f : Addr) (fd : FuncData) (ps : List Str) (g : List Value → List Value → List Value), FnOk P w K mg base CX0 k f fd ps sp ∧ mg x = some (.ref f) ∧ PySem.W.keepIn K (.ref f) = true ∧ KBinds K fd ps ks g gV
section
variable {X : Cx} {x : Str} {p pos : Pos} {k j : Nat} {sp : Sp} {ks : List Str} {kws : List Keyword} {tk : TA} {gV : List V → List V → List V}
theorem pe_ck (c : CalK X.prog X.w X.K X.mg X.base k x sp ks gV) (hr : Room j X.A) (hk : k ≤ j) (hgl : Gl X x) (hkw : PK X kws tk) (hall : (backToKw pos (keywordEach kws X.env)).all (·.1.isSome) = true := by rfl)
    (hks : (backToKw pos (keywordEach kws X.env)).filterMap (·.1) = ks := by rfl) (hdb : (x == ("__debug__" : Str)) = false := by decide)
    (hpl : ((backTo pos (starEach [] X.env)).any (·.1) || (backToKw pos (keywordEach kws X.env)).any (·.1.isNone)) = false := by rfl) :
    PE X (.Call (.Name x p) [] kws pos) (tCallK sp gV E0 tNil tk) := by
  obtain ⟨f, fd, ps, g, F, hm, hkeep, hb⟩ := c.ex
  exact pe_kw F (hr.mono hk) hgl hm hkeep hb pass0 hkw hall hks hdb hpl
theorem pe_c0 (c : Cal X.prog X.w X.K X.mg X.base k x sp) (hr : Room j X.A) (hk : k ≤ j) (hgl : Gl X x) (hdb : (x == ("__debug__" : Str)) = false := by decide) : PE X (.Call (.Name x p) [] [] pos) (tCall sp [] E0 tNil) := by
  obtain ⟨f, fd, ps, F, hm, hkeep, hb⟩ := c.ex
  exact pe_call0 F (hr.mono hk) hgl hm hkeep hb .nil pass0 hdb
theorem pe_c {e : Expr} {es : List Expr} {t : TA} (c : Cal X.prog X.w X.K X.mg X.base k x sp) (hr : Room j X.A) (hk : k ≤ j) (hgl : Gl X x) (ha : PA X (e :: es) t) (hdb : (x == ("__debug__" : Str)) = false := by decide)
    (he : starEach (e :: es) X.env = (false, eval e X.env) :: starEach es X.env := by rfl) (hpl : (backTo pos (starEach es X.env)).any (·.1) = false := by rfl) : PE X (.Call (.Name x p) (e :: es) [] pos) (tCall sp [] E0 t) := by
  obtain ⟨f, fd, ps, F, hm, hkeep, hb⟩ := c.ex
  exact pe_call F (hr.mono hk) hgl hm hkeep hb .nil pass0 ha hdb he hpl
end
/-- the end of a law over such a def -/
theorem walkG {l : PySem.W.OpenLaw} {n k : Nat} {q : Program} {loose : List Str} {XP : (Str → Option Value) → Heap → Prop} {YP : World → Heap → Prop} {d : DefRec} {K : Params → PySem.W.Frag} {sp : PySem.W.Frag → Sp} {x : Str}
    (hn : l.most = some n) (hn2 : n ≤ sizeLine) (hdf : d.params.defaults = []) (hr : Room k callerA)
    (hY : ∀ (w : World) (h : Heap), YP w h → (K w.params).In h)
    (F : ∀ (w : World) (mg : Str → Option Value) (fa : Addr) (h : Heap), (K w.params).In h → h.Ns mainGlobals mg → mg d.name = some (.ref fa) →
      ∃ fd : FuncData, (∀ (s : Shared) (u : Value), BindsTo s fd ⟨[u], []⟩ [(x, u)]) ∧
        ∀ base : Heap, (K w.params).In base → base.Ns mainGlobals mg → GFn l.prog w (K w.params) mg base k fa fd [x] (sp (K w.params)))
    (hsp : ∀ (K : PySem.W.Frag) (H : Hp) (a : Addr) (ns : List Int), ns.length ≤ n → Only H → SqL K H a (ns.map V.int) → sp K [.ref a] H (fun v _ => v = .bl true) fun _ _ _ => False) :
    PySem.W.WalkO q loose XP YP l.row.toRowW d [] (fun f vs => PySem.call f vs) := by
  refine Att.attach_call hn hdf fun w s₀ s₁ mg mb fa o pm cd doc a vs ns G Y ho hd hcd hmg hobj hints hlen hgen => ?_
  have KX := hY w _ Y
  obtain ⟨fd, hb, hF⟩ := F w mg fa _ KX G.T.g hmg
  have mine : ∀ base : Heap, (K w.params).In base → base.Ns mainGlobals mg → FnOk l.prog w (K w.params) mg base CX0 k fa fd [x] (sp (K w.params)) → True := fun _ _ _ _ => trivial
  have rv := vals_ints hints
  have lenV := hints.length
  -- as the layer's own head does it, for the caller's surroundings alone
  have core : ∀ H : Hp, Only H → SqL (K w.params) H a (ns.map V.int) → HOk l.prog w H s₁.heap → (∀ b, H b ≠ none → b = a) → (H a ≠ none → (K w.params).lookup a = none) →
      codeAny (model l.prog w) callerA (.call (.ref fa) ⟨[.ref a], []⟩) (fun r s' => r = .ok (.ret (.bool true)) ∧ OldK s₁.heap s'.heap ∧ s'.os = s₁.os ∧ AllBare s'.gens) s₁ := by
    intro H hO hS hok only unk
    have keepHid : ∀ {b : Addr} {ob : Obj}, s₁.heap.get? b = some ob → H b = none → (hidT s₁.heap H).get? b = some ob := fun z nn => hidT_get z nn
    have dictFree : ∀ {b : Addr} {ob : Obj} {es : Array DictEntry} {ep : Nat}, s₁.heap.get? b = some ob → ob.data = .dict es ep → H b = none := by
      intro b ob es ep z dd
      cases hb' : H b with
      | none => rfl
      | some u =>
        have eb : b = a := only b (by rw [hb']; exact Option.some_ne_none u)
        rw [eb, hobj] at z
        cases z
        have dd' : Data.seq vs.toArray _ = Data.dict es ep := dd
        cases dd'
    have nsHid : ∀ {b : Addr} {m : Str → Option Value}, s₁.heap.Ns b m → (hidT s₁.heap H).Ns b m := fun {b m} ⟨ob, es, ep, z, dd, rest⟩ => ⟨ob, es, ep, keepHid z (dictFree z dd), dd, rest⟩
    have inHid : (K w.params).In (hidT s₁.heap H) := fun b ob z => keepHid (KX b ob z) (by
      cases hb' : H b with
      | none => rfl
      | some u =>
        have eb : b = a := only b (by rw [hb']; exact Option.some_ne_none u)
        rw [eb, unk (by rw [← eb, hb']; exact Option.some_ne_none u)] at z
        cases z)
    have M : Mod (K w.params) mg (hidT s₁.heap H) := ⟨inHid, nsHid G.T.g, ⟨mb, nsHid G.T.b, G.T.builtins⟩, let ⟨mc, z1, z2⟩ := G.T.nolimit; ⟨mc, nsHid z1, z2⟩⟩
    have e0 : Env0 l.prog w (K w.params) mg (hidT s₁.heap H) callerA [] s₁ H := ⟨rfl, M, fun b ob z => of_hidT z, Nat.le_of_eq (hidT_size _ _), trivial, fun b hb => absurd (show b ∈ ([] : List Addr) from hb) List.not_mem_nil, hok, .of_eq hgen⟩
    refine codeAny_mono ((hF _ inHid (nsHid G.T.g)).go callerA [] s₁ H ⟨[.ref a], []⟩ [.ref a] [.ref a] _ _ rfl hr e0 (hb s₁ (.ref a)) (.cons rfl .nil) (hsp (K w.params) H a ns hlen hO hS)) fun r s' hq => ?_
    have hq2 : ∃ u, r = .ok (.ret u) ∧ CE [] l.prog w H s₁ (fun v _ => v = .bl true) u s' := by
      cases r with
      | error err => exact False.elim hq
      | ok fl =>
        cases fl with
        | ret u => exact ⟨u, rfl, hq⟩
        | next => exact False.elim hq
        | brk => exact False.elim hq
        | cont => exact False.elim hq
    match hq2 with
    | ⟨u, er, v, H', os, bare, un, hok', rel, q⟩ =>
      have q' : v = .bl true := q
      subst q'
      have eu : u = Value.bool true := rel
      subst eu
      refine ⟨er, OldK.of_keep fun b ob z => ?_, os, bare⟩
      cases hb' : H b with
      | none => exact un.keep b ob z hb' (fun m => by cases m) (fun m => by cases m)
      | some u =>
        rcases hO b with n0 | ⟨ob', xs, n0⟩
        · rw [hb'] at n0
          cases n0
        · have n1 := un.frzs b ob' _ n0
          obtain ⟨z1, _⟩ := hok b _ n0
          obtain ⟨z2, _⟩ := hok' b _ n1
          rw [z] at z1
          cases z1
          exact z2
  cases hk : (K w.params).lookup a with
  | some ob =>
    have z := KX a ob hk
    rw [hobj] at z
    cases z
    exact core (fun _ => none) (fun _ => .inl rfl) (.inr ⟨_, vs.toArray, _, hk, rfl, rfl, rfl, by rw [List.size_toArray, lenV]; exact Nat.le_trans hlen hn2, by simpa using rv⟩) (fun b u z => by have z' : (none : Option HO) = some u := z; cases z') (fun b z => absurd rfl z) fun z => absurd rfl z
  | none =>
    refine core (fun b => if b = a then some (.frz { cls := .type "list", data := .seq vs.toArray } (.lst (ns.map V.int))) else none) (fun b => ?_) (.inl (.inr ⟨{ cls := .type "list", data := .seq vs.toArray }, if_pos rfl⟩)) (fun b u z => ?_) (fun b z => ?_) fun _ => hk
    · by_cases eb : b = a
      · exact .inr ⟨_, _, if_pos eb⟩
      · exact .inl (if_neg eb)
    · by_cases eb : b = a
      · have z' := (if_pos eb).symm.trans z
        cases z'
        subst eb
        exact ⟨hobj, by rw [List.length_map]; exact Nat.le_trans hlen hn2, vs, _, rv, hobj⟩
      · have z' := (if_neg eb).symm.trans z
        cases z'
    · by_cases eb : b = a
      · exact eb
      · exact absurd (if_neg eb) z
end NA
namespace NA
open PySem PySem.Spec PyProof.Rows L2

/-! ### how long a repr may be -/
mutual
def cost : PyData → Nat
  | .none => 4
  | .bool _ => 5
  | .int _ => 1921
  | .str x => 10 * x.length + 2
  | .list xs => costAll xs + 3
  | .tuple xs => costAll xs + 3
  | .dict _ => 0
def costAll : List PyData → Nat
  | [] => 0
  | x :: xs => cost x + 2 + costAll xs
end
def strSmall (x : Str) : Bool := x.cps.toList.all fun c => decide (c < 16 ^ 8)
mutual
def okD : PyData → Bool
  | .none => true
  | .bool _ => true
  | .int i => decide (i.natAbs.log2 < 1920)
  | .str x => strSmall x
  | .list xs => okAll xs
  | .tuple xs => okAll xs
  | .dict _ => false
def okAll : List PyData → Bool
  | [] => true
  | x :: xs => okD x && okAll xs
end
mutual
theorem okD_facts : ∀ d : PyData, okD d = true → d.showable = true ∧ d.hasDict = false ∧ d.shown.length ≤ cost d
  | .none, _ => ⟨rfl, rfl, by decide +kernel⟩
  | .bool true, _ => ⟨rfl, rfl, by decide +kernel⟩
  | .bool false, _ => ⟨rfl, rfl, by decide +kernel⟩
  | .int i, h => by
    have h1 : i.natAbs.log2 < 1920 := by simpa [okD] using h
    refine ⟨by simpa [PyData.showable] using h1, by simp only [PyData.hasDict], ?_⟩
    simp only [PyData.shown, cost]
    exact PyProof.Rows.int_text_len_1921 h1
  | .str x, h => by
    refine ⟨by simp only [PyData.showable], by simp only [PyData.hasDict], ?_⟩
    simp only [PyData.shown, cost]
    refine StrLaws.reprText_len x fun c hc => ?_
    have h1 : strSmall x = true := by simpa [okD] using h
    unfold strSmall at h1
    exact of_decide_eq_true (List.all_eq_true.mp h1 c hc)
  | .list xs, h => by
    obtain ⟨a, b, c, e⟩ := okAll_facts xs (by simpa [okD] using h)
    refine ⟨by simpa [PyData.showable] using a, by simpa [PyData.hasDict] using b, ?_⟩
    simp only [PyData.shown, cost]
    have := listText_len_le (PyData.shownAll xs)
    omega
  | .tuple xs, h => by
    obtain ⟨a, b, c, e⟩ := okAll_facts xs (by simpa [okD] using h)
    refine ⟨by simpa [PyData.showable] using a, by simpa [PyData.hasDict] using b, ?_⟩
    simp only [PyData.shown, cost]
    have := tupleText_len_le (PyData.shownAll xs)
    omega
  | .dict _, h => by simp [okD] at h
theorem okAll_facts : ∀ xs : List PyData, okAll xs = true → PyData.showableAll xs = true ∧ PyData.hasDictAll xs = false ∧ ((PyData.shownAll xs).map (·.length)).sum + 2 * (PyData.shownAll xs).length ≤ costAll xs ∧ True
  | [], _ => ⟨rfl, rfl, Nat.le_refl _, trivial⟩
  | x :: xs, h => by
    have h' : okD x = true ∧ okAll xs = true := by simpa [okAll] using h
    obtain ⟨a, b, c⟩ := okD_facts x h'.1
    obtain ⟨d, e, f, _⟩ := okAll_facts xs h'.2
    refine ⟨by simp only [PyData.showableAll, a, d, Bool.and_self], by simp only [PyData.hasDictAll, b, e, Bool.or_self], ?_, trivial⟩
    simp only [PyData.shownAll, costAll, List.map_cons, List.sum_cons, List.length_cons]
    omega
end
/-- data whose repr may be taken -/
structure Sh (d : PyData) : Prop where
  ok : okD d = true
  cost : cost d ≤ 16000000
  depth : d.depth ≤ 60
section
variable {X : Cx}
theorem call_reprD {k : Nat} (hg : Bare X.A) (hr : Room k X.A) : CallR X (.builtin "repr") (fun xs H Q => ∃ v d, xs = [v] ∧ Dp X.K H v d ∧ Sh d ∧ Q (.str d.shown) H) := by
  intro pins s σ H xs us Q I r h
  obtain ⟨v, d, rfl, hd, sh, q⟩ := h
  obtain ⟨u, rfl, rv⟩ := r.one
  obtain ⟨f1, f2, f3⟩ := okD_facts d sh.ok
  have hz : d.shown.length ≤ sizeLine := Nat.le_trans f3 (Nat.le_trans sh.cost (by decide))
  have hu := hr.un
  have hdep := sh.depth
  obtain ⟨as, rd⟩ := Dp.reads I d v u hd rv
  have big : ∀ a, u = Value.ref a → wpAny (model X.prog X.w) X.A (call (.builtin "repr") [u]) (EP X pins σ Q) X.xe s := fun a e => by
    subst e
    exact repr_of_reads' rd f1 (PyData.noDict_hsm f2) hg (by omega) (fun _ _ z => z) (fun h' u tk hk => ⟨.str _, H, I.kept (t' := tk) hk, ⟨_, rfl⟩, q⟩) hz
  cases hd with
  | non =>
    cases (show u = Value.none from rv)
    exact PySem.P.repr_of_none ⟨.str _, H, I.tok _, ⟨_, rfl⟩, q⟩
  | bl b =>
    cases (show u = Value.bool b from rv)
    refine PySem.P.repr_of_bool ⟨.str _, H, I.tok _, ⟨_, rfl⟩, ?_⟩
    simpa only [PyData.shown] using q
  | int i =>
    obtain ⟨t, rfl⟩ := (show ∃ t, u = Value.int i t from rv)
    refine PySem.P.repr_of_int (by simpa [okD] using sh.ok) ⟨.str _, H, I.tok _, ⟨_, rfl⟩, ?_⟩
    simpa only [PyData.shown] using q
  | str x =>
    obtain ⟨t, rfl⟩ := (show ∃ t, u = Value.str x t from rv)
    refine PySem.P.repr_of_str ⟨.str _, H, I.tok _, ⟨_, rfl⟩, ?_⟩ (by simpa only [PyData.shown] using hz)
    simpa only [PyData.shown] using q
  | lst _ _ => exact big _ rv
  | tup _ _ => exact big _ rv
end
/-! ### data that never changes: tuples all the way -/
mutual
inductive Im (H : Hp) : V → PyData → Prop
  | non : Im H .non .none
  | bl (b : Bool) : Im H (.bl b) (.bool b)
  | int (i : Int) : Im H (.int i) (.int i)
  | str (x : Str) : Im H (.str x) (.str x)
  | tup {a : Addr} {xs : List V} {ds : List PyData} : H a = some (.tup xs) → ImAll H xs ds → Im H (.ref a) (.tuple ds)
inductive ImAll (H : Hp) : List V → List PyData → Prop
  | nil : ImAll H [] []
  | cons {v : V} {vs : List V} {d : PyData} {ds : List PyData} : Im H v d → ImAll H vs ds → ImAll H (v :: vs) (d :: ds)
end
/-- tuples stay -/
def Tk (H H' : Hp) : Prop := ∀ b xs, H b = some (.tup xs) → H' b = some (.tup xs)
theorem Tk.refl (H : Hp) : Tk H H := fun _ _ h => h
theorem Tk.trans {H H1 H2 : Hp} (a : Tk H H1) (b : Tk H1 H2) : Tk H H2 := fun c x h => b c x (a c x h)
theorem Tk.new {H H' : Hp} {p : Addr} {o : HO} (e : Tk H H') (h : H' p = none) : Tk H (upd H' p o) := fun b xs z => by
  have z' := e b xs z
  rw [upd_ne (ne_of_none z' h)]
  exact z'
theorem Tk.put {H H' : Hp} {p : Addr} {xs : List V} {o : HO} (e : Tk H H') (h : H' p = some (.lst xs)) : Tk H (upd H' p o) := fun b ys z => by
  have z' := e b ys z
  rw [upd_ne (ne_of z' h (by intro q; cases q))]
  exact z'
theorem Tk.same {H H' : Hp} (e : Same H H') : Tk H H' := fun b xs z => e b _ z
mutual
theorem Im.keep {H H' : Hp} (e : Tk H H') : ∀ (d : PyData) (v : V), Im H v d → Im H' v d
  | .none, _, h => by cases h; exact .non
  | .bool _, _, h => by cases h; exact .bl _
  | .int _, _, h => by cases h; exact .int _
  | .str _, _, h => by cases h; exact .str _
  | .tuple ds, _, h => by
    cases h with
    | tup a b => exact .tup (e _ _ a) (ImAll.keep e ds _ b)
  | .list _, _, h => by cases h
  | .dict _, _, h => by cases h
theorem ImAll.keep {H H' : Hp} (e : Tk H H') : ∀ (ds : List PyData) (vs : List V), ImAll H vs ds → ImAll H' vs ds
  | [], _, h => by cases h; exact .nil
  | d :: ds, _, h => by
    cases h with
    | cons a b => exact .cons (Im.keep e d _ a) (ImAll.keep e ds _ b)
end
theorem Im.k {H H' : Hp} {v : V} {d : PyData} (h : Im H v d) (e : Tk H H') : Im H' v d := Im.keep e d v h
theorem ImAll.k {H H' : Hp} {vs : List V} {ds : List PyData} (h : ImAll H vs ds) (e : Tk H H') : ImAll H' vs ds := ImAll.keep e ds vs h
mutual
theorem Im.toDp {K : PySem.W.Frag} {H : Hp} : ∀ (d : PyData) (v : V), Im H v d → Dp K H v d
  | .none, _, h => by cases h; exact .non
  | .bool _, _, h => by cases h; exact .bl _
  | .int _, _, h => by cases h; exact .int _
  | .str _, _, h => by cases h; exact .str _
  | .tuple ds, _, h => by
    cases h with
    | tup a b => exact .tup (SqT.of a) (ImAll.toDp ds _ b)
  | .list _, _, h => by cases h
  | .dict _, _, h => by cases h
theorem ImAll.toDp {K : PySem.W.Frag} {H : Hp} : ∀ (ds : List PyData) (vs : List V), ImAll H vs ds → DpAll K H vs ds
  | [], _, h => by cases h; exact .nil
  | d :: ds, _, h => by
    cases h with
    | cons a b => exact .cons (Im.toDp d _ a) (ImAll.toDp ds _ b)
end
theorem Im.dp {K : PySem.W.Frag} {H : Hp} {v : V} {d : PyData} (h : Im H v d) : Dp K H v d := Im.toDp d v h
theorem ImAll.dp {K : PySem.W.Frag} {H : Hp} {vs : List V} {ds : List PyData} (h : ImAll H vs ds) : DpAll K H vs ds := ImAll.toDp ds vs h
theorem Im.tuple {H : Hp} {v : V} {ds : List PyData} (h : Im H v (.tuple ds)) : ∃ a xs, v = .ref a ∧ H a = some (.tup xs) ∧ ImAll H xs ds := by
  cases h with
  | tup a b => exact ⟨_, _, rfl, a, b⟩
theorem Im.isInt {H : Hp} {v : V} {i : Int} (h : Im H v (.int i)) : v = .int i := by cases h; rfl
theorem ImAll.length {H : Hp} : ∀ {vs : List V} {ds : List PyData}, ImAll H vs ds → vs.length = ds.length
  | _, _, .nil => rfl
  | _, _, .cons _ b => by rw [List.length_cons, List.length_cons, ImAll.length b]
theorem ImAll.get {H : Hp} : ∀ {vs : List V} {ds : List PyData} {i : Nat} {d : PyData}, ImAll H vs ds → ds[i]? = some d → ∃ v, vs[i]? = some v ∧ Im H v d
  | _, _, _, _, .nil, e => by simp at e
  | _, _, 0, _, .cons a _, e => by
    simp at e
    subst e
    exact ⟨_, rfl, a⟩
  | _, _, i + 1, d, .cons _ b, e => by
    obtain ⟨v, h1, h2⟩ := ImAll.get (i := i) (d := d) b (by simpa using e)
    exact ⟨v, by simpa using h1, h2⟩
theorem ImAll.ints {H : Hp} : ∀ {vs : List V} {ns : List Int}, ImAll H vs (ns.map PyData.int) → vs = ns.map V.int
  | vs, [], h => by cases h; rfl
  | vs, n :: ns, h => by
    cases h with
    | cons a b =>
      cases a
      rw [List.map_cons, ImAll.ints b]
theorem ImAll.of_ints (H : Hp) : ∀ ns : List Int, ImAll H (ns.map V.int) (ns.map PyData.int)
  | [] => .nil
  | n :: ns => .cons (.int n) (ImAll.of_ints H ns)
theorem ImAll.append {H : Hp} : ∀ {vs ws : List V} {ds es : List PyData}, ImAll H vs ds → ImAll H ws es → ImAll H (vs ++ ws) (ds ++ es)
  | _, _, _, _, .nil, h => h
  | _, _, _, _, .cons a b, h => .cons a (ImAll.append b h)
end NA
namespace PySem
open Sem (wp)
open AutoSeq1 (wpAny_loadPart')
/-- the iterator of a tuple at l, new -/
abbrev tIt (l : Addr) : Obj := { cls := .type "tuple_iterator", data := .fields #[.ref l, .int 0 0] }
/-- the enumerate object over the iterator at i, new -/
abbrev tEn (i : Addr) : Obj := { cls := .type "enumerate", data := .fields #[.none, .bool false, .ref i, rawInt 0, .none, .none] }
set_option maxHeartbeats 1000000 in
theorem enumT_new (l : Addr) (o : Obj) (its : Array Value) (hc : o.cls = .type "tuple") (hd : ∃ n, o.data = .seq its n) :
    Meets (Builtin.«enumerate.__new__» ⟨[.type "enumerate", .ref l], []⟩)
      (fun _ R s => s.heap.get? l = some o ∧ R (.ok (.ret (.ref (s.heap.push (tIt l)).objs.size))) { s with heap := (s.heap.push (tIt l)).push (tEn s.heap.objs.size) }) :=
  .of_wp fun prog w A R s h => by
    obtain ⟨hp, gg, dr, tk, os⟩ := s
    obtain ⟨hl, h⟩ := h
    have sub := sub_enumerate
    have T : Heap.IsTuple (Shared.heap ⟨hp, gg, dr, tk, os⟩) l its := ⟨o, hl, hc, hd⟩
    wp_walk using wpAny_loadPart' hl
    refine wpAny_stack_any fun _ => wpAny_pure ?_
    split
    · rename_i cc _ _ _ _ _
      cases (cc == Value.type "enumerate")
      · wp_walk using wpAny_loadPart' hl, wpAny_pyIter_tuple T
        exact ⟨_, rfl, h⟩
      · wp_walk using wpAny_loadPart' hl, wpAny_pyIter_tuple T
        exact ⟨_, rfl, h⟩
    · wp_walk using wpAny_loadPart' hl, wpAny_pyIter_tuple T
      exact ⟨_, rfl, h⟩
section
variable {prog : Program} {w : World} {A : Around} {E : Value → Shared → Prop} {s : Shared}
theorem enumT_call {l : Addr} {its : Array Value} {Q : Value → Shared → Prop} (T : s.heap.IsTuple l its)
    (h : ∀ h', IsEnum h' (s.heap.objs.size + 1) s.heap.objs.size 0 .none → h'.get? s.heap.objs.size = some (tIt l) →
      (∀ b o, s.heap.get? b = some o → h'.get? b = some o) → Q (.ref (s.heap.objs.size + 1)) { s with heap := h' }) :
    wpAny (model prog w) A (call (.type "enumerate") [.ref l]) Q E s := by
  obtain ⟨o, hl, hc, hd⟩ := T
  refine callType_new F.called_enumerate (by decide) (F.typeCall_enumerate_1 _) (F.newCall_enumerate_1 _) (fun obj => F.args_object_init_2 obj _) F.entry_enumerate_new (enumT_new l o its hc hd) ⟨hl, ?_⟩
  have sz : (s.heap.push (tIt l)).objs.size = s.heap.objs.size + 1 := Heap.size_push ..
  show _ ∧ _
  rw [sz]
  have en : IsEnum ((s.heap.push (tIt l)).push (tEn s.heap.objs.size)) (s.heap.objs.size + 1) s.heap.objs.size 0 .none := by
    have z := Heap.get?_push_size (s.heap.push (tIt l)) (o := tEn s.heap.objs.size) rfl
    rw [sz] at z
    exact z
  exact ⟨⟨_, en, rfl⟩, h _ en (Heap.get?_push_of_some _ (Heap.get?_push_size _ rfl)) fun b u z => Heap.get?_push_of_some _ (Heap.get?_push_of_some _ z)⟩
end
end PySem
namespace NA
open PySem PySem.Spec PyProof.Rows L2
/-- enumerate(t), t a tuple: each item in a new pair -/
def IeT (K : PySem.W.Frag) (a : Addr) : It :=
  ⟨fun i H => ∃ (xs : List V) (x : V), SqT K H a xs ∧ xs[i]? = some x, fun i H v H' => ∃ T x, v = .ref T ∧ H T = none ∧ H' = upd H T (.tup [.int (i : Nat), x]) ∧ ∀ xs, SqT K H a xs → xs[i]? = some x,
    fun i H => ∃ xs : List V, SqT K H a xs ∧ xs.length ≤ i⟩
theorem turn_enumT {P : Program} {w : World} {K : PySem.W.Frag} {elts : List Expr} {kk : Nat} {tpos : Pos} (a e it : Addr) :
    Turn P w K (.Tuple elts kk tpos) (IeT K a) [e, it] e (fun i h => (∃ old, IsEnum h e it (0 + ((i : Nat) : Int)) old) ∧ h.IsTupleIter it a i ∧ e ≠ it) where
  mem := by simp
  obj := fun i h st b hb => by
    obtain ⟨⟨old, he⟩, ⟨o, ho, hc, hd⟩, _⟩ := st
    have cases2 : b = e ∨ b = it := by simpa using hb
    rcases cases2 with z | z
    · subst z
      exact ⟨_, he, fun v q => nomatch q⟩
    · subst z
      exact ⟨o, ho, fun v q => by rw [hd] at q; cases q⟩
  keep := fun i h h' st k => by
    obtain ⟨⟨old, he⟩, hi, hne⟩ := st
    exact ⟨⟨old, k e (by simp) _ he⟩, hi.at fun o q => k it (by simp) o q, hne⟩
  item := by
    intro X hP hw hK hc i pins s σ H E I hf st hg
    subst hP hw hK
    obtain ⟨⟨old, he⟩, hit, hne⟩ := st
    obtain ⟨xs, x, hq, hx⟩ := hg
    obtain ⟨its, rv, tp, hz⟩ := I.tuple hq
    obtain ⟨u, hu, ru⟩ := rv.get hx
    have el : e < s.heap.objs.size := Heap.lt_size he
    have il : it < s.heap.objs.size := by obtain ⟨_, q, _⟩ := hit; exact Heap.lt_size q
    have al : a < s.heap.objs.size := tp.lt
    have lenI : i < its.toArray.size := by
      have := (List.getElem?_eq_some_iff.mp hu).1
      simpa using this
    -- the tuple's own iterator, by what it draws
    have ta_it : a ≠ it := fun z => by
      obtain ⟨o1, q1, c1, _⟩ := hit
      obtain ⟨o2, q2, c2, _⟩ := (show s.heap.IsTuple a its.toArray from tp)
      rw [z, q1] at q2
      cases q2
      rw [c1] at c2
      exact absurd c2 (by decide)
    have ta_e : a ≠ e := fun z => by
      obtain ⟨o2, q2, c2, _⟩ := (show s.heap.IsTuple a its.toArray from tp)
      rw [z, show s.heap.get? e = some _ from he] at q2
      cases q2
      exact absurd (show Value.type "enumerate" = Value.type "tuple" from c2) (by decide)
    have D : Draws X.prog X.w X.A.in1 it [it, a] its.toArray.size (fun i v => its.toArray[i]? = some v) (fun i h => h.IsTupleIter it a i ∧ h.IsTuple a its.toArray) := Draws.tuple (A := X.A.in1) (I.ok.hd hc) it a ta_it its.toArray
    refine wpAny_pyNext_enum_itemC D he ⟨hit, tp⟩ lenI hne (by simp [hne, Ne.symm ta_e]) fun y h' tk hP ho hs' hT hsz hk => ?_
    have ey : y = u := Option.some.inj (hP.symm.trans (by simpa using hu))
    subst ey
    refine ⟨_, rfl, wpAny_letOwnedTupleGo_enum (s := { s with heap := h', toks := tk + 1 }) ho fun h'' he' sb => ?_⟩
    have hT2 : h''.get? s.heap.objs.size = some { cls := .type "tuple", data := .seq #[.int (0 + (i : Int)) tk, y] } := (sb.2 _ (Nat.ne_of_gt el)).trans hT
    have e0 : (0 + (i : Int)) = (i : Int) := by omega
    have new : ObjOk X.prog X.w (upd H s.heap.objs.size (.tup [.int (i : Nat), x])) h'' s.heap.objs.size (.tup [.int (i : Nat), x]) :=
      ⟨by show 2 ≤ sizeLine; decide, [.int (0 + (i : Int)) tk, y], .cons ⟨tk, by rw [e0]⟩ (.cons ru .nil), ⟨_, hT2, rfl, _, rfl⟩⟩
    have I1 : Inv X pins σ (upd H s.heap.objs.size (.tup [.int (i : Nat), x])) { s with heap := h'', toks := tk + 1 } :=
      I.turnedNew (ch := [e, it]) (fun b ob hb q => (sb.2 b (fun z => hb (by simp [z]))).trans (hk b ob (fun z => hb (by simp [z])) (fun z => hb (by simp [z])) q)) hf (Nat.le_refl _) new
    refine ⟨.ref s.heap.objs.size, _, I1, rfl, ⟨_, x, rfl, I.hok.fresh (Nat.le_refl _), rfl, fun ys hy => by rw [I.tuple_inj hy hq]; exact hx⟩, ⟨⟨y, ?_⟩, hs'.1.at fun o q => (sb.2 it (Ne.symm hne)).trans q, hne⟩, fun b hb => ?_⟩
    · have e1 : (0 + ((i + 1 : Nat) : Int)) = 0 + (i : Int) + 1 := by omega
      rw [e1]
      exact he'
    · have lt : b < s.heap.objs.size := by
        have cases2 : b = e ∨ b = it := by simpa using hb
        rcases cases2 with z | z
        · rw [z]; exact el
        · rw [z]; exact il
      rw [upd_ne (Nat.ne_of_lt lt)]
      exact (hf b hb).1
  done := by
    intro X hP hw hK hc i pins s σ H E I hf st hg
    subst hP hw hK
    obtain ⟨⟨old, he⟩, hit, hne⟩ := st
    obtain ⟨xs, hq, hx⟩ := hg
    obtain ⟨its, rv, tp, hz⟩ := I.tuple hq
    have ta_it : a ≠ it := fun z => by
      obtain ⟨o1, q1, c1, _⟩ := hit
      obtain ⟨o2, q2, c2, _⟩ := (show s.heap.IsTuple a its.toArray from tp)
      rw [z, q1] at q2
      cases q2
      rw [c1] at c2
      exact absurd c2 (by decide)
    obtain ⟨f0, f1, f2, f3, f4, f5⟩ := hf it (by simp)
    have ln := rv.length
    have gone : xs.length ≤ i := hx
    have D : Draws X.prog X.w X.A.in1 it [it, a] i (fun _ _ => False) (fun j h => j = i ∧ h.IsTupleIter it a j ∧ h.IsTuple a its.toArray) := {
      live := fun j h st => by
        obtain ⟨_, ⟨o, q, _⟩, _⟩ := st
        exact ⟨o, q⟩
      frame := fun j h h' st k => ⟨st.1, st.2.1.at fun o q => k it (by simp) o q, st.2.2.at fun o q => k a (by simp) o q⟩
      item := fun j s Q E hj st _ => absurd hj (by rw [st.1]; exact Nat.lt_irrefl _)
      done := fun s Q E st hE => wpAny_nextOf_tuple_end (A := X.A.in1) (I.ok.hd hc) st.2.1 st.2.2 (Array.getElem?_eq_none (by simp; omega)) hE }
    exact wpAny_pyNext_enum_endD D he ⟨rfl, hit, tp⟩ fun h' eb => ⟨rfl, I.turned (t' := s.toks) (fun b o hb q => eb b o hb q) f0 f1 f3 f4 f5⟩
  self := fun A i s Q E st h => by
    obtain ⟨⟨_, he⟩, _⟩ := st
    exact wpAny_pyIter_enum he h
def iEnumT (K : PySem.W.Frag) (ta : TA) : TI := fun σ H R => ta σ H fun vs H1 => ∃ a xs, vs = [.ref a] ∧ SqT K H1 a xs ∧ R (IeT K a) H1
theorem pi_enumT {X : Cx} {e : Expr} {ta : TA} {p pos tpos : Pos} {elts : List Expr} {kk : Nat} (hg : Gl X "enumerate") (hm : X.mg "enumerate" = none) (ha : PA X [e] ta) (hs : starEach [e] X.env = [(false, eval e X.env)] := by rfl) :
    PI X (.Tuple elts kk tpos) (.Call (.Name "enumerate" p) [e] [] pos) (iEnumT X.K ta) := by
  refine ⟨fun pins s σ H R I h => ?_⟩
  refine Call_ (ld_blt I hg hm boot_enumerate (PyProof.Rows.callWith_type1 (thn (ha.run pos pins s σ H _ I h) fun us s1 ⟨vs, H1, I1, r1, q1⟩ => ?_) hs rfl))
  obtain ⟨a, xs, ex, hq, q⟩ := q1
  subst ex
  obtain ⟨u, rfl, ru⟩ := r1.one
  cases (show u = Value.ref a from ru)
  obtain ⟨its, rv, tp, hz⟩ := I1.tuple hq
  refine enumT_call (its := its.toArray) tp fun h' en it kept => wpAny_pyIter_enum en ?_
  refine ⟨s1.heap.objs.size + 1, [s1.heap.objs.size + 1, s1.heap.objs.size], _, _, H1, rfl, I1.kept (t' := s1.toks) kept, turn_enumT a (s1.heap.objs.size + 1) s1.heap.objs.size, ⟨⟨.none, en⟩, ⟨_, it, rfl, rfl⟩, Nat.succ_ne_self _⟩, fun b hb => ?_, q⟩
  have two : b = s1.heap.objs.size + 1 ∨ b = s1.heap.objs.size := by simpa using hb
  have le : s1.heap.objs.size ≤ b := by
    rcases two with z | z
    · rw [z]
      exact Nat.le_succ _
    · rw [z]
      exact Nat.le_refl _
  exact I1.fpOk le (I1.hok.fresh le)
theorem walk_enumT {K : PySem.W.Frag} {a : Addr} {xs : List V} : Walk (IeT K a) xs.length (fun H => SqT K H a xs) (YPair (fun i => some (.int (i : Nat))) (fun i => xs[i]?)) := by
  refine ⟨fun i _ hi q => ⟨xs, xs[i], q, by simp [hi]⟩, fun _ q => ⟨xs, q, Nat.le_refl _⟩, fun i H v H' _ q y => ?_⟩
  obtain ⟨T, x, y1, y2, y3, y4⟩ := y
  exact ⟨T, .int (i : Nat), x, y1, y2, y3, rfl, y4 xs q⟩
end NA
namespace NA
open PySem PySem.Spec PyProof.Rows L2

/-! ### built-in names that no text here takes -/
structure Blt (mg : Str → Option Value) : Prop where
  len : mg "len" = none
  int : mg "int" = none
  max : mg "max" = none
  min : mg "min" = none
  tuple : mg "tuple" = none
  list : mg "list" = none
  range : mg "range" = none
  any : mg "any" = none
  all : mg "all" = none
  repr : mg "repr" = none
  enumerate : mg "enumerate" = none
  isinstance : mg "isinstance" = none
  bool : mg "bool" = none
/-! ### the pot that is drawn from -/
def Pt (H : Hp) (p q : Addr) : Prop := ∃ (cs : List Int) (a b n : Int), H p = some (.lst [.ref q, .int a, .int b, .int n]) ∧ H q = some (.lst (cs.map V.int)) ∧ cs.length ≤ 60 ∧ 0 ≤ a ∧ a < 4294967296 ∧ 0 ≤ b ∧ b < 4294967296
theorem Pt.lp {H : Hp} {p q : Addr} (h : Pt H p q) : ∃ xs, H p = some (.lst xs) := by
  obtain ⟨cs, a, b, n, h1, _⟩ := h
  exact ⟨_, h1⟩
theorem Pt.lq {H : Hp} {p q : Addr} (h : Pt H p q) : ∃ xs, H q = some (.lst xs) := by
  obtain ⟨cs, a, b, n, _, h1, _⟩ := h
  exact ⟨_, h1⟩
theorem pq_ne {H : Hp} {p q : Addr} {cs : List Int} {a b n : Int} (h1 : H p = some (.lst [.ref q, .int a, .int b, .int n])) (h2 : H q = some (.lst (cs.map V.int))) : p ≠ q := fun e => by
  subst e
  rw [h1] at h2
  cases cs with
  | nil => cases h2
  | cons c cs => cases h2
theorem Pt.ne {H : Hp} {p q : Addr} (h : Pt H p q) : p ≠ q := by
  obtain ⟨cs, a, b, n, h1, h2, _⟩ := h
  exact pq_ne h1 h2
/-- all else stays -/
def Kp (p q : Addr) (H H' : Hp) : Prop := ∀ b o, b ≠ p → b ≠ q → H b = some o → H' b = some o
theorem Kp.refl (p q : Addr) (H : Hp) : Kp p q H H := fun _ _ _ _ h => h
theorem Kp.trans {p q : Addr} {H H1 H2 : Hp} (a : Kp p q H H1) (b : Kp p q H1 H2) : Kp p q H H2 := fun c o n1 n2 h => b c o n1 n2 (a c o n1 n2 h)
theorem Kp.new {p q c : Addr} {o : HO} {H H' : Hp} (e : Kp p q H H') (h : H' c = none) : Kp p q H (upd H' c o) := fun b u n1 n2 z => by
  have z' := e b u n1 n2 z
  rw [upd_ne (ne_of_none z' h)]
  exact z'
theorem Kp.same {p q : Addr} {H H' : Hp} (e : Same H H') : Kp p q H H' := fun b o _ _ z => e b o z
/-- a change of what was not there at the beginning -/
theorem Kp.put {p q c : Addr} {o : HO} {H H' : Hp} (e : Kp p q H H') (h : H c = none) : Kp p q H (upd H' c o) := fun b u n1 n2 z => by
  rw [upd_ne (ne_of_none z h)]
  exact e b u n1 n2 z
theorem Kp.fresh {p q c : Addr} {H H' : Hp} (e : Kp p q H H') (n1 : c ≠ p) (n2 : c ≠ q) (h : H' c = none) : H c = none := by
  cases z : H c with
  | none => rfl
  | some o =>
    rw [e c o n1 n2 z] at h
    cases h
theorem Kp.tk {p q : Addr} {H H' : Hp} (e : Kp p q H H') (P : Pt H p q) : Tk H H' := fun b xs z => by
  obtain ⟨ys, h1⟩ := P.lp
  obtain ⟨zs, h2⟩ := P.lq
  exact e b _ (ne_of z h1 (by intro k; cases k)) (ne_of z h2 (by intro k; cases k)) z
theorem Pt.new {H : Hp} {p q c : Addr} {o : HO} (P : Pt H p q) (h : H c = none) : Pt (upd H c o) p q := by
  obtain ⟨cs, a, b, n, h1, h2, r⟩ := P
  exact ⟨cs, a, b, n, by rw [upd_ne (ne_of_none h1 h)]; exact h1, by rw [upd_ne (ne_of_none h2 h)]; exact h2, r⟩
theorem Pt.put {H : Hp} {p q c : Addr} {o : HO} (P : Pt H p q) (n1 : c ≠ p) (n2 : c ≠ q) : Pt (upd H c o) p q := by
  obtain ⟨cs, a, b, n, h1, h2, r⟩ := P
  exact ⟨cs, a, b, n, by rw [upd_ne (Ne.symm n1)]; exact h1, by rw [upd_ne (Ne.symm n2)]; exact h2, r⟩
theorem Pt.same {H H' : Hp} {p q : Addr} (P : Pt H p q) (e : Same H H') : Pt H' p q := by
  obtain ⟨cs, a, b, n, h1, h2, r⟩ := P
  exact ⟨cs, a, b, n, e _ _ h1, e _ _ h2, r⟩
theorem Pt.np {H : Hp} {p q c : Addr} (P : Pt H p q) (h : H c = none) : c ≠ p ∧ c ≠ q := by
  obtain ⟨xs, h1⟩ := P.lp
  obtain ⟨ys, h2⟩ := P.lq
  refine ⟨fun e => ?_, fun e => ?_⟩
  · rw [e, h1] at h
    cases h
  · rw [e, h2] at h
    cases h
theorem Same.new {H H' : Hp} {c : Addr} {o : HO} (e : Same H H') (h : H' c = none) : Same H (upd H' c o) := fun b u z => by
  have z' := e b u z
  rw [upd_ne (ne_of_none z' h)]
  exact z'
/-- data all of whose items are ints -/
theorem DpAll.ints (K : PySem.W.Frag) (H : Hp) : ∀ ns : List Int, DpAll K H (ns.map V.int) (ns.map PyData.int)
  | [] => .nil
  | n :: ns => .cons (.int n) (DpAll.ints K H ns)
theorem canLay_ints : ∀ ns : List Int, PyData.canLayAll0 (ns.map PyData.int) = true
  | [] => rfl
  | n :: ns => by
    rw [List.map_cons]
    simp only [PyData.canLayAll0, PyData.canLay0, canLay_ints ns, Bool.and_self]
theorem depth_ints : ∀ ns : List Int, PyData.depthAll (ns.map PyData.int) = 0
  | [] => rfl
  | n :: ns => by
    rw [List.map_cons]
    simp only [PyData.depthAll, PyData.depth, depth_ints ns, Nat.max_self]
theorem shaped_ints (ns : List Int) : SeqAt.shaped (.list (ns.map PyData.int)) = true := by
  unfold SeqAt.shaped
  simp only [PyData.canLay0, PyData.depth, canLay_ints, depth_ints, Bool.true_and]
  decide
theorem Im.int0 {H : Hp} (n : Nat) : Im H (.int (0 + (n : Int))) (.int n) := by
  rw [Int.zero_add]
  exact .int _
/-! ### the promises of what draws -/
def spDip : Sp := fun vs H Q _ => ∃ (p q : Addr) (n : Int), vs = [.ref p, .int n] ∧ Pt H p q ∧ 0 < n ∧ n < 1073741824 ∧ ∀ (r : Int) (H' : Hp), 0 ≤ r → r < n → Pt H' p q → Kp p q H H' → Q (.int r) H'
def spPick : Sp := fun vs H Q _ => ∃ (p q a : Addr) (xs : List V), vs = [.ref p, .ref a] ∧ Pt H p q ∧ H a = some (.lst xs) ∧ a ≠ p ∧ a ≠ q ∧ xs ≠ [] ∧ xs.length < 1000 ∧
  ∀ (v : V) (H' : Hp), v ∈ xs → Pt H' p q → Kp p q H H' → Q v H'
def PR : List Int := [2, 3, 5, 7, 11, 13, 17, 19, 23, 29, 31, 37, 41, 43, 47, 53, 59, 61, 67, 71, 73, 79, 83, 89, 97]
def spPrimes : Sp := fun vs H Q _ => vs = [] ∧ ∀ a, H a = none → Q (.ref a) (upd H a (.lst (PR.map V.int)))
def spGreat : Sp := fun vs H Q _ => ∃ (p q : Addr), vs = [.ref p] ∧ Pt H p q ∧ ∀ (n : Int) (H' : Hp), SizeOk n → Pt H' p q → Kp p q H H' → Q (.int n) H'
def sD (ss : List Int) : PyData := .tuple (ss.map .int)
def wD (w : Nat × Nat) : PyData := .tuple [.int w.1, .int w.2]
def mD (ss : List Int) (ws : List (Nat × Nat)) : PyData := .tuple [sD ss, .tuple (ws.map wD)]
def spSizes : Sp := fun vs H Q _ => ∃ (p q : Addr) (g : Bool), vs = [.ref p, .bl g] ∧ Pt H p q ∧
  ∀ (v : V) (ss : List Int) (H' : Hp), Im H' v (sD ss) → 1 ≤ ss.length → ss.length ≤ 6 → (∀ s ∈ ss, SizeOk s) → Pt H' p q → Kp p q H H' → Q v H'
def spWires : Sp := fun vs H Q _ => ∃ (p q : Addr) (m : Nat), vs = [.ref p, .int m] ∧ m ≤ 6 ∧ Pt H p q ∧
  ∀ (v : V) (ws : List (Nat × Nat)) (H' : Hp), Im H' v (.tuple (ws.map wD)) → WOk m ws → Pt H' p q → Kp p q H H' → Q v H'
def spMachine : Sp := fun vs H Q _ => ∃ (p q : Addr) (g : Bool), vs = [.ref p, .bl g] ∧ Pt H p q ∧
  ∀ (v : V) (ss : List Int) (ws : List (Nat × Nat)) (H' : Hp), Im H' v (mD ss ws) → MOk ss ws → Pt H' p q → Kp p q H H' → Q v H'
/-- a list at c of great numbers, all of them ints that may be a size but for 1 -/
def okV (v : V) : Bool := match v with
  | .int i => decide (1 ≤ i) && decide (i ≤ 10 ^ 30) && smoB i.toNat
  | _ => false
theorem okV_of {v : V} (h : okV v = true) : ∃ m : Nat, v = .int m ∧ 1 ≤ m ∧ m ≤ 10 ^ 30 ∧ Smo m := by
  cases v with
  | int i =>
    have h' : (decide (1 ≤ i) && decide (i ≤ 10 ^ 30) && smoB i.toNat) = true := h
    rw [Bool.and_eq_true, Bool.and_eq_true] at h'
    have h1 : 1 ≤ i := of_decide_eq_true h'.1.1
    have h2 : i ≤ 10 ^ 30 := of_decide_eq_true h'.1.2
    exact ⟨i.toNat, by rw [Int.toNat_of_nonneg (by omega)], by omega, by omega, smo_of h'.2⟩
  | _ => cases h
def fewV : List V := [.int 2, .int 3, .int 4, .int 5, .int 6, .int 8, .int 9, .int 12, .int 16, .int 18, .int 27, .int 97, .int 36]
def spCommon : Sp := fun vs H Q _ => ∃ a b : Nat, vs = [.int a, .int b] ∧ b < 2 ^ 4000 ∧ Q (.int (Nat.gcd a b : Nat)) H
end NA
namespace NA
open PySem PySem.Spec PyProof.Rows L2
theorem Same.put {H H' : Hp} {c : Addr} {o : HO} (e : Same H H') (h : H c = none) : Same H (upd H' c o) := fun b u z => by
  rw [upd_ne (ne_of_none z h)]
  exact e b u z
theorem take_filter {α : Type} {l : List α} {i : Nat} {x : α} (f : α → Bool) (h : l[i]? = some x) : (l.take (i + 1)).filter f = (l.take i).filter f ++ (if f x = true then [x] else []) := by
  rw [List.take_add_one, h, List.filter_append]
  simp only [Option.toList, List.filter_cons, List.filter_nil]
theorem take_map {α β : Type} {l : List α} {i : Nat} {x : α} (f : α → β) (h : l[i]? = some x) : (l.take (i + 1)).map f = (l.take i).map f ++ [f x] := by
  rw [List.take_add_one, h, List.map_append]
  rfl
theorem map_get {α β : Type} {l : List α} {f : α → β} {i : Nat} {y : β} (h : (l.map f)[i]? = some y) : ∃ x, l[i]? = some x ∧ y = f x := by
  rw [List.getElem?_map] at h
  cases e : l[i]? with
  | none =>
    rw [e] at h
    cases h
  | some x =>
    rw [e] at h
    exact ⟨x, rfl, (Option.some.inj h).symm⟩
theorem dec_int0 (x y : Int) : decide (V.int x = V.int y) = decide (x = y) := by
  by_cases h : x = y
  · subst h
    rw [decide_eq_true rfl, decide_eq_true rfl]
  · rw [decide_eq_false h, decide_eq_false fun z => h (V.int.inj z)]
/-- primes that divide some of these -/
def dv (ss : List Int) (p : Int) : Bool := ss.any fun s => decide (s % p = 0)
def dueP (ss : List Int) : List Int := PR.filter (dv ss)
def spDepth : Sp := fun vs H Q _ => ∃ (v : V) (ss : List Int) (d : PyData) (p i s : Nat), vs = [v, .int p, .int i] ∧ Im H v (.tuple [sD ss, d]) ∧ 2 ≤ p ∧ p ≤ 1000 ∧ ss[i]? = some (s : Int) ∧ 0 < s ∧ s < 2 ^ 4000 ∧ Q (.int (val p s : Nat)) H
def spStep : Sp := fun vs H Q _ => ∃ (v : V) (ss : List Int) (d : PyData) (j i a b : Nat), vs = [v, .int j, .int i] ∧ Im H v (.tuple [sD ss, d]) ∧ ss[j]? = some (a : Int) ∧ ss[i]? = some (b : Int) ∧ 0 < b ∧ b < 2 ^ 4000 ∧ Q (.int (stp a b : Nat)) H
def spPrimesOf : Sp := fun vs H Q _ => ∃ (v : V) (ss : List Int) (d : PyData), vs = [v] ∧ Im H v (.tuple [sD ss, d]) ∧ ss.length ≤ 100 ∧ ∀ (u : V) (H' : Hp), Im H' u (.tuple ((dueP ss).map .int)) → Same H H' → Q u H'
def spLStep : Sp := fun vs H Q _ => ∃ (v : V) (ss : List Int) (j i a b : Nat), vs = [v, .int j, .int i] ∧ Im H v (sD ss) ∧ ss[j]? = some (a : Int) ∧ ss[i]? = some (b : Int) ∧ 0 < b ∧ b < 2 ^ 4000 ∧ Q (.int (stp a b : Nat)) H
def spOften : Sp := fun vs H Q _ => ∃ (s p : Nat), vs = [.int s, .int p] ∧ 2 ≤ p ∧ p ≤ 1000 ∧ 0 < s ∧ s < 2 ^ 4000 ∧ Q (.int (val p s : Nat)) H
def spPot (K : PySem.W.Frag) : Sp := fun vs H Q _ => ∃ (a : Addr) (ns : List Int), vs = [.ref a] ∧ SqL K H a (ns.map V.int) ∧ ns.length ≤ 63 ∧ ∀ (p q : Addr) (H' : Hp), Pt H' p q → Same H H' → H p = none → H q = none → Q (.ref p) H'
theorem pl_pos {p s : Nat} (hp : 2 ≤ p) (h : 0 < s) (e : s % p = 0) : 0 < s / p := Nat.div_pos (Nat.le_of_dvd h (Nat.dvd_of_mod_eq_zero e)) (by omega)
theorem Cal.of {P : Program} {w : World} {K : PySem.W.Frag} {mg : Str → Option Value} {base : Heap} {x : Str} {st : Stmt} {f : Addr} {fd : FuncData} {ps : List Str} {k : Nat} {sp : Sp} (D : DefAt K mg x st ps f fd) (F : FnOk P w K mg base CX0 k f fd ps sp) : Cal P w K mg base k x sp :=
  ⟨f, fd, ps, F, D.mgf, D.fn.kp, D.bd⟩
theorem CalK.of {P : Program} {w : World} {K : PySem.W.Frag} {mg : Str → Option Value} {base : Heap} {x : Str} {st : Stmt} {f : Addr} {fd : FuncData} {ps ks : List Str} {k : Nat} {sp : Sp} {g : List Value → List Value → List Value} {gV : List V → List V → List V} (D : DefAt K mg x st ps f fd)
    (F : FnOk P w K mg base CX0 k f fd ps sp) (b : KBinds K fd ps ks g gV) : CalK P w K mg base k x sp ks gV :=
  ⟨f, fd, ps, g, F, D.mgf, D.fn.kp, b⟩
/-- keywords alone, put in order by o -/
def kg1 {α : Type} : List α → List α → List α
  | [], [a] => [a]
  | _, _ => []
def kg321 {α : Type} : List α → List α → List α
  | [], [a, b, c] => [c, b, a]
  | _, _ => []
theorem kg1_rel {vs zs : List V} {us ws : List Value} (h1 : Vals vs us) (h2 : Vals zs ws) : Vals (kg1 vs zs) (kg1 us ws) := by
  cases h1 with
  | cons _ _ => exact .nil
  | nil =>
    cases h2 with
    | nil => exact .nil
    | cons a h2 =>
      cases h2 with
      | nil => exact .cons a .nil
      | cons _ _ => exact .nil
theorem kg321_rel {vs zs : List V} {us ws : List Value} (h1 : Vals vs us) (h2 : Vals zs ws) : Vals (kg321 vs zs) (kg321 us ws) := by
  cases h1 with
  | cons _ _ => exact .nil
  | nil =>
    cases h2 with
    | nil => exact .nil
    | cons a h2 =>
      cases h2 with
      | nil => exact .nil
      | cons b h2 =>
        cases h2 with
        | nil => exact .nil
        | cons c h2 =>
          cases h2 with
          | nil => exact .cons c (.cons b (.cons a .nil))
          | cons _ _ => exact .nil
section
variable {X : Cx}
/-! rules over a written part that is named -/
theorem pi_listK (K : PySem.W.Frag) (hK : X.K = K) {tg l : Expr} {tl : TE} (hl : PE X l tl) : PI X tg l (iList K tl) := hK ▸ pi_list hl
theorem pi_tupK (K : PySem.W.Frag) (hK : X.K = K) {tg l : Expr} {tl : TE} (hl : PE X l tl) : PI X tg l (iTup K tl) := hK ▸ pi_tup hl
theorem ix_listK (K : PySem.W.Frag) (hK : X.K = K) : IxR X (rIxL K) := hK ▸ ix_list
theorem ix_tupK (K : PySem.W.Frag) (hK : X.K = K) : IxR X (rIxT K) := hK ▸ ix_tup
theorem sl_listK (K : PySem.W.Frag) (hK : X.K = K) : SlR X (rSlL K) := hK ▸ sl_list
theorem cr_anyK (K : PySem.W.Frag) (hK : X.K = K) (hc : X.calm = true) : CallR X (.builtin "any") (rAny K) := hK ▸ cr_any hc
theorem cr_allK (K : PySem.W.Frag) (hK : X.K = K) (hc : X.calm = true) : CallR X (.builtin "all") (rAll K) := hK ▸ cr_all hc
def rLenQ (K : PySem.W.Frag) : List V → Hp → VK → Prop := fun xs H Q => ∃ p ys, xs = [.ref p] ∧ (SqL K H p ys ∨ SqT K H p ys) ∧ Q (.int ys.length) H
theorem call_lenK (K : PySem.W.Frag) (hK : X.K = K) : CallR X (.builtin "len") (rLenQ K) := hK ▸ call_len_seq
def rTupQ (K : PySem.W.Frag) : List V → Hp → VK → Prop := fun xs H Q => ∃ p ys, xs = [.ref p] ∧ ((SqL K H p ys ∧ ∀ l, H l = none → Q (.ref l) (upd H l (.tup ys))) ∨ (SqT K H p ys ∧ Q (.ref p) H))
theorem call_tupleK (K : PySem.W.Frag) (hK : X.K = K) : CallR X (.type "tuple") (rTupQ K) := hK ▸ call_tuple_of
def rLstQ (K : PySem.W.Frag) : List V → Hp → VK → Prop := fun xs H Q => ∃ p ys, xs = [.ref p] ∧ (SqL K H p ys ∨ SqT K H p ys) ∧ ∀ l, H l = none → Q (.ref l) (upd H l (.lst ys))
theorem call_listK (K : PySem.W.Frag) (hK : X.K = K) : CallR X (.type "list") (rLstQ K) := hK ▸ call_list_of
theorem op_neDK (K : PySem.W.Frag) (hK : X.K = K) (hu : X.A.units + 64 < cLine) : OpR X (compareOp .NotEq) (rNeD K) := hK ▸ op_neD hu
theorem op_eqDK (K : PySem.W.Frag) (hK : X.K = K) (hu : X.A.units + 64 < cLine) : OpR X (compareOp .Eq) (rEqD K) := hK ▸ op_eqD hu
def rReprQ (K : PySem.W.Frag) : List V → Hp → VK → Prop := fun xs H Q => ∃ v d, xs = [v] ∧ Dp K H v d ∧ Sh d ∧ Q (.str d.shown) H
theorem call_reprK (K : PySem.W.Frag) (hK : X.K = K) {k : Nat} (hg : Bare X.A) (hr : Room k X.A) : CallR X (.builtin "repr") (rReprQ K) := hK ▸ call_reprD hg hr
theorem call_isiK' (K : PySem.W.Frag) (hK : X.K = K) : CallR X (.builtin "isinstance") (rIsi K) := hK ▸ call_isi
/-- an operator in place, by its rule -/
theorem ip_of {op : Operator} {r : R2} (h : OpR X (inplaceOp op) r) : PIp X op r := fun pins s σ H x y v u Q I rx ry z => h pins s σ H x y v u Q I rx ry z
/-- expressions one behind another, none starred -/
inductive PEL (X : Cx) : List Expr → TA → Prop
  | nil : PEL X [] tNil
  | cons {e : Expr} {es : List Expr} {te : TE} {t : TA} : PE X e te → PEL X es t → PySem.W.kdsPlain e = true → PEL X (e :: es) (tCons te t)
theorem PEL.plain {es : List Expr} {t : TA} (h : PEL X es t) : es.all PySem.W.kdsPlain = true := by
  induction h with
  | nil => rfl
  | cons _ _ h3 ih => rw [List.all_cons, h3, ih] <;> rfl
theorem PEL.run {es : List Expr} {t : TA} (h : PEL X es t) : ∀ (pins : List (Addr × Obj)) (s : Shared) (σ : L2.St) (H : Hp) (R : List V → Hp → Prop) (Q : List Value → Shared → Prop), Inv X pins σ H s → t σ H R →
    (∀ us s' vs H', Inv X pins σ H' s' → Vals vs us → R vs H' → Q us s') → PySem.W.KdsAll (model X.prog X.w) X.A X.xe X.env es Q s := by
  induction h with
  | nil => intro pins s σ H R Q I h q; exact q [] s [] H I .nil h
  | cons he _ _ ih =>
    intro pins s σ H R Q I h q
    refine thn (he.run pins s σ H _ I h) fun u s1 ⟨v, H1, I1, rv, h1⟩ => ?_
    exact ih pins s1 σ H1 _ _ I1 h1 fun us s' vs H' I' rel r => q (u :: us) s' (v :: vs) H' I' (.cons rv rel) r
theorem Vals.toInts : ∀ {ns : List Int} {us : List Value}, Vals (ns.map V.int) us → IntsAre us ns
  | [], _, h => by cases h; exact .nil
  | n :: ns, _, h => by
    cases h with
    | cons a b =>
      obtain ⟨t, rfl⟩ := a
      exact .cons n t (Vals.toInts b)
/-- how many unlike ones -/
def unlike : List Int → List Int → Nat
  | _, [] => 0
  | seen, n :: ns => if n ∈ seen then unlike seen ns else unlike (n :: seen) ns + 1
section
variable {P : Program} {w : World} {A : Around} {E : Value → Shared → Prop} {s : Shared} {D : Addr}
theorem unledI {S : Int → Bool} {n : Nat} {Q : Unit → Shared → Prop} (hS : s.heap.SetOf (intKind P w) D S n) (h : ∀ h', h'.SetOf (intKind P w) D S n → (∀ b o, b ≠ D → s.heap.get? b = some o → h'.get? b = some o) → Q () { s with heap := h' }) :
    wpAny (model P w) A (setUnled D) Q E s := by
  obtain ⟨o, es, ep, tb, get, exact', data, elems, mem, bound, fit, cnt⟩ := hS
  have fit' : ({ tb with led := false } : SetTable).fits es.size = true := by cases tb; exact fit
  unfold setUnled
  refine wpAny_bind (wpAny_setState_of get data fit ?_)
  dsimp only
  refine wpAny_storeSet_of get data ?_ (fits_of_scanBound bound)
  obtain ⟨_, hS2⟩ := SetOf_store (knd := intKind P w) get exact' data elems mem bound fit'
  rw [cnt] at hS2
  have but := Heap.SameBut.update s.heap D (Obj.putSet es { tb with led := false })
  exact h _ hS2 fun b ob hb z => (but.2 b hb).trans z
theorem fillI {u : Bool} {h₀ : Heap} {us : List Value} {ns : List Int} (r : IntsAre us ns) : ∀ (h : Heap) (k : Nat) (S : Int → Bool) (seen : List Int) (n : Nat) (Q : Value → Shared → Prop), h.SetOf (intKind P w) D S n → (∀ z, S z = true ↔ z ∈ seen) →
    (∀ b o, b ≠ D → h₀.get? b = some o → h.get? b = some o) → n + ns.length < 4000 →
    (∀ h' k' S', h'.SetOf (intKind P w) D S' (n + unlike seen ns) → (∀ b o, b ≠ D → h₀.get? b = some o → h'.get? b = some o) → PySem.W.KdsFill (model P w) A E u D Q [] { s with heap := h', toks := k' }) →
    PySem.W.KdsFill (model P w) A E u D Q us { s with heap := h, toks := k } := by
  induction r with
  | nil =>
    intro h k S seen n Q hS _ hk _ q
    exact q h k S hS hk
  | cons y t r ih =>
    rename_i us2 ns2
    intro h k S seen n Q hS hmem hk hn q
    rw [List.length_cons] at hn
    refine PySem.W.kds_fill_cons ?_
    unfold setAdd
    refine wpAny_holding (wpAny_bind ((intKind P w).pyHash (k := y) (intKind_is _ _ _ _) ?_))
    refine wpAny_setAddHashed_of (knd := intKind P w) (s := { s with heap := h, toks := k + 1 }) (intKind_is _ _ _ _) rfl hS (by unfold scanBound; omega) fun h' sb hS' => ?_
    refine ih h' (k + 1) _ (if y ∈ seen then seen else y :: seen) _ Q hS' (fun z => ?_) (fun b o hb e => (sb.2 b hb).trans (hk b o hb e)) (by split <;> omega) fun h2 k2 S2 a b => q h2 k2 S2 ?_ b
    · by_cases hy : y ∈ seen
      · rw [if_pos hy]
        simp only [Bool.or_eq_true, decide_eq_true_eq, hmem]
        exact ⟨fun z => z.elim id fun e => e ▸ hy, Or.inl⟩
      · rw [if_neg hy]
        simp only [Bool.or_eq_true, decide_eq_true_eq, hmem, List.mem_cons]
        exact Or.comm
    · have e : n + unlike seen (y :: ns2) = (if S y = true then n else n + 1) + unlike (if y ∈ seen then seen else y :: seen) ns2 := by
        by_cases hy : y ∈ seen
        · rw [if_pos ((hmem y).mpr hy), if_pos hy]
          show n + (if y ∈ seen then unlike seen ns2 else unlike (y :: seen) ns2 + 1) = _
          rw [if_pos hy]
        · rw [if_neg (fun z => hy ((hmem y).mp z)), if_neg hy]
          show n + (if y ∈ seen then unlike seen ns2 else unlike (y :: seen) ns2 + 1) = _
          rw [if_neg hy]
          omega
      rw [e]
      exact a
end
/-- len({e, ..}), all of them ints -/
def tLenSet (t : TA) : TE := fun σ H Q => t σ H fun vs H1 => ∃ ns : List Int, vs = ns.map V.int ∧ ns.length ≤ 30 ∧ Q (.int (unlike [] ns : Nat)) H1
theorem pe_lenSetI {es : List Expr} {t : TA} {p p2 pos : Pos} (hgl : Gl X "len") (hm : X.mg "len" = none) (hs : PEL X es t) (hl : es.length ≤ 30) (hcd : PySem.W.kdsCode X.K X.env.code = true) :
    PE X (.Call (.Name "len" p) [.Set es 0 p2] [] pos) (tLenSet t) := by
  refine ⟨fun pins s σ H Q I h => wpAny_Call_Name_kw (ld_blt I hgl hm PySem.boot_len ?_ (by decide) (by decide))⟩
  refine PyProof.Rows.callWith_builtin1 (Calls.spliced_cons ?_) (by rfl) (by rfl)
  rw [arm_eval_Set]
  refine wpAny_bind (wpAny_standAt ?_)
  refine wpAny_bind (PySem.W.kds_main I.kIn hcd fun b => ?_)
  rw [PySem.W.kds_star es hs.plain, List.map_map]
  refine PySem.W.kds_core (ts := (evalEach es X.env).map fun t => do let v ← t; standAt p2; pure v) (road0 es) ?_ ?_ ?_ fun led => ?_
  · refine List.findIdx?_eq_none_iff.mpr fun x hx => ?_
    obtain ⟨t, _, rfl⟩ := List.mem_map.mp hx
    rfl
  · rw [List.length_map, PySem.W.kds_len]
    exact hl
  · rw [List.map_map]
    try rfl
  · -- the set's object stands behind the items' evaluation
    have I1 : Inv X pins σ H { s with heap := s.heap.push { cls := .type "set", dict := none, data := .set #[] 0 (.fresh 0 0 led) } } := I.kept (t' := s.toks) fun b u e => Heap.get?_push_of_some _ e
    have hget : (s.heap.push { cls := .type "set", dict := none, data := .set #[] 0 (.fresh 0 0 led) }).get? s.heap.objs.size = some { cls := .type "set", dict := none, data := .set #[] 0 (.fresh 0 0 led) } := Heap.get?_push_size _ rfl
    have I2 := I1.pinned (fp := [s.heap.objs.size]) (fun b hb => by
      rw [List.mem_singleton.mp hb]
      exact I.fpOk (Nat.le_refl _) (I.hok.fresh (Nat.le_refl _))) (fun b hb => by
      rw [List.mem_singleton.mp hb]
      exact ⟨_, hget, fun v z => nomatch z⟩)
    refine PySem.W.kds_all p2 es _ _ (hs.run _ _ σ H (fun vs H1 => ∃ ns : List Int, vs = ns.map V.int ∧ ns.length ≤ 30 ∧ Q (.int (unlike [] ns : Nat)) H1) _ I2 h fun us s' vs H' I' rel hq => ?_)
    obtain ⟨ns, rfl, hl2, q⟩ := hq
    have hpin : s'.heap.get? s.heap.objs.size = some { cls := .type "set", dict := none, data := .set #[] 0 (.fresh 0 0 led) } :=
      (I'.pin _ (List.mem_append_right _ (List.mem_append_right _ (mem_pinsAt (List.mem_singleton.mpr rfl) hget)))).1
    have free : H' s.heap.objs.size = none := (I'.pin _ (List.mem_append_right _ (List.mem_append_right _ (mem_pinsAt (List.mem_singleton.mpr rfl) hget)))).2.1
    have I3 := I'.unpinned
    have hS0 : s'.heap.SetOf (intKind X.prog X.w) s.heap.objs.size (fun _ => false) 0 := (setObjOf_fresh (knd := intKind X.prog X.w) led).setOf hpin (by decide)
    obtain ⟨f0, f1, f2, f3, f4, f5⟩ := I.fpOk (H' := H') (Nat.le_refl s.heap.objs.size) free
    have last : ∀ (h' : Heap) (k' : Nat) (S' : Int → Bool), h'.SetOf (intKind X.prog X.w) s.heap.objs.size S' (0 + unlike [] ns) → (∀ b o, b ≠ s.heap.objs.size → s'.heap.get? b = some o → h'.get? b = some o) →
        wpAny (model X.prog X.w) X.A (spliced []) (fun vs s2 => wpAny (model X.prog X.w) X.A (call (.builtin "len") (.ref s.heap.objs.size :: vs)) (EP X pins σ Q) X.xe s2) X.xe { s' with heap := h', toks := k' } := fun h' k' S' hS hk => by
      refine Calls.spliced_nil ?_
      obtain ⟨o, el, ep, tb, get, exact', data, elems, mem, bound, fit, cnt⟩ := hS
      have fz : (el.size : Int) < 2 ^ 63 := by
        have : el.size < 4096 := bound
        omega
      refine call_len_set (s := { s' with heap := h', toks := k' }) get exact' data fit fz ⟨.int (unlike [] ns : Nat), H', I3.turned (fun b ob hb e => hk b ob hb e) f0 f1 f3 f4 f5, ⟨k' + 1, ?_⟩, q⟩
      rw [cnt, Nat.zero_add]
    refine fillI (s := s') (h₀ := s'.heap) (Vals.toInts rel) s'.heap s'.toks (fun _ => false) [] 0 _ hS0 (fun z => ⟨fun e => Bool.noConfusion e, fun e => absurd e List.not_mem_nil⟩) (fun _ _ _ e => e) (by omega) fun h' k' S' hS hk => ?_
    cases hu : (displayRoad 0 es == DisplayRoad.unsure) with
    | false => exact PySem.W.kds_fill_nil rfl (last h' k' S' hS hk)
    | true => exact PySem.W.kds_fill_unled rfl (unledI (s := { s' with heap := h', toks := k' }) hS fun h2 hS2 sb => last h2 k' S' hS2 fun b o hb e => sb b o hb (hk b o hb e))
end
end NA
namespace NA
open PySem PySem.Spec PyProof.Rows L2
theorem small_log {i : Int} (h : i.natAbs < 2 ^ 1900) : i.natAbs.log2 < 1920 := Nat.lt_of_lt_of_le (PySem.Flt.log2_lt_of (by decide) h) (by decide)
theorem okAll_ints : ∀ ns : List Int, (∀ n ∈ ns, n.natAbs < 2 ^ 1900) → okAll (ns.map PyData.int) = true
  | [], _ => rfl
  | n :: ns, h => by
    rw [List.map_cons]
    simp only [okAll, okD, okAll_ints ns fun m hm => h m (List.mem_cons_of_mem _ hm), Bool.and_true]
    exact decide_eq_true (small_log (h n List.mem_cons_self))
theorem costAll_ints : ∀ ns : List Int, costAll (ns.map PyData.int) = 1923 * ns.length
  | [] => rfl
  | n :: ns => by
    rw [List.map_cons]
    simp only [costAll, cost, costAll_ints ns, List.length_cons]
    omega
theorem Sh.ints {ns : List Int} (h : ∀ n ∈ ns, n.natAbs < 2 ^ 1900) (l : ns.length ≤ 1000) : Sh (.tuple (ns.map .int)) := by
  refine ⟨by simpa only [okD] using okAll_ints ns h, ?_, ?_⟩
  · simp only [NA.cost, costAll_ints]
    omega
  · simp only [PyData.depth, depth_ints]
    decide
theorem Sh.pair {d e : PyData} (a : Sh d) (b : Sh e) (ca : NA.cost d ≤ 4000000) (cb : NA.cost e ≤ 4000000) (da : d.depth ≤ 50) (db : e.depth ≤ 50) : Sh (.list [d, e]) := by
  refine ⟨?_, ?_, ?_⟩
  · simp only [okD, okAll, a.ok, b.ok, Bool.and_self]
  · simp only [NA.cost, costAll]
    omega
  · simp only [PyData.depth, PyData.depthAll]
    omega
theorem Sh.int {i : Int} (h : i.natAbs < 2 ^ 1900) : Sh (.int i) := ⟨by simp only [okD]; exact decide_eq_true (small_log h), by simp only [NA.cost]; decide, by simp only [PyData.depth]; decide⟩
theorem asc_len (N : Nat) : ∀ (l : List Nat) (lo : Nat), l.Pairwise (· < ·) → (∀ x ∈ l, lo ≤ x ∧ x < N) → l.length ≤ N - lo
  | [], _, _, _ => Nat.zero_le _
  | x :: l, lo, h, hb => by
    obtain ⟨h1, h2⟩ := List.pairwise_cons.mp h
    obtain ⟨b1, b2⟩ := hb x List.mem_cons_self
    have ih := asc_len N l (x + 1) h2 fun y hy => ⟨h1 y hy, (hb y (List.mem_cons_of_mem _ hy)).2⟩
    rw [List.length_cons]
    omega
theorem WOk.len {m : Nat} {ws : List (Nat × Nat)} (h : WOk m ws) (hm : m ≤ 6) : ws.length ≤ 36 := by
  have z := asc_len 36 (ws.map fun w => 6 * w.1 + w.2) 0 ?_ ?_
  · rw [List.length_map] at z
    omega
  · rw [List.pairwise_map]
    refine List.Pairwise.imp_of_mem (fun {a b} ha hb e => ?_) h.asc
    obtain ⟨a1, a2, _⟩ := h.low a ha
    obtain ⟨b1, b2, _⟩ := h.low b hb
    rcases e with e | ⟨e1, e2⟩ <;> omega
  · intro x hx
    obtain ⟨w, hw, rfl⟩ := List.mem_map.mp hx
    obtain ⟨b1, b2, _⟩ := h.low w hw
    omega
theorem okAll_wires : ∀ ws : List (Nat × Nat), (∀ w ∈ ws, w.1 < 1000 ∧ w.2 < 1000) → okAll (ws.map wD) = true
  | [], _ => rfl
  | w :: ws, h => by
    obtain ⟨a, b⟩ := h w List.mem_cons_self
    have s : ∀ n : Nat, n < 1000 → (n : Int).natAbs < 2 ^ 1900 := fun n hn => by
      rw [Int.natAbs_natCast]
      exact Nat.lt_trans hn (by decide)
    rw [List.map_cons]
    simp only [okAll, wD, okD, decide_eq_true (small_log (s _ a)), decide_eq_true (small_log (s _ b)), Bool.and_self, Bool.true_and]
    exact okAll_wires ws fun x hx => h x (List.mem_cons_of_mem _ hx)
theorem costAll_wires : ∀ ws : List (Nat × Nat), costAll (ws.map wD) = 3851 * ws.length
  | [] => rfl
  | w :: ws => by
    rw [List.map_cons]
    simp only [costAll, wD, cost, costAll_wires ws, List.length_cons]
    omega
theorem depth_wires : ∀ ws : List (Nat × Nat), PyData.depthAll (ws.map wD) ≤ 1
  | [] => by simp [PyData.depthAll]
  | w :: ws => by
    have := depth_wires ws
    rw [List.map_cons]
    simp only [PyData.depthAll, wD, PyData.depth]
    omega
theorem SizeOk.small {n : Int} (h : SizeOk n) : n.natAbs < 2 ^ 100 := by
  obtain ⟨m, rfl, _, h2, _⟩ := h
  rw [Int.natAbs_natCast]
  exact Nat.lt_of_le_of_lt h2 (by decide)
theorem Sh.mach {ss : List Int} {ws : List (Nat × Nat)} (h : MOk ss ws) : Sh (mD ss ws) := by
  have l1 := h.six
  have l2 := h.wires.len l1
  refine ⟨?_, ?_, ?_⟩
  · have a := okAll_ints ss fun n hn => Nat.lt_trans (h.size n hn).small (by decide)
    have b := okAll_wires ws fun w hw => by
      obtain ⟨x, y, _⟩ := h.wires.low w hw
      omega
    simp only [mD, sD, okD, okAll, a, b, Bool.and_self]
  · simp only [mD, sD, NA.cost, costAll, costAll_ints, costAll_wires]
    omega
  · have := depth_wires ws
    simp only [mD, sD, PyData.depth, PyData.depthAll, depth_ints]
    omega
theorem eqv_nil (ns : List Int) : PyData.eqv (.list (ns.map .int)) (.list []) = ns.isEmpty := by
  cases ns with
  | nil => rfl
  | cons n ns => rfl
/-- the primes of sizes, as numbers from 0 on -/
def dueN (ss : List Int) : List Nat := PRn.filter fun p => dv ss p
theorem dueP_eq (ss : List Int) : dueP ss = (dueN ss).map (fun n : Nat => (n : Int)) := by
  unfold dueP dueN
  rw [show PR = PRn.map (fun n : Nat => (n : Int)) by decide +kernel, List.filter_map]
  rfl
theorem dueN_mem {ss : List Int} {p : Nat} (h : p ∈ dueN ss) : p ∈ PRn := (List.mem_filter.mp h).1
theorem dueN_len (ss : List Int) : (dueN ss).length ≤ 25 := List.length_filter_le _ _
theorem dueP_len (ss : List Int) : (dueP ss).length ≤ 25 := List.length_filter_le _ _
theorem dueP_small {ss : List Int} : ∀ n ∈ dueP ss, n.natAbs < 2 ^ 1900 := fun n hn => by
  rw [dueP_eq] at hn
  obtain ⟨p, hp, rfl⟩ := List.mem_map.mp hn
  rw [Int.natAbs_natCast]
  exact Nat.lt_of_le_of_lt (PRn_le (dueN_mem hp)) (by decide)
theorem dueN_made {ss : List Int} {s : Nat} (h : (s : Int) ∈ ss) (hs : Smo s) : made (dueN ss) 1 s = s := by
  unfold dueN
  rw [made_filter, made_smo hs]
  intro p hp e
  refine val_no fun z => ?_
  have : dv ss (p : Int) = true := List.any_eq_true.mpr ⟨s, h, decide_eq_true (by
    show ((s % p : Nat) : Int) = 0
    rw [z]
    rfl)⟩
  rw [this] at e
  cases e
theorem made_pos {s : Nat} : ∀ (l : List Nat), (∀ p ∈ l, 0 < p) → 0 < made l 1 s
  | [], _ => Nat.one_pos
  | p :: l, h => by
    show 0 < made l (1 * p ^ val p s) s
    rw [made_acc]
    exact Nat.mul_pos (Nat.mul_pos Nat.one_pos (Nat.pow_pos (h p List.mem_cons_self))) (made_pos l fun q hq => h q (List.mem_cons_of_mem _ hq))
theorem made_app (l r : List Nat) (s : Nat) : made (l ++ r) 1 s = made l 1 s * made r 1 s := by
  have : made (l ++ r) 1 s = made r (made l 1 s) s := List.foldl_append
  rw [this, made_acc]
theorem made_take {l : List Nat} {s : Nat} (h : ∀ p ∈ l, 0 < p) (n : Nat) : made (l.take n) 1 s ≤ made l 1 s := by
  have e := made_app (l.take n) (l.drop n) s
  rw [List.take_append_drop] at e
  rw [e]
  exact Nat.le_mul_of_pos_right _ (made_pos _ fun p hp => h p (List.mem_of_mem_drop hp))
theorem made_next {l : List Nat} {s n p : Nat} (h : l[n]? = some p) : made (l.take (n + 1)) 1 s = made (l.take n) 1 s * p ^ val p s := by
  rw [List.take_add_one, h, made_app]
  show made (l.take n) 1 s * (1 * p ^ val p s) = _
  rw [Nat.one_mul]
def spDivided : Sp := fun vs H Q _ => ∃ (v : V) (ss : List Int) (ws : List (Nat × Nat)), vs = [v] ∧ Im H v (mD ss ws) ∧ MOk ss ws ∧ ∀ H', Same H H' → Q (.bl true) H'
def spLeast : Sp := fun vs H Q _ => ∃ (v : V) (ss : List Int) (ws : List (Nat × Nat)) (j i : Nat), vs = [v, .int j, .int i] ∧ Im H v (mD ss ws) ∧ MOk ss ws ∧ j < ss.length ∧ i < ss.length ∧ ∀ H', Same H H' → Q (.bl true) H'
def spLaw (K : PySem.W.Frag) : Sp := fun vs H Q _ => ∃ (a : Addr) (ns : List Int), vs = [.ref a] ∧ SqL K H a (ns.map V.int) ∧ ns.length ≤ 63 ∧ ∀ H', Q (.bl true) H'
theorem Same.k {H H' : Hp} {v : V} {d : PyData} (e : Same H H') (h : Im H v d) : Im H' v d := h.k (Tk.same e)
end NA
namespace NA
open PySem PySem.Spec PyProof.Rows L2
/-! ### data with lists in it; N: where lists may stand -/
mutual
inductive Dg (N : Addr → Prop) (H : Hp) : V → PyData → Prop
  | non : Dg N H .non .none
  | bl (b : Bool) : Dg N H (.bl b) (.bool b)
  | int (i : Int) : Dg N H (.int i) (.int i)
  | str (x : Str) : Dg N H (.str x) (.str x)
  | lst {a : Addr} {xs : List V} {ds : List PyData} : N a → H a = some (.lst xs) → DgAll N H xs ds → Dg N H (.ref a) (.list ds)
  | tup {a : Addr} {xs : List V} {ds : List PyData} : H a = some (.tup xs) → DgAll N H xs ds → Dg N H (.ref a) (.tuple ds)
inductive DgAll (N : Addr → Prop) (H : Hp) : List V → List PyData → Prop
  | nil : DgAll N H [] []
  | cons {v : V} {vs : List V} {d : PyData} {ds : List PyData} : Dg N H v d → DgAll N H vs ds → DgAll N H (v :: vs) (d :: ds)
end
/-- tuples stay, lists where they may stand, the empty dicts -/
structure Ks (N : Addr → Prop) (H H' : Hp) : Prop where
  tup : Tk H H'
  lst : ∀ b xs, N b → H b = some (.lst xs) → H' b = some (.lst xs)
  dic : ∀ b kvs, H b = some (.dK kvs) → H' b = some (.dK kvs)
theorem Ks.same {N : Addr → Prop} {H H' : Hp} (e : Same H H') : Ks N H H' := ⟨Tk.same e, fun b _ _ h => e b _ h, fun b _ h => e b _ h⟩
theorem Ks.kp {p q : Addr} {H H' : Hp} (e : Kp p q H H') (P : Pt H p q) : Ks (fun a => a ≠ p ∧ a ≠ q) H H' := by
  refine ⟨e.tk P, fun b xs n h => e b _ n.1 n.2 h, fun b kvs h => ?_⟩
  obtain ⟨ys, h1⟩ := P.lp
  obtain ⟨zs, h2⟩ := P.lq
  exact e b _ (ne_of h h1 (by intro k; cases k)) (ne_of h h2 (by intro k; cases k)) h
theorem Ks.refl (N : Addr → Prop) (H : Hp) : Ks N H H := ⟨Tk.refl H, fun _ _ _ h => h, fun _ _ h => h⟩
theorem Ks.trans {N : Addr → Prop} {H H1 H2 : Hp} (a : Ks N H H1) (b : Ks N H1 H2) : Ks N H H2 := ⟨a.tup.trans b.tup, fun c x n h => b.lst c x n (a.lst c x n h), fun c x h => b.dic c x (a.dic c x h)⟩
mutual
theorem Dg.keep {N N' : Addr → Prop} {H H' : Hp} (e : Ks N H H') (m : ∀ a, N a → N' a) : ∀ (d : PyData) (v : V), Dg N H v d → Dg N' H' v d
  | .none, _, h => by cases h; exact .non
  | .bool _, _, h => by cases h; exact .bl _
  | .int _, _, h => by cases h; exact .int _
  | .str _, _, h => by cases h; exact .str _
  | .tuple ds, _, h => by
    cases h with
    | tup a b => exact .tup (e.tup _ _ a) (DgAll.keep e m ds _ b)
  | .list ds, _, h => by
    cases h with
    | lst n a b => exact .lst (m _ n) (e.lst _ _ n a) (DgAll.keep e m ds _ b)
  | .dict _, _, h => by cases h
theorem DgAll.keep {N N' : Addr → Prop} {H H' : Hp} (e : Ks N H H') (m : ∀ a, N a → N' a) : ∀ (ds : List PyData) (vs : List V), DgAll N H vs ds → DgAll N' H' vs ds
  | [], _, h => by cases h; exact .nil
  | d :: ds, _, h => by
    cases h with
    | cons a b => exact .cons (Dg.keep e m d _ a) (DgAll.keep e m ds _ b)
end
mutual
theorem Dg.toDp {N : Addr → Prop} {K : PySem.W.Frag} {H : Hp} : ∀ (d : PyData) (v : V), Dg N H v d → Dp K H v d
  | .none, _, h => by cases h; exact .non
  | .bool _, _, h => by cases h; exact .bl _
  | .int _, _, h => by cases h; exact .int _
  | .str _, _, h => by cases h; exact .str _
  | .tuple ds, _, h => by
    cases h with
    | tup a b => exact .tup (SqT.of a) (DgAll.toDp ds _ b)
  | .list ds, _, h => by
    cases h with
    | lst n a b => exact .lst (SqL.of a) (DgAll.toDp ds _ b)
  | .dict _, _, h => by cases h
theorem DgAll.toDp {N : Addr → Prop} {K : PySem.W.Frag} {H : Hp} : ∀ (ds : List PyData) (vs : List V), DgAll N H vs ds → DpAll K H vs ds
  | [], _, h => by cases h; exact .nil
  | d :: ds, _, h => by
    cases h with
    | cons a b => exact .cons (Dg.toDp d _ a) (DgAll.toDp ds _ b)
end
mutual
theorem Im.toDg {N : Addr → Prop} {H : Hp} : ∀ (d : PyData) (v : V), Im H v d → Dg N H v d
  | .none, _, h => by cases h; exact .non
  | .bool _, _, h => by cases h; exact .bl _
  | .int _, _, h => by cases h; exact .int _
  | .str _, _, h => by cases h; exact .str _
  | .tuple ds, _, h => by
    cases h with
    | tup a b => exact .tup a (ImAll.toDg ds _ b)
  | .list _, _, h => by cases h
  | .dict _, _, h => by cases h
theorem ImAll.toDg {N : Addr → Prop} {H : Hp} : ∀ (ds : List PyData) (vs : List V), ImAll H vs ds → DgAll N H vs ds
  | [], _, h => by cases h; exact .nil
  | d :: ds, _, h => by
    cases h with
    | cons a b => exact .cons (Im.toDg d _ a) (ImAll.toDg ds _ b)
end
theorem Im.dg {N : Addr → Prop} {H : Hp} {v : V} {d : PyData} (h : Im H v d) : Dg N H v d := Im.toDg d v h
/-- such data, or an empty dict -/
def Dv (N : Addr → Prop) (H : Hp) (v : V) (d : PyData) : Prop := Dg N H v d ∨ ∃ a, v = .ref a ∧ H a = some (.dK []) ∧ d = .dict []
theorem Dg.k {N : Addr → Prop} {H H' : Hp} {v : V} {d : PyData} (h : Dg N H v d) (e : Ks N H H') : Dg N H' v d := Dg.keep e (fun _ z => z) d v h
theorem DgAll.k {N : Addr → Prop} {H H' : Hp} {v : List V} {d : List PyData} (h : DgAll N H v d) (e : Ks N H H') : DgAll N H' v d := DgAll.keep e (fun _ z => z) d v h
theorem Dg.any {N : Addr → Prop} {H : Hp} {v : V} {d : PyData} (h : Dg N H v d) : Dg (fun _ => True) H v d := Dg.keep (Ks.refl N H) (fun _ _ => trivial) d v h
theorem Dv.k {N : Addr → Prop} {H H' : Hp} {v : V} {d : PyData} (h : Dv N H v d) (e : Ks N H H') : Dv N H' v d := by
  rcases h with h | ⟨a, h1, h2, h3⟩
  · exact .inl (h.k e)
  · exact .inr ⟨a, h1, e.dic _ _ h2, h3⟩
theorem Dv.any {N : Addr → Prop} {H : Hp} {v : V} {d : PyData} (h : Dv N H v d) : Dv (fun _ => True) H v d := by
  rcases h with h | h
  · exact .inl h.any
  · exact .inr h
theorem DgAll.length {N : Addr → Prop} {H : Hp} : ∀ {vs : List V} {ds : List PyData}, DgAll N H vs ds → vs.length = ds.length
  | _, _, .nil => rfl
  | _, _, .cons _ b => by rw [List.length_cons, List.length_cons, DgAll.length b]
theorem DgAll.get {N : Addr → Prop} {H : Hp} : ∀ {vs : List V} {ds : List PyData} {i : Nat} {v : V}, DgAll N H vs ds → vs[i]? = some v → ∃ d, ds[i]? = some d ∧ Dg N H v d
  | _, _, _, _, .nil, e => by simp at e
  | _, _, 0, _, .cons a _, e => by
    simp at e
    subst e
    exact ⟨_, rfl, a⟩
  | _, _, i + 1, v, .cons _ b, e => by
    obtain ⟨d, h1, h2⟩ := DgAll.get (i := i) (v := v) b (by simpa using e)
    exact ⟨d, by simpa using h1, h2⟩
theorem DgAll.append {N : Addr → Prop} {H : Hp} : ∀ {vs ws : List V} {ds es : List PyData}, DgAll N H vs ds → DgAll N H ws es → DgAll N H (vs ++ ws) (ds ++ es)
  | _, _, _, _, .nil, h => h
  | _, _, _, _, .cons a b, h => .cons a (DgAll.append b h)
theorem DgAll.take {N : Addr → Prop} {H : Hp} : ∀ (n : Nat) {vs : List V} {ds : List PyData}, DgAll N H vs ds → DgAll N H (vs.take n) (ds.take n)
  | 0, _, _, _ => .nil
  | _ + 1, _, _, .nil => .nil
  | n + 1, _, _, .cons a b => .cons a (DgAll.take n b)
theorem DgAll.drop {N : Addr → Prop} {H : Hp} : ∀ (n : Nat) {vs : List V} {ds : List PyData}, DgAll N H vs ds → DgAll N H (vs.drop n) (ds.drop n)
  | 0, _, _, h => h
  | _ + 1, _, _, .nil => .nil
  | n + 1, _, _, .cons a b => DgAll.drop n b
/-! ### types -/
def tyD : PyData → String
  | .none => "NoneType"
  | .bool _ => "bool"
  | .int _ => "int"
  | .str _ => "str"
  | .list _ => "list"
  | .tuple _ => "tuple"
  | .dict _ => "dict"
theorem Dv.ty {N : Addr → Prop} {K : PySem.W.Frag} {H : Hp} {v : V} {d : PyData} (h : Dv N H v d) : TyX K H v (.type (tyD d)) := by
  rcases h with h | ⟨a, rfl, h2, rfl⟩
  · cases h with
    | non => exact .base .non
    | bl b => exact .base (.bl b)
    | int i => exact .base (.int i)
    | str x => exact .base (.str x)
    | lst _ a _ => exact .base (.lst a)
    | tup a _ => exact .base (.tup a)
  · exact .base (.dK h2)
def isT : PyData → Bool
  | .tuple _ => true
  | _ => false
def isIB : PyData → Bool
  | .int _ => true
  | .bool _ => true
  | _ => false
def isB : PyData → Bool
  | .bool _ => true
  | _ => false
def isI : PyData → Bool
  | .int _ => true
  | _ => false
theorem kit_tup (K : PySem.W.Frag) (d : PyData) : PySem.W.kitOne K (.type (tyD d)) (.type "tuple") = some (isT d) := by
  cases d with
  | none => exact kit_ty (show kitB "NoneType" "tuple" = some false by decide +kernel)
  | bool _ => exact kit_ty (show kitB "bool" "tuple" = some false by decide +kernel)
  | int _ => exact kit_ty (show kitB "int" "tuple" = some false by decide +kernel)
  | str _ => exact kit_ty (show kitB "str" "tuple" = some false by decide +kernel)
  | list _ => exact kit_ty (show kitB "list" "tuple" = some false by decide +kernel)
  | tuple _ => exact kit_ty (show kitB "tuple" "tuple" = some true by decide +kernel)
  | dict _ => exact kit_ty (show kitB "dict" "tuple" = some false by decide +kernel)
theorem kit_int (K : PySem.W.Frag) (d : PyData) : PySem.W.kitOne K (.type (tyD d)) (.type "int") = some (isIB d) := by
  cases d with
  | none => exact kit_ty (show kitB "NoneType" "int" = some false by decide +kernel)
  | bool _ => exact kit_ty (show kitB "bool" "int" = some true by decide +kernel)
  | int _ => exact kit_ty (show kitB "int" "int" = some true by decide +kernel)
  | str _ => exact kit_ty (show kitB "str" "int" = some false by decide +kernel)
  | list _ => exact kit_ty (show kitB "list" "int" = some false by decide +kernel)
  | tuple _ => exact kit_ty (show kitB "tuple" "int" = some false by decide +kernel)
  | dict _ => exact kit_ty (show kitB "dict" "int" = some false by decide +kernel)
theorem kit_bool (K : PySem.W.Frag) (d : PyData) : PySem.W.kitOne K (.type (tyD d)) (.type "bool") = some (isB d) := by
  cases d with
  | none => exact kit_ty (show kitB "NoneType" "bool" = some false by decide +kernel)
  | bool _ => exact kit_ty (show kitB "bool" "bool" = some true by decide +kernel)
  | int _ => exact kit_ty (show kitB "int" "bool" = some false by decide +kernel)
  | str _ => exact kit_ty (show kitB "str" "bool" = some false by decide +kernel)
  | list _ => exact kit_ty (show kitB "list" "bool" = some false by decide +kernel)
  | tuple _ => exact kit_ty (show kitB "tuple" "bool" = some false by decide +kernel)
  | dict _ => exact kit_ty (show kitB "dict" "bool" = some false by decide +kernel)
theorem Dv.tuple {N : Addr → Prop} {H : Hp} {v : V} {d : PyData} (h : Dv N H v d) (e : isT d = true) : ∃ a xs ds, v = .ref a ∧ d = .tuple ds ∧ H a = some (.tup xs) ∧ DgAll N H xs ds := by
  rcases h with h | ⟨a, rfl, h2, rfl⟩
  · cases h with
    | tup a b => exact ⟨_, _, _, rfl, rfl, a, b⟩
    | non => cases e
    | bl _ => cases e
    | int _ => cases e
    | str _ => cases e
    | lst _ _ _ => cases e
  · cases e
theorem Dv.int {N : Addr → Prop} {H : Hp} {v : V} {d : PyData} (h : Dv N H v d) (e : isI d = true) : ∃ i, v = .int i ∧ d = .int i := by
  rcases h with h | ⟨a, rfl, h2, rfl⟩
  · cases h with
    | int i => exact ⟨i, rfl, rfl⟩
    | non => cases e
    | bl _ => cases e
    | tup _ _ => cases e
    | str _ => cases e
    | lst _ _ _ => cases e
  · cases e
/-! ### repr -/
structure ShV (d : PyData) : Prop where
  ok : Sh d ∨ d = .dict []
def rReprV (N : Addr → Prop) : List V → Hp → VK → Prop := fun xs H Q => ∃ v d, xs = [v] ∧ Dv N H v d ∧ ShV d ∧ Q (.str d.shown) H
theorem call_reprV {X : Cx} (N : Addr → Prop) {k : Nat} (hg : Bare X.A) (hr : Room k X.A) : CallR X (.builtin "repr") (rReprV N) := by
  intro pins s σ H xs us Q I r h
  obtain ⟨v, d, rfl, hd, sh, q⟩ := h
  rcases hd with hd | ⟨a, rfl, h2, rfl⟩
  · rcases sh.ok with s1 | e
    · exact call_reprD hg hr pins s σ H [v] us Q I r ⟨v, d, rfl, Dg.toDp d v hd, s1, q⟩
    · subst e
      cases hd
  · obtain ⟨u, rfl, ru⟩ := r.one
    cases (show u = Value.ref a from ru)
    have ok : ObjOk X.prog X.w H s.heap a (.dK []) := I.hok a _ h2
    obtain ⟨_, ns, vs, kv, o, es, ep, g1, g2, g3, g4, g5⟩ := ok
    have hu := hr.un
    have vs0 : vs = [] := by cases kv; rfl
    subst vs0
    have es0 : es.toList = [] := by
      have z := g5.1
      cases h : es.toList with
      | nil => rfl
      | cons x l =>
        rw [h] at z
        cases z
    have rd : Reads s.heap (.ref a) (.dict []) (a :: [] ++ []) := .dict g1 g2.1 g3 (by rw [es0]; exact .nil) (by rw [es0]; exact .nil)
    have nsm : sysModules ≠ a := fun z => by
      rw [z, beq_self_eq_true] at ns
      cases ns
    refine repr_of_reads' rd (by decide) (fun _ => by simpa using nsm) hg (by show X.A.units + (1 + 1) < cLine; omega) (fun _ _ z => z) (fun h' u tk hk => ⟨.str _, H, I.kept (t' := tk) hk, ⟨_, rfl⟩, q⟩) (by decide +kernel)
end NA
namespace NA
open PySem PySem.Spec PyProof.Rows L2
/-! ### what is wrong with a machine, over data -/
def strp (p n : Nat) : Nat := n / p ^ val p n
theorem strp_yes {p n : Nat} (hp : 2 ≤ p) (hn : 0 < n) (h : n % p = 0) : strp p n = strp p (n / p) := by
  unfold strp
  rw [val_yes hp hn h, Nat.pow_succ, Nat.mul_comm, Nat.div_div_eq_div_mul]
theorem strp_no {p n : Nat} (h : n % p ≠ 0) : strp p n = n := by
  unfold strp
  rw [val_no h, Nat.pow_zero, Nat.div_one]
theorem strp_pos {p n : Nat} (hp : 2 ≤ p) (hn : 0 < n) : 0 < strp p n := by
  have d := (pow_dvd_val hp (val p n) n hn).mpr (Nat.le_refl _)
  exact Nat.div_pos (Nat.le_of_dvd hn d) (Nat.pow_pos (by omega))
theorem strp_le (p n : Nat) : strp p n ≤ n := Nat.div_le_self _ _
def strA (l : List Nat) (n : Nat) : Nat := l.foldl (fun r p => strp p r) n
theorem strA_next {l : List Nat} {n i p : Nat} (h : l[i]? = some p) : strA (l.take (i + 1)) n = strp p (strA (l.take i) n) := by
  unfold strA
  rw [List.take_add_one, h, List.foldl_append]
  rfl
def isSz : PyData → Bool
  | .int n => decide (2 ≤ n) && decide (n ≤ 10 ^ 30) && (strA PRn n.toNat == 1)
  | _ => false
def isBl (m : Nat) : PyData → Bool
  | .int n => decide (0 ≤ n) && decide (n < (m : Int))
  | _ => false
def isWr (m : Nat) : PyData → Bool
  | .tuple [.int a, .int b] => isBl m (.int a) && isBl m (.int b) && !decide (a = b)
  | _ => false
def leP : PyData → PyData → Bool
  | .tuple [.int a, .int b], .tuple [.int c, .int d] => if a = c then (if b = d then true else decide (b ≤ d)) else decide (a ≤ c)
  | _, _ => false
def bd (f : Nat → Bool) (n : Nat) : List Nat := (List.range n).filter f
theorem bd_zero (f : Nat → Bool) : bd f 0 = [] := rfl
theorem bd_succ (f : Nat → Bool) (n : Nat) : bd f (n + 1) = bd f n ++ (if f n = true then [n] else []) := by
  unfold bd
  rw [List.range_succ, List.filter_append, List.filter_cons, List.filter_nil]
theorem bd_none {f : Nat → Bool} {n : Nat} (h : bd f n = []) : ∀ i, i < n → f i = false := fun i hi => by
  cases e : f i with
  | false => rfl
  | true =>
    have : i ∈ bd f n := List.mem_filter.mpr ⟨List.mem_range.mpr hi, e⟩
    rw [h] at this
    cases this
theorem bd_first {f : Nat → Bool} {i : Nat} (h : bd f i = []) (e : f i = true) : ∀ n, i < n → ∃ l, bd f n = i :: l := by
  intro n hn
  induction n with
  | zero => omega
  | succ n ih =>
    rw [bd_succ]
    by_cases z : i = n
    · subst z
      rw [h, if_pos e]
      exact ⟨[], rfl⟩
    · obtain ⟨l, hl⟩ := ih (by omega)
      rw [hl]
      exact ⟨_, rfl⟩
theorem bd_lt {f : Nat → Bool} {n i : Nat} (h : i ∈ bd f n) : i < n := List.mem_range.mp (List.mem_filter.mp h).1
theorem bd_len (f : Nat → Bool) (n : Nat) : (bd f n).length ≤ n := by
  have := List.length_filter_le f (List.range n)
  rwa [List.length_range] at this
def szBad (S : List PyData) (i : Nat) : Bool := !isSz (S.getD i .none)
def wrBad (m : Nat) (W : List PyData) (i : Nat) : Bool := !isWr m (W.getD i .none)
def orBad (W : List PyData) (k : Nat) : Bool := leP (W.getD (k + 1) .none) (W.getD k .none)
def eT (x : Str) (i : Nat) : PyData := .tuple [.str x, .int i]
def merr3 (W : List PyData) : PyData := match bd (orBad W) (W.length - 1) with
  | k :: _ => eT "order" (k + 1)
  | [] => .none
def merrW (m : Nat) (W : List PyData) : PyData := match bd (wrBad m W) W.length with
  | i :: _ => eT "wire" i
  | [] => merr3 W
def merr2 (S W : List PyData) : PyData := match bd (szBad S) S.length with
  | i :: _ => eT "size" i
  | [] => merrW S.length W
def formD : PyData → Option (List PyData × List PyData)
  | .tuple [.tuple S, .tuple W] => if 1 ≤ S.length ∧ S.length ≤ 6 then some (S, W) else none
  | _ => none
def merr (d : PyData) : PyData := match formD d with
  | some (S, W) => merr2 S W
  | none => .str "form"
theorem formD_some {d : PyData} {S W : List PyData} (h : formD d = some (S, W)) : d = .tuple [.tuple S, .tuple W] ∧ 1 ≤ S.length ∧ S.length ≤ 6 := by
  unfold formD at h
  split at h
  · split at h
    · rename_i S' W' z
      cases h
      exact ⟨rfl, z⟩
    · cases h
  · cases h
theorem get_getD {l : List PyData} {i : Nat} {d : PyData} (h : l[i]? = some d) : l.getD i .none = d := by
  rw [List.getD_eq_getElem?_getD, h]
  rfl
theorem merr_form {d : PyData} (h : formD d = none) : merr d = .str "form" := by unfold merr; rw [h]
theorem merr_some {d : PyData} {S W : List PyData} (h : formD d = some (S, W)) : merr d = merr2 S W := by unfold merr; rw [h]
theorem merr2_size {S W : List PyData} {i : Nat} {l : List Nat} (h : bd (szBad S) S.length = i :: l) : merr2 S W = eT "size" i := by unfold merr2; rw [h]
theorem merr2_ok {S W : List PyData} (h : bd (szBad S) S.length = []) : merr2 S W = merrW S.length W := by unfold merr2; rw [h]
theorem merrW_wire {m : Nat} {W : List PyData} {i : Nat} {l : List Nat} (h : bd (wrBad m W) W.length = i :: l) : merrW m W = eT "wire" i := by unfold merrW; rw [h]
theorem merrW_ok {m : Nat} {W : List PyData} (h : bd (wrBad m W) W.length = []) : merrW m W = merr3 W := by unfold merrW; rw [h]
theorem merr3_ord {W : List PyData} {k : Nat} {l : List Nat} (h : bd (orBad W) (W.length - 1) = k :: l) : merr3 W = eT "order" (k + 1) := by unfold merr3; rw [h]
theorem merr3_ok {W : List PyData} (h : bd (orBad W) (W.length - 1) = []) : merr3 W = .none := by unfold merr3; rw [h]
theorem bd_all {f : PyData → Bool} {l : List PyData} (h : bd (fun i => !f (l.getD i .none)) l.length = []) : ∀ x ∈ l, f x = true := fun x hx => by
  obtain ⟨i, hi, rfl⟩ := List.getElem_of_mem hx
  have z := bd_none h i hi
  rw [get_getD (List.getElem?_eq_getElem hi)] at z
  simpa using z
/-- all but the order -/
structure Almost (d : PyData) (S W : List PyData) : Prop where
  eq : d = .tuple [.tuple S, .tuple W]
  one : 1 ≤ S.length
  six : S.length ≤ 6
  sz : ∀ x ∈ S, isSz x = true
  wr : ∀ x ∈ W, isWr S.length x = true
theorem isWr_shape {m : Nat} {d : PyData} (h : isWr m d = true) : ∃ a b : Nat, d = .tuple [.int a, .int b] ∧ a < m ∧ b < m := by
  unfold isWr at h
  split at h
  · rename_i a b
    simp only [isBl, Bool.and_eq_true, decide_eq_true_eq] at h
    exact ⟨a.toNat, b.toNat, by rw [Int.toNat_of_nonneg h.1.1.1, Int.toNat_of_nonneg h.1.2.1], by omega, by omega⟩
  · cases h
def wn (d : PyData) : Nat := match d with
  | .tuple [.int a, .int b] => 6 * a.toNat + b.toNat
  | _ => 0
theorem wn_lt {d e : PyData} (hd : isWr 6 d = true) (he : isWr 6 e = true) (h : leP e d = false) : wn d < wn e := by
  obtain ⟨a, b, rfl, a1, b1⟩ := isWr_shape hd
  obtain ⟨c, f, rfl, c1, f1⟩ := isWr_shape he
  simp only [leP] at h
  simp only [wn, Int.toNat_natCast]
  split at h
  · split at h
    · cases h
    · have := of_decide_eq_false h
      omega
  · have := of_decide_eq_false h
    omega
theorem isWr_mono {m : Nat} (hm : m ≤ 6) {d : PyData} (h : isWr m d = true) : isWr 6 d = true := by
  unfold isWr at h ⊢
  split at h
  · simp only [isBl, Bool.and_eq_true, decide_eq_true_eq] at h ⊢
    exact ⟨⟨⟨h.1.1.1, by omega⟩, ⟨h.1.2.1, by omega⟩⟩, h.2⟩
  · cases h
theorem asc_of {W : List PyData} (h6 : ∀ x ∈ W, isWr 6 x = true) (ho : ∀ k, k < W.length - 1 → orBad W k = false) : W.length ≤ 36 := by
  have step : ∀ n, n < W.length → n ≤ wn (W.getD n .none) := by
    intro n
    induction n with
    | zero => intro _; exact Nat.zero_le _
    | succ n ih =>
      intro hn
      have a := ih (by omega)
      have m1 := get_getD (List.getElem?_eq_getElem (show n < W.length by omega))
      have m2 := get_getD (List.getElem?_eq_getElem hn)
      have z := ho n (by omega)
      unfold orBad at z
      rw [m1] at a
      rw [m1, m2] at z
      rw [m2]
      have := wn_lt (h6 _ (List.getElem_mem (by omega))) (h6 _ (List.getElem_mem hn)) z
      omega
  by_cases e : W.length = 0
  · omega
  · have hn : W.length - 1 < W.length := by omega
    have s := step _ hn
    rw [get_getD (List.getElem?_eq_getElem hn)] at s
    obtain ⟨a, b, z, a1, b1⟩ := isWr_shape (h6 _ (List.getElem_mem hn))
    rw [z] at s
    simp only [wn, Int.toNat_natCast] at s
    omega
theorem merr_almost {d : PyData} (h : merr d = .none ∨ ∃ k, merr d = eT "order" k) : ∃ S W, Almost d S W ∧ (merr d = .none → W.length ≤ 36) := by
  cases hf : formD d with
  | none =>
    rw [merr_form hf] at h
    rcases h with h | ⟨k, h⟩ <;> cases h
  | some SW =>
    obtain ⟨S, W⟩ := SW
    obtain ⟨e, o, x⟩ := formD_some hf
    rw [merr_some hf] at h ⊢
    cases hs : bd (szBad S) S.length with
    | cons i l =>
      rw [merr2_size hs] at h
      rcases h with h | ⟨k, h⟩
      · cases h
      · exact absurd (by injection h with h; injection h with h _; injection h : ("size" : Str) = "order") (by decide +kernel)
    | nil =>
      rw [merr2_ok hs] at h ⊢
      cases hw : bd (wrBad S.length W) W.length with
      | cons i l =>
        rw [merrW_wire hw] at h
        rcases h with h | ⟨k, h⟩
        · cases h
        · exact absurd (by injection h with h; injection h with h _; injection h : ("wire" : Str) = "order") (by decide +kernel)
      | nil =>
        rw [merrW_ok hw]
        have wr : ∀ y ∈ W, isWr S.length y = true := bd_all hw
        refine ⟨S, W, ⟨e, o, x, bd_all hs, wr⟩, fun hn => ?_⟩
        cases ho : bd (orBad W) (W.length - 1) with
        | cons k l =>
          rw [merr3_ord ho] at hn
          cases hn
        | nil => exact asc_of (fun y hy => isWr_mono x (wr y hy)) (bd_none ho)
/-! ### how great such data is -/
def okG (c dp : Nat) (d : PyData) : Bool := okD d && decide (cost d ≤ c) && decide (d.depth ≤ dp)
theorem okG_iff {c dp : Nat} {d : PyData} : okG c dp d = true ↔ okD d = true ∧ cost d ≤ c ∧ d.depth ≤ dp := by
  unfold okG
  simp only [Bool.and_eq_true, decide_eq_true_eq, and_assoc]
theorem okG_mono {c dp c' dp' : Nat} {d : PyData} (h : okG c dp d = true) (a : c ≤ c') (b : dp ≤ dp') : okG c' dp' d = true := by
  rw [okG_iff] at h ⊢
  exact ⟨h.1, by omega, by omega⟩
theorem okG_all {c dp : Nat} : ∀ {l : List PyData}, (∀ x ∈ l, okG c dp x = true) → okAll l = true ∧ costAll l ≤ (c + 2) * l.length ∧ PyData.depthAll l ≤ dp
  | [], _ => ⟨rfl, Nat.le_refl _, Nat.zero_le _⟩
  | x :: l, h => by
    obtain ⟨a, b, e⟩ := okG_all fun y hy => h y (List.mem_cons_of_mem _ hy)
    obtain ⟨a1, b1, e1⟩ := okG_iff.mp (h x List.mem_cons_self)
    refine ⟨by simp only [okAll, a, a1, Bool.and_self], ?_, ?_⟩
    · simp only [costAll, List.length_cons, Nat.mul_succ]
      omega
    · simp only [PyData.depthAll]
      omega
theorem okG_tup {c dp c' dp' : Nat} {l : List PyData} (h : ∀ x ∈ l, okG c dp x = true) (a : (c + 2) * l.length + 3 ≤ c') (b : dp + 1 ≤ dp') : okG c' dp' (.tuple l) = true := by
  obtain ⟨h1, h2, h3⟩ := okG_all h
  refine okG_iff.mpr ⟨by simpa only [okD] using h1, ?_, ?_⟩
  · simp only [cost]
    omega
  · simp only [PyData.depth]
    omega
theorem okG_lst {c dp c' dp' : Nat} {l : List PyData} (h : ∀ x ∈ l, okG c dp x = true) (a : (c + 2) * l.length + 3 ≤ c') (b : dp + 1 ≤ dp') : okG c' dp' (.list l) = true := by
  obtain ⟨h1, h2, h3⟩ := okG_all h
  refine okG_iff.mpr ⟨by simpa only [okD] using h1, ?_, ?_⟩
  · simp only [cost]
    omega
  · simp only [PyData.depth]
    omega
theorem okG_sh {c dp : Nat} {d : PyData} (h : okG c dp d = true) (a : c ≤ 16000000) (b : dp ≤ 60) : ShV d := by
  obtain ⟨h1, h2, h3⟩ := okG_iff.mp h
  exact ⟨.inl ⟨h1, by omega, by omega⟩⟩
/-- things in the place of a size or a wire -/
def okI (d : PyData) : Bool := okG 10000 3 d
theorem isSz_ok {d : PyData} (h : isSz d = true) : okI d = true := by
  unfold isSz at h
  split at h
  · rename_i n
    simp only [Bool.and_eq_true, decide_eq_true_eq] at h
    refine okG_iff.mpr ⟨?_, by simp only [cost]; decide, by simp only [PyData.depth]; decide⟩
    simp only [okD]
    refine decide_eq_true (small_log ?_)
    have a := h.1.1
    have b := h.1.2
    have : n.natAbs ≤ 10 ^ 30 := by omega
    exact Nat.lt_of_le_of_lt this (by decide)
  · cases h
theorem isWr_ok {m : Nat} (hm : m ≤ 6) {d : PyData} (h : isWr m d = true) : okI d = true := by
  obtain ⟨a, b, rfl, a1, b1⟩ := isWr_shape h
  have s : ∀ k : Nat, k < 6 → okG 2000 1 (.int (k : Int)) = true := fun k hk => by
    refine okG_iff.mpr ⟨?_, by simp only [cost]; decide, by simp only [PyData.depth]; decide⟩
    simp only [okD]
    refine decide_eq_true (small_log ?_)
    rw [Int.natAbs_natCast]
    exact Nat.lt_trans hk (by decide)
  refine okG_tup (c := 2000) (dp := 1) (fun x hx => ?_) (by show (2000 + 2) * 2 + 3 ≤ 10000; decide) (by decide)
  rcases List.mem_cons.mp hx with e | hx
  · rw [e]
    exact s a (by omega)
  · rw [List.mem_singleton.mp hx]
    exact s b (by omega)
theorem ShV.len {l : List PyData} (h : ShV (.tuple l)) : 2 * l.length ≤ 16000000 := by
  rcases h.ok with h | h
  · have z := h.cost
    simp only [cost] at z
    have : ∀ l : List PyData, 2 * l.length ≤ costAll l := by
      intro l
      induction l with
      | nil => exact Nat.le_refl _
      | cons x l ih =>
        simp only [costAll, List.length_cons]
        omega
    have := this l
    omega
  · cases h
theorem ShV.sub {l : List PyData} (h : ShV (.tuple l)) {x : PyData} (hx : x ∈ l) : ShV x := by
  rcases h.ok with h | h
  · have z1 := h.ok
    have z2 := h.cost
    have z3 := h.depth
    simp only [okD] at z1
    simp only [cost] at z2
    simp only [PyData.depth] at z3
    have : ∀ l : List PyData, okAll l = true → x ∈ l → okD x = true ∧ cost x ≤ costAll l ∧ x.depth ≤ PyData.depthAll l := by
      intro l
      induction l with
      | nil => intro _ m; cases m
      | cons y l ih =>
        intro o m
        simp only [okAll, Bool.and_eq_true] at o
        simp only [costAll, PyData.depthAll]
        rcases List.mem_cons.mp m with e | m
        · subst e
          exact ⟨o.1, by omega, by omega⟩
        · obtain ⟨a, b, c⟩ := ih o.2 m
          exact ⟨a, by omega, by omega⟩
    obtain ⟨a, b, c⟩ := this l z1 hx
    exact ⟨.inl ⟨a, by omega, by omega⟩⟩
  · cases h
theorem pi_enumTK {X : Cx} (K : PySem.W.Frag) (hK : X.K = K) {e : Expr} {ta : TA} {p pos tpos : Pos} {elts : List Expr} {kk : Nat} (hg : Gl X "enumerate") (hm : X.mg "enumerate" = none) (ha : PA X [e] ta) (hs : starEach [e] X.env = [(false, eval e X.env)] := by rfl) :
    PI X (.Tuple elts kk tpos) (.Call (.Name "enumerate" p) [e] [] pos) (iEnumT K ta) := hK ▸ pi_enumT hg hm ha hs
theorem op_leTK {X : Cx} (K : PySem.W.Frag) (hK : X.K = K) (hu : X.A.units < cLine) : OpR X (compareOp CmpOp.LtE) (rLeT K) := hK ▸ op_leT hu
theorem pg_tupK {X : Cx} (K : PySem.W.Frag) (hK : X.K = K) {pos : Pos} {es : List Expr} {k : Nat} {t : TGs} {n : Nat} (hc : X.calm = true) (h : PGs X es t) (h1 : (assignEach es X.env).length = n := by rfl) (h2 : List.findIdx? (fun x => x.fst) (assignEach es X.env) = none := by rfl) :
    PG X (.Tuple es k pos) (gTup K n t) := hK ▸ pg_tup hc h h1 h2
theorem keepN {H : Hp} {a c : Addr} {o o' : HO} (h : H a = some o) (n : H c = none) : (upd H c o') a = some o := by
  rw [upd_ne (ne_of_none h n)]
  exact h
/-! ### promises -/
theorem room_lt {k : Nat} {A : Around} (hr : Room k A) : A.units < cLine := by
  have := hr.units
  omega
abbrev An : Addr → Prop := fun _ => True
def Np (p q : Addr) : Addr → Prop := fun a => a ≠ p ∧ a ≠ q
def spB (f : PyData → Bool) : Sp := fun vs H Q _ => ∃ (v : V) (d : PyData), vs = [v] ∧ Dv An H v d ∧ ShV d ∧ ∀ H', Same H H' → Q (.bl (f d)) H'
def isInt0 : PyData → Bool
  | .int _ => true
  | _ => false
def isPr : PyData → Bool
  | .tuple [_, _] => true
  | _ => false
def spBelow : Sp := fun vs H Q _ => ∃ (v : V) (d : PyData) (m : Nat), vs = [v, .int m] ∧ Dv An H v d ∧ ∀ H', Same H H' → Q (.bl (isBl m d)) H'
def spWireB : Sp := fun vs H Q _ => ∃ (v : V) (d : PyData) (m : Nat), vs = [v, .int m] ∧ Dv An H v d ∧ ShV d ∧ ∀ H', Same H H' → Q (.bl (isWr m d)) H'
def spMerr : Sp := fun vs H Q _ => ∃ (v : V) (d : PyData), vs = [v] ∧ Dv An H v d ∧ ShV d ∧ ∀ (u : V) (H' : Hp), Im H' u (merr d) → Same H H' → Q u H'
def spOddS : Sp := fun vs H Q _ => ∃ (p q : Addr), vs = [.ref p] ∧ Pt H p q ∧ ∀ (v : V) (d : PyData) (H' : Hp), Dg (Np p q) H' v d → okI d = true → Pt H' p q → Kp p q H H' → Q v H'
def spOddW : Sp := fun vs H Q _ => ∃ (p q : Addr) (m : Nat), vs = [.ref p, .int m] ∧ m ≤ 6 ∧ Pt H p q ∧ ∀ (v : V) (d : PyData) (H' : Hp), Dg (Np p q) H' v d → okI d = true → Pt H' p q → Kp p q H H' → Q v H'
def loB : PyData → Bool
  | .tuple [.tuple _, .tuple W] => decide (W.length ≤ 100)
  | _ => true
theorem lo_ok {S W : List PyData} (h : loB (.tuple [.tuple S, .tuple W]) = true) : W.length ≤ 100 := of_decide_eq_true h
theorem lo_no {S : List PyData} (h : ∀ x ∈ S, isT x = false) : loB (.tuple S) = true := by
  unfold loB
  split
  · rename_i e
    injection e with e
    have := h _ (e ▸ List.mem_cons_self)
    cases this
  · rfl
theorem sz_isT {d : PyData} (h : isSz d = true) : isT d = false := by cases d <;> first | rfl | cases h
def Fit (d : PyData) : Prop := ShV d ∧ loB d = true
def spSpoilt : Sp := fun vs H Q _ => ∃ (p q : Addr) (v : V) (d : PyData) (S W : List PyData), vs = [.ref p, v] ∧ Pt H p q ∧ Dg (Np p q) H v d ∧ Almost d S W ∧ W.length ≤ 36 ∧
  ∀ (v : V) (d : PyData) (H' : Hp), Dv (Np p q) H' v d → Fit d → Pt H' p q → Kp p q H H' → Q v H'
end NA
namespace NA
open PySem PySem.Spec PyProof.Rows L2
/-! ### zip of two or three, lists or tuples as they come -/
inductive Sk
  | l
  | t
def SqS (K : PySem.W.Frag) (k : Sk) (H : Hp) (a : Addr) (xs : List V) : Prop := match k with
  | .l => SqL K H a xs
  | .t => SqT K H a xs
def ItS (k : Sk) (h : Heap) (it a : Addr) (i : Nat) : Prop := match k with
  | .l => h.IsListIter it a i
  | .t => h.IsTupleIter it a i
def OfS (k : Sk) (h : Heap) (a : Addr) (its : Array Value) : Prop := match k with
  | .l => h.IsList a its
  | .t => h.IsTuple a its
def itO (k : Sk) (a : Addr) : Obj := match k with
  | .l => { cls := .type "list_iterator", data := .fields #[.ref a, .int 0 0] }
  | .t => { cls := .type "tuple_iterator", data := .fields #[.ref a, .int 0 0] }
theorem SqS.of_l {K : PySem.W.Frag} {H : Hp} {a : Addr} {xs : List V} (h : H a = some (.lst xs)) : SqS K .l H a xs := SqL.of h
theorem SqS.of_t {K : PySem.W.Frag} {H : Hp} {a : Addr} {xs : List V} (h : H a = some (.tup xs)) : SqS K .t H a xs := SqT.of h
theorem srcDraws {prog : Program} {w : World} {A : Around} (k : Sk) (hA : A.handled = none) (it a : Addr) (ne : a ≠ it) (its : Array Value) :
    Draws prog w A it [it, a] its.size (fun i v => its[i]? = some v) (fun i h => ItS k h it a i ∧ OfS k h a its) := by
  cases k with
  | l => exact Draws.list hA it a ne its
  | t => exact Draws.tuple hA it a ne its
theorem src_of {X : Cx} {pins : List (Addr × Obj)} {σ : L2.St} {H : Hp} {s : Shared} {k : Sk} {a : Addr} {xs : List V} (I : Inv X pins σ H s) (h : SqS X.K k H a xs) : ∃ its : List Value, Vals xs its ∧ OfS k s.heap a its.toArray := by
  cases k with
  | l =>
    obtain ⟨its, rv, tp, _⟩ := I.list h
    exact ⟨its, rv, tp.isList⟩
  | t =>
    obtain ⟨its, rv, tp, _⟩ := I.tuple h
    exact ⟨its, rv, tp⟩
theorem src_inj {X : Cx} {pins : List (Addr × Obj)} {σ : L2.St} {H : Hp} {s : Shared} {k : Sk} {a : Addr} {xs ys : List V} (I : Inv X pins σ H s) (h : SqS X.K k H a xs) (h2 : SqS X.K k H a ys) : xs = ys := by
  cases k with
  | l => exact I.list_inj h h2
  | t => exact I.tuple_inj h h2
theorem OfS.lt {k : Sk} {h : Heap} {a : Addr} {its : Array Value} (e : OfS k h a its) : a < h.objs.size := by
  cases k with
  | l => obtain ⟨o, h, _⟩ := e; exact Heap.lt_size h
  | t => obtain ⟨o, h, _⟩ := e; exact Heap.lt_size h
theorem OfS.at {k : Sk} {h h' : Heap} {a : Addr} {its : Array Value} (e : OfS k h a its) (f : ∀ o, h.get? a = some o → h'.get? a = some o) : OfS k h' a its := by
  cases k with
  | l => exact Heap.IsList.at e f
  | t => exact Heap.IsTuple.at e f
theorem ItS.at {k : Sk} {h h' : Heap} {it a : Addr} {i : Nat} (e : ItS k h it a i) (f : ∀ o, h.get? it = some o → h'.get? it = some o) : ItS k h' it a i := by
  cases k with
  | l => exact Heap.IsListIter.at e f
  | t => exact Heap.IsTupleIter.at e f
theorem ItS.obj {k : Sk} {h : Heap} {it a : Addr} {i : Nat} (e : ItS k h it a i) : ∃ o, h.get? it = some o ∧ ∀ v : Option Value, o.data ≠ .cell v := by
  cases k with
  | l =>
    obtain ⟨o, a, _, c⟩ := e
    exact ⟨o, a, fun v q => by rw [c] at q; cases q⟩
  | t =>
    obtain ⟨o, a, _, c⟩ := e
    exact ⟨o, a, fun v q => by rw [c] at q; cases q⟩
theorem itO_is (k : Sk) {h : Heap} {it a : Addr} (e : h.get? it = some (itO k a)) : ItS k h it a 0 := by
  cases k with
  | l => exact ⟨_, e, rfl, rfl⟩
  | t => exact ⟨_, e, rfl, rfl⟩
theorem begins (k : Sk) (a : Addr) (its : Array Value) : Begins (.ref a) (itO k a) (fun h => OfS k h a its) := by
  cases k with
  | l => exact ⟨fun prog w A E s Q h q => wpAny_pyIter_list h q, fun h h' e f => OfS.at (k := .l) e fun o q => f _ o q, rfl⟩
  | t => exact ⟨fun prog w A E s Q h q => wpAny_pyIter_tuple h q, fun h h' e f => OfS.at (k := .t) e fun o q => f _ o q, rfl⟩
def ItzG (K : PySem.W.Frag) (k1 : Sk) (a : Addr) (k2 : Sk) (b : Addr) : It :=
  ⟨fun i H => ∃ (xs ys : List V) (x y : V), SqS K k1 H a xs ∧ SqS K k2 H b ys ∧ xs[i]? = some x ∧ ys[i]? = some y,
   fun i H v H' => ∃ T x y, v = .ref T ∧ H T = none ∧ H' = upd H T (.tup [x, y]) ∧ (∀ xs, SqS K k1 H a xs → xs[i]? = some x) ∧ ∀ ys, SqS K k2 H b ys → ys[i]? = some y,
   fun i H => ∃ xs ys : List V, SqS K k1 H a xs ∧ SqS K k2 H b ys ∧ i = min xs.length ys.length⟩
theorem ge5 {n c : Nat} (e : c = n + 4 ∨ c = n + 2 ∨ c = n + 3 ∨ c = n ∨ c = n + 1) : n ≤ c := by omega
theorem lt5 {n m c : Nat} (h : n + 4 < m) (e : c = n + 4 ∨ c = n + 2 ∨ c = n + 3 ∨ c = n ∨ c = n + 1) : c < m := by omega
theorem nn {a b : Nat} (h : a < b ∨ b < a) : a ≠ b := by omega
theorem nm2 {x a b : Nat} (h1 : x ≠ a) (h2 : x ≠ b) : ¬ x ∈ [a, b] := by
  intro h
  rcases List.mem_cons.mp h with e | h
  · exact h1 e
  · exact h2 (List.mem_singleton.mp h)
theorem sep2 {n a b : Nat} (la : a < n) (lb : b < n) : ZipSep2 (n + 4) (n + 2) (n + 3) n (n + 1) [n, a] [n + 1, b] :=
  ⟨(show (n + 2 : Nat) ≠ n + 4 by omega), (show (n + 3 : Nat) ≠ n + 4 by omega), (show (n + 2 : Nat) ≠ n + 3 by omega), (show (n + 2 : Nat) ≠ n by omega), List.mem_cons_self, nm2 (by omega) (by omega), nm2 (by omega) (by omega),
   (show (n + 2 : Nat) ≠ n + 1 by omega), List.mem_cons_self, nm2 (by omega) (by omega), nm2 (by omega) (by omega), nm2 (by omega) (by omega), nm2 (by omega) (by omega)⟩
theorem turn_zipG {P : Program} {w : World} {K : PySem.W.Frag} {elts : List Expr} {kk : Nat} {tpos : Pos} (k1 : Sk) (a : Nat) (k2 : Sk) (b n : Nat) (la : a < n) (lb : b < n) :
    Turn P w K (.Tuple elts kk tpos) (ItzG K k1 a k2 b) [n + 4, n + 2, n + 3, n, n + 1] (n + 4) (fun i h => IsZip h (n + 4) (n + 2) (n + 3) .none ∧ IsTupOf2 h (n + 2) (.ref n) (.ref (n + 1)) ∧ (∃ x y, IsTupOf2 h (n + 3) x y) ∧ ItS k1 h n a i ∧ ItS k2 h (n + 1) b i) where
  mem := by simp
  obj := fun i h st c hc => by
    obtain ⟨s1, s2, ⟨x, y, s3⟩, s4, s5⟩ := st
    rcases (show c = n + 4 ∨ c = n + 2 ∨ c = n + 3 ∨ c = n ∨ c = n + 1 by simpa using hc) with e | e | e | e | e <;> subst e
    · exact ⟨_, s1, fun v q => nomatch q⟩
    · exact ⟨_, s2, fun v q => nomatch q⟩
    · exact ⟨_, s3, fun v q => nomatch q⟩
    · exact s4.obj
    · exact s5.obj
  keep := fun i h h' st k => by
    obtain ⟨s1, s2, ⟨x, y, s3⟩, s4, s5⟩ := st
    exact ⟨k _ (by simp) _ s1, k _ (by simp) _ s2, ⟨x, y, k _ (by simp) _ s3⟩, s4.at fun o q => k _ (by simp) o q, s5.at fun o q => k _ (by simp) o q⟩
  item := by
    intro X hP hw hK hc i pins s σ H E I hf st hg
    subst hP hw hK
    obtain ⟨s1, s2, ⟨p0, p1, s3⟩, s4, s5⟩ := st
    obtain ⟨xs, ys, x, y, hx, hy, ex, ey⟩ := hg
    obtain ⟨its, rv, o1⟩ := src_of I hx
    obtain ⟨jts, rw2, o2⟩ := src_of I hy
    obtain ⟨u, hu, ru⟩ := rv.get ex
    obtain ⟨v, hv, rv2⟩ := rw2.get ey
    have lz : n + 4 < s.heap.objs.size := Heap.lt_size s1
    have sep := sep2 la lb
    have D1 := srcDraws (prog := X.prog) (w := X.w) (A := X.A.in1) k1 (I.ok.hd hc) n a (nn (by omega)) its.toArray
    have D2 := srcDraws (prog := X.prog) (w := X.w) (A := X.A.in1) k2 (I.ok.hd hc) (n + 1) b (nn (by omega)) jts.toArray
    refine wpAny_pyNext_zipD2_item sep D1 D2 s1 s2 s3 ⟨s4, o1⟩ ⟨s5, o2⟩ (by have := (List.getElem?_eq_some_iff.mp hu).1; simpa using this) (by have := (List.getElem?_eq_some_iff.mp hv).1; simpa using this) fun y1 y2 h' tk q1 q2 z1 z2 z3 z4 hT hsz hk => ?_
    have e1 : y1 = u := Option.some.inj (q1.symm.trans (by simpa using hu))
    have e2 : y2 = v := Option.some.inj (q2.symm.trans (by simpa using hv))
    subst e1 e2
    refine ⟨_, rfl, wpAny_letOwnedTupleGo_zip (s := { s with heap := h', toks := tk }) z1 fun h'' hz'' sb => ?_⟩
    have sb' : ∀ c o, c ≠ n + 4 → h'.get? c = some o → h''.get? c = some o := fun c o hc q => (sb.2 c hc).trans q
    have hT2 : h''.get? s.heap.objs.size = some { cls := .type "tuple", data := .seq #[y1, y2] } := sb' _ _ (nn (by omega)) hT
    have new : ObjOk X.prog X.w (upd H s.heap.objs.size (.tup [x, y])) h'' s.heap.objs.size (.tup [x, y]) :=
      ⟨by show 2 ≤ sizeLine; decide, [y1, y2], .cons ru (.cons rv2 .nil), ⟨_, hT2, rfl, _, rfl⟩⟩
    have I1 : Inv X pins σ (upd H s.heap.objs.size (.tup [x, y])) { s with heap := h'', toks := tk } :=
      I.turnedNew (ch := [n + 4, n + 2, n + 3, n, n + 1]) (fun c ob hc q => by
        have hc' : c ≠ n + 4 ∧ c ≠ n + 2 ∧ c ≠ n + 3 ∧ c ≠ n ∧ c ≠ n + 1 := by simpa using hc
        exact sb' _ _ hc'.1 (hk c ob hc'.1 hc'.2.2.1 hc'.2.2.2.1 hc'.2.2.2.2 q)) hf (Nat.le_refl _) new
    refine ⟨.ref s.heap.objs.size, _, I1, rfl, ⟨_, x, y, rfl, I.hok.fresh (Nat.le_refl _), rfl, fun zs hz => by rw [src_inj I hz hx]; exact ex, fun zs hz => by rw [src_inj I hz hy]; exact ey⟩, ⟨hz'', sb' _ _ (nn (by omega)) (hk _ _ (nn (by omega)) (nn (by omega)) (nn (by omega)) (nn (by omega)) s2), ⟨_, _, sb' _ _ (nn (by omega)) z2⟩, z3.1.at fun o q => sb' _ _ (nn (by omega)) q, z4.1.at fun o q => sb' _ _ (nn (by omega)) q⟩, fun c hc => ?_⟩
    have lt : c < s.heap.objs.size := lt5 lz (by simpa using hc)
    rw [upd_ne (Nat.ne_of_lt lt)]
    exact (hf c hc).1
  done := by
    intro X hP hw hK hc i pins s σ H E I hf st hg
    subst hP hw hK
    obtain ⟨s1, s2, ⟨p0, p1, s3⟩, s4, s5⟩ := st
    obtain ⟨xs, ys, hx, hy, ei⟩ := hg
    obtain ⟨its, rv, o1⟩ := src_of I hx
    obtain ⟨jts, rw2, o2⟩ := src_of I hy
    have l1 := rv.length
    have l2 := rw2.length
    have sep := sep2 la lb
    have D1 := srcDraws (prog := X.prog) (w := X.w) (A := X.A.in1) k1 (I.ok.hd hc) n a (nn (by omega)) its.toArray
    have D2 := srcDraws (prog := X.prog) (w := X.w) (A := X.A.in1) k2 (I.ok.hd hc) (n + 1) b (nn (by omega)) jts.toArray
    refine wpAny_pyNext_zipD2_end sep D1 D2 s1 s2 s3 ⟨s4, o1⟩ ⟨s5, o2⟩ (by simp; omega) (by simp; omega) (by simp; omega) fun h' tk hk => ⟨rfl, ?_⟩
    exact I.turnedL (ch := [n + 4, n + 2, n + 3, n, n + 1]) (fun c o hc q => by
      have hc' : c ≠ n + 4 ∧ c ≠ n + 2 ∧ c ≠ n + 3 ∧ c ≠ n ∧ c ≠ n + 1 := by simpa using hc
      exact hk c o hc'.1 hc'.2.2.1 hc'.2.2.2.1 hc'.2.2.2.2 q) hf
  self := fun A i s Q E st h => wpAny_pyIter_zip st.1 h
def iZipG (K : PySem.W.Frag) (k1 k2 : Sk) (ta : TA) : TI := fun σ H R => ta σ H fun vs H1 => ∃ a b xs ys, vs = [.ref a, .ref b] ∧ SqS K k1 H1 a xs ∧ SqS K k2 H1 b ys ∧ R (ItzG K k1 a k2 b) H1
theorem zipG_call {prog : Program} {w : World} {A : Around} {E : Value → Shared → Prop} {s : Shared} {k1 k2 : Sk} {a b : Addr} {its jts : Array Value} {Q : Value → Shared → Prop} (h1 : OfS k1 s.heap a its) (h2 : OfS k2 s.heap b jts)
    (h : ∀ h', IsZip h' (s.heap.objs.size + 4) (s.heap.objs.size + 2) (s.heap.objs.size + 3) .none → IsTupOf2 h' (s.heap.objs.size + 2) (.ref s.heap.objs.size) (.ref (s.heap.objs.size + 1)) → IsTupOf2 h' (s.heap.objs.size + 3) .none .none →
      ItS k1 h' s.heap.objs.size a 0 → ItS k2 h' (s.heap.objs.size + 1) b 0 → (∀ c o, s.heap.get? c = some o → h'.get? c = some o) → Q (.ref (s.heap.objs.size + 4)) { s with heap := h' }) :
    wpAny (model prog w) A (call (.type "zip") [.ref a, .ref b]) Q E s := by
  refine callType_new F.called_zip (by decide) (F.typeCall_zip_2 _ _) (F.newCall_zip_2 _ _) (fun obj => F.args_object_init_3 obj _ _) F.entry_zip_new (meets_zip_newB2 (begins k1 a its) (begins k2 b jts)) ⟨⟨h1, h2⟩, ?_⟩
  have f1 : (itO k1 a).isFreed = false := by cases k1 <;> rfl
  have f2 : (itO k2 b).isFreed = false := by cases k2 <;> rfl
  have z1 : (s.heap.push (itO k1 a)).objs.size = s.heap.objs.size + 1 := Heap.size_push ..
  have z2 : ((s.heap.push (itO k1 a)).push (itO k2 b)).objs.size = s.heap.objs.size + 2 := by rw [Heap.size_push, z1]
  have z3 : (gzT2 s.heap (itO k1 a) (itO k2 b)).objs.size = s.heap.objs.size + 3 := by rw [gzT2, Heap.size_push, z2]
  have z4 : (gzO2 s.heap (itO k1 a) (itO k2 b)).objs.size = s.heap.objs.size + 4 := by rw [gzO2, Heap.size_push, z3]
  have g1 : (s.heap.push (itO k1 a)).get? s.heap.objs.size = some (itO k1 a) := Heap.get?_push_size s.heap f1
  have g2 : ((s.heap.push (itO k1 a)).push (itO k2 b)).get? (s.heap.objs.size + 1) = some (itO k2 b) := by
    have z := Heap.get?_push_size (s.heap.push (itO k1 a)) f2
    rwa [z1] at z
  have g3 : IsTupOf2 (gzT2 s.heap (itO k1 a) (itO k2 b)) (s.heap.objs.size + 2) (.ref s.heap.objs.size) (.ref (s.heap.objs.size + 1)) := by
    have z := Heap.get?_push_size ((s.heap.push (itO k1 a)).push (itO k2 b)) (o := { cls := .type "tuple", data := .seq #[.ref s.heap.objs.size, .ref (s.heap.push (itO k1 a)).objs.size] }) rfl
    rw [z2, z1] at z
    show (Heap.push _ { cls := .type "tuple", data := .seq #[.ref s.heap.objs.size, .ref (s.heap.push (itO k1 a)).objs.size] }).get? _ = _
    rw [z1]
    exact z
  have g4 : IsTupOf2 (gzO2 s.heap (itO k1 a) (itO k2 b)) (s.heap.objs.size + 3) .none .none := by
    have z := Heap.get?_push_size (gzT2 s.heap (itO k1 a) (itO k2 b)) (o := { cls := .type "tuple", data := .seq #[.none, .none] }) rfl
    rwa [z3] at z
  have g5 : IsZip (gzZ2 s.heap (itO k1 a) (itO k2 b)) (s.heap.objs.size + 4) (s.heap.objs.size + 2) (s.heap.objs.size + 3) .none := by
    have z := Heap.get?_push_size (gzO2 s.heap (itO k1 a) (itO k2 b)) (o := { cls := .type "zip", data := .fields #[.none, .bool false, .bool false, .ref ((s.heap.push (itO k1 a)).push (itO k2 b)).objs.size, .ref (gzT2 s.heap (itO k1 a) (itO k2 b)).objs.size] }) rfl
    show (Heap.push _ { cls := .type "zip", data := .fields #[.none, .bool false, .bool false, .ref ((s.heap.push (itO k1 a)).push (itO k2 b)).objs.size, .ref (gzT2 s.heap (itO k1 a) (itO k2 b)).objs.size] }).get? _ = _
    rw [z4, z2, z3] at z
    rw [z2, z3]
    exact z
  show _ ∧ _
  rw [z4]
  exact ⟨⟨_, g5, rfl⟩, h _ g5 (Heap.get?_push_of_some _ (Heap.get?_push_of_some _ g3)) (Heap.get?_push_of_some _ g4)
    (itO_is k1 (Heap.get?_push_of_some _ (Heap.get?_push_of_some _ (Heap.get?_push_of_some _ (Heap.get?_push_of_some _ g1)))))
    (itO_is k2 (Heap.get?_push_of_some _ (Heap.get?_push_of_some _ (Heap.get?_push_of_some _ g2))))
    fun c o q => Heap.get?_push_of_some _ (Heap.get?_push_of_some _ (Heap.get?_push_of_some _ (Heap.get?_push_of_some _ (Heap.get?_push_of_some _ q))))⟩
theorem pi_zipG {X : Cx} (K : PySem.W.Frag) (hK : X.K = K) (k1 k2 : Sk) {e e2 : Expr} {ta : TA} {p pos tpos : Pos} {elts : List Expr} {kk : Nat} (hg : Gl X "zip") (hm : X.mg "zip" = none) (ha : PA X [e, e2] ta) (hs : starEach [e, e2] X.env = (false, eval e X.env) :: starEach [e2] X.env := by rfl) (hs2 : ((backTo pos (starEach [e2] X.env)).any fun x => x.fst) = false := by rfl) :
    PI X (.Tuple elts kk tpos) (.Call (.Name "zip" p) [e, e2] [] pos) (iZipG K k1 k2 ta) := by
  subst hK
  refine ⟨fun pins s σ H R I h => ?_⟩
  refine Call_ (ld_blt I hg hm boot_zip (PyProof.Rows.callWith_type1 (thn (ha.run pos pins s σ H _ I h) fun us s1 ⟨vs, H1, I1, r1, q1⟩ => ?_) hs hs2))
  obtain ⟨a, b, xs, ys, ex, hx, hy, q⟩ := q1
  subst ex
  obtain ⟨u, v, rfl, ru, rv⟩ := vals2 r1
  cases (show u = Value.ref a from ru)
  cases (show v = Value.ref b from rv)
  obtain ⟨its, _, o1⟩ := src_of I1 hx
  obtain ⟨jts, _, o2⟩ := src_of I1 hy
  refine zipG_call o1 o2 fun h' z1 z2 z3 z4 z5 kept => wpAny_pyIter_zip z1 ?_
  have I2 := I1.kept (t' := s1.toks) kept
  refine ⟨s1.heap.objs.size + 4, [s1.heap.objs.size + 4, s1.heap.objs.size + 2, s1.heap.objs.size + 3, s1.heap.objs.size, s1.heap.objs.size + 1], _, _, H1, rfl, I2, turn_zipG k1 a k2 b s1.heap.objs.size o1.lt o2.lt, ⟨z1, z2, ⟨_, _, z3⟩, z4, z5⟩, fun c hc => ?_, q⟩
  have le : s1.heap.objs.size ≤ c := ge5 (by simpa using hc)
  exact I1.fpOk le (I1.hok.fresh le)
theorem walk_zipG {K : PySem.W.Frag} {k1 k2 : Sk} {a b : Addr} {xs ys : List V} {n : Nat} (hn : n = min xs.length ys.length) : Walk (ItzG K k1 a k2 b) n (fun H => SqS K k1 H a xs ∧ SqS K k2 H b ys) (YPair (fun i => xs[i]?) (fun i => ys[i]?)) := by
  refine ⟨fun i H hi q => ⟨xs, ys, xs[i]'(by omega), ys[i]'(by omega), q.1, q.2, by simp, by simp⟩, fun H q => ⟨xs, ys, q.1, q.2, hn⟩, fun i H v H' _ q y => ?_⟩
  obtain ⟨T, x, z, y1, y2, y3, y4, y5⟩ := y
  exact ⟨T, x, z, y1, y2, y3, y4 xs q.1, y5 ys q.2⟩
end NA
namespace NA
open PySem PySem.Spec PyProof.Rows L2
/-! ### zip of three -/
def ItzG3 (K : PySem.W.Frag) (k1 : Sk) (a : Addr) (k2 : Sk) (b : Addr) (k3 : Sk) (c : Addr) : It :=
  ⟨fun i H => ∃ (xs ys zs : List V) (x y z : V), SqS K k1 H a xs ∧ SqS K k2 H b ys ∧ SqS K k3 H c zs ∧ xs[i]? = some x ∧ ys[i]? = some y ∧ zs[i]? = some z,
   fun i H v H' => ∃ T x y z, v = .ref T ∧ H T = none ∧ H' = upd H T (.tup [x, y, z]) ∧ (∀ xs, SqS K k1 H a xs → xs[i]? = some x) ∧ (∀ ys, SqS K k2 H b ys → ys[i]? = some y) ∧ ∀ zs, SqS K k3 H c zs → zs[i]? = some z,
   fun i H => ∃ xs ys zs : List V, SqS K k1 H a xs ∧ SqS K k2 H b ys ∧ SqS K k3 H c zs ∧ i = min (min xs.length ys.length) zs.length⟩
theorem sep3 {n a b c : Nat} (la : a < n) (lb : b < n) (lc : c < n) : ZipSep3 (n + 5) (n + 3) (n + 4) n (n + 1) (n + 2) [n, a] [n + 1, b] [n + 2, c] :=
  ⟨nn (by omega), nn (by omega), nn (by omega), nn (by omega), List.mem_cons_self, nm2 (by omega) (by omega), nm2 (by omega) (by omega),
   nn (by omega), List.mem_cons_self, nm2 (by omega) (by omega), nm2 (by omega) (by omega), nn (by omega), List.mem_cons_self, nm2 (by omega) (by omega), nm2 (by omega) (by omega),
   nm2 (by omega) (by omega), nm2 (by omega) (by omega), nm2 (by omega) (by omega), nm2 (by omega) (by omega), nm2 (by omega) (by omega), nm2 (by omega) (by omega)⟩
theorem lt6 {n m c : Nat} (h : n + 5 < m) (e : c = n + 5 ∨ c = n + 3 ∨ c = n + 4 ∨ c = n ∨ c = n + 1 ∨ c = n + 2) : c < m := by omega
theorem ge6 {n c : Nat} (e : c = n + 5 ∨ c = n + 3 ∨ c = n + 4 ∨ c = n ∨ c = n + 1 ∨ c = n + 2) : n ≤ c := by omega
theorem turn_zipG3 {P : Program} {w : World} {K : PySem.W.Frag} {elts : List Expr} {kk : Nat} {tpos : Pos} (k1 : Sk) (a : Nat) (k2 : Sk) (b : Nat) (k3 : Sk) (c n : Nat) (la : a < n) (lb : b < n) (lc : c < n) :
    Turn P w K (.Tuple elts kk tpos) (ItzG3 K k1 a k2 b k3 c) [n + 5, n + 3, n + 4, n, n + 1, n + 2] (n + 5) (fun i h => IsZip h (n + 5) (n + 3) (n + 4) .none ∧ IsTupOf3 h (n + 3) (.ref n) (.ref (n + 1)) (.ref (n + 2)) ∧ (∃ x y z, IsTupOf3 h (n + 4) x y z) ∧ ItS k1 h n a i ∧ ItS k2 h (n + 1) b i ∧ ItS k3 h (n + 2) c i) where
  mem := by simp
  obj := fun i h st d hd => by
    obtain ⟨s1, s2, ⟨x, y, z, s3⟩, s4, s5, s6⟩ := st
    rcases (show d = n + 5 ∨ d = n + 3 ∨ d = n + 4 ∨ d = n ∨ d = n + 1 ∨ d = n + 2 by simpa using hd) with e | e | e | e | e | e <;> subst e
    · exact ⟨_, s1, fun v q => nomatch q⟩
    · exact ⟨_, s2, fun v q => nomatch q⟩
    · exact ⟨_, s3, fun v q => nomatch q⟩
    · exact s4.obj
    · exact s5.obj
    · exact s6.obj
  keep := fun i h h' st k => by
    obtain ⟨s1, s2, ⟨x, y, z, s3⟩, s4, s5, s6⟩ := st
    exact ⟨k _ (by simp) _ s1, k _ (by simp) _ s2, ⟨x, y, z, k _ (by simp) _ s3⟩, s4.at fun o q => k _ (by simp) o q, s5.at fun o q => k _ (by simp) o q, s6.at fun o q => k _ (by simp) o q⟩
  item := by
    intro X hP hw hK hc i pins s σ H E I hf st hg
    subst hP hw hK
    obtain ⟨s1, s2, ⟨p0, p1, p2, s3⟩, s4, s5, s6⟩ := st
    obtain ⟨xs, ys, zs, x, y, z, hx, hy, hz, ex, ey, ez⟩ := hg
    obtain ⟨its, rv, o1⟩ := src_of I hx
    obtain ⟨jts, rw2, o2⟩ := src_of I hy
    obtain ⟨kts, rw3, o3⟩ := src_of I hz
    obtain ⟨u, hu, ru⟩ := rv.get ex
    obtain ⟨v, hv, rv2⟩ := rw2.get ey
    obtain ⟨w3, hw3, rv3⟩ := rw3.get ez
    have lz : n + 5 < s.heap.objs.size := Heap.lt_size s1
    have sep := sep3 la lb lc
    have D1 := srcDraws (prog := X.prog) (w := X.w) (A := X.A.in1) k1 (I.ok.hd hc) n a (nn (by omega)) its.toArray
    have D2 := srcDraws (prog := X.prog) (w := X.w) (A := X.A.in1) k2 (I.ok.hd hc) (n + 1) b (nn (by omega)) jts.toArray
    have D3 := srcDraws (prog := X.prog) (w := X.w) (A := X.A.in1) k3 (I.ok.hd hc) (n + 2) c (nn (by omega)) kts.toArray
    refine wpAny_pyNext_zipD3_item sep D1 D2 D3 s1 s2 s3 ⟨s4, o1⟩ ⟨s5, o2⟩ ⟨s6, o3⟩ (by have := (List.getElem?_eq_some_iff.mp hu).1; simpa using this) (by have := (List.getElem?_eq_some_iff.mp hv).1; simpa using this) (by have := (List.getElem?_eq_some_iff.mp hw3).1; simpa using this) fun y1 y2 y3 h' tk q1 q2 q3 z1 z2 z3 z4 z5 hT hsz hk => ?_
    have e1 : y1 = u := Option.some.inj (q1.symm.trans (by simpa using hu))
    have e2 : y2 = v := Option.some.inj (q2.symm.trans (by simpa using hv))
    have e3 : y3 = w3 := Option.some.inj (q3.symm.trans (by simpa using hw3))
    subst e1 e2 e3
    refine ⟨_, rfl, wpAny_letOwnedTupleGo_zip (s := { s with heap := h', toks := tk }) z1 fun h'' hz'' sb => ?_⟩
    have sb' : ∀ d o, d ≠ n + 5 → h'.get? d = some o → h''.get? d = some o := fun d o hd q => (sb.2 d hd).trans q
    have hT2 : h''.get? s.heap.objs.size = some { cls := .type "tuple", data := .seq #[y1, y2, y3] } := sb' _ _ (nn (by omega)) hT
    have new : ObjOk X.prog X.w (upd H s.heap.objs.size (.tup [x, y, z])) h'' s.heap.objs.size (.tup [x, y, z]) :=
      ⟨by show 3 ≤ sizeLine; decide, [y1, y2, y3], .cons ru (.cons rv2 (.cons rv3 .nil)), ⟨_, hT2, rfl, _, rfl⟩⟩
    have I1 : Inv X pins σ (upd H s.heap.objs.size (.tup [x, y, z])) { s with heap := h'', toks := tk } :=
      I.turnedNew (ch := [n + 5, n + 3, n + 4, n, n + 1, n + 2]) (fun d ob hd q => by
        have hd' : d ≠ n + 5 ∧ d ≠ n + 3 ∧ d ≠ n + 4 ∧ d ≠ n ∧ d ≠ n + 1 ∧ d ≠ n + 2 := by simpa using hd
        exact sb' _ _ hd'.1 (hk d ob hd'.1 hd'.2.2.1 hd'.2.2.2.1 hd'.2.2.2.2.1 hd'.2.2.2.2.2 q)) hf (Nat.le_refl _) new
    refine ⟨.ref s.heap.objs.size, _, I1, rfl, ⟨_, x, y, z, rfl, I.hok.fresh (Nat.le_refl _), rfl, fun ws hw => by rw [src_inj I hw hx]; exact ex, fun ws hw => by rw [src_inj I hw hy]; exact ey, fun ws hw => by rw [src_inj I hw hz]; exact ez⟩,
      ⟨hz'', sb' _ _ (nn (by omega)) (hk _ _ (nn (by omega)) (nn (by omega)) (nn (by omega)) (nn (by omega)) (nn (by omega)) s2), ⟨_, _, _, sb' _ _ (nn (by omega)) z2⟩, z3.1.at fun o q => sb' _ _ (nn (by omega)) q, z4.1.at fun o q => sb' _ _ (nn (by omega)) q, z5.1.at fun o q => sb' _ _ (nn (by omega)) q⟩, fun d hd => ?_⟩
    have lt : d < s.heap.objs.size := lt6 lz (by simpa using hd)
    rw [upd_ne (Nat.ne_of_lt lt)]
    exact (hf d hd).1
  done := by
    intro X hP hw hK hc i pins s σ H E I hf st hg
    subst hP hw hK
    obtain ⟨s1, s2, ⟨p0, p1, p2, s3⟩, s4, s5, s6⟩ := st
    obtain ⟨xs, ys, zs, hx, hy, hz, ei⟩ := hg
    obtain ⟨its, rv, o1⟩ := src_of I hx
    obtain ⟨jts, rw2, o2⟩ := src_of I hy
    obtain ⟨kts, rw3, o3⟩ := src_of I hz
    have l1 := rv.length
    have l2 := rw2.length
    have l3 := rw3.length
    have sep := sep3 la lb lc
    have D1 := srcDraws (prog := X.prog) (w := X.w) (A := X.A.in1) k1 (I.ok.hd hc) n a (nn (by omega)) its.toArray
    have D2 := srcDraws (prog := X.prog) (w := X.w) (A := X.A.in1) k2 (I.ok.hd hc) (n + 1) b (nn (by omega)) jts.toArray
    have D3 := srcDraws (prog := X.prog) (w := X.w) (A := X.A.in1) k3 (I.ok.hd hc) (n + 2) c (nn (by omega)) kts.toArray
    refine wpAny_pyNext_zipD3_end sep D1 D2 D3 s1 s2 s3 ⟨s4, o1⟩ ⟨s5, o2⟩ ⟨s6, o3⟩ (by simp; omega) (by simp; omega) (by simp; omega) (by simp; omega) fun h' tk hk => ⟨rfl, ?_⟩
    exact I.turnedL (ch := [n + 5, n + 3, n + 4, n, n + 1, n + 2]) (fun d o hd q => by
      have hd' : d ≠ n + 5 ∧ d ≠ n + 3 ∧ d ≠ n + 4 ∧ d ≠ n ∧ d ≠ n + 1 ∧ d ≠ n + 2 := by simpa using hd
      exact hk d o hd'.1 hd'.2.2.1 hd'.2.2.2.1 hd'.2.2.2.2.1 hd'.2.2.2.2.2 q) hf
  self := fun A i s Q E st h => wpAny_pyIter_zip st.1 h
def iZipG3 (K : PySem.W.Frag) (k1 k2 k3 : Sk) (ta : TA) : TI := fun σ H R => ta σ H fun vs H1 => ∃ a b c xs ys zs, vs = [.ref a, .ref b, .ref c] ∧ SqS K k1 H1 a xs ∧ SqS K k2 H1 b ys ∧ SqS K k3 H1 c zs ∧ R (ItzG3 K k1 a k2 b k3 c) H1
theorem zipG3_call {prog : Program} {w : World} {A : Around} {E : Value → Shared → Prop} {s : Shared} {k1 k2 k3 : Sk} {a b c : Addr} {its jts kts : Array Value} {Q : Value → Shared → Prop} (h1 : OfS k1 s.heap a its) (h2 : OfS k2 s.heap b jts) (h3 : OfS k3 s.heap c kts)
    (h : ∀ h', IsZip h' (s.heap.objs.size + 5) (s.heap.objs.size + 3) (s.heap.objs.size + 4) .none → IsTupOf3 h' (s.heap.objs.size + 3) (.ref s.heap.objs.size) (.ref (s.heap.objs.size + 1)) (.ref (s.heap.objs.size + 2)) → IsTupOf3 h' (s.heap.objs.size + 4) .none .none .none →
      ItS k1 h' s.heap.objs.size a 0 → ItS k2 h' (s.heap.objs.size + 1) b 0 → ItS k3 h' (s.heap.objs.size + 2) c 0 → (∀ c o, s.heap.get? c = some o → h'.get? c = some o) → Q (.ref (s.heap.objs.size + 5)) { s with heap := h' }) :
    wpAny (model prog w) A (call (.type "zip") [.ref a, .ref b, .ref c]) Q E s := by
  refine callType_new F.called_zip (by decide) (F.typeCall_zip_3 _ _ _) (F.newCall_zip_3 _ _ _) (fun obj => F.args_object_init_4 obj _ _ _) F.entry_zip_new (meets_zip_newB3 (begins k1 a its) (begins k2 b jts) (begins k3 c kts)) ⟨⟨h1, h2, h3⟩, ?_⟩
  have f1 : (itO k1 a).isFreed = false := by cases k1 <;> rfl
  have f2 : (itO k2 b).isFreed = false := by cases k2 <;> rfl
  have f3 : (itO k3 c).isFreed = false := by cases k3 <;> rfl
  have z1 : (s.heap.push (itO k1 a)).objs.size = s.heap.objs.size + 1 := Heap.size_push ..
  have z2 : ((s.heap.push (itO k1 a)).push (itO k2 b)).objs.size = s.heap.objs.size + 2 := by rw [Heap.size_push, z1]
  have z3 : (((s.heap.push (itO k1 a)).push (itO k2 b)).push (itO k3 c)).objs.size = s.heap.objs.size + 3 := by rw [Heap.size_push, z2]
  have z4 : (gzT3 s.heap (itO k1 a) (itO k2 b) (itO k3 c)).objs.size = s.heap.objs.size + 4 := by rw [gzT3, Heap.size_push, z3]
  have z5 : (gzO3 s.heap (itO k1 a) (itO k2 b) (itO k3 c)).objs.size = s.heap.objs.size + 5 := by rw [gzO3, Heap.size_push, z4]
  have g1 : (s.heap.push (itO k1 a)).get? s.heap.objs.size = some (itO k1 a) := Heap.get?_push_size s.heap f1
  have g2 : ((s.heap.push (itO k1 a)).push (itO k2 b)).get? (s.heap.objs.size + 1) = some (itO k2 b) := by
    have z := Heap.get?_push_size (s.heap.push (itO k1 a)) f2
    rwa [z1] at z
  have g2' : (((s.heap.push (itO k1 a)).push (itO k2 b)).push (itO k3 c)).get? (s.heap.objs.size + 2) = some (itO k3 c) := by
    have z := Heap.get?_push_size ((s.heap.push (itO k1 a)).push (itO k2 b)) f3
    rwa [z2] at z
  have g3 : IsTupOf3 (gzT3 s.heap (itO k1 a) (itO k2 b) (itO k3 c)) (s.heap.objs.size + 3) (.ref s.heap.objs.size) (.ref (s.heap.objs.size + 1)) (.ref (s.heap.objs.size + 2)) := by
    have z := Heap.get?_push_size (((s.heap.push (itO k1 a)).push (itO k2 b)).push (itO k3 c)) (o := { cls := .type "tuple", data := .seq #[.ref s.heap.objs.size, .ref (s.heap.push (itO k1 a)).objs.size, .ref ((s.heap.push (itO k1 a)).push (itO k2 b)).objs.size] }) rfl
    rw [z3, z2, z1] at z
    show (Heap.push _ { cls := .type "tuple", data := .seq #[.ref s.heap.objs.size, .ref (s.heap.push (itO k1 a)).objs.size, .ref ((s.heap.push (itO k1 a)).push (itO k2 b)).objs.size] }).get? _ = _
    rw [z2, z1]
    exact z
  have g4 : IsTupOf3 (gzO3 s.heap (itO k1 a) (itO k2 b) (itO k3 c)) (s.heap.objs.size + 4) .none .none .none := by
    have z := Heap.get?_push_size (gzT3 s.heap (itO k1 a) (itO k2 b) (itO k3 c)) (o := { cls := .type "tuple", data := .seq #[.none, .none, .none] }) rfl
    rwa [z4] at z
  have g5 : IsZip (gzZ3 s.heap (itO k1 a) (itO k2 b) (itO k3 c)) (s.heap.objs.size + 5) (s.heap.objs.size + 3) (s.heap.objs.size + 4) .none := by
    have z := Heap.get?_push_size (gzO3 s.heap (itO k1 a) (itO k2 b) (itO k3 c)) (o := { cls := .type "zip", data := .fields #[.none, .bool false, .bool false, .ref (((s.heap.push (itO k1 a)).push (itO k2 b)).push (itO k3 c)).objs.size, .ref (gzT3 s.heap (itO k1 a) (itO k2 b) (itO k3 c)).objs.size] }) rfl
    show (Heap.push _ { cls := .type "zip", data := .fields #[.none, .bool false, .bool false, .ref (((s.heap.push (itO k1 a)).push (itO k2 b)).push (itO k3 c)).objs.size, .ref (gzT3 s.heap (itO k1 a) (itO k2 b) (itO k3 c)).objs.size] }).get? _ = _
    rw [z5, z3, z4] at z
    rw [z3, z4]
    exact z
  show _ ∧ _
  rw [z5]
  exact ⟨⟨_, g5, rfl⟩, h _ g5 (Heap.get?_push_of_some _ (Heap.get?_push_of_some _ g3)) (Heap.get?_push_of_some _ g4)
    (itO_is k1 (Heap.get?_push_of_some _ (Heap.get?_push_of_some _ (Heap.get?_push_of_some _ (Heap.get?_push_of_some _ (Heap.get?_push_of_some _ g1))))))
    (itO_is k2 (Heap.get?_push_of_some _ (Heap.get?_push_of_some _ (Heap.get?_push_of_some _ (Heap.get?_push_of_some _ g2)))))
    (itO_is k3 (Heap.get?_push_of_some _ (Heap.get?_push_of_some _ (Heap.get?_push_of_some _ g2'))))
    fun c o q => Heap.get?_push_of_some _ (Heap.get?_push_of_some _ (Heap.get?_push_of_some _ (Heap.get?_push_of_some _ (Heap.get?_push_of_some _ (Heap.get?_push_of_some _ q)))))⟩
theorem vals3 {x y z : V} {us : List Value} (h : Vals [x, y, z] us) : ∃ u v w, us = [u, v, w] ∧ RelV x u ∧ RelV y v ∧ RelV z w := by
  cases h with
  | cons a h =>
    cases h with
    | cons b h =>
      cases h with
      | cons c h =>
        cases h
        exact ⟨_, _, _, rfl, a, b, c⟩
theorem pi_zipG3 {X : Cx} (K : PySem.W.Frag) (hK : X.K = K) (k1 k2 k3 : Sk) {e e2 e3 : Expr} {ta : TA} {p pos tpos : Pos} {elts : List Expr} {kk : Nat} (hg : Gl X "zip") (hm : X.mg "zip" = none) (ha : PA X [e, e2, e3] ta) (hs : starEach [e, e2, e3] X.env = (false, eval e X.env) :: starEach [e2, e3] X.env := by rfl) (hs2 : ((backTo pos (starEach [e2, e3] X.env)).any fun x => x.fst) = false := by rfl) :
    PI X (.Tuple elts kk tpos) (.Call (.Name "zip" p) [e, e2, e3] [] pos) (iZipG3 K k1 k2 k3 ta) := by
  subst hK
  refine ⟨fun pins s σ H R I h => ?_⟩
  refine Call_ (ld_blt I hg hm boot_zip (PyProof.Rows.callWith_type1 (thn (ha.run pos pins s σ H _ I h) fun us s1 ⟨vs, H1, I1, r1, q1⟩ => ?_) hs hs2))
  obtain ⟨a, b, c, xs, ys, zs, ex, hx, hy, hz, q⟩ := q1
  subst ex
  obtain ⟨u, v, w3, rfl, ru, rv, rw3⟩ := vals3 r1
  cases (show u = Value.ref a from ru)
  cases (show v = Value.ref b from rv)
  cases (show w3 = Value.ref c from rw3)
  obtain ⟨its, _, o1⟩ := src_of I1 hx
  obtain ⟨jts, _, o2⟩ := src_of I1 hy
  obtain ⟨kts, _, o3⟩ := src_of I1 hz
  refine zipG3_call o1 o2 o3 fun h' z1 z2 z3 z4 z5 z6 kept => wpAny_pyIter_zip z1 ?_
  have I2 := I1.kept (t' := s1.toks) kept
  refine ⟨s1.heap.objs.size + 5, [s1.heap.objs.size + 5, s1.heap.objs.size + 3, s1.heap.objs.size + 4, s1.heap.objs.size, s1.heap.objs.size + 1, s1.heap.objs.size + 2], _, _, H1, rfl, I2, turn_zipG3 k1 a k2 b k3 c s1.heap.objs.size o1.lt o2.lt o3.lt, ⟨z1, z2, ⟨_, _, _, z3⟩, z4, z5, z6⟩, fun d hd => ?_, q⟩
  have le : s1.heap.objs.size ≤ d := ge6 (by simpa using hd)
  exact I1.fpOk le (I1.hok.fresh le)
def YTri (xs ys zs : Nat → Option V) : Nat → Hp → V → Hp → Prop := fun i H v H' => ∃ T x y z, v = .ref T ∧ H T = none ∧ H' = upd H T (.tup [x, y, z]) ∧ xs i = some x ∧ ys i = some y ∧ zs i = some z
theorem walk_zipG3 {K : PySem.W.Frag} {k1 k2 k3 : Sk} {a b c : Addr} {xs ys zs : List V} {n : Nat} (hn : n = min (min xs.length ys.length) zs.length) : Walk (ItzG3 K k1 a k2 b k3 c) n (fun H => SqS K k1 H a xs ∧ SqS K k2 H b ys ∧ SqS K k3 H c zs) (YTri (fun i => xs[i]?) (fun i => ys[i]?) (fun i => zs[i]?)) := by
  refine ⟨fun i H hi q => ⟨xs, ys, zs, xs[i]'(by omega), ys[i]'(by omega), zs[i]'(by omega), q.1, q.2.1, q.2.2, by simp, by simp, by simp⟩, fun H q => ⟨xs, ys, zs, q.1, q.2.1, q.2.2, hn⟩, fun i H v H' _ q y => ?_⟩
  obtain ⟨T, x, z, u, y1, y2, y3, y4, y5, y6⟩ := y
  exact ⟨T, x, z, u, y1, y2, y3, y4 xs q.1, y5 ys q.2.1, y6 zs q.2.2⟩
end NA
namespace NA
open PySem PySem.Spec PyProof.Rows L2
/-! ### deeds, programs, contents: data and promises of what draws them -/
theorem ix_anyK {X : Cx} (K : PySem.W.Frag) (hK : X.K = K) : IxR X (fun x y H Q => rIxL K x y H Q ∨ rIxT K x y H Q) := fun value slice pins s σ H x y v u Q I rx ry h e =>
  h.elim (fun h => ix_listK K hK value slice pins s σ H x y v u Q I rx ry h e) (fun h => ix_tupK K hK value slice pins s σ H x y v u Q I rx ry h e)
theorem cr_sumK {X : Cx} (K : PySem.W.Frag) (hK : X.K = K) (hc : X.calm = true) : CallR X (.builtin "sum") (rSum K) := hK ▸ cr_sum hc
theorem Cal.weak {P : Program} {w : World} {K : PySem.W.Frag} {mg : Str → Option Value} {base : Heap} {x : Str} {k : Nat} {sp sp' : Sp} (c : Cal P w K mg base k x sp) (f : ∀ vs H Q E, sp' vs H Q E → sp vs H Q E) : Cal P w K mg base k x sp' := by
  obtain ⟨a, fd, ps, F, r⟩ := c.ex
  exact ⟨a, fd, ps, ⟨fun vs H Q E h => F.len vs H Q E (f vs H Q E h), fun A outer s H args us vs Q E hr he hb hv h => F.run A outer s H args us vs Q E hr he hb hv (f vs H Q E h)⟩, r⟩
def spDipW : Sp := fun vs H Q _ => ∃ (p q : Addr) (n : Int), vs = [.ref p, .int n] ∧ Pt H p q ∧ 0 < n ∧ n.natAbs < 2 ^ 4000 ∧ ∀ (r : Int) (H' : Hp), 0 ≤ r → r < n → Pt H' p q → Kp p q H H' → Q (.int r) H'
theorem dip_of {vs : List V} {H : Hp} {Q : VK} {E : XK} (h : spDip vs H Q E) : spDipW vs H Q E := by
  obtain ⟨p, q, n, e, hP, n0, n1, k⟩ := h
  exact ⟨p, q, n, e, hP, n0, Nat.lt_trans (show n.natAbs < 1073741824 by omega) (by decide), k⟩
def spPickA : Sp := fun vs H Q _ => ∃ (p q a : Addr) (xs : List V) (o : HO), vs = [.ref p, .ref a] ∧ Pt H p q ∧ H a = some o ∧ ((o = .lst xs ∧ a ≠ p ∧ a ≠ q) ∨ o = .tup xs) ∧ xs ≠ [] ∧ xs.length < 1000 ∧
  ∀ (v : V) (H' : Hp), v ∈ xs → Pt H' p q → Kp p q H H' → Q v H'
theorem pick_of {vs : List V} {H : Hp} {Q : VK} {E : XK} (h : spPick vs H Q E) : spPickA vs H Q E := by
  obtain ⟨p, q, a, xs, e, hP, ha, n1, n2, ne, lt, k⟩ := h
  exact ⟨p, q, a, xs, _, e, hP, ha, .inl ⟨rfl, n1, n2⟩, ne, lt, k⟩
def dD (d : Nat × Nat × Int) : PyData := .tuple [.int d.1, .int d.2.1, .int d.2.2]
def pD (l : List (Nat × Nat × Int)) : PyData := .tuple (l.map dD)
/-- a deed of a machine -/
structure DOk (ss : List Int) (ws : List (Nat × Nat)) (d : Nat × Nat × Int) : Prop where
  wire : (d.1, d.2.1) ∈ ws
  most : d.2.2.natAbs ≤ 10 ^ 60
  step : ∃ a b : Nat, ss[d.1]? = some (a : Int) ∧ ss[d.2.1]? = some (b : Int) ∧ ((stp a b : Nat) : Int) ∣ d.2.2
/-- contents of sizes -/
structure COk (ss hs : List Int) : Prop where
  len : hs.length = ss.length
  low : ∀ (i : Nat) (h s : Int), hs[i]? = some h → ss[i]? = some s → 0 ≤ h ∧ h < s
def spDeed : Sp := fun vs H Q _ => ∃ (p q : Addr) (v : V) (ss : List Int) (ws : List (Nat × Nat)), vs = [.ref p, v] ∧ Pt H p q ∧ Im H v (mD ss ws) ∧ MOk ss ws ∧ ws ≠ [] ∧
  ∀ (u : V) (d : Nat × Nat × Int) (H' : Hp), Im H' u (dD d) → DOk ss ws d → Pt H' p q → Kp p q H H' → Q u H'
def spProgram : Sp := fun vs H Q _ => ∃ (p q : Addr) (v : V) (ss : List Int) (ws : List (Nat × Nat)) (m : Nat), vs = [.ref p, v, .int m] ∧ Pt H p q ∧ Im H v (mD ss ws) ∧ MOk ss ws ∧ m ≤ 900 ∧
  ∀ (u : V) (l : List (Nat × Nat × Int)) (H' : Hp), Im H' u (pD l) → (∀ d ∈ l, DOk ss ws d) → l.length ≤ m → Pt H' p q → Kp p q H H' → Q u H'
def spContents : Sp := fun vs H Q _ => ∃ (p q : Addr) (v : V) (ss : List Int), vs = [.ref p, v] ∧ Pt H p q ∧ Im H v (sD ss) ∧ (∀ s ∈ ss, SizeOk s) ∧ ss.length ≤ 900 ∧
  ∀ (u : V) (hs : List Int) (H' : Hp), Im H' u (sD hs) → COk ss hs → Pt H' p q → Kp p q H H' → Q u H'
theorem SizeOk.nat {s : Int} (h : SizeOk s) : ∃ m : Nat, s = (m : Int) ∧ 2 ≤ m ∧ m ≤ 10 ^ 30 := by
  obtain ⟨m, e, a, b, _⟩ := h
  exact ⟨m, e, a, b⟩
theorem stp_le {a b : Nat} (hb : 0 < b) : 0 < stp a b ∧ stp a b ≤ b := ⟨stp_pos hb, Nat.div_le_self _ _⟩
/-- the law's own deed by deed, of any integers -/
def addI (ns : List Int) (d : Nat × Nat × Int) : List Int := ns.set d.2.1 (ns.getD d.2.1 0 + d.2.2 * ns.getD d.1 0)
def farI (l : List (Nat × Nat × Int)) (ns : List Int) : List Int := l.foldl addI ns
def remI (ns ss : List Int) : List Int := List.zipWith (fun n s => n % s) ns ss
def runI (ss : List Int) (l : List (Nat × Nat × Int)) (ns : List Int) : List Int := remI (farI l ns) ss
theorem addI_len (ns : List Int) (d : Nat × Nat × Int) : (addI ns d).length = ns.length := List.length_set ..
theorem farI_next {l : List (Nat × Nat × Int)} {ns : List Int} {i : Nat} {d : Nat × Nat × Int} (h : l[i]? = some d) : farI (l.take (i + 1)) ns = addI (farI (l.take i) ns) d := by
  unfold farI
  rw [List.take_add_one, h, List.foldl_append]
  rfl
def mostI (B : Nat) (ns : List Int) : Prop := ∀ n ∈ ns, n.natAbs < 2 ^ B
theorem getD_most {B : Nat} {ns : List Int} (h : mostI B ns) (i : Nat) : (ns.getD i 0).natAbs < 2 ^ B := by
  rw [List.getD_eq_getElem?_getD]
  cases e : ns[i]? with
  | none => exact Nat.pow_pos (by decide)
  | some x => exact h x (List.mem_of_getElem? e)
theorem addI_most {B : Nat} {ns : List Int} {d : Nat × Nat × Int} (h : mostI B ns) (hd : d.2.2.natAbs < 2 ^ 200) : mostI (B + 201) (addI ns d) := by
  intro n hn
  have up : 2 ^ B ≤ 2 ^ (B + 200) := Nat.pow_le_pow_right (by decide) (by omega)
  have e2 : 2 ^ (B + 201) = 2 ^ (B + 200) + 2 ^ (B + 200) := by rw [show B + 201 = B + 200 + 1 by omega, Nat.pow_succ]; omega
  rcases List.mem_or_eq_of_mem_set hn with m | e
  · have := h n m
    omega
  · have a := getD_most h d.2.1
    have b := getD_most h d.1
    have c : (d.2.2 * ns.getD d.1 0).natAbs < 2 ^ (B + 200) := by
      rw [Int.natAbs_mul, Nat.pow_add, Nat.mul_comm]
      exact Nat.mul_lt_mul'' b hd
    rw [e]
    have := Int.natAbs_add_le (ns.getD d.2.1 0) (d.2.2 * ns.getD d.1 0)
    omega
def spRunI (K : PySem.W.Frag) : Sp := fun vs H Q _ => ∃ (v u : V) (a : Addr) (ss ns : List Int) (l : List (Nat × Nat × Int)), vs = [v, u, .ref a] ∧ Im H v (sD ss) ∧ Im H u (pD l) ∧ (SqL K H a (ns.map V.int) ∨ SqT K H a (ns.map V.int)) ∧
  ns.length = ss.length ∧ ss.length ≤ 100 ∧ (∀ s ∈ ss, SizeOk s) ∧ (∀ d ∈ l, d.1 < ss.length ∧ d.2.1 < ss.length ∧ d.2.2.natAbs ≤ 10 ^ 60) ∧ l.length ≤ 1000 ∧ mostI 5000 ns ∧
  ∀ (y : V) (H' : Hp), Im H' y (sD (runI ss l ns)) → Same H H' → Q y H'
end NA
namespace NA
open PySem PySem.Spec PyProof.Rows L2
/-! ### tables: data and promises -/
def tD (t : List (List Int)) : PyData := .tuple (t.map sD)
def dot (row hs : List Int) : Int := (List.zipWith (fun e h => e * h) row hs).sum
def ledI (ss : List Int) (t : List (List Int)) (hs : List Int) : List Int := List.zipWith (fun row s => dot row hs % s) t ss
def colI (one : List (List Int)) (j : Nat) : List Int := one.map fun r => r.getD j 0
def bothI (ss : List Int) (one other : List (List Int)) : List (List Int) := List.zipWith (fun row s => (List.range ss.length).map fun j => dot row (colI one j) % s) other ss
def stillI (n : Nat) : List (List Int) := (List.range n).map fun i => (List.range n).map fun j => if i = j then 1 else 0
/-- as many rows as sizes, each as long, entries not too great -/
structure TSh (n : Nat) (t : List (List Int)) : Prop where
  len : t.length = n
  row : ∀ r ∈ t, r.length = n
  most : ∀ r ∈ t, mostI 300 r
/-- a table of sizes -/
structure TOk (ss : List Int) (t : List (List Int)) : Prop where
  len : t.length = ss.length
  row : ∀ r ∈ t, r.length = ss.length
  low : ∀ (i j : Nat) (r : List Int) (e s : Int), t[i]? = some r → r[j]? = some e → ss[i]? = some s → 0 ≤ e ∧ e < s
  step : ∀ (i j : Nat) (r : List Int) (e : Int), t[i]? = some r → r[j]? = some e → i ≠ j → ∃ a b : Nat, ss[j]? = some (a : Int) ∧ ss[i]? = some (b : Int) ∧ ((stp a b : Nat) : Int) ∣ e
theorem Im.row {H : Hp} {vs : List V} {t : List (List Int)} {i : Nat} {r : List Int} (h : ImAll H vs (t.map sD)) (e : t[i]? = some r) : ∃ a, vs[i]? = some (.ref a) ∧ H a = some (.tup (r.map V.int)) := by
  obtain ⟨v, h1, h2⟩ := h.get (i := i) (d := sD r) (by rw [List.getElem?_map, e]; rfl)
  obtain ⟨a, xs, rfl, ha, ix⟩ := h2.tuple
  have := ix.ints
  subst this
  exact ⟨a, h1, ha⟩
def spLed : Sp := fun vs H Q _ => ∃ (x y z : V) (ss : List Int) (t : List (List Int)) (hs : List Int), vs = [x, y, z] ∧ Im H x (sD ss) ∧ Im H y (tD t) ∧ Im H z (sD hs) ∧ (∀ s ∈ ss, SizeOk s) ∧ ss.length ≤ 100 ∧ TSh ss.length t ∧ hs.length = ss.length ∧ mostI 300 hs ∧
  ∀ (u : V) (H' : Hp), Im H' u (sD (ledI ss t hs)) → Same H H' → Q u H'
def spBoth : Sp := fun vs H Q _ => ∃ (x y z : V) (ss : List Int) (one other : List (List Int)), vs = [x, y, z] ∧ Im H x (sD ss) ∧ Im H y (tD one) ∧ Im H z (tD other) ∧ (∀ s ∈ ss, SizeOk s) ∧ ss.length ≤ 100 ∧ TSh ss.length one ∧ TSh ss.length other ∧
  ∀ (u : V) (H' : Hp), Im H' u (tD (bothI ss one other)) → Same H H' → Q u H'
def spStill : Sp := fun vs H Q _ => ∃ (x : V) (ss : List Int), vs = [x] ∧ Im H x (sD ss) ∧ ss.length ≤ 100 ∧ ∀ (u : V) (H' : Hp), Im H' u (tD (stillI ss.length)) → Same H H' → Q u H'
def spTable : Sp := fun vs H Q _ => ∃ (p q : Addr) (v : V) (ss : List Int), vs = [.ref p, v] ∧ Pt H p q ∧ Im H v (sD ss) ∧ (∀ s ∈ ss, SizeOk s) ∧ ss.length ≤ 100 ∧
  ∀ (u : V) (t : List (List Int)) (H' : Hp), Im H' u (tD t) → TOk ss t → Pt H' p q → Kp p q H H' → Q u H'
theorem mul_wide {a b : Int} {A B : Nat} (ha : a.natAbs < 2 ^ A) (hb : b.natAbs < 2 ^ B) (h : A + B + 2 ≤ 900000) : CMulW a b :=
  wide_mul (a := A + 1) (b := B + 1) (Nat.lt_of_lt_of_le ha (Nat.pow_le_pow_right (by decide) (by omega))) (Nat.lt_of_lt_of_le hb (Nat.pow_le_pow_right (by decide) (by omega))) (by omega) (by omega) (by omega)
/-! rows that are lists yet -/
structure Rws (p q R : Addr) (H : Hp) (rs : List Addr) (t : List (List Int)) : Prop where
  top : H R = some (.lst (rs.map V.ref))
  len : rs.length = t.length
  row : ∀ (i : Nat) (a : Addr), rs[i]? = some a → ∃ r, t[i]? = some r ∧ H a = some (.lst (r.map V.int))
  nd : rs.Nodup
  off : ∀ a ∈ rs, a ≠ R ∧ a ≠ p ∧ a ≠ q
theorem Rws.kp {p q R : Addr} {H H' : Hp} {rs : List Addr} {t : List (List Int)} (h : Rws p q R H rs t) (nR : R ≠ p ∧ R ≠ q) (k : Kp p q H H') : Rws p q R H' rs t :=
  ⟨k _ _ nR.1 nR.2 h.top, h.len, fun i a e => by
    obtain ⟨r, h1, h2⟩ := h.row i a e
    have o := h.off a (List.mem_of_getElem? e)
    exact ⟨r, h1, k _ _ o.2.1 o.2.2 h2⟩, h.nd, h.off⟩
theorem Rws.same {p q R : Addr} {H H' : Hp} {rs : List Addr} {t : List (List Int)} (h : Rws p q R H rs t) (k : Same H H') : Rws p q R H' rs t :=
  ⟨k _ _ h.top, h.len, fun i a e => by
    obtain ⟨r, h1, h2⟩ := h.row i a e
    exact ⟨r, h1, k _ _ h2⟩, h.nd, h.off⟩
theorem Rws.set {p q R : Addr} {H : Hp} {rs : List Addr} {t : List (List Int)} (h : Rws p q R H rs t) {i : Nat} {a : Addr} (e : rs[i]? = some a) (r : List Int) : Rws p q R (upd H a (.lst (r.map V.int))) rs (t.set i r) := by
  have o := h.off a (List.mem_of_getElem? e)
  refine ⟨?_, by rw [List.length_set]; exact h.len, fun j b eb => ?_, h.nd, h.off⟩
  · rw [upd_ne (Ne.symm o.1)]
    exact h.top
  · have li : i < t.length := by rw [← h.len]; exact (List.getElem?_eq_some_iff.mp e).1
    by_cases ij : i = j
    · subst ij
      rw [e] at eb
      cases eb
      exact ⟨r, by rw [List.getElem?_set_self li], upd_same⟩
    · obtain ⟨r', h1, h2⟩ := h.row j b eb
      refine ⟨r', by rw [List.getElem?_set_ne ij]; exact h1, ?_⟩
      have nb : b ≠ a := fun z => by
        subst z
        obtain ⟨l1, g1⟩ := List.getElem?_eq_some_iff.mp e
        obtain ⟨l2, g2⟩ := List.getElem?_eq_some_iff.mp eb
        rcases Nat.lt_or_gt_of_ne ij with lt | lt
        · exact (List.pairwise_iff_getElem.mp h.nd i j l1 l2 lt) (g1.trans g2.symm)
        · exact (List.pairwise_iff_getElem.mp h.nd j i l2 l1 lt) (g2.trans g1.symm)
      rw [upd_ne nb]
      exact h2
theorem Rws.put {p q R a : Addr} {H : Hp} {rs : List Addr} {t : List (List Int)} {r : List Int} (h : Rws p q R H rs t) (nR : R ≠ p ∧ R ≠ q) (ha : H a = some (.lst (r.map V.int))) (n1 : a ∉ rs) (n2 : a ≠ R ∧ a ≠ p ∧ a ≠ q) : Rws p q R (upd H R (.lst (rs.map V.ref ++ [.ref a]))) (rs ++ [a]) (t ++ [r]) := by
  refine ⟨by rw [upd_same, List.map_append]; rfl, by rw [List.length_append, List.length_append, h.len]; rfl, fun i b eb => ?_, ?_, fun b hb => ?_⟩
  · by_cases e : i < rs.length
    · rw [List.getElem?_append_left e] at eb
      obtain ⟨r', h1, h2⟩ := h.row i b eb
      have o := h.off b (List.mem_of_getElem? eb)
      exact ⟨r', by rw [List.getElem?_append_left (by rw [← h.len]; exact e)]; exact h1, by rw [upd_ne o.1]; exact h2⟩
    · rw [List.getElem?_append_right (by omega)] at eb
      have z : i - rs.length = 0 := by
        have := (List.getElem?_eq_some_iff.mp eb).1
        rw [List.length_singleton] at this
        omega
      rw [z] at eb
      cases eb
      refine ⟨r, by rw [List.getElem?_append_right (by have := h.len; omega), ← h.len, z]; rfl, by rw [upd_ne n2.1]; exact ha⟩
  · refine List.nodup_append.mpr ⟨h.nd, List.pairwise_singleton _ a, fun x hx y hy e => ?_⟩
    rw [List.mem_singleton.mp hy] at e
    exact n1 (e ▸ hx)
  · rcases List.mem_append.mp hb with hb | hb
    · exact h.off b hb
    · rw [List.mem_singleton.mp hb]
      exact n2
theorem stp_dvd (a b : Nat) : stp a b ∣ b := Nat.div_dvd_of_dvd (Nat.gcd_dvd_left b a)
theorem TOk.still {ss : List Int} (ok : ∀ s ∈ ss, SizeOk s) : TOk ss (stillI ss.length) := by
  have g : ∀ (i j : Nat) (r : List Int) (e : Int), (stillI ss.length)[i]? = some r → r[j]? = some e → i < ss.length ∧ j < ss.length ∧ e = if i = j then 1 else 0 := fun i j r e h1 h2 => by
    unfold stillI at h1
    rw [List.getElem?_map] at h1
    have li : i < ss.length := Nat.lt_of_not_le fun z => by
      rw [List.getElem?_eq_none (by rw [List.length_range]; exact z)] at h1
      cases h1
    rw [List.getElem?_eq_getElem (by rw [List.length_range]; exact li), List.getElem_range] at h1
    cases h1
    rw [List.getElem?_map] at h2
    have lj : j < ss.length := Nat.lt_of_not_le fun z => by
      rw [List.getElem?_eq_none (by rw [List.length_range]; exact z)] at h2
      cases h2
    rw [List.getElem?_eq_getElem (by rw [List.length_range]; exact lj), List.getElem_range] at h2
    cases h2
    exact ⟨li, lj, rfl⟩
  refine ⟨by unfold stillI; rw [List.length_map, List.length_range], fun r hr => ?_, fun i j r e s h1 h2 h3 => ?_, fun i j r e h1 h2 n => ?_⟩
  · obtain ⟨i, _, rfl⟩ := List.mem_map.mp hr
    rw [List.length_map, List.length_range]
  · obtain ⟨li, lj, rfl⟩ := g i j r e h1 h2
    obtain ⟨m, rfl, m2, _⟩ := (ok s (List.mem_of_getElem? h3)).nat
    split <;> omega
  · obtain ⟨li, lj, rfl⟩ := g i j r e h1 h2
    rw [if_neg n]
    obtain ⟨m, em, _⟩ := (ok ss[j] (List.getElem_mem lj)).nat
    obtain ⟨k, ek, _⟩ := (ok ss[i] (List.getElem_mem li)).nat
    exact ⟨m, k, by rw [List.getElem?_eq_getElem lj, em], by rw [List.getElem?_eq_getElem li, ek], Int.dvd_zero _⟩
theorem TOk.set {ss : List Int} {t : List (List Int)} (h : TOk ss t) {i j : Nat} {r : List Int} {e : Int} (hi : t[i]? = some r) (low : ∀ s, ss[i]? = some s → 0 ≤ e ∧ e < s) (st : i ≠ j → ∃ a b : Nat, ss[j]? = some (a : Int) ∧ ss[i]? = some (b : Int) ∧ ((stp a b : Nat) : Int) ∣ e) : TOk ss (t.set i (r.set j e)) := by
  have li : i < t.length := (List.getElem?_eq_some_iff.mp hi).1
  have g : ∀ (k l : Nat) (r' : List Int) (e' : Int), (t.set i (r.set j e))[k]? = some r' → r'[l]? = some e' → (k = i ∧ l = j ∧ e' = e) ∨ ∃ r'', t[k]? = some r'' ∧ r''[l]? = some e' := fun k l r' e' h1 h2 => by
    by_cases ik : i = k
    · subst ik
      rw [List.getElem?_set_self li] at h1
      cases h1
      by_cases jl : j = l
      · subst jl
        have lj : j < r.length := Nat.lt_of_not_le fun z => by
          rw [List.getElem?_eq_none (by rw [List.length_set]; exact z)] at h2
          cases h2
        rw [List.getElem?_set_self lj] at h2
        cases h2
        exact .inl ⟨rfl, rfl, rfl⟩
      · rw [List.getElem?_set_ne jl] at h2
        exact .inr ⟨r, hi, h2⟩
    · rw [List.getElem?_set_ne ik] at h1
      exact .inr ⟨r', h1, h2⟩
  refine ⟨by rw [List.length_set]; exact h.len, fun r' hr => ?_, fun k l r' e' s h1 h2 h3 => ?_, fun k l r' e' h1 h2 n => ?_⟩
  · rcases List.mem_or_eq_of_mem_set hr with m | m
    · exact h.row r' m
    · rw [m, List.length_set]
      exact h.row r (List.mem_of_getElem? hi)
  · rcases g k l r' e' h1 h2 with ⟨rfl, rfl, rfl⟩ | ⟨r'', a, b⟩
    · exact low s h3
    · exact h.low k l r'' e' s a b h3
  · rcases g k l r' e' h1 h2 with ⟨rfl, rfl, rfl⟩ | ⟨r'', a, b⟩
    · exact st n
    · exact h.step k l r'' e' a b n
end NA
namespace NA
/-! ### the mathematics of deeds -/
theorem mod_eq {a b s : Int} : a % s = b % s ↔ s ∣ a - b := by
  rw [Int.emod_eq_emod_iff_emod_sub_eq_zero, Int.dvd_iff_emod_eq_zero]
theorem stp_hit {a b : Nat} {c : Int} (h : ((stp a b : Nat) : Int) ∣ c) : (b : Int) ∣ c * (a : Int) := by
  obtain ⟨k, rfl⟩ := h
  have e : b ∣ stp a b * a := by
    unfold stp
    obtain ⟨t, ht⟩ := Nat.gcd_dvd_right b a
    refine ⟨t, ?_⟩
    have d := Nat.div_mul_cancel (Nat.gcd_dvd_left b a)
    calc b / Nat.gcd b a * a = b / Nat.gcd b a * (Nat.gcd b a * t) := by rw [← ht]
      _ = b / Nat.gcd b a * Nat.gcd b a * t := by rw [Nat.mul_assoc]
      _ = b * t := by rw [d]
  have e2 : (b : Int) ∣ ((stp a b : Nat) : Int) * (a : Int) := by
    rw [← Int.natCast_mul]
    exact Int.natCast_dvd_natCast.mpr e
  rw [Int.mul_assoc, Int.mul_comm k, ← Int.mul_assoc]
  exact Int.dvd_trans e2 (Int.dvd_mul_right _ _)
/-- alike modulo the sizes -/
structure Cg (ss ns ms : List Int) : Prop where
  l1 : ns.length = ss.length
  l2 : ms.length = ss.length
  alike : ∀ (i : Nat) (s : Int), ss[i]? = some s → s ∣ ns.getD i 0 - ms.getD i 0
theorem Cg.refl {ss ns : List Int} (h : ns.length = ss.length) : Cg ss ns ns := ⟨h, h, fun i s _ => by rw [Int.sub_self]; exact Int.dvd_zero _⟩
theorem Cg.symm {ss ns ms : List Int} (h : Cg ss ns ms) : Cg ss ms ns := ⟨h.l2, h.l1, fun i s e => by
  have := h.alike i s e
  rw [← Int.neg_sub]
  exact Int.dvd_neg.mpr this⟩
theorem Cg.trans {ss ns ms ks : List Int} (h : Cg ss ns ms) (g : Cg ss ms ks) : Cg ss ns ks := ⟨h.l1, g.l2, fun i s e => by
  have a := h.alike i s e
  have b := g.alike i s e
  have := Int.dvd_add a b
  rwa [show ns.getD i 0 - ms.getD i 0 + (ms.getD i 0 - ks.getD i 0) = ns.getD i 0 - ks.getD i 0 by omega] at this⟩
theorem getD_set {ns : List Int} {i j : Nat} {x : Int} (h : i < ns.length) : (ns.set i x).getD j 0 = if i = j then x else ns.getD j 0 := by
  rw [List.getD_eq_getElem?_getD, List.getD_eq_getElem?_getD]
  by_cases e : i = j
  · subst e
    rw [List.getElem?_set_self h, if_pos rfl]
    rfl
  · rw [List.getElem?_set_ne e, if_neg e]
/-- a deed with its places among the sizes -/
structure DIn (ss : List Int) (d : Nat × Nat × Int) : Prop where
  lj : d.1 < ss.length
  li : d.2.1 < ss.length
  ne : d.1 ≠ d.2.1
  hit : ∀ a b : Int, ss[d.1]? = some a → ss[d.2.1]? = some b → b ∣ d.2.2 * a
theorem DOk.din {ss : List Int} {ws : List (Nat × Nat)} {d : Nat × Nat × Int} (h : DOk ss ws d) (ok : MOk ss ws) : DIn ss d := by
  obtain ⟨a, b, c⟩ := ok.wires.low _ h.wire
  obtain ⟨x, y, hx, hy, st⟩ := h.step
  refine ⟨a, b, c, fun p q hp hq => ?_⟩
  rw [hx] at hp
  rw [hy] at hq
  cases hp
  cases hq
  exact stp_hit st
theorem addI_getD {ns : List Int} {d : Nat × Nat × Int} (h : d.2.1 < ns.length) (j : Nat) : (addI ns d).getD j 0 = if d.2.1 = j then ns.getD d.2.1 0 + d.2.2 * ns.getD d.1 0 else ns.getD j 0 := getD_set h
theorem get_some {ss : List Int} {i : Nat} (h : i < ss.length) : ∃ s, ss[i]? = some s := ⟨ss[i], List.getElem?_eq_getElem h⟩
theorem Cg.add {ss ns ms : List Int} {d : Nat × Nat × Int} (h : Cg ss ns ms) (hd : DIn ss d) : Cg ss (addI ns d) (addI ms d) := by
  refine ⟨by rw [addI_len, h.l1], by rw [addI_len, h.l2], fun k s e => ?_⟩
  rw [addI_getD (by rw [h.l1]; exact hd.li), addI_getD (by rw [h.l2]; exact hd.li)]
  by_cases z : d.2.1 = k
  · subst z
    rw [if_pos rfl, if_pos rfl]
    obtain ⟨a, ha⟩ := get_some hd.lj
    obtain ⟨t, ht⟩ := h.alike d.1 a ha
    have e1 := h.alike _ s e
    have e2 : s ∣ d.2.2 * (ns.getD d.1 0 - ms.getD d.1 0) := by
      rw [ht, ← Int.mul_assoc]
      exact Int.dvd_trans (hd.hit a s ha e) (Int.dvd_mul_right _ _)
    have := Int.dvd_add e1 e2
    rwa [show ns.getD d.2.1 0 - ms.getD d.2.1 0 + d.2.2 * (ns.getD d.1 0 - ms.getD d.1 0) = ns.getD d.2.1 0 + d.2.2 * ns.getD d.1 0 - (ms.getD d.2.1 0 + d.2.2 * ms.getD d.1 0) by rw [Int.mul_sub]; omega] at this
  · rw [if_neg z, if_neg z]
    exact h.alike k s e
theorem Cg.far {ss : List Int} {l : List (Nat × Nat × Int)} (hl : ∀ d ∈ l, DIn ss d) : ∀ {ns ms : List Int}, Cg ss ns ms → Cg ss (farI l ns) (farI l ms) := by
  induction l with
  | nil => exact fun h => h
  | cons d l ih => exact fun h => ih (fun x hx => hl x (List.mem_cons_of_mem _ hx)) (h.add (hl d List.mem_cons_self))
theorem remI_getD {ns ss : List Int} {i : Nat} {s : Int} (h : ns.length = ss.length) (e : ss[i]? = some s) : (remI ns ss).getD i 0 = ns.getD i 0 % s := by
  have li := (List.getElem?_eq_some_iff.mp e).1
  have z : ns[i]? = some (ns.getD i 0) := by
    rw [List.getD_eq_getElem?_getD, List.getElem?_eq_getElem (by omega)]
    rfl
  rw [List.getD_eq_getElem?_getD]
  unfold remI
  rw [List.getElem?_zipWith, z, e]
  rfl
theorem remI_length {ns ss : List Int} (h : ns.length = ss.length) : (remI ns ss).length = ss.length := by
  unfold remI
  rw [List.length_zipWith]
  omega
theorem ext_getD {ns ms : List Int} (h : ns.length = ms.length) (e : ∀ i, i < ns.length → ns.getD i 0 = ms.getD i 0) : ns = ms := by
  refine List.ext_getElem h fun i h1 h2 => ?_
  have := e i h1
  rwa [List.getD_eq_getElem?_getD, List.getD_eq_getElem?_getD, List.getElem?_eq_getElem h1, List.getElem?_eq_getElem h2] at this
theorem Cg.rem {ss ns ms : List Int} (h : Cg ss ns ms) : remI ns ss = remI ms ss := by
  refine ext_getD (by rw [remI_length h.l1, remI_length h.l2]) fun i hi => ?_
  rw [remI_length h.l1] at hi
  obtain ⟨s, hs⟩ := get_some hi
  rw [remI_getD h.l1 hs, remI_getD h.l2 hs]
  exact mod_eq.mpr (h.alike i s hs)
theorem cg_rem {ss ns : List Int} (h : ns.length = ss.length) : Cg ss (remI ns ss) ns := ⟨remI_length h, h, fun i s e => by
  rw [remI_getD h e, Int.emod_def]
  exact ⟨-(ns.getD i 0 / s), by rw [Int.mul_neg]; omega⟩⟩
theorem rem_of {ss hs : List Int} (h : COk ss hs) : remI hs ss = hs := by
  refine ext_getD (by rw [remI_length h.len, h.len]) fun i hi => ?_
  rw [remI_length h.len] at hi
  obtain ⟨s, es⟩ := get_some hi
  rw [remI_getD h.len es]
  obtain ⟨x, ex⟩ := get_some (show i < hs.length by rw [h.len]; exact hi)
  obtain ⟨a, b⟩ := h.low i x s ex es
  rw [List.getD_eq_getElem?_getD, ex]
  exact Int.emod_eq_of_lt a b
theorem rem_cok {ss ns : List Int} (ok : ∀ s ∈ ss, SizeOk s) (h : ns.length = ss.length) : COk ss (remI ns ss) := by
  refine ⟨remI_length h, fun i x s ex es => ?_⟩
  have := remI_getD h es
  rw [List.getD_eq_getElem?_getD, ex] at this
  obtain ⟨m, rfl, m2, _⟩ := (ok s (List.mem_of_getElem? es)).nat
  have e : x = ns.getD i 0 % (m : Int) := this
  rw [e]
  exact ⟨Int.emod_nonneg _ (by omega), Int.emod_lt_of_pos _ (by omega)⟩
/-- deed by deed, each register modulo its size -/
def doneI (ss hs : List Int) (d : Nat × Nat × Int) : List Int := remI (addI hs d) ss
def runP (ss : List Int) (l : List (Nat × Nat × Int)) (hs : List Int) : List Int := l.foldl (doneI ss) hs
theorem runP_cg {ss : List Int} {l : List (Nat × Nat × Int)} (hl : ∀ d ∈ l, DIn ss d) : ∀ {hs ns : List Int}, Cg ss hs ns → Cg ss (runP ss l hs) (farI l ns) := by
  induction l with
  | nil => exact fun h => h
  | cons d l ih =>
    intro hs ns h
    have a := h.add (hl d List.mem_cons_self)
    exact ih (fun x hx => hl x (List.mem_cons_of_mem _ hx)) ((cg_rem a.l1).trans a)
theorem runP_cok {ss : List Int} (ok : ∀ s ∈ ss, SizeOk s) {l : List (Nat × Nat × Int)} : ∀ {hs : List Int}, COk ss hs → COk ss (runP ss l hs) := by
  induction l with
  | nil => exact fun h => h
  | cons d l ih => exact fun h => ih (rem_cok ok (by rw [addI_len, h.len]))
/-- what deeds do one by one is what they do in the whole -/
theorem runP_eq {ss : List Int} (ok : ∀ s ∈ ss, SizeOk s) {l : List (Nat × Nat × Int)} (hl : ∀ d ∈ l, DIn ss d) {hs ns : List Int} (h : COk ss hs) (g : Cg ss hs ns) : runP ss l hs = runI ss l ns := by
  have a := runP_cg hl g
  have b := rem_of (runP_cok (l := l) ok h)
  rw [← b]
  exact a.rem
/-- backward -/
def backI (l : List (Nat × Nat × Int)) : List (Nat × Nat × Int) := (l.map fun d => (d.1, d.2.1, -d.2.2)).reverse
theorem DIn.neg {ss : List Int} {d : Nat × Nat × Int} (h : DIn ss d) : DIn ss (d.1, d.2.1, -d.2.2) := ⟨h.lj, h.li, h.ne, fun a b ha hb => by
  rw [Int.neg_mul]
  exact Int.dvd_neg.mpr (h.hit a b ha hb)⟩
theorem add_back {ns : List Int} {d : Nat × Nat × Int} (hj : d.2.1 < ns.length) (ne : d.1 ≠ d.2.1) : addI (addI ns d) (d.1, d.2.1, -d.2.2) = ns := by
  refine ext_getD (by rw [addI_len, addI_len]) fun k hk => ?_
  rw [addI_getD (by rw [addI_len]; exact hj)]
  by_cases e : d.2.1 = k
  · rw [if_pos e, addI_getD hj, addI_getD hj, if_pos rfl, if_neg (Ne.symm ne), ← e, Int.neg_mul]
    dsimp only
    omega
  · rw [if_neg e, addI_getD hj, if_neg e]
theorem far_app (l m : List (Nat × Nat × Int)) (ns : List Int) : farI (l ++ m) ns = farI m (farI l ns) := List.foldl_append
theorem far_back {ss : List Int} {l : List (Nat × Nat × Int)} (hl : ∀ d ∈ l, DIn ss d) : ∀ {ns : List Int}, ns.length = ss.length → farI (backI l) (farI l ns) = ns := by
  induction l with
  | nil => exact fun _ => rfl
  | cons d l ih =>
    intro ns h
    have a := ih (fun x hx => hl x (List.mem_cons_of_mem _ hx)) (ns := addI ns d) (by rw [addI_len, h])
    have dd := hl d List.mem_cons_self
    have e : backI (d :: l) = backI l ++ [(d.1, d.2.1, -d.2.2)] := by
      unfold backI
      rw [List.map_cons, List.reverse_cons]
    rw [e, far_app]
    show addI (farI (backI l) (farI l (addI ns d))) _ = ns
    rw [a]
    exact add_back (by rw [h]; exact dd.li) dd.ne
theorem back_din {ss : List Int} {l : List (Nat × Nat × Int)} (hl : ∀ d ∈ l, DIn ss d) : ∀ d ∈ backI l, DIn ss d := fun d hd => by
  unfold backI at hd
  obtain ⟨x, hx, rfl⟩ := List.mem_map.mp (List.mem_reverse.mp hd)
  exact (hl x hx).neg
theorem runP_back {ss : List Int} (ok : ∀ s ∈ ss, SizeOk s) {l : List (Nat × Nat × Int)} (hl : ∀ d ∈ l, DIn ss d) {hs : List Int} (h : COk ss hs) : runP ss (backI l) (runP ss l hs) = hs := by
  have a := runP_cg hl (Cg.refl h.len)
  rw [runP_eq ok (back_din hl) (runP_cok ok h) a]
  unfold runI
  rw [far_back hl h.len, rem_of h]
/-- sums -/
def sumI (ns ms : List Int) : List Int := List.zipWith (fun a b => a + b) ns ms
theorem sumI_len {ns ms : List Int} {n : Nat} (h : ns.length = n) (g : ms.length = n) : (sumI ns ms).length = n := by
  unfold sumI
  rw [List.length_zipWith]
  omega
theorem sumI_getD {ns ms : List Int} (h : ns.length = ms.length) (i : Nat) : (sumI ns ms).getD i 0 = ns.getD i 0 + ms.getD i 0 := by
  rw [List.getD_eq_getElem?_getD, List.getD_eq_getElem?_getD, List.getD_eq_getElem?_getD]
  unfold sumI
  rw [List.getElem?_zipWith]
  by_cases e : i < ns.length
  · rw [List.getElem?_eq_getElem e, List.getElem?_eq_getElem (by omega)]
    rfl
  · rw [List.getElem?_eq_none (by omega), List.getElem?_eq_none (by omega)]
    rfl
theorem add_sum {ns ms : List Int} {d : Nat × Nat × Int} (h : ns.length = ms.length) (hi : d.2.1 < ns.length) : addI (sumI ns ms) d = sumI (addI ns d) (addI ms d) := by
  have l1 : (sumI ns ms).length = ns.length := sumI_len rfl h.symm
  refine ext_getD (by rw [addI_len, l1, sumI_len (addI_len ns d) (by rw [addI_len, h])]) fun k hk => ?_
  rw [addI_getD (by omega), sumI_getD (ns := addI ns d) (ms := addI ms d) (by rw [addI_len, addI_len, h]), addI_getD hi, addI_getD (ns := ms) (by omega), sumI_getD h, sumI_getD h, sumI_getD h, Int.mul_add]
  split <;> omega
theorem far_sum {l : List (Nat × Nat × Int)} : ∀ {ns ms : List Int}, ns.length = ms.length → (∀ d ∈ l, d.2.1 < ns.length) → farI l (sumI ns ms) = sumI (farI l ns) (farI l ms) := by
  induction l with
  | nil => exact fun _ _ => rfl
  | cons d l ih =>
    intro ns ms h hl
    show farI l (addI (sumI ns ms) d) = sumI (farI l (addI ns d)) (farI l (addI ms d))
    rw [add_sum h (hl d List.mem_cons_self)]
    exact ih (by rw [addI_len, addI_len, h]) fun x hx => by rw [addI_len]; exact hl x (List.mem_cons_of_mem _ hx)
end NA
namespace NA
/-! ### sums -/
def sumF : Nat → (Nat → Int) → Int
  | 0, _ => 0
  | n + 1, F => F 0 + sumF n fun k => F (k + 1)
theorem sumF_congr : ∀ {n : Nat} {F G : Nat → Int}, (∀ k, k < n → F k = G k) → sumF n F = sumF n G
  | 0, _, _, _ => rfl
  | n + 1, F, G, h => by
    show F 0 + _ = G 0 + _
    rw [h 0 (by omega), sumF_congr fun k hk => h (k + 1) (by omega)]
theorem sumF_add : ∀ (n : Nat) (F G : Nat → Int), sumF n (fun k => F k + G k) = sumF n F + sumF n G
  | 0, _, _ => rfl
  | n + 1, F, G => by
    show F 0 + G 0 + sumF n (fun k => F (k + 1) + G (k + 1)) = F 0 + sumF n _ + (G 0 + sumF n _)
    rw [sumF_add n]
    omega
theorem sumF_mul (c : Int) : ∀ (n : Nat) (F : Nat → Int), sumF n (fun k => c * F k) = c * sumF n F
  | 0, _ => by show (0 : Int) = c * 0; rw [Int.mul_zero]
  | n + 1, F => by
    show c * F 0 + sumF n (fun k => c * F (k + 1)) = c * (F 0 + sumF n _)
    rw [sumF_mul c n, Int.mul_add]
theorem sumF_zero : ∀ (n : Nat), sumF n (fun _ => 0) = 0
  | 0 => rfl
  | n + 1 => by
    show (0 : Int) + sumF n (fun _ => 0) = 0
    rw [sumF_zero n]
    rfl
theorem sumF_swap : ∀ (n m : Nat) (F : Nat → Nat → Int), sumF n (fun j => sumF m fun k => F j k) = sumF m (fun k => sumF n fun j => F j k)
  | 0, m, F => (sumF_zero m).symm
  | n + 1, m, F => by
    show sumF m (fun k => F 0 k) + sumF n (fun j => sumF m fun k => F (j + 1) k) = sumF m (fun k => F 0 k + sumF n fun j => F (j + 1) k)
    rw [sumF_add, sumF_swap n]
theorem sumF_dvd {s : Int} : ∀ {n : Nat} {F : Nat → Int}, (∀ k, k < n → s ∣ F k) → s ∣ sumF n F
  | 0, _, _ => Int.dvd_zero _
  | n + 1, F, h => Int.dvd_add (h 0 (by omega)) (sumF_dvd fun k hk => h (k + 1) (by omega))
theorem sumF_alike {s : Int} {n : Nat} {F G : Nat → Int} (h : ∀ k, k < n → s ∣ F k - G k) : s ∣ sumF n F - sumF n G := by
  have := sumF_dvd h
  rw [show sumF n (fun k => F k - G k) = sumF n F - sumF n G from ?_] at this
  · exact this
  · have e := sumF_add n (fun k => F k - G k) G
    rw [show (fun k => F k - G k + G k) = F from funext fun k => by omega] at e
    omega
theorem sumF_one (n i : Nat) (F : Nat → Int) (h : i < n) : sumF n (fun k => (if i = k then 1 else 0) * F k) = F i := by
  induction n generalizing i F with
  | zero => omega
  | succ n ih =>
    show (if i = 0 then 1 else 0) * F 0 + sumF n (fun k => (if i = k + 1 then 1 else 0) * F (k + 1)) = F i
    cases i with
    | zero =>
      rw [if_pos rfl, sumF_congr (G := fun _ => 0) fun k _ => by rw [if_neg (by omega), Int.zero_mul], sumF_zero]
      omega
    | succ i =>
      rw [if_neg (by omega), sumF_congr (G := fun k => (if i = k then 1 else 0) * F (k + 1)) fun k _ => by
        by_cases e : i = k
        · rw [if_pos e, if_pos (by omega)]
        · rw [if_neg e, if_neg (by omega)], ih i (fun k => F (k + 1)) (by omega)]
      omega
theorem dot_sum : ∀ {row hs : List Int} {n : Nat}, row.length = n → hs.length = n → dot row hs = sumF n fun k => row.getD k 0 * hs.getD k 0
  | [], [], _, e, _ => by subst e; rfl
  | r :: row, h :: hs, n + 1, e1, e2 => by
    have a := dot_sum (row := row) (hs := hs) (n := n) (by simpa using e1) (by simpa using e2)
    unfold dot at a ⊢
    rw [List.zipWith_cons_cons, List.sum_cons, a]
    rfl
  | [], _ :: _, _, e1, e2 => by rw [← e1] at e2; cases e2
  | _ :: _, [], _, e1, e2 => by rw [← e1] at e2; cases e2
  | _ :: _, _ :: _, 0, e1, _ => by cases e1
/-! ### tables by their entries -/
def en (t : List (List Int)) (i j : Nat) : Int := (t.getD i []).getD j 0
theorem en_of {t : List (List Int)} {i : Nat} {r : List Int} (h : t[i]? = some r) (j : Nat) : en t i j = r.getD j 0 := by
  unfold en
  have e : t.getD i [] = r := by
    rw [List.getD_eq_getElem?_getD, h]
    rfl
  rw [e]
/-- of the right form -/
structure Sq (n : Nat) (t : List (List Int)) : Prop where
  len : t.length = n
  row : ∀ r ∈ t, r.length = n
theorem TOk.sq {ss : List Int} {t : List (List Int)} (h : TOk ss t) : Sq ss.length t := ⟨h.len, h.row⟩
theorem Sq.get {n : Nat} {t : List (List Int)} (h : Sq n t) {i : Nat} (hi : i < n) : ∃ r, t[i]? = some r ∧ r.length = n := by
  have hi' : i < t.length := by rw [h.len]; exact hi
  exact ⟨t[i], List.getElem?_eq_getElem hi', h.row _ (List.getElem_mem hi')⟩
theorem sq_ext {n : Nat} {t u : List (List Int)} (a : Sq n t) (b : Sq n u) (e : ∀ i j, i < n → j < n → en t i j = en u i j) : t = u := by
  refine List.ext_getElem (by rw [a.len, b.len]) fun i h1 h2 => ?_
  have hi : i < n := by rw [← a.len]; exact h1
  refine ext_getD (by rw [a.row _ (List.getElem_mem h1), b.row _ (List.getElem_mem h2)]) fun j hj => ?_
  have := e i j hi (by rw [← a.row _ (List.getElem_mem h1)]; exact hj)
  rwa [en_of (List.getElem?_eq_getElem h1), en_of (List.getElem?_eq_getElem h2)] at this
theorem led_getD {ss : List Int} {t : List (List Int)} {hs : List Int} (q : Sq ss.length t) (lh : hs.length = ss.length) {i : Nat} {s : Int} (e : ss[i]? = some s) : (ledI ss t hs).getD i 0 = (sumF ss.length fun j => en t i j * hs.getD j 0) % s := by
  have hi := (List.getElem?_eq_some_iff.mp e).1
  obtain ⟨r, hr, rl⟩ := q.get hi
  rw [List.getD_eq_getElem?_getD]
  unfold ledI
  rw [List.getElem?_zipWith, hr, e]
  show dot r hs % s = _
  rw [dot_sum rl lh]
  congr 1
  exact sumF_congr fun j _ => by rw [en_of hr]
theorem led_len {ss : List Int} {t : List (List Int)} {hs : List Int} (q : Sq ss.length t) : (ledI ss t hs).length = ss.length := by
  unfold ledI
  rw [List.length_zipWith, q.len, Nat.min_self]
theorem both_get {ss : List Int} {one other : List (List Int)} {i : Nat} {r : List Int} {s : Int} (hr : other[i]? = some r) (e : ss[i]? = some s) : (bothI ss one other)[i]? = some ((List.range ss.length).map fun j => dot r (colI one j) % s) := by
  unfold bothI
  rw [List.getElem?_zipWith, hr, e]
theorem both_sq {ss : List Int} {one other : List (List Int)} (q : Sq ss.length other) : Sq ss.length (bothI ss one other) := by
  have l : (bothI ss one other).length = ss.length := by
    unfold bothI
    rw [List.length_zipWith, q.len, Nat.min_self]
  refine ⟨l, fun r hr => ?_⟩
  obtain ⟨i, hi, rfl⟩ := List.getElem_of_mem hr
  obtain ⟨s, es⟩ := get_some (show i < ss.length by omega)
  obtain ⟨r0, hr0, _⟩ := q.get (show i < ss.length by omega)
  have := both_get (one := one) hr0 es
  rw [List.getElem?_eq_getElem hi] at this
  rw [Option.some.inj this, List.length_map, List.length_range]
theorem both_en {ss : List Int} {one other : List (List Int)} (q1 : Sq ss.length one) (q2 : Sq ss.length other) {i j : Nat} {s : Int} (e : ss[i]? = some s) (hj : j < ss.length) : en (bothI ss one other) i j = (sumF ss.length fun k => en other i k * en one k j) % s := by
  have hi := (List.getElem?_eq_some_iff.mp e).1
  obtain ⟨r, hr, rl⟩ := q2.get hi
  rw [en_of (both_get hr e), List.getD_eq_getElem?_getD, List.getElem?_map, List.getElem?_eq_getElem (by rw [List.length_range]; exact hj), List.getElem_range]
  show dot r (colI one j) % s = _
  rw [dot_sum (n := ss.length) rl (by unfold colI; rw [List.length_map, q1.len])]
  congr 1
  refine sumF_congr fun k hk => ?_
  obtain ⟨r1, hr1, _⟩ := q1.get hk
  rw [en_of hr, en_of hr1]
  congr 1
  rw [List.getD_eq_getElem?_getD]
  unfold colI
  rw [List.getElem?_map, hr1]
  rfl
/-- entries that give what they must -/
def Hit (ss : List Int) (t : List (List Int)) : Prop := ∀ (i j : Nat) (s r : Int), ss[i]? = some s → ss[j]? = some r → s ∣ en t i j * r
theorem TOk.hit {ss : List Int} {t : List (List Int)} (h : TOk ss t) : Hit ss t := by
  intro i j s r hs hr
  by_cases e : i = j
  · subst e
    rw [hs] at hr
    cases hr
    exact Int.dvd_mul_left _ _
  · obtain ⟨row, hrow, rl⟩ := h.sq.get (List.getElem?_eq_some_iff.mp hs).1
    have hj := (List.getElem?_eq_some_iff.mp hr).1
    have ej : row[j]? = some (row.getD j 0) := by
      rw [List.getD_eq_getElem?_getD, List.getElem?_eq_getElem (by omega)]
      rfl
    obtain ⟨a, b, ha, hb, st⟩ := h.step i j row _ hrow ej e
    rw [hr] at ha
    rw [hs] at hb
    cases ha
    cases hb
    rw [en_of hrow]
    exact stp_hit st
/-- the sums over rests are alike the sums over what left them -/
theorem hit_sum {ss : List Int} {t : List (List Int)} (h : Hit ss t) {i : Nat} {s : Int} (e : ss[i]? = some s) {F G : Nat → Int} (fg : ∀ (k : Nat) (r : Int), ss[k]? = some r → r ∣ F k - G k) : s ∣ (sumF ss.length fun k => en t i k * F k) - sumF ss.length fun k => en t i k * G k := by
  refine sumF_alike fun k hk => ?_
  obtain ⟨r, hr⟩ := get_some hk
  obtain ⟨x, hx⟩ := fg k r hr
  rw [← Int.mul_sub, hx, ← Int.mul_assoc]
  exact Int.dvd_trans (h i k s r e hr) (Int.dvd_mul_right _ _)
theorem mod_sub (a s : Int) : s ∣ a % s - a := by
  rw [Int.emod_def]
  exact ⟨-(a / s), by rw [Int.mul_neg]; omega⟩
theorem dvd_sub_comm {a b s : Int} (h : s ∣ a - b) : s ∣ b - a := by
  rw [← Int.neg_sub]
  exact Int.dvd_neg.mpr h
theorem mod_congr {a b s : Int} (h : s ∣ a - b) : a % s = b % s := mod_eq.mpr h
/-- one table behind another leads as the one and then the other -/
theorem led_both {ss : List Int} {one other : List (List Int)} {hs : List Int} (q1 : Sq ss.length one) (q2 : Sq ss.length other) (h2 : Hit ss other) (lh : hs.length = ss.length) : ledI ss (bothI ss one other) hs = ledI ss other (ledI ss one hs) := by
  refine ext_getD (by rw [led_len (both_sq q2), led_len q2]) fun i hi => ?_
  rw [led_len (both_sq q2)] at hi
  obtain ⟨s, es⟩ := get_some hi
  rw [led_getD (both_sq q2) lh es, led_getD q2 (led_len q1) es]
  refine mod_congr ?_
  -- both are alike the double sum
  have a : s ∣ (sumF ss.length fun j => en (bothI ss one other) i j * hs.getD j 0) - sumF ss.length fun j => (sumF ss.length fun k => en other i k * en one k j) * hs.getD j 0 := by
    refine sumF_alike fun j hj => ?_
    rw [both_en q1 q2 es hj, ← Int.sub_mul]
    exact Int.dvd_trans (mod_sub _ _) (Int.dvd_mul_right _ _)
  have b : s ∣ (sumF ss.length fun k => en other i k * (ledI ss one hs).getD k 0) - sumF ss.length fun k => en other i k * sumF ss.length fun j => en one k j * hs.getD j 0 :=
    hit_sum h2 es fun k r hr => by
      rw [led_getD q1 lh hr]
      exact mod_sub _ _
  have c : (sumF ss.length fun j => (sumF ss.length fun k => en other i k * en one k j) * hs.getD j 0) = sumF ss.length fun k => en other i k * sumF ss.length fun j => en one k j * hs.getD j 0 := by
    rw [sumF_congr (G := fun j => sumF ss.length fun k => en other i k * (en one k j * hs.getD j 0)) fun j _ => by
      rw [Int.mul_comm, ← sumF_mul]
      exact sumF_congr fun k _ => by rw [Int.mul_comm, Int.mul_assoc], sumF_swap]
    exact sumF_congr fun k _ => sumF_mul _ _ _
  rw [c] at a
  have := Int.dvd_add a (dvd_sub_comm b)
  rwa [show ∀ x y z : Int, x - y + (y - z) = x - z from fun x y z => by omega] at this
theorem both_hit {ss : List Int} {one other : List (List Int)} (q1 : Sq ss.length one) (q2 : Sq ss.length other) (h1 : Hit ss one) (h2 : Hit ss other) : Hit ss (bothI ss one other) := by
  intro i j s r hs hr
  have hj := (List.getElem?_eq_some_iff.mp hr).1
  rw [both_en q1 q2 hs hj]
  have a : s ∣ (sumF ss.length fun k => en other i k * en one k j) * r := by
    rw [Int.mul_comm, ← sumF_mul]
    refine sumF_dvd fun k hk => ?_
    obtain ⟨x, hx⟩ := get_some hk
    obtain ⟨y, hy⟩ := h1 k j x r hx hr
    have e : r * (en other i k * en one k j) = en other i k * x * y := by
      rw [Int.mul_comm, Int.mul_assoc, hy, Int.mul_assoc]
    rw [e]
    exact Int.dvd_trans (h2 i k s x hs hx) (Int.dvd_mul_right _ _)
  have b : s ∣ ((sumF ss.length fun k => en other i k * en one k j) % s - sumF ss.length fun k => en other i k * en one k j) * r := Int.dvd_trans (mod_sub _ _) (Int.dvd_mul_right _ _)
  rw [Int.sub_mul] at b
  have := Int.dvd_add b a
  rwa [show ∀ x y : Int, x - y + y = x from fun x y => by omega] at this
theorem both_assoc {ss : List Int} {one other third : List (List Int)} (q1 : Sq ss.length one) (q2 : Sq ss.length other) (q3 : Sq ss.length third) (h3 : Hit ss third) : bothI ss (bothI ss one other) third = bothI ss one (bothI ss other third) := by
  refine sq_ext (both_sq q3) (both_sq (both_sq q3)) fun i j hi hj => ?_
  obtain ⟨s, es⟩ := get_some hi
  rw [both_en (both_sq q2) q3 es hj, both_en q1 (both_sq q3) es hj]
  refine mod_congr ?_
  have a : s ∣ (sumF ss.length fun k => en third i k * en (bothI ss one other) k j) - sumF ss.length fun k => en third i k * sumF ss.length fun l => en other k l * en one l j :=
    hit_sum h3 es fun k r hr => by
      rw [both_en q1 q2 hr hj]
      exact mod_sub _ _
  have b : s ∣ (sumF ss.length fun l => en (bothI ss other third) i l * en one l j) - sumF ss.length fun l => (sumF ss.length fun k => en third i k * en other k l) * en one l j := by
    refine sumF_alike fun l hl => ?_
    rw [both_en q2 q3 es hl, ← Int.sub_mul]
    exact Int.dvd_trans (mod_sub _ _) (Int.dvd_mul_right _ _)
  have c : (sumF ss.length fun l => (sumF ss.length fun k => en third i k * en other k l) * en one l j) = sumF ss.length fun k => en third i k * sumF ss.length fun l => en other k l * en one l j := by
    rw [sumF_congr (G := fun l => sumF ss.length fun k => en third i k * (en other k l * en one l j)) fun l _ => by
      rw [Int.mul_comm, ← sumF_mul]
      exact sumF_congr fun k _ => by rw [Int.mul_comm, Int.mul_assoc], sumF_swap]
    exact sumF_congr fun k _ => sumF_mul _ _ _
  rw [c] at b
  have := Int.dvd_add a (dvd_sub_comm b)
  rwa [show ∀ x y z : Int, x - y + (y - z) = x - z from fun x y z => by omega] at this
theorem still_sq (n : Nat) : Sq n (stillI n) := ⟨by unfold stillI; rw [List.length_map, List.length_range], fun r hr => by
  unfold stillI at hr
  obtain ⟨i, _, rfl⟩ := List.mem_map.mp hr
  rw [List.length_map, List.length_range]⟩
theorem still_en {n i j : Nat} (hi : i < n) (hj : j < n) : en (stillI n) i j = if i = j then 1 else 0 := by
  have e : (stillI n)[i]? = some ((List.range n).map fun j => if i = j then 1 else 0) := by
    unfold stillI
    rw [List.getElem?_map, List.getElem?_eq_getElem (by rw [List.length_range]; exact hi), List.getElem_range]
    rfl
  rw [en_of e, List.getD_eq_getElem?_getD, List.getElem?_map, List.getElem?_eq_getElem (by rw [List.length_range]; exact hj), List.getElem_range]
  rfl
theorem led_still {ss hs : List Int} (h : COk ss hs) : ledI ss (stillI ss.length) hs = hs := by
  refine ext_getD (by rw [led_len (still_sq _), h.len]) fun i hi => ?_
  rw [led_len (still_sq _)] at hi
  obtain ⟨s, es⟩ := get_some hi
  rw [led_getD (still_sq _) h.len es, sumF_congr (G := fun j => (if i = j then 1 else 0) * hs.getD j 0) fun j hj => by rw [still_en hi hj], sumF_one _ _ _ hi]
  obtain ⟨x, ex⟩ := get_some (show i < hs.length by rw [h.len]; exact hi)
  obtain ⟨a, b⟩ := h.low i x s ex es
  rw [List.getD_eq_getElem?_getD, ex]
  exact Int.emod_eq_of_lt a b
/-- entries from 0 below the size of their row -/
def Low (ss : List Int) (t : List (List Int)) : Prop := ∀ (i j : Nat) (s : Int), ss[i]? = some s → j < ss.length → 0 ≤ en t i j ∧ en t i j < s
theorem TOk.lowE {ss : List Int} {t : List (List Int)} (h : TOk ss t) : Low ss t := by
  intro i j s hs hj
  obtain ⟨row, hrow, rl⟩ := h.sq.get (List.getElem?_eq_some_iff.mp hs).1
  have ej : row[j]? = some (row.getD j 0) := by
    rw [List.getD_eq_getElem?_getD, List.getElem?_eq_getElem (by omega)]
    rfl
  rw [en_of hrow]
  exact h.low i j row _ s hrow ej hs
theorem both_low {ss : List Int} {one other : List (List Int)} (ok : ∀ s ∈ ss, SizeOk s) (q1 : Sq ss.length one) (q2 : Sq ss.length other) : Low ss (bothI ss one other) := by
  intro i j s hs hj
  rw [both_en q1 q2 hs hj]
  obtain ⟨m, rfl, m2, _⟩ := (ok s (List.mem_of_getElem? hs)).nat
  exact ⟨Int.emod_nonneg _ (by omega), Int.emod_lt_of_pos _ (by omega)⟩
theorem both_still {ss : List Int} {t : List (List Int)} (q : Sq ss.length t) (l : Low ss t) : bothI ss t (stillI ss.length) = t := by
  refine sq_ext (both_sq (still_sq _)) q fun i j hi hj => ?_
  obtain ⟨s, es⟩ := get_some hi
  rw [both_en q (still_sq _) es hj, sumF_congr (G := fun k => (if i = k then 1 else 0) * en t k j) fun k hk => by rw [still_en hi hk], sumF_one _ _ _ hi]
  obtain ⟨a, b⟩ := l i j s es hj
  exact Int.emod_eq_of_lt a b
theorem still_both {ss : List Int} {t : List (List Int)} (q : Sq ss.length t) (l : Low ss t) : bothI ss (stillI ss.length) t = t := by
  refine sq_ext (both_sq q) q fun i j hi hj => ?_
  obtain ⟨s, es⟩ := get_some hi
  rw [both_en (still_sq _) q es hj, sumF_congr (G := fun k => (if j = k then 1 else 0) * en t i k) fun k hk => by
    rw [still_en hk hj, Int.mul_comm]
    by_cases e : k = j
    · rw [if_pos e, if_pos e.symm]
    · rw [if_neg e, if_neg (Ne.symm e)], sumF_one _ _ _ hj]
  obtain ⟨a, b⟩ := l i j s es hj
  exact Int.emod_eq_of_lt a b
/-- the table of a deed -/
def deedI (ss : List Int) (d : Nat × Nat × Int) : List (List Int) := (stillI ss.length).set d.2.1 (((stillI ss.length).getD d.2.1 []).set d.1 (d.2.2 % ss.getD d.2.1 1))
theorem still_row {n i : Nat} (hi : i < n) : (stillI n).getD i [] = (List.range n).map fun j => if i = j then 1 else 0 := by
  rw [List.getD_eq_getElem?_getD]
  unfold stillI
  rw [List.getElem?_map, List.getElem?_eq_getElem (by rw [List.length_range]; exact hi), List.getElem_range]
  rfl
theorem deed_sq {ss : List Int} {d : Nat × Nat × Int} (h : DIn ss d) : Sq ss.length (deedI ss d) := by
  have q := still_sq ss.length
  refine ⟨by unfold deedI; rw [List.length_set, q.len], fun r hr => ?_⟩
  unfold deedI at hr
  rcases List.mem_or_eq_of_mem_set hr with m | m
  · exact q.row r m
  · rw [m, List.length_set, still_row h.li, List.length_map, List.length_range]
theorem deed_en {ss : List Int} {d : Nat × Nat × Int} (h : DIn ss d) {i j : Nat} {s : Int} (es : ss[i]? = some s) (hj : j < ss.length) : en (deedI ss d) i j = if i = d.2.1 ∧ j = d.1 then d.2.2 % s else if i = j then 1 else 0 := by
  have hi := (List.getElem?_eq_some_iff.mp es).1
  by_cases e : d.2.1 = i
  · subst e
    have a : (deedI ss d)[d.2.1]? = some (((stillI ss.length).getD d.2.1 []).set d.1 (d.2.2 % ss.getD d.2.1 1)) := by
      unfold deedI
      rw [List.getElem?_set_self (by rw [(still_sq _).len]; exact hi)]
    rw [en_of a, getD_set (by rw [still_row hi, List.length_map, List.length_range]; exact h.lj)]
    have b : ss.getD d.2.1 1 = s := by
      rw [List.getD_eq_getElem?_getD, es]
      rfl
    rw [b]
    by_cases z : d.1 = j
    · rw [if_pos z, if_pos ⟨rfl, z.symm⟩]
    · rw [if_neg z, if_neg (fun q => z q.2.symm)]
      exact still_en hi hj
  · rw [if_neg (fun q => e q.1.symm)]
    have a : (deedI ss d)[i]? = (stillI ss.length)[i]? := by
      unfold deedI
      rw [List.getElem?_set_ne e]
    obtain ⟨r, hr, _⟩ := (still_sq ss.length).get hi
    rw [hr] at a
    rw [en_of a, ← en_of hr]
    exact still_en hi hj
/-- it leads as the deed does -/
theorem led_deed {ss hs : List Int} {d : Nat × Nat × Int} (h : DIn ss d) (c : COk ss hs) : ledI ss (deedI ss d) hs = doneI ss hs d := by
  unfold doneI
  refine ext_getD (by rw [led_len (deed_sq h), remI_length (by rw [addI_len, c.len])]) fun i hi => ?_
  rw [led_len (deed_sq h)] at hi
  obtain ⟨s, es⟩ := get_some hi
  rw [led_getD (deed_sq h) c.len es, remI_getD (by rw [addI_len, c.len]) es, addI_getD (by rw [c.len]; exact h.li)]
  refine mod_congr ?_
  by_cases e : d.2.1 = i
  · subst e
    rw [if_pos rfl]
    have f : ∀ j, j < ss.length → en (deedI ss d) d.2.1 j * hs.getD j 0 = (if d.2.1 = j then 1 else 0) * hs.getD j 0 + (if d.1 = j then 1 else 0) * (d.2.2 % s * hs.getD j 0) := fun j hj => by
      rw [deed_en h es hj]
      by_cases z : j = d.1
      · subst z
        rw [if_pos ⟨rfl, rfl⟩, if_neg (Ne.symm h.ne), if_pos rfl]
        omega
      · rw [if_neg (fun q => z q.2), if_neg (c := d.1 = j) (Ne.symm z)]
        omega
    rw [sumF_congr f, sumF_add, sumF_one _ _ (fun j => hs.getD j 0) h.li, sumF_one _ _ (fun j => d.2.2 % s * hs.getD j 0) h.lj]
    rw [show ∀ x y z : Int, x + y - (x + z) = y - z from fun x y z => by omega, ← Int.sub_mul]
    exact Int.dvd_trans (mod_sub _ _) (Int.dvd_mul_right _ _)
  · rw [if_neg e, sumF_congr (G := fun j => (if i = j then 1 else 0) * hs.getD j 0) fun j hj => by rw [deed_en h es hj, if_neg (fun q => e q.1.symm)], sumF_one _ _ _ hi, Int.sub_self]
    exact Int.dvd_zero _
theorem deed_hit {ss : List Int} {d : Nat × Nat × Int} (h : DIn ss d) : Hit ss (deedI ss d) := by
  intro i j s r hs hr
  rw [deed_en h hs (List.getElem?_eq_some_iff.mp hr).1]
  by_cases e : i = d.2.1 ∧ j = d.1
  · rw [if_pos e]
    obtain ⟨rfl, rfl⟩ := e
    have a := h.hit r s hr hs
    have b : s ∣ (d.2.2 % s - d.2.2) * r := Int.dvd_trans (mod_sub _ _) (Int.dvd_mul_right _ _)
    rw [Int.sub_mul] at b
    have := Int.dvd_add b a
    rwa [show ∀ x y : Int, x - y + y = x from fun x y => by omega] at this
  · rw [if_neg e]
    by_cases z : i = j
    · subst z
      rw [hs] at hr
      cases hr
      exact Int.dvd_mul_left _ _
    · rw [if_neg z, Int.zero_mul]
      exact Int.dvd_zero _
theorem still_hit (ss : List Int) : Hit ss (stillI ss.length) := by
  intro i j s r hs hr
  rw [still_en (List.getElem?_eq_some_iff.mp hs).1 (List.getElem?_eq_some_iff.mp hr).1]
  by_cases z : i = j
  · subst z
    rw [hs] at hr
    cases hr
    exact Int.dvd_mul_left _ _
  · rw [if_neg z, Int.zero_mul]
    exact Int.dvd_zero _
/-- the table of a program, deed by deed -/
def tabI (ss : List Int) (l : List (Nat × Nat × Int)) : List (List Int) := l.foldl (fun t d => bothI ss t (deedI ss d)) (stillI ss.length)
theorem tab_from {ss : List Int} {l : List (Nat × Nat × Int)} (hl : ∀ d ∈ l, DIn ss d) : ∀ {t : List (List Int)}, Sq ss.length t → Hit ss t → Sq ss.length (l.foldl (fun t d => bothI ss t (deedI ss d)) t) ∧ Hit ss (l.foldl (fun t d => bothI ss t (deedI ss d)) t) ∧ ∀ hs, COk ss hs → (∀ s ∈ ss, SizeOk s) → ledI ss (l.foldl (fun t d => bothI ss t (deedI ss d)) t) hs = runP ss l (ledI ss t hs) := by
  induction l with
  | nil => exact fun q h => ⟨q, h, fun _ _ _ => rfl⟩
  | cons d l ih =>
    intro t q h
    have dd := hl d List.mem_cons_self
    obtain ⟨a, b, c⟩ := ih (fun x hx => hl x (List.mem_cons_of_mem _ hx)) (t := bothI ss t (deedI ss d)) (both_sq (deed_sq dd)) (both_hit q (deed_sq dd) h (deed_hit dd))
    refine ⟨a, b, fun hs ch ok => ?_⟩
    have lc : COk ss (ledI ss t hs) := by
      refine ⟨led_len q, fun i x s ex es => ?_⟩
      have := led_getD q ch.len es
      rw [List.getD_eq_getElem?_getD, ex] at this
      obtain ⟨m, rfl, m2, _⟩ := (ok s (List.mem_of_getElem? es)).nat
      have e : x = (sumF ss.length fun j => en t i j * hs.getD j 0) % (m : Int) := this
      rw [e]
      exact ⟨Int.emod_nonneg _ (by omega), Int.emod_lt_of_pos _ (by omega)⟩
    show ledI ss (l.foldl (fun t d => bothI ss t (deedI ss d)) (bothI ss t (deedI ss d))) hs = runP ss l (doneI ss (ledI ss t hs) d)
    rw [c hs ch ok, led_both q (deed_sq dd) (deed_hit dd) ch.len, led_deed dd lc]
/-- the table of a program leads as the program does -/
theorem led_tab {ss : List Int} {l : List (Nat × Nat × Int)} (ok : ∀ s ∈ ss, SizeOk s) (hl : ∀ d ∈ l, DIn ss d) {hs : List Int} (h : COk ss hs) : ledI ss (tabI ss l) hs = runP ss l hs := by
  obtain ⟨_, _, c⟩ := tab_from hl (still_sq ss.length) (still_hit ss)
  unfold tabI
  rw [c hs h ok, led_still h]
end NA
namespace PySem
open Sem (wp)
open PyProof.Rows
open AutoSeq1 (wpAny_loadPart')
/-! ### t[::-1], t a tuple -/
section
variable {prog : Program} {w : World} {A : Around} {E : Value → Shared → Prop} {s : Shared}
theorem fields_ {sl : Addr} {o : Obj} {a b c : Value} {Q : Value × Value × Value → Shared → Prop} (ho : s.heap.get? sl = some o) (hd : o.data = .fields #[a, b, c]) (q : Q (a, b, c) s) : wpAny (model prog w) A (Builtin.Slice.sliceFields (.ref sl)) Q E s := by
  unfold Builtin.Slice.sliceFields
  obtain ⟨hp, gg, dr, tk, os⟩ := s
  obtain ⟨oc, od, odt, osl⟩ := o
  cases (show odt = _ from hd)
  wp_walk using wpAny_loadPart' ho
  exact q
theorem applied_rev {sl : Addr} {u : Tok} {n : Nat} {Q : Int × Int × Nat → Shared → Prop} (h : s.heap.IsSliceOf sl .none .none (.int (-1) u)) (q : Q ((n : Int) - 1, -1, n) s) :
    wpAny (model prog w) A (Builtin.Slice.sliceApplied (.ref sl) (pure (n : Int))) Q E s := by
  obtain ⟨o, ho, hc, hd⟩ := h
  unfold Builtin.Slice.sliceApplied
  refine wpAny_bind (fields_ ho hd ?_)
  dsimp only
  refine wpAny_bind (slicePart_int ?_)
  dsimp only [Option.getD]
  rw [if_neg (by decide)]
  refine wpAny_bind (slicePart_none (wpAny_bind (slicePart_none ?_)))
  refine wpAny_bind (wpAny_pure ?_)
  have e : Builtin.Slice.slicePlaces ((n : Int) - 1) (-1) (-1) = n := by
    unfold Builtin.Slice.slicePlaces
    rw [if_neg (by decide)]
    by_cases h : (n : Int) - 1 > -1
    · rw [if_pos h, show - (-1 : Int) = 1 from rfl, Int.ediv_one]
      omega
    · rw [if_neg h]
      omega
  have e2 : Builtin.Slice.sliceAdjust none none (-1) (n : Int) = ((n : Int) - 1, -1) := by
    unfold Builtin.Slice.sliceAdjust
    rfl
  rw [e2]
  dsimp only
  rw [e]
  exact wpAny_pure q
theorem fm_map {α β : Type} {f : α → Option β} {g : α → β} : ∀ (l : List α), (∀ k ∈ l, f k = some (g k)) → List.filterMap f l = l.map g
  | [], _ => rfl
  | x :: l, h => by
    rw [List.filterMap_cons, h x List.mem_cons_self, List.map_cons, fm_map l fun k hk => h k (List.mem_cons_of_mem _ hk)]
theorem rev_pick (items : Array Value) : (List.filterMap (fun k : Nat => items[((items.size : Int) - 1 + (k : Int) * -1).toNat]?) (List.range items.size)) = items.toList.reverse := by
  rw [fm_map (g := fun k => (items[items.size - 1 - k]?).getD .none)]
  · refine List.ext_getElem? fun i => ?_
    rw [List.getElem?_map]
    by_cases h : i < items.size
    · rw [List.getElem?_eq_getElem (by rw [List.length_range]; exact h), List.getElem_range, List.getElem?_reverse (by simpa using h), Array.getElem?_toList, Array.length_toList]
      show some ((items[items.size - 1 - i]?).getD .none) = _
      rw [Array.getElem?_eq_getElem (show items.size - 1 - i < items.size by omega)]
      rfl
    · rw [List.getElem?_eq_none (by rw [List.length_range]; omega), List.getElem?_eq_none (by simp; omega)]
      rfl
  · intro k hk
    have := List.mem_range.mp hk
    have z : ((items.size : Int) - 1 + (k : Int) * -1).toNat = items.size - 1 - k := by omega
    rw [z, Array.getElem?_eq_getElem (show items.size - 1 - k < items.size by omega)]
    rfl
theorem tuple_rev_meets (t sl : Addr) (items : Array Value) (u : Tok) (hl : items.size ≤ sizeLine) : Meets (Builtin.«tuple.__getitem__» ⟨[.ref t, .ref sl], []⟩)
    (fun _ R s => (IsTup s.heap t items ∧ s.heap.IsSliceOf sl .none .none (.int (-1) u)) ∧ R (.ok (.ret (.ref s.heap.objs.size))) { s with heap := s.heap.push { cls := .type "tuple", data := .seq items.toList.reverse.toArray } }) :=
  .of_wp fun prog w A R s h => by
    obtain ⟨⟨T, hs⟩, h⟩ := h
    have S := hs
    obtain ⟨o2, ho2, hc2, hd2⟩ := hs
    obtain ⟨oc, od, odt, osl⟩ := o2
    cases (show oc = _ from hc2)
    cases (show odt = _ from hd2)
    obtain ⟨hp, gg, dr, tk, os⟩ := s
    wp_walk using tupleItemsOf_ T, applied_rev S, wpAny_loadPart' ho2
    rw [rev_pick, if_neg (by simp; exact hl)]
    wp_walk
    exact ⟨_, rfl, h⟩
theorem getItem_tuple_rev {t sl : Addr} {items : Array Value} {u : Tok} {Q : Value → Shared → Prop} (T : IsTup s.heap t items) (hs : s.heap.IsSliceOf sl .none .none (.int (-1) u)) (hl : items.size ≤ sizeLine)
    (q : Q (.ref s.heap.objs.size) { s with heap := s.heap.push { cls := .type "tuple", data := .seq items.toList.reverse.toArray } }) : wpAny (model prog w) A (getItem (.ref t) (.ref sl)) Q E s := by
  have T2 := T
  obtain ⟨o, ho, hc, n, hd⟩ := T2
  exact getItem_meets (T := "tuple") ⟨o, ho, hc⟩ (by decide) slot_tuple_getitem entry_tuple_getitem (args_tuple_getitem _ _) (tuple_rev_meets t sl items u hl) ⟨⟨T, hs⟩, q⟩
end
end PySem
namespace NA
open PySem PySem.Spec PyProof.Rows L2
def tRevT (K : PySem.W.Frag) (te : TE) : TE := fun σ H Q => te σ H fun x H1 => ∃ a xs, x = .ref a ∧ SqT K H1 a xs ∧ ∀ p, H1 p = none → Q (.ref p) (upd H1 p (.tup xs.reverse))
theorem vals_app {xs ys : List V} {us vs : List Value} (a : Vals xs us) (b : Vals ys vs) : Vals (xs ++ ys) (us ++ vs) := by
  induction a with
  | nil => exact b
  | cons h _ ih => exact .cons h ih
theorem vals_rev {xs : List V} {us : List Value} (a : Vals xs us) : Vals xs.reverse us.reverse := by
  induction a with
  | nil => exact .nil
  | cons h _ ih =>
    rw [List.reverse_cons, List.reverse_cons]
    exact vals_app ih (.cons h .nil)
theorem pe_revT {X : Cx} (K : PySem.W.Frag) (hK : X.K = K) {e st : Expr} {te : TE} {pos p2 : Pos} (he : PE X e te) (hst : PE X st (tC (.int (-1)))) (hl : ∀ o r : Value, letTemporaryGo e o r = pure () := by intro _ _; rfl) : PE X (.Subscript e (.Slice none none (some st) p2) pos) (tRevT K te) := by
  subst hK
  refine ⟨fun pins s σ H Q I h => ?_⟩
  rw [arm_eval_Subscript]
  refine wpAny_bind (thn (he.run pins s σ H _ I h) fun v s1 ⟨x, H1, I1, rx, q1⟩ => ?_)
  obtain ⟨a, xs, rfl, ha, q⟩ := q1
  cases (show v = Value.ref a from rx)
  refine wpAny_bind (wpAny_holding (wpAny_Slice ?_))
  refine (show wpAny _ _ (pure Value.none) _ _ _ from wpAny_pure ?_)
  refine (show wpAny _ _ (pure Value.none) _ _ _ from wpAny_pure ?_)
  refine (show wpAny _ _ (eval st X.env) _ _ _ from thn (hst.run pins s1 σ H1 (fun y H2 => y = .int (-1) ∧ H2 = H1) I1 ⟨rfl, rfl⟩) fun u s2 ⟨y, H2, I2, ry, ey, eh⟩ => ?_)
  subst ey eh
  obtain ⟨t, rfl⟩ := (show ∃ t, u = Value.int (-1) t from ry)
  refine wpAny_bind (wpAny_standAt ?_)
  obtain ⟨its, rv, tp, hz⟩ := I2.tuple ha
  have T1 : IsTup s2.heap a its.toArray := tp
  have k1 : ∀ b o, s2.heap.get? b = some o → (s2.heap.push { cls := .type "slice", data := .fields #[.none, .none, .int (-1) t] }).get? b = some o := fun b o q => Heap.get?_push_of_some _ q
  have I3 := I2.kept (t' := s2.toks) k1
  obtain ⟨o, ho, hc, n, hd⟩ := T1
  have T3 : IsTup (s2.heap.push { cls := .type "slice", data := .fields #[.none, .none, .int (-1) t] }) a its.toArray := ⟨o, k1 _ _ ho, hc, n, hd⟩
  have hs : (s2.heap.push { cls := .type "slice", data := .fields #[.none, .none, .int (-1) t] }).IsSliceOf s2.heap.objs.size .none .none (.int (-1) t) := ⟨_, Heap.get?_push_size _ rfl, rfl, rfl⟩
  have lx := rv.length
  have hn : H2 (s2.heap.push { cls := .type "slice", data := .fields #[.none, .none, .int (-1) t] }).objs.size = none := I3.hok.fresh (Nat.le_refl _)
  have new : ObjOk X.prog X.w (upd H2 (s2.heap.push { cls := .type "slice", data := .fields #[.none, .none, .int (-1) t] }).objs.size (.tup xs.reverse)) ((s2.heap.push { cls := .type "slice", data := .fields #[.none, .none, .int (-1) t] }).push { cls := .type "tuple", data := .seq its.toArray.toList.reverse.toArray }) (s2.heap.push { cls := .type "slice", data := .fields #[.none, .none, .int (-1) t] }).objs.size (.tup xs.reverse) :=
    ⟨by rw [List.length_reverse]; exact hz, its.reverse, vals_rev rv, ⟨_, Heap.get?_push_size _ rfl, rfl, _, rfl⟩⟩
  have I4 := I3.turnedNew (t' := s2.toks) (ch := []) (h' := (s2.heap.push { cls := .type "slice", data := .fields #[.none, .none, .int (-1) t] }).push { cls := .type "tuple", data := .seq its.toArray.toList.reverse.toArray }) (fun b o _ q => Heap.get?_push_of_some _ q) (fun b hb => nomatch hb) (Nat.le_refl _) new
  exact tail_of_ItemOn (value := e) (slice := .Slice none none (some st) p2) (ops := [.ref a, .ref s2.heap.objs.size]) ⟨"tuple", "tuple.__getitem__", slot_tuple_getitem.1, ⟨o, k1 _ _ ho, hc⟩, getItem_tuple_rev T3 hs (by rw [List.size_toArray]; omega) ⟨V.ref (s2.heap.push { cls := .type "slice", data := .fields #[.none, .none, .int (-1) t] }).objs.size, _, I4, rfl, q _ hn⟩⟩ rfl (fun r => hl _ _)
theorem pe_m1 {X : Cx} {a : Expr} {pos : Pos} (ha : PE X a (tC (.int 1))) : PE X (.UnaryOp .USub a pos) (tC (.int (-1))) :=
  ⟨fun pins s σ H Q I h => (pe_un un_neg ha).run pins s σ H Q I ⟨1, rfl, h⟩⟩
end NA
namespace PySem
open Sem (wp)
open PyProof.Rows
open AutoSeq1 (wpAny_loadPart')
theorem tuple_mul1 (l : Addr) (items : Array Value) (n : Nat) (dd : Option Addr) (sl : Array (Option Value)) (u : Tok) : Meets (Builtin.«tuple.__mul__» ⟨[.ref l, .int 1 u], []⟩)
    (fun _ R s => s.heap.get? l = some { cls := .type "tuple", dict := dd, data := .seq items n, slots := sl } ∧ R (.ok (.ret (.ref l))) s) :=
  .of_wp fun prog w A R s h => by
    obtain ⟨ho, h⟩ := h
    have T : IsTup s.heap l items := ⟨_, ho, rfl, n, rfl⟩
    obtain ⟨hp, gg, dr, tk, os⟩ := s
    wp_walk using tupleItemsOf_ T, wpAny_loadPart' ho
    exact ⟨_, rfl, h⟩
end PySem
namespace NA
open PySem PySem.Spec PyProof.Rows L2
/-- t * k for k from 1 on: t itself, or a new tuple -/
def rRepA (K : PySem.W.Frag) : R2 := fun x y H Q => ∃ l k xs, x = .ref l ∧ y = .int k ∧ SqT K H l xs ∧ xs ≠ [] ∧ 1 ≤ k ∧ k ≤ 1000 ∧ xs.length ≤ 1000 ∧ (k = 1 → Q (.ref l) H) ∧ (k ≠ 1 → ∀ p, H p = none → Q (.ref p) (upd H p (.tup (List.replicate k.toNat xs).flatten)))
theorem op_repA {X : Cx} (K : PySem.W.Frag) (hK : X.K = K) : OpR X (binaryOp .Mult) (rRepA K) := by
  subst hK
  intro pins s σ H x y v u Q I rx ry h
  obtain ⟨l, k, xs, rfl, rfl, hT, ne, k1, k2, l2, q1, q2⟩ := h
  by_cases e : k = 1
  · subst e
    cases (show v = Value.ref l from rx)
    obtain ⟨t, rfl⟩ := (show ∃ t, u = Value.int 1 t from ry)
    obtain ⟨its, rv, tp, hz⟩ := I.tuple hT
    obtain ⟨o, ho, hc, n, hd⟩ := tp
    obtain ⟨oc, dd, odt, sl⟩ := o
    cases (show oc = _ from hc)
    cases (show odt = _ from hd)
    refine wpAny_binaryOp_repeat_ref (T := "tuple") (U := "int") (by decide) ⟨_, ho, rfl⟩ (fun s' => typeIs_int s' 1 t) noFill_tuple_mul F.fills_int_mul F.slot_int_rmul repeat_tuple F.slot_int_index.lookup ?_
    refine call_meets F.slot_int_rmul (typeIs_int s 1 t) F.entry_int_rmul (F.args_int_rmul_2 _ _) (int_rmul_tuple 1 t l its.toArray n dd sl) ⟨ho, rfl, ⟨_, ho, rfl⟩, ?_⟩
    exact call_meets F.slot_tuple_mul ⟨_, ho, rfl⟩ F.entry_tuple_mul (F.args_tuple_mul_2 _ _) (tuple_mul1 l its.toArray n dd sl t) ⟨ho, .ref l, H, I, rfl, q1 rfl⟩
  · exact op_repT pins s σ H (.ref l) (.int k) v u Q I rx ry ⟨l, k, xs, rfl, rfl, hT, ne, by omega, k2, l2, q2 e⟩
theorem rep_any {K : PySem.W.Frag} {l : Addr} {k : Int} {xs : List V} {H : Hp} {Q : VK} (h : H l = some (.tup xs)) (ne : xs ≠ []) (k1 : 1 ≤ k) (k2 : k ≤ 1000) (l2 : xs.length ≤ 1000) (q : ∀ c H', Same H H' → H' c = some (.tup (List.replicate k.toNat xs).flatten) → Q (.ref c) H') : rRepA K (.ref l) (.int k) H Q :=
  ⟨l, k, xs, rfl, rfl, SqT.of h, ne, k1, k2, l2, fun e => q l H (Same.refl H) (by
    subst e
    rw [h]
    simp), fun _ p n => q p _ (Same.new (Same.refl H) n) upd_same⟩
end NA
namespace NA
theorem take_get2 {α : Type} {l : List α} {i : Nat} {x : α} (h : l[i]? = some x) : l.take (i + 1) = l.take i ++ [x] := by
  rw [List.take_add_one, h]
  rfl
/-! ### sums and multiples of contents, deeds put together -/
def mulI (ns : List Int) (c : Int) : List Int := ns.map fun n => n * c
theorem mulI_getD (ns : List Int) (c : Int) (i : Nat) : (mulI ns c).getD i 0 = ns.getD i 0 * c := by
  unfold mulI
  rw [List.getD_eq_getElem?_getD, List.getD_eq_getElem?_getD, List.getElem?_map]
  cases ns[i]? with
  | none => show (0 : Int) = 0 * c; rw [Int.zero_mul]
  | some x => rfl
theorem mulI_len (ns : List Int) (c : Int) : (mulI ns c).length = ns.length := List.length_map ..
theorem add_mulI {ns : List Int} {d : Nat × Nat × Int} {c : Int} (hi : d.2.1 < ns.length) : addI (mulI ns c) d = mulI (addI ns d) c := by
  refine ext_getD (by rw [addI_len, mulI_len, mulI_len, addI_len]) fun k hk => ?_
  rw [addI_getD (by rw [mulI_len]; exact hi), mulI_getD, mulI_getD, mulI_getD, mulI_getD, addI_getD hi]
  by_cases e : d.2.1 = k
  · rw [if_pos e, if_pos e, Int.add_mul, Int.mul_assoc]
  · rw [if_neg e, if_neg e]
theorem far_mul {l : List (Nat × Nat × Int)} {c : Int} : ∀ {ns : List Int}, (∀ d ∈ l, d.2.1 < ns.length) → farI l (mulI ns c) = mulI (farI l ns) c := by
  induction l with
  | nil => exact fun _ => rfl
  | cons d l ih =>
    intro ns hl
    show farI l (addI (mulI ns c) d) = mulI (farI l (addI ns d)) c
    rw [add_mulI (hl d List.mem_cons_self)]
    exact ih fun x hx => by rw [addI_len]; exact hl x (List.mem_cons_of_mem _ hx)
theorem cg_sum {ss ns ms ks ls : List Int} (a : Cg ss ns ks) (b : Cg ss ms ls) : Cg ss (sumI ns ms) (sumI ks ls) := by
  refine ⟨sumI_len a.l1 b.l1, sumI_len a.l2 b.l2, fun i s e => ?_⟩
  rw [sumI_getD (by rw [a.l1, b.l1]), sumI_getD (by rw [a.l2, b.l2])]
  have := Int.dvd_add (a.alike i s e) (b.alike i s e)
  rwa [show ∀ x y z u : Int, x - y + (z - u) = x + z - (y + u) from fun x y z u => by omega] at this
theorem cg_mul {ss ns ms : List Int} (a : Cg ss ns ms) (c : Int) : Cg ss (mulI ns c) (mulI ms c) := by
  refine ⟨by rw [mulI_len, a.l1], by rw [mulI_len, a.l2], fun i s e => ?_⟩
  rw [mulI_getD, mulI_getD, ← Int.sub_mul]
  exact Int.dvd_trans (a.alike i s e) (Int.dvd_mul_right _ _)
/-- of a sum the sum -/
theorem runP_sum {ss : List Int} (ok : ∀ s ∈ ss, SizeOk s) {l : List (Nat × Nat × Int)} (hl : ∀ d ∈ l, DIn ss d) {a b : List Int} (ha : COk ss a) (hb : COk ss b) : runP ss l (remI (sumI a b) ss) = remI (sumI (runP ss l a) (runP ss l b)) ss := by
  have ls := sumI_len ha.len hb.len
  rw [runP_eq ok hl (rem_cok ok ls) (cg_rem ls)]
  unfold runI
  rw [far_sum (by rw [ha.len, hb.len]) fun d hd => by rw [ha.len]; exact (hl d hd).li]
  exact (cg_sum (runP_cg hl (Cg.refl ha.len)) (runP_cg hl (Cg.refl hb.len))).symm.rem
/-- of a multiple the multiple -/
theorem runP_mul {ss : List Int} (ok : ∀ s ∈ ss, SizeOk s) {l : List (Nat × Nat × Int)} (hl : ∀ d ∈ l, DIn ss d) {a : List Int} (ha : COk ss a) (c : Int) : runP ss l (remI (mulI a c) ss) = remI (mulI (runP ss l a) c) ss := by
  have ls : (mulI a c).length = ss.length := by rw [mulI_len, ha.len]
  rw [runP_eq ok hl (rem_cok ok ls) (cg_rem ls)]
  unfold runI
  rw [far_mul fun d hd => by rw [ha.len]; exact (hl d hd).li]
  exact (cg_mul (runP_cg hl (Cg.refl ha.len)) c).symm.rem
/-- of noughts noughts -/
theorem runP_zero {ss : List Int} (ok : ∀ s ∈ ss, SizeOk s) {l : List (Nat × Nat × Int)} (hl : ∀ d ∈ l, DIn ss d) : runP ss l (List.replicate ss.length 0) = List.replicate ss.length 0 := by
  have z : COk ss (List.replicate ss.length 0) := ⟨List.length_replicate .., fun i h s e1 e2 => by
    have li := (List.getElem?_eq_some_iff.mp e2).1
    rw [List.getElem?_replicate, if_pos li] at e1
    cases e1
    obtain ⟨m, rfl, m2, _⟩ := (ok s (List.mem_of_getElem? e2)).nat
    omega⟩
  have e : remI (mulI (List.replicate ss.length 0) 0) ss = List.replicate ss.length 0 := by
    have : mulI (List.replicate ss.length 0) 0 = List.replicate ss.length 0 := by
      unfold mulI
      rw [List.map_replicate]
      rfl
    rw [this]
    exact rem_of z
  have h := runP_mul ok hl z 0
  rw [e] at h
  rw [h]
  refine ext_getD ?_ fun i hi => ?_
  · rw [remI_length (by rw [mulI_len, (runP_cok ok z).len]), List.length_replicate]
  · rw [remI_length (by rw [mulI_len, (runP_cok ok z).len])] at hi
    obtain ⟨s, es⟩ := get_some hi
    rw [remI_getD (by rw [mulI_len, (runP_cok ok z).len]) es, mulI_getD, Int.mul_zero, Int.zero_emod, List.getD_eq_getElem?_getD, List.getElem?_replicate, if_pos hi]
    rfl
/-- only the rest of the factor counts -/
theorem done_more {ss hs : List Int} {j i : Nat} {c k s : Int} (h : DIn ss (j, i, c)) (ch : COk ss hs) (es : ss[i]? = some s) : doneI ss hs (j, i, c + k * s) = doneI ss hs (j, i, c) := by
  unfold doneI
  refine Cg.rem ⟨by rw [addI_len, ch.len], by rw [addI_len, ch.len], fun t r e => ?_⟩
  rw [addI_getD (by rw [ch.len]; exact h.li), addI_getD (by rw [ch.len]; exact h.li)]
  by_cases z : i = t
  · subst z
    rw [es] at e
    cases e
    rw [if_pos rfl, if_pos rfl]
    refine ⟨k * hs.getD j 0, ?_⟩
    show hs.getD i 0 + (c + k * s) * hs.getD j 0 - (hs.getD i 0 + c * hs.getD j 0) = s * (k * hs.getD j 0)
    rw [Int.add_mul, show s * (k * hs.getD j 0) = k * s * hs.getD j 0 by rw [Int.mul_comm k s, Int.mul_assoc]]
    omega
  · rw [if_neg z, if_neg z, Int.sub_self]
    exact Int.dvd_zero _
/-- two deeds on one wire do what one with the sum does -/
theorem run_two {ss hs : List Int} (ok : ∀ s ∈ ss, SizeOk s) {j i : Nat} {c e : Int} (h1 : DIn ss (j, i, c)) (h2 : DIn ss (j, i, e)) (ch : COk ss hs) : runP ss [(j, i, c), (j, i, e)] hs = doneI ss hs (j, i, c + e) := by
  rw [runP_eq ok (fun d hd => by
    rcases List.mem_cons.mp hd with z | hd
    · rw [z]; exact h1
    · rw [List.mem_singleton.mp hd]; exact h2) ch (Cg.refl ch.len)]
  unfold runI doneI
  congr 1
  show addI (addI hs (j, i, c)) (j, i, e) = _
  have li : i < hs.length := by rw [ch.len]; exact h1.li
  refine ext_getD (by rw [addI_len, addI_len, addI_len]) fun k hk => ?_
  rw [addI_getD (by rw [addI_len]; exact li), addI_getD li, addI_getD li, addI_getD li, addI_getD li]
  have ne : i ≠ j := Ne.symm h1.ne
  by_cases z : i = k
  · rw [if_pos z, if_pos rfl, if_neg ne, if_pos z]
    show hs.getD i 0 + c * hs.getD j 0 + e * hs.getD j 0 = hs.getD i 0 + (c + e) * hs.getD j 0
    rw [Int.add_mul]
    omega
  · rw [if_neg z, if_neg z, if_neg z]
/-- deeds neither of which takes where the other gives change places -/
theorem run_swap {ss hs : List Int} (ok : ∀ s ∈ ss, SizeOk s) {d e : Nat × Nat × Int} (h1 : DIn ss d) (h2 : DIn ss e) (n1 : e.2.1 ≠ d.1) (n2 : e.1 ≠ d.2.1) (ch : COk ss hs) : runP ss [d, e] hs = runP ss [e, d] hs := by
  have two : ∀ {a b : Nat × Nat × Int}, DIn ss a → DIn ss b → ∀ x ∈ [a, b], DIn ss x := fun ha hb x hx => by
    rcases List.mem_cons.mp hx with z | hx
    · rw [z]; exact ha
    · rw [List.mem_singleton.mp hx]; exact hb
  rw [runP_eq ok (two h1 h2) ch (Cg.refl ch.len), runP_eq ok (two h2 h1) ch (Cg.refl ch.len)]
  unfold runI
  congr 1
  show addI (addI hs d) e = addI (addI hs e) d
  have l1 : d.2.1 < hs.length := by rw [ch.len]; exact h1.li
  have l2 : e.2.1 < hs.length := by rw [ch.len]; exact h2.li
  refine ext_getD (by rw [addI_len, addI_len, addI_len, addI_len]) fun k hk => ?_
  rw [addI_getD (by rw [addI_len]; exact l2), addI_getD (ns := addI hs e) (by rw [addI_len]; exact l1), addI_getD l1, addI_getD l1, addI_getD l1, addI_getD l2, addI_getD l2, addI_getD l2]
  rw [if_neg (c := d.2.1 = e.1) (Ne.symm n2), if_neg (c := e.2.1 = d.1) n1]
  by_cases a : d.2.1 = k <;> by_cases b : e.2.1 = k
  · have z : d.2.1 = e.2.1 := a.trans b.symm
    rw [if_pos b, if_pos a, if_pos z, if_pos z.symm, z]
    omega
  · have z : ¬ d.2.1 = e.2.1 := fun q => b (q ▸ a)
    rw [if_neg b, if_pos a, if_pos a, if_neg (fun q => z q.symm)]
  · have z : ¬ d.2.1 = e.2.1 := fun q => a (q ▸ b)
    rw [if_pos b, if_neg z, if_neg a, if_pos b]
  · rw [if_neg b, if_neg a, if_neg a, if_neg b]
end NA
namespace NA
/-! ### good tables, powers -/
structure GT (ss : List Int) (t : List (List Int)) : Prop where
  sq : Sq ss.length t
  low : Low ss t
  hit : Hit ss t
theorem TOk.gt {ss : List Int} {t : List (List Int)} (h : TOk ss t) : GT ss t := ⟨h.sq, h.lowE, h.hit⟩
theorem GT.still {ss : List Int} (ok : ∀ s ∈ ss, SizeOk s) : GT ss (stillI ss.length) := (TOk.still ok).gt
theorem GT.both {ss : List Int} {one other : List (List Int)} (ok : ∀ s ∈ ss, SizeOk s) (a : GT ss one) (b : GT ss other) : GT ss (bothI ss one other) := ⟨both_sq b.sq, both_low ok a.sq b.sq, both_hit a.sq b.sq a.hit b.hit⟩
theorem GT.deed {ss : List Int} (ok : ∀ s ∈ ss, SizeOk s) {d : Nat × Nat × Int} (h : DIn ss d) : GT ss (deedI ss d) := by
  refine ⟨deed_sq h, fun i j s hs hj => ?_, deed_hit h⟩
  rw [deed_en h hs hj]
  obtain ⟨m, rfl, m2, _⟩ := (ok s (List.mem_of_getElem? hs)).nat
  split
  · exact ⟨Int.emod_nonneg _ (by omega), Int.emod_lt_of_pos _ (by omega)⟩
  · split <;> omega
theorem GT.led {ss : List Int} {t : List (List Int)} {hs : List Int} (ok : ∀ s ∈ ss, SizeOk s) (h : GT ss t) (c : COk ss hs) : COk ss (ledI ss t hs) := by
  refine ⟨led_len h.sq, fun i x s ex es => ?_⟩
  have := led_getD h.sq c.len es
  rw [List.getD_eq_getElem?_getD, ex] at this
  obtain ⟨m, rfl, m2, _⟩ := (ok s (List.mem_of_getElem? es)).nat
  have e : x = (sumF ss.length fun j => en t i j * hs.getD j 0) % (m : Int) := this
  rw [e]
  exact ⟨Int.emod_nonneg _ (by omega), Int.emod_lt_of_pos _ (by omega)⟩
theorem GT.sh {ss : List Int} {t : List (List Int)} (ok : ∀ s ∈ ss, SizeOk s) (h : GT ss t) : TSh ss.length t := by
  refine ⟨h.sq.len, h.sq.row, fun r hr n hn => ?_⟩
  obtain ⟨i, hi, rfl⟩ := List.getElem_of_mem hr
  obtain ⟨j, hj, rfl⟩ := List.getElem_of_mem hn
  have li : i < ss.length := by rw [← h.sq.len]; exact hi
  have lj : j < ss.length := by rw [← h.sq.row _ (List.getElem_mem hi)]; exact hj
  obtain ⟨s, es⟩ := get_some li
  have e : en t i j = t[i][j] := by
    rw [en_of (List.getElem?_eq_getElem hi), List.getD_eq_getElem?_getD, List.getElem?_eq_getElem hj]
    rfl
  obtain ⟨a, b⟩ := h.low i j s es lj
  obtain ⟨m, rfl, _, m30⟩ := (ok s (List.mem_of_getElem? es)).nat
  rw [e] at a b
  exact Nat.lt_of_le_of_lt (show t[i][j].natAbs ≤ 10 ^ 30 by omega) (by decide)
def powI (ss : List Int) (t : List (List Int)) : Nat → List (List Int)
  | 0 => stillI ss.length
  | k + 1 => bothI ss (powI ss t k) t
section
variable {ss : List Int} {t : List (List Int)}
theorem powI_gt (ok : ∀ s ∈ ss, SizeOk s) (h : GT ss t) : ∀ k, GT ss (powI ss t k)
  | 0 => GT.still ok
  | k + 1 => GT.both ok (powI_gt ok h k) h
theorem powI_add (ok : ∀ s ∈ ss, SizeOk s) (h : GT ss t) (a : Nat) : ∀ b, bothI ss (powI ss t a) (powI ss t b) = powI ss t (a + b)
  | 0 => both_still (powI_gt ok h a).sq (powI_gt ok h a).low
  | b + 1 => by
    show bothI ss (powI ss t a) (bothI ss (powI ss t b) t) = bothI ss (powI ss t (a + b)) t
    rw [← both_assoc (powI_gt ok h a).sq (powI_gt ok h b).sq h.sq h.hit, powI_add ok h a b]
theorem powI_one (ok : ∀ s ∈ ss, SizeOk s) (h : GT ss t) : powI ss t 1 = t := still_both h.sq h.low
theorem powI_mul (ok : ∀ s ∈ ss, SizeOk s) (h : GT ss t) (k : Nat) : ∀ m, powI ss (powI ss t k) m = powI ss t (k * m)
  | 0 => by rw [Nat.mul_zero]; rfl
  | m + 1 => by
    show bothI ss (powI ss (powI ss t k) m) (powI ss t k) = _
    rw [powI_mul ok h k m, powI_add ok h, Nat.mul_succ]
theorem powI_two (ok : ∀ s ∈ ss, SizeOk s) (h : GT ss t) (m : Nat) : powI ss (bothI ss t t) m = powI ss t (2 * m) := by
  have e : bothI ss t t = powI ss t 2 := by
    show bothI ss t t = bothI ss (powI ss t 1) t
    rw [powI_one ok h]
  rw [e, powI_mul ok h]
theorem powI_succ' (ok : ∀ s ∈ ss, SizeOk s) (h : GT ss t) (k : Nat) : bothI ss t (powI ss t k) = powI ss t (k + 1) := by
  have := powI_add ok h 1 k
  rw [powI_one ok h] at this
  rw [this, Nat.add_comm]
theorem led_pow (ok : ∀ s ∈ ss, SizeOk s) (h : GT ss t) (k : Nat) {hs : List Int} (c : COk ss hs) : ledI ss (powI ss t (k + 1)) hs = ledI ss t (ledI ss (powI ss t k) hs) := led_both (powI_gt ok h k).sq h.sq h.hit c.len
/-- one deed more in front of the table -/
theorem tabI_gt (ok : ∀ s ∈ ss, SizeOk s) {l : List (Nat × Nat × Int)} (hl : ∀ d ∈ l, DIn ss d) : GT ss (tabI ss l) := by
  unfold tabI
  have : ∀ (l : List (Nat × Nat × Int)), (∀ d ∈ l, DIn ss d) → ∀ t, GT ss t → GT ss (l.foldl (fun t d => bothI ss t (deedI ss d)) t) := by
    intro l
    induction l with
    | nil => exact fun _ t h => h
    | cons d l ih => exact fun hl t h => ih (fun x hx => hl x (List.mem_cons_of_mem _ hx)) _ (GT.both ok h (GT.deed ok (hl d List.mem_cons_self)))
  exact this l hl _ (GT.still ok)
theorem tab_from2 (ok : ∀ s ∈ ss, SizeOk s) : ∀ {l : List (Nat × Nat × Int)}, (∀ d ∈ l, DIn ss d) → ∀ {t : List (List Int)}, GT ss t → l.foldl (fun t d => bothI ss t (deedI ss d)) t = bothI ss t (tabI ss l)
  | [], _, t, h => (both_still h.sq h.low).symm
  | d :: l, hl, t, h => by
    have dd := GT.deed ok (hl d List.mem_cons_self)
    have hl' : ∀ x ∈ l, DIn ss x := fun x hx => hl x (List.mem_cons_of_mem _ hx)
    have gt := tabI_gt ok hl'
    show l.foldl (fun t d => bothI ss t (deedI ss d)) (bothI ss t (deedI ss d)) = bothI ss t (l.foldl (fun t d => bothI ss t (deedI ss d)) (bothI ss (stillI ss.length) (deedI ss d)))
    rw [tab_from2 ok hl' (GT.both ok h dd), tab_from2 ok hl' (GT.both ok (GT.still ok) dd), still_both dd.sq dd.low, both_assoc h.sq dd.sq gt.sq gt.hit]
/-- the table of two programs one behind the other -/
theorem tab_app (ok : ∀ s ∈ ss, SizeOk s) {l m : List (Nat × Nat × Int)} (hl : ∀ d ∈ l, DIn ss d) (hm : ∀ d ∈ m, DIn ss d) : tabI ss (l ++ m) = bothI ss (tabI ss l) (tabI ss m) := by
  have e : tabI ss (l ++ m) = m.foldl (fun t d => bothI ss t (deedI ss d)) (tabI ss l) := List.foldl_append
  rw [e, tab_from2 ok hm (tabI_gt ok hl)]
end
end NA
namespace NA
open PySem PySem.Spec PyProof.Rows L2
/-! ### the program's functions: small facts, levels -/
theorem Cal.up {P : Program} {w : World} {K : PySem.W.Frag} {mg : Str → Option Value} {base : Heap} {x : Str} {k j : Nat} {sp : Sp} (h : k ≤ j) (c : Cal P w K mg base k x sp) : Cal P w K mg base j x sp := by
  obtain ⟨a, fd, ps, F, r⟩ := c.ex
  exact ⟨a, fd, ps, ⟨F.len, fun A outer s H args us vs Q E hr he hb hv h' => F.run A outer s H args us vs Q E (hr.mono h) he hb hv h'⟩, r⟩
theorem CalK.up {P : Program} {w : World} {K : PySem.W.Frag} {mg : Str → Option Value} {base : Heap} {x : Str} {k j : Nat} {sp : Sp} {ks : List Str} {gV : List V → List V → List V} (h : k ≤ j) (c : CalK P w K mg base k x sp ks gV) : CalK P w K mg base j x sp ks gV := by
  obtain ⟨a, fd, ps, g, F, r⟩ := c.ex
  exact ⟨a, fd, ps, g, ⟨F.len, fun A outer s H args us vs Q E hr he hb hv h' => F.run A outer s H args us vs Q E (hr.mono h) he hb hv h'⟩, r⟩
theorem doneI_set {ss hs : List Int} (ok : ∀ s ∈ ss, SizeOk s) (h : COk ss hs) {d : Nat × Nat × Int} {s : Int} (e : ss[d.2.1]? = some s) : doneI ss hs d = hs.set d.2.1 ((hs.getD d.2.1 0 + d.2.2 * hs.getD d.1 0) % s) := by
  have li := (List.getElem?_eq_some_iff.mp e).1
  have l1 : (addI hs d).length = ss.length := by rw [addI_len, h.len]
  unfold doneI
  refine ext_getD (by rw [remI_length l1, List.length_set, h.len]) fun i hi => ?_
  rw [remI_length l1] at hi
  obtain ⟨t, et⟩ := get_some hi
  rw [remI_getD l1 et, addI_getD (by rw [h.len]; exact li), getD_set (by rw [h.len]; exact li)]
  by_cases z : d.2.1 = i
  · subst z
    rw [if_pos rfl, if_pos rfl]
    rw [e] at et
    cases et
    rfl
  · rw [if_neg z, if_neg z]
    obtain ⟨x, ex⟩ := get_some (show i < hs.length by rw [h.len]; exact hi)
    obtain ⟨a, b⟩ := h.low i x t ex et
    rw [List.getD_eq_getElem?_getD, ex]
    exact Int.emod_eq_of_lt a b
theorem runP_next {ss : List Int} {l : List (Nat × Nat × Int)} {hs : List Int} {i : Nat} {d : Nat × Nat × Int} (h : l[i]? = some d) : runP ss (l.take (i + 1)) hs = doneI ss (runP ss (l.take i) hs) d := by
  unfold runP
  rw [List.take_add_one, h, List.foldl_append]
  rfl
theorem COk.most {ss hs : List Int} (ok : ∀ s ∈ ss, SizeOk s) (h : COk ss hs) (i : Nat) : (hs.getD i 0).natAbs < 2 ^ 110 := by
  rw [List.getD_eq_getElem?_getD]
  cases e : hs[i]? with
  | none => exact Nat.pow_pos (by decide)
  | some x =>
    have li := (List.getElem?_eq_some_iff.mp e).1
    obtain ⟨s, es⟩ := get_some (show i < ss.length by rw [← h.len]; exact li)
    obtain ⟨a, b⟩ := h.low i x s e es
    obtain ⟨m, rfl, _, d⟩ := (ok s (List.mem_of_getElem? es)).nat
    exact Nat.lt_of_le_of_lt (show x.natAbs ≤ 10 ^ 30 by omega) (by decide)
end NA
namespace NA
open PySem PySem.Spec PyProof.Rows L2
/-! ### a range kept in a name -/
theorem cr_rangeV1 {X : Cx} : CallR X (.type "range") (fun vs H Q => ∃ j, vs = [V.int j] ∧ ∀ p, H p = none → Q (.ref p) (upd H p (.rng 0 j))) := by
  intro pins s σ H vs us Q I r h
  obtain ⟨j, rfl, q⟩ := h
  obtain ⟨u, rfl, rv⟩ := r.one
  obtain ⟨t, rfl⟩ := (show ∃ t, u = Value.int j t from rv)
  refine call_range_1 ⟨.ref s.heap.objs.size, upd H s.heap.objs.size (.rng 0 j), I.laid (t' := s.toks + 1 + 1) (fun b o e => Heap.get?_push_of_some _ e) (Nat.le_refl _) ?_, rfl, q _ (I.hok.fresh (Nat.le_refl _))⟩
  exact ⟨s.toks, t, s.toks + 1, Heap.get?_push_size _ rfl⟩
def iRngV (te : TE) : TI := fun σ H R => te σ H fun v H1 => ∃ (a : Addr) (lo hi : Int), v = .ref a ∧ H1 a = some (.rng lo hi) ∧ (-(2 ^ 62) ≤ lo ∧ lo < 2 ^ 62 ∧ -(2 ^ 62) ≤ hi ∧ hi < 2 ^ 62) ∧ R (Itr lo (hi - lo).toNat) H1
theorem pi_rngVK {X : Cx} (K : PySem.W.Frag) (hK : X.K = K) {tg e : Expr} {te : TE} (he : PE X e te) : PI X tg e (iRngV te) := by
  refine ⟨fun pins s σ H R I h => ?_⟩
  refine thn (he.run pins s σ H _ I h) fun v s1 ⟨x, H1, I1, r1, q1⟩ => ?_
  obtain ⟨a, lo, hi, e, ha, ⟨b1, b2, b3, b4⟩, q⟩ := q1
  subst e
  cases r1
  obtain ⟨t, u, v, hr⟩ := I1.hok a _ ha
  refine wpAny_pyIter_range (show IsRange s1.heap a lo hi 1 t u v from hr) (small_one b1 b2 b3 b4) ?_
  refine ⟨s1.heap.objs.size, [s1.heap.objs.size], _, _, H1, rfl, I1.kept (t' := s1.toks) fun b o e => Heap.get?_push_of_some _ e, turn_range _ lo (hi - lo).toNat, ?_, fun b hb => ?_, q⟩
  · have e1 : lo + ((0 : Nat) : Int) * 1 = lo := by simp
    have e2 : (((hi - lo).toNat : Nat) : Int) - ((0 : Nat) : Int) = Builtin.Range.rangeSize lo hi 1 := by rw [rangeSize_one]; split <;> omega
    show IsRangeIter _ _ (lo + ((0 : Nat) : Int) * 1) ((((hi - lo).toNat : Nat) : Int) - ((0 : Nat) : Int)) 1
    rw [e1, e2]
    exact Heap.get?_push_size _ rfl
  · have e : b = s1.heap.objs.size := by simpa using hb
    subst e
    exact I1.fpOk (Nat.le_refl _) (I1.hok.fresh (Nat.le_refl _))
end NA
namespace NA
open PySem PySem.Spec PyProof.Rows L2
/-! ### max of a tuple of ints -/
section
variable {prog : Program} {w : World} {A : Around} {E : Value → Shared → Prop} {s : Shared} {l : Addr}
theorem max_intTup {xs : Array (Int × Tok)} {Q : Value → Shared → Prop} (hh : A.handled = none) (hl : s.heap.IsTuple l (intItems xs)) (hne : 0 < xs.size)
    (h : ∀ v h' tk, (intItems xs)[argBest (fun i j => decide (numAt xs i > numAt xs j)) (xs.size - 1)]? = some v → (∀ b o, s.heap.get? b = some o → h'.get? b = some o) → Q v { s with heap := h', toks := tk }) :
    wpAny (model prog w) A (call (.builtin "max") [.ref l]) Q E s := by
  have hlt : l < s.heap.objs.size := by obtain ⟨_, e, _⟩ := hl; exact Heap.lt_size e
  refine call_max_walk (wpAny_pyIter_tuple hl ?_)
  refine ⟨_, [_, l], [_], _, _, _, _, rfl, Walks.tuple (A := A.in1) hh _ l (Nat.ne_of_lt hlt) (intItems xs), ⟨⟨_, Heap.get?_push_size _ rfl, rfl, rfl⟩, hl.push _⟩, fun b hb => ?_, by simpa [intItems] using hne, CmpOf.ints_gt (numAt xs) (fun _ _ => intItems_at), fun v h' tk hP hk => ?_⟩
  · show b < (s.heap.push _).objs.size
    rw [Heap.size_push]
    rcases List.mem_cons.mp hb with rfl | hb
    · exact Nat.lt_succ_self _
    · rw [List.mem_singleton.mp hb]
      exact Nat.lt_succ_of_lt hlt
  · refine h v h' tk (by simpa [intItems] using hP) fun b o e => hk b o (fun hm => ?_) (Heap.get?_push_of_some _ e)
    rw [List.mem_singleton.mp hm] at e
    exact absurd (Heap.lt_size e) (Nat.lt_irrefl _)
theorem max_rawT {its : List Value} {ns : List Int} {Q : Value → Shared → Prop} (hh : A.handled = none) (hl : s.heap.IsTuple l its.toArray) (hi : IntsAre its ns) (hne : 0 < ns.length)
    (h : ∀ h' tk M t', (∀ b o, s.heap.get? b = some o → h'.get? b = some o) → M ∈ ns → (∀ a, a ∈ ns → a ≤ M) → Q (.int M t') { s with heap := h', toks := tk }) : wpAny (model prog w) A (call (.builtin "max") [.ref l]) Q E s := by
  obtain ⟨xs, e⟩ := hi.allInts.items
  have hn : numsOf (intItems xs).toList = ns := by rw [← e]; exact hi.numsOf
  rw [nums_intItems] at hn
  subst hn
  rw [e] at hl
  have hsz : 0 < xs.size := by simpa using hne
  refine max_intTup hh hl hsz fun v h' tk hv hk => ?_
  obtain ⟨t, rfl⟩ := intItems_at hv
  obtain ⟨h1, h2⟩ := argBest_gt (numAt xs) (xs.size - 1)
  refine h h' tk _ t hk ?_ fun a ha => ?_
  · rw [numAt_eq]; exact PySem.getD_mem (by rw [List.length_map, Array.length_toList]; omega)
  · obtain ⟨j, hj, rfl⟩ := mem_getD ha
    rw [List.length_map, Array.length_toList] at hj
    rw [← numAt_eq]; exact h2 j (by omega)
end
def rMaxT (K : PySem.W.Frag) : List V → Hp → VK → Prop := fun vs H Q => ∃ (a : Addr) (ns : List Int), vs = [V.ref a] ∧ SqT K H a (ns.map V.int) ∧ 0 < ns.length ∧ ∀ m, m ∈ ns → (∀ y, y ∈ ns → y ≤ m) → Q (.int m) H
theorem cr_maxTK {X : Cx} (K : PySem.W.Frag) (hK : X.K = K) (hc : X.calm = true) : CallR X (.builtin "max") (rMaxT K) := by
  subst hK
  intro pins s σ H vs us Q I r h
  obtain ⟨a, ns, rfl, hs, hne, q⟩ := h
  obtain ⟨its, rv, hl⟩ := src_of (k := .t) I hs
  rw [Vals.ref1 r]
  exact max_rawT (I.ok.hd hc) hl rv.ints hne fun h' tk m t' hk h1 h2 => ⟨.int _, H, I.kept hk, ⟨_, rfl⟩, q m h1 h2⟩
end NA
namespace NA
open PySem PySem.Spec PyProof.Rows L2
/-! ### all contents of a small machine -/
def exI (s : Int) (found : List (List Int)) : List (List Int) := found.flatMap fun h => (List.range s.toNat).map fun i : Nat => h ++ [(i : Int)]
def everyI (ss : List Int) : List (List Int) := ss.foldl (fun found s => exI s found) [[]]
def prodN (ss : List Int) : Nat := ss.foldl (fun a s => a * s.toNat) 1
theorem every_next {ss : List Int} {i : Nat} {s : Int} (h : ss[i]? = some s) : everyI (ss.take (i + 1)) = exI s (everyI (ss.take i)) := by
  unfold everyI
  rw [List.take_add_one, h, List.foldl_append]
  rfl
theorem prod_next {ss : List Int} {i : Nat} {s : Int} (h : ss[i]? = some s) : prodN (ss.take (i + 1)) = prodN (ss.take i) * s.toNat := by
  unfold prodN
  rw [List.take_add_one, h, List.foldl_append]
  rfl
theorem prod_snoc (ss : List Int) (s : Int) : prodN (ss ++ [s]) = prodN ss * s.toNat := by
  unfold prodN
  rw [List.foldl_append]
  rfl
theorem ex_len (s : Int) (f : List (List Int)) : (exI s f).length = f.length * s.toNat := by
  unfold exI
  rw [List.length_flatMap]
  have : ∀ l : List (List Int), (l.map fun h => ((List.range s.toNat).map fun i : Nat => h ++ [(i : Int)]).length).sum = l.length * s.toNat := by
    intro l
    induction l with
    | nil => rw [List.map_nil, List.length_nil, Nat.zero_mul]; rfl
    | cons h l ih =>
      rw [List.map_cons, List.sum_cons, ih, List.length_map, List.length_range, List.length_cons, Nat.succ_mul, Nat.add_comm]
  exact this f
structure EvOk (ss : List Int) (f : List (List Int)) : Prop where
  cok : ∀ h ∈ f, COk ss h
  nd : f.Nodup
  len : f.length = prodN ss
theorem every_ok (ss : List Int) (ok : ∀ s ∈ ss, SizeOk s) : ∀ i, i ≤ ss.length → EvOk (ss.take i) (everyI (ss.take i)) := by
  intro i
  induction i with
  | zero =>
    intro _
    refine ⟨fun h hh => ?_, List.pairwise_singleton _ _, rfl⟩
    rw [List.take_zero] at hh ⊢
    rw [List.mem_singleton.mp hh]
    exact ⟨rfl, fun i h s e _ => by simp at e⟩
  | succ i ih =>
    intro hi
    have e := ih (by omega)
    obtain ⟨s, hs⟩ := get_some (ss := ss) (show i < ss.length by omega)
    rw [every_next hs]
    refine ⟨fun h hh => ?_, ?_, by rw [ex_len, e.len, prod_next hs]⟩
    · obtain ⟨g, hg, hx⟩ := List.mem_flatMap.mp hh
      obtain ⟨x, hx', rfl⟩ := List.mem_map.mp hx
      have cg := e.cok g hg
      have lx := List.mem_range.mp hx'
      have lt : (ss.take i).length = i := by rw [List.length_take]; omega
      refine ⟨by rw [List.length_append, cg.len, lt, List.length_take, List.length_singleton]; omega, fun k y t hy ht => ?_⟩
      by_cases z : k < i
      · rw [List.getElem?_append_left (by rw [cg.len, lt]; exact z)] at hy
        refine cg.low k y t hy ?_
        rw [List.getElem?_take_of_lt z]
        rwa [List.getElem?_take_of_lt (by omega)] at ht
      · have lk : k < i + 1 := by
          have := (List.getElem?_eq_some_iff.mp ht).1
          rw [List.length_take] at this
          omega
        have ek : k = i := by omega
        subst ek
        rw [List.getElem?_append_right (by rw [cg.len, lt]; exact Nat.le_refl _), cg.len, lt, Nat.sub_self] at hy
        cases Option.some.inj hy
        rw [List.getElem?_take_of_lt (by omega), hs] at ht
        cases Option.some.inj ht
        omega
    · unfold exI
      refine List.pairwise_flatMap.mpr ⟨fun h _ => ?_, ?_⟩
      · rw [List.pairwise_map]
        refine List.Pairwise.imp (fun {a b} (z : a < b) q => ?_) List.pairwise_lt_range
        have q' := List.append_cancel_left q
        have q'' : (a : Int) = b := List.head_eq_of_cons_eq q'
        omega
      · refine List.Pairwise.imp_of_mem (fun {a b} ha hb z x hx y hy q => z ?_) e.nd
        obtain ⟨i1, _, rfl⟩ := List.mem_map.mp hx
        obtain ⟨i2, _, rfl⟩ := List.mem_map.mp hy
        exact (List.append_inj q (by rw [(e.cok a ha).len, (e.cok b hb).len])).1
theorem every_full (ss : List Int) (ok : ∀ s ∈ ss, SizeOk s) : EvOk ss (everyI ss) := by
  have := every_ok ss ok ss.length (Nat.le_refl _)
  rwa [List.take_length] at this
theorem prod_pos {ss : List Int} (ok : ∀ s ∈ ss, SizeOk s) : ∀ i, i ≤ ss.length → 0 < prodN (ss.take i) := by
  intro i
  induction i with
  | zero => intro _; exact Nat.one_pos
  | succ i ih =>
    intro hi
    obtain ⟨s, hs⟩ := get_some (ss := ss) (show i < ss.length by omega)
    rw [prod_next hs]
    obtain ⟨m, rfl, m2, _⟩ := (ok s (List.mem_of_getElem? hs)).nat
    exact Nat.mul_pos (ih (by omega)) (by omega)
theorem prod_le {ss : List Int} (ok : ∀ s ∈ ss, SizeOk s) : ∀ k i, i + k ≤ ss.length → prodN (ss.take i) ≤ prodN (ss.take (i + k)) := by
  intro k
  induction k with
  | zero => intro i _; exact Nat.le_refl _
  | succ k ih =>
    intro i hi
    obtain ⟨s, hs⟩ := get_some (ss := ss) (show i + k < ss.length by omega)
    rw [show i + (k + 1) = i + k + 1 by omega, prod_next hs]
    obtain ⟨m, rfl, m2, _⟩ := (ok s (List.mem_of_getElem? hs)).nat
    exact Nat.le_trans (ih i (by omega)) (Nat.le_mul_of_pos_right _ (by omega))
def spEvery : Sp := fun vs H Q _ => ∃ (x : V) (ss : List Int), vs = [x] ∧ Im H x (sD ss) ∧ (∀ s ∈ ss, SizeOk s) ∧ prodN ss ≤ 1000 ∧
  ∀ (a : Addr) (us : List V) (H' : Hp), H a = none → H' a = some (.lst us) → ImAll H' us ((everyI ss).map sD) → Same H H' → Q (.ref a) H'
def spSmall : Sp := fun vs H Q _ => ∃ (p q : Addr) (m : Nat), vs = [.ref p, .int (m : Int)] ∧ Pt H p q ∧ 2 ≤ m ∧ m ≤ 1000 ∧
  ∀ (v : V) (ss : List Int) (ws : List (Nat × Nat)) (H' : Hp), Im H' v (mD ss ws) → MOk ss ws → prodN ss ≤ m → Pt H' p q → Kp p q H H' → Q v H'
theorem pow_prod {ss : List Int} (ok : ∀ s ∈ ss, SizeOk s) : ∀ k, k ≤ ss.length → 2 ^ k ≤ prodN (ss.take k) := by
  intro k
  induction k with
  | zero => intro _; exact Nat.le_refl _
  | succ k ih =>
    intro hk
    obtain ⟨s', hs'⟩ := get_some (ss := ss) (show k < ss.length by omega)
    rw [prod_next hs', Nat.pow_succ]
    obtain ⟨m', rfl, m2', _⟩ := (ok s' (List.mem_of_getElem? hs')).nat
    exact Nat.mul_le_mul (ih (by omega)) (by omega)
theorem op_catAK {X : Cx} (K : PySem.W.Frag) (hK : X.K = K) : OpR X (binaryOp .Add) (rCatA K) := hK ▸ op_catA
end NA
namespace NA
open PySem PySem.Spec PyProof.Rows L2
/-! ### unlike tables have unlike texts -/
abbrev sg (t : Str) : List Nat := t.cps.toList
theorem sg_app (a b : Str) : sg (a ++ b) = sg a ++ sg b := by
  show (a.cps ++ b.cps).toList = _
  rw [Array.toList_append]
def dig (c : Nat) : Bool := decide (48 ≤ c ∧ c ≤ 57)
def runsGo : List Nat → List Nat → List (List Nat)
  | cur, [] => if cur = [] then [] else [cur.reverse]
  | cur, c :: cs => if dig c = true then runsGo (c :: cur) cs else (if cur = [] then [] else [cur.reverse]) ++ runsGo [] cs
theorem runs_dig : ∀ (d cur rest : List Nat), (∀ c ∈ d, dig c = true) → runsGo cur (d ++ rest) = runsGo (d.reverse ++ cur) rest
  | [], _, _, _ => rfl
  | c :: d, cur, rest, h => by
    show runsGo cur (c :: (d ++ rest)) = _
    rw [runsGo, if_pos (h c List.mem_cons_self), runs_dig d _ _ fun x hx => h x (List.mem_cons_of_mem _ hx), List.reverse_cons, List.append_assoc]
    rfl
theorem runs_no {c : Nat} (h : dig c = false) (rest : List Nat) : runsGo [] (c :: rest) = runsGo [] rest := by
  rw [runsGo, if_neg (by rw [h]; decide), if_pos rfl, List.nil_append]
/-- whatever sign but a digit follows: these runs of digits, then what is behind -/
def Gives (t : Str) (e : List (List Nat)) : Prop := ∀ (c : Nat) (rest : List Nat), dig c = false → runsGo [] (sg t ++ c :: rest) = e ++ runsGo [] rest
theorem gives_int {n : Int} (h : 0 ≤ n) : Gives (PyData.int n).shown [sg (PyData.int n).shown] := by
  intro c rest hc
  have dg : ∀ x ∈ sg (PyData.int n).shown, dig x = true := fun x hx => by
    obtain ⟨m, rfl⟩ : ∃ m : Nat, n = (m : Int) := ⟨n.toNat, by omega⟩
    rw [PyData.shown_int] at hx
    have e : (toString (m : Int) : String) = Nat.repr m := rfl
    rw [e] at hx
    have hx' : x ∈ (Str.ofString (Nat.repr m)).cps.toList := hx
    rw [signs_ofString] at hx'
    obtain ⟨ch, hch, rfl⟩ := List.mem_map.mp hx'
    rw [Nat.toList_repr] at hch
    have := digit_range (Nat.isDigit_of_mem_toDigits (by decide) (by decide) hch)
    exact decide_eq_true this
  have ne : sg (PyData.int n).shown ≠ [] := fun z => by
    obtain ⟨m, rfl⟩ : ∃ m : Nat, n = (m : Int) := ⟨n.toNat, by omega⟩
    rw [PyData.shown_int] at z
    have z' : (Str.ofString (Nat.repr m)).cps.toList = [] := z
    rw [signs_ofString, Nat.toList_repr, List.map_eq_nil_iff] at z'
    exact Nat.toDigits_ne_nil z'
  rw [runs_dig _ _ _ dg, List.append_nil, runsGo, if_neg (by rw [hc]; decide), if_neg (fun z => ne (List.reverse_eq_nil_iff.mp z)), List.reverse_reverse]
theorem gives_join : ∀ (ts : List Str) (es : List (List (List Nat))), ts ≠ [] → Paired (fun t e => Gives t e) ts es → Gives (Str.join ", " ts) es.flatten
  | [t], [e], _, h => by
    cases h with
    | cons a b =>
      intro c rest hc
      have := a c rest hc
      rw [show Str.join ", " [t] = t from rfl, this]
      simp
  | t :: t2 :: ts, e :: e2 :: es, _, h => by
    cases h with
    | cons a b =>
      intro c rest hc
      have ih := gives_join (t2 :: ts) (e2 :: es) (List.cons_ne_nil _ _) b c rest hc
      have j : Str.join ", " (t :: t2 :: ts) = t ++ ", " ++ Str.join ", " (t2 :: ts) := rfl
      have cm : sg (", " : Str) = [44, 32] := by decide
      rw [j, sg_app, sg_app, cm, List.append_assoc, List.append_assoc]
      show runsGo [] (sg t ++ (44 :: (32 :: (sg (Str.join ", " (t2 :: ts)) ++ c :: rest)))) = _
      rw [a 44 _ (by decide), runs_no (by decide), ih]
      simp [List.append_assoc]
  | [], _, h, _ => absurd rfl h
  | [_], [], _, h => by cases h
  | [_], _ :: _ :: _, _, h => by cases h with | cons a b => cases b
  | _ :: _ :: _, [], _, h => by cases h
  | _ :: _ :: _, [_], _, h => by cases h with | cons a b => cases b
theorem gives_tuple {ts : List Str} {es : List (List (List Nat))} (ne : ts ≠ []) (h : Paired (fun t e => Gives t e) ts es) : Gives (tupleText ts) es.flatten := by
  intro c rest hc
  have j := gives_join ts es ne h
  have p : sg ("(" : Str) = [40] := by decide
  unfold tupleText
  rw [sg_app, sg_app, p, List.append_assoc, List.append_assoc]
  show runsGo [] (40 :: (sg (Str.join ", " ts) ++ (sg _ ++ c :: rest))) = _
  rw [runs_no (by decide)]
  by_cases l : (ts.length == 1) = true
  · rw [if_pos l]
    have q : sg ((",)" : String) : Str) = [44, 41] := by decide
    rw [q]
    show runsGo [] (sg (Str.join ", " ts) ++ 44 :: (41 :: (c :: rest))) = _
    rw [j 44 _ (by decide), runs_no (by decide), runs_no hc]
  · rw [if_neg l]
    have q : sg ((")" : String) : Str) = [41] := by decide
    rw [q]
    show runsGo [] (sg (Str.join ", " ts) ++ 41 :: (c :: rest)) = _
    rw [j 41 _ (by decide), runs_no hc]
def rowSg (r : List Int) : List (List Nat) := r.map fun n => sg (PyData.int n).shown
theorem shownAll_map {α : Type} (f : α → PyData) : ∀ l : List α, PyData.shownAll (l.map f) = l.map fun x => (f x).shown
  | [] => rfl
  | x :: l => by
    rw [List.map_cons, List.map_cons, ← shownAll_map f l]
    rfl
theorem gives_row {r : List Int} (ne : r ≠ []) (h : ∀ n ∈ r, 0 ≤ n) : Gives (sD r).shown (rowSg r) := by
  have p : Paired (fun t e => Gives t e) (r.map fun n => (PyData.int n).shown) (r.map fun n => [sg (PyData.int n).shown]) := by
    clear ne
    induction r with
    | nil => exact .nil
    | cons n r ih => exact .cons (gives_int (h n List.mem_cons_self)) (ih fun x hx => h x (List.mem_cons_of_mem _ hx))
  have g := gives_tuple (by simpa using ne) p
  have e1 : (sD r).shown = tupleText (r.map fun n => (PyData.int n).shown) := by
    unfold sD
    rw [← shownAll_map PyData.int]
    simp only [PyData.shown]
  have e2 : ∀ l : List Int, (l.map fun n => [sg (PyData.int n).shown]).flatten = rowSg l := by
    intro l
    induction l with
    | nil => rfl
    | cons n l ih =>
      rw [List.map_cons, List.flatten_cons, ih]
      rfl
  rw [e1, ← e2]
  exact g
theorem gives_tab {t : List (List Int)} (ne : t ≠ []) (h : ∀ r ∈ t, r ≠ [] ∧ ∀ n ∈ r, 0 ≤ n) : Gives (tD t).shown (t.map rowSg).flatten := by
  have p : Paired (fun t e => Gives t e) (t.map fun r => (sD r).shown) (t.map rowSg) := by
    clear ne
    induction t with
    | nil => exact .nil
    | cons r t ih =>
      obtain ⟨a, b⟩ := h r List.mem_cons_self
      exact .cons (gives_row a b) (ih fun x hx => h x (List.mem_cons_of_mem _ hx))
  have g := gives_tuple (by simpa using ne) p
  have e1 : (tD t).shown = tupleText (t.map fun r => (sD r).shown) := by
    unfold tD
    rw [← shownAll_map sD]
    simp only [PyData.shown]
  rw [e1]
  exact g
theorem sg_int_inj {a b : Int} (ha : 0 ≤ a) (hb : 0 ≤ b) (h : sg (PyData.int a).shown = sg (PyData.int b).shown) : a = b := by
  obtain ⟨m, rfl⟩ : ∃ m : Nat, a = (m : Int) := ⟨a.toNat, by omega⟩
  obtain ⟨k, rfl⟩ : ∃ m : Nat, b = (m : Int) := ⟨b.toNat, by omega⟩
  rw [PyData.shown_int, PyData.shown_int] at h
  have h' : (Str.ofString (Nat.repr m)).cps.toList = (Str.ofString (Nat.repr k)).cps.toList := h
  rw [signs_ofString, signs_ofString] at h'
  have inj : ∀ {x y : List Char}, x.map Char.toNat = y.map Char.toNat → x = y := by
    intro x
    induction x with
    | nil => intro y e; cases y with | nil => rfl | cons _ _ => cases e
    | cons c x ih =>
      intro y e
      cases y with
      | nil => cases e
      | cons d y =>
        rw [List.map_cons, List.map_cons, List.cons.injEq] at e
        rw [ih e.2, Char.ext (UInt32.toNat_inj.mp e.1)]
  have e := inj h'
  have : Nat.repr m = Nat.repr k := String.ext e
  rw [Nat.repr_injective this]
theorem rowSg_inj {r q : List Int} (hr : ∀ n ∈ r, 0 ≤ n) (hq : ∀ n ∈ q, 0 ≤ n) (h : rowSg r = rowSg q) : r = q := by
  induction r generalizing q with
  | nil => cases q with | nil => rfl | cons _ _ => cases h
  | cons n r ih =>
    cases q with
    | nil => cases h
    | cons m q =>
      have h' : sg (PyData.int n).shown :: rowSg r = sg (PyData.int m).shown :: rowSg q := h
      rw [List.cons.injEq] at h'
      rw [sg_int_inj (hr n List.mem_cons_self) (hq m List.mem_cons_self) h'.1, ih (fun x hx => hr x (List.mem_cons_of_mem _ hx)) (fun x hx => hq x (List.mem_cons_of_mem _ hx)) h'.2]
theorem tab_inj {t u : List (List Int)} {n : Nat} (n0 : 0 < n) (lt : t.length = n) (lu : u.length = n) (ht : ∀ r ∈ t, r.length = n ∧ ∀ x ∈ r, 0 ≤ x) (hu : ∀ r ∈ u, r.length = n ∧ ∀ x ∈ r, 0 ≤ x) (h : (tD t).shown = (tD u).shown) : t = u := by
  have nr : ∀ {v : List (List Int)}, (∀ r ∈ v, r.length = n ∧ ∀ x ∈ r, 0 ≤ x) → ∀ r ∈ v, r ≠ [] ∧ ∀ x ∈ r, 0 ≤ x := fun hv r hr => ⟨List.length_pos_iff.mp (by rw [(hv r hr).1]; exact n0), (hv r hr).2⟩
  have g1 := gives_tab (List.length_pos_iff.mp (by omega)) (nr ht) 32 [] (by decide)
  have g2 := gives_tab (List.length_pos_iff.mp (by omega)) (nr hu) 32 [] (by decide)
  rw [h, g2] at g1
  have e := List.append_cancel_right g1
  clear g1 g2 h
  have : ∀ (t u : List (List Int)), t.length = u.length → (∀ r ∈ t, r.length = n ∧ ∀ x ∈ r, 0 ≤ x) → (∀ r ∈ u, r.length = n ∧ ∀ x ∈ r, 0 ≤ x) → (u.map rowSg).flatten = (t.map rowSg).flatten → t = u := by
    intro t
    induction t with
    | nil => intro u l _ _ _; exact (List.eq_nil_of_length_eq_zero l.symm).symm
    | cons r t ih =>
      intro u l a b c
      cases u with
      | nil => cases l
      | cons q u =>
        rw [List.map_cons, List.map_cons, List.flatten_cons, List.flatten_cons] at c
        have ra := a r List.mem_cons_self
        have qa := b q List.mem_cons_self
        obtain ⟨c1, c2⟩ := List.append_inj c (by unfold rowSg; rw [List.length_map, List.length_map, ra.1, qa.1])
        rw [rowSg_inj qa.2 ra.2 c1, ih u (by simpa using l) (fun x hx => a x (List.mem_cons_of_mem _ hx)) (fun x hx => b x (List.mem_cons_of_mem _ hx)) c2]
  exact this t u (by omega) ht hu e
end NA
namespace NA
open PySem PySem.Spec PyProof.Rows L2
def topS (i : Nat) : Stmt := PySem.Challenge.pw_narrowadds_k06_whole_runs_by_any_integer.main.body.getD i (.Pass ⟨0, 0, 0, 0⟩)
abbrev s_done : Stmt := topS 1
abbrev s_run : Stmt := topS 2
abbrev s_backward : Stmt := topS 3
abbrev s_l_pot : Stmt := topS 5
abbrev s_l_dip : Stmt := topS 6
abbrev s_l_pick : Stmt := topS 7
abbrev s_l_primes : Stmt := topS 8
abbrev s_l_common : Stmt := topS 9
abbrev s_l_step : Stmt := topS 10
abbrev s_l_great : Stmt := topS 11
abbrev s_l_sizes : Stmt := topS 12
abbrev s_l_wires : Stmt := topS 13
abbrev s_l_machine : Stmt := topS 14
abbrev s_l_contents : Stmt := topS 15
abbrev s_l_deed : Stmt := topS 16
abbrev s_l_program : Stmt := topS 17
abbrev s_l_run : Stmt := topS 18
abbrev s_l_every : Stmt := topS 19
abbrev s_l_small : Stmt := topS 20
abbrev s_l_is_run : Stmt := topS 21
abbrev s_l_are_unlike : Stmt := topS 22
abbrev s_l_far : Stmt := topS 23
abbrev s_l_is_long : Stmt := topS 24
abbrev s_law : Stmt := topS 25
section
variable {P : Program} {w : World} {K : PySem.W.Frag} {mg : Str → Option Value} {base : Heap}

/-! ### _law_dip, for great sizes too -/
abbrev sc_l_dipN : List Str := ["pot", "size", "cell", "mixed"]
theorem sc_l_dip : FnScope sc_l_dipN ["pot", "size"] (defScope s_l_dip) := ⟨rfl, rfl, rfl, by decide +kernel, rfl, by decide +kernel, by decide +kernel⟩
theorem ok_dipW {f : Addr} {fd : FuncData} (D : DefAt K mg "_law_dip" s_l_dip ["pot", "size"] f fd) (T : Blt mg) : Cal P w K mg base 1 "_law_dip" spDipW := by
  refine cal_of D sc_l_dip (fun vs H Q E h => ?_) (fun cdv A outer s H vs Q E hr h => ?_)
  · obtain ⟨p, q, n, rfl, _⟩ := h
    rfl
  · obtain ⟨p, q, n, rfl, hP, n0, n1, k⟩ := h
    obtain ⟨cs, a, b, m, hp, hq, hc, a0, a1, b0, b1⟩ := hP
    have npq : p ≠ q := pq_ne hp hq
    refine ⟨_, (pss_cons (ps_if (pt_cmpR (op_neDK K rfl hr.units) (pe_ix (ix_listK K rfl) (pv 0) pe_int (fun _ _ => rfl)) (pe_lst pa_nil) (nomark _)) (pss_cons (ps_set (i := 2) sc_l_dip.nd rfl (.inl rfl) (pe_bm0 PySem.F.plainAttrs_list PySem.F.slot_list_pop PySem.F.type_list_pop mt_pop (pe_ix (ix_listK K rfl) (pv 0) pe_int (fun _ _ => rfl))))
      (pss_cons (ps_if (pt_cmpR op_ge (pv 2) (pv 1) (nomark _)) (pss_one (ps_expr (pe_bm PySem.F.plainAttrs_list PySem.F.slot_list_append PySem.F.type_list_append mt_append (pe_ix (ix_listK K rfl) (pv 0) pe_int (fun _ _ => rfl)) (pa_cons (pe_op op_fdivW (pv 2) (pv 1)) pa_nil)))) pss_nil)
      (pss_one (ps_ret (pe_op op_mod (pe_callTy call_int1 (by rfl) T.int (by decide +kernel) (pa_cons (pv 2) pa_nil)) (pv 1)))))) pss_nil)
      (pss_cons (ps_asg (pe_op op_add (pe_ix (ix_listK K rfl) (pv 0) pe_int (fun _ _ => rfl)) pe_int) (pg_sub (pv 0) pe_int set_list))
      (pss_cons (ps_set (i := 3) sc_l_dip.nd rfl (.inl rfl) (pe_op op_mod (pe_op op_add (pe_ix (ix_listK K rfl) (pv 0) pe_int (fun _ _ => rfl)) (pe_op op_mul (pe_ix (ix_listK K rfl) (pv 0) pe_int (fun _ _ => rfl)) pe_int)) pe_int))
      (pss_cons (ps_set (i := 3) sc_l_dip.nd rfl (.inl rfl) (pe_op op_mod (pe_op op_add (pe_op op_add (pe_op op_mul (pv 3) (pv 3)) (pe_op op_mul (pe_ix (ix_listK K rfl) (pv 0) pe_int (fun _ _ => rfl)) (pe_ix (ix_listK K rfl) (pv 0) pe_int (fun _ _ => rfl)))) pe_int) pe_int))
      (pss_one (ps_ret (pe_op op_mod (pe_op op_fdiv (pe_op op_mod (pe_op op_mul (pv 3) pe_int) pe_int) pe_int) (pv 1)))))))), ?_⟩
    refine ⟨_, rfl, p, _, 0, _, rfl, rfl, SqL.of hp, atI_nat (j := 0) rfl, Nat.zero_le _, fun l nl => ?_⟩
    have nlp : p ≠ l := ne_of_none hp nl
    have nlq : q ≠ l := ne_of_none hq nl
    have hp1 : (upd H l (.lst [])) p = some (.lst [.ref q, .int a, .int b, .int m]) := by rw [upd_ne nlp]; exact hp
    have hq1 : (upd H l (.lst [])) q = some (.lst (cs.map V.int)) := by rw [upd_ne nlq]; exact hq
    have kp1 : Kp p q H (upd H l (.lst [])) := (Kp.refl p q H).new nl
    refine ⟨.list (cs.map PyData.int), .list [], .lst (SqL.of hq1) (DpAll.ints K _ cs), .lst (SqL.of upd_same) .nil, shaped_ints cs, rfl, _, rfl, ?_⟩
    have keep : ∀ (H' H'' : Hp) (c : Addr) (o : HO), Kp p q H H' → (c = p ∨ c = q) → Kp p q H (upd H' c o) := fun H' _ c o e hcq b u n1 n2 z => by
      have nb : b ≠ c := fun e => by
        rcases hcq with h | h
        · exact n1 (e.trans h)
        · exact n2 (e.trans h)
      rw [upd_ne nb]
      exact e b u n1 n2 z
    cases cs with
    | nil =>
      refine iteF ?_
      refine ⟨_, rfl, p, _, 3, _, rfl, rfl, SqL.of hp1, atI_nat (j := 3) rfl, m, 1, rfl, rfl, _, rfl, p, _, 3, 3, rfl, rfl, hp1, rfl, ?_⟩
      have hp2 : (upd (upd H l (.lst [])) p (.lst [.ref q, .int a, .int b, .int (m + 1)])) p = some (.lst [.ref q, .int a, .int b, .int (m + 1)]) := upd_same
      have hq2 : (upd (upd H l (.lst [])) p (.lst [.ref q, .int a, .int b, .int (m + 1)])) q = some (.lst []) := by rw [upd_ne npq.symm]; exact hq1
      have kp2 : Kp p q H (upd (upd H l (.lst [])) p (.lst [.ref q, .int a, .int b, .int (m + 1)])) := keep _ H _ _ kp1 (.inl rfl)
      refine ⟨_, rfl, p, _, 1, _, rfl, rfl, SqL.of hp2, atI_nat (j := 1) rfl, _, rfl, p, _, 3, _, rfl, rfl, SqL.of hp2, atI_nat (j := 3) rfl, _, _, rfl, rfl, .inr ⟨by decide, by decide⟩, _, _, rfl, rfl, _, _, rfl, rfl, (by decide : (0 : Int) < 4294967291), ?_⟩
      have m1 := Int.emod_nonneg (a + (m + 1) * 2654435761) (show (4294967291 : Int) ≠ 0 by decide)
      have m2 := Int.emod_lt_of_pos (a + (m + 1) * 2654435761) (show (0 : Int) < 4294967291 by decide)
      refine ⟨_, rfl, _, rfl, _, _, rfl, rfl, .inl ⟨by omega, by omega⟩, _, rfl, p, _, 2, _, rfl, rfl, SqL.of hp2, atI_nat (j := 2) rfl, _, rfl, p, _, 3, _, rfl, rfl, SqL.of hp2, atI_nat (j := 3) rfl, _, _, rfl, rfl, .inl ⟨by omega, by omega⟩, _, _, rfl, rfl, _, _, rfl, rfl, _, _, rfl, rfl, (by decide : (0 : Int) < 4294967279), ?_⟩
      refine ⟨_, rfl, _, _, rfl, rfl, .inl ⟨Int.lt_of_lt_of_le (by decide) (Int.emod_nonneg _ (by decide)), Int.lt_trans (Int.emod_lt_of_pos _ (by decide)) (by decide)⟩, _, _, rfl, rfl, (by decide : (0 : Int) < 4294967231), _, _, rfl, rfl, ⟨by decide, by decide⟩, _, rfl, _, _, rfl, rfl, n0, ?_⟩
      refine k _ _ (Int.emod_nonneg _ (by omega)) (Int.emod_lt_of_pos _ n0) ⟨[], a, b, m + 1, hp2, hq2, by decide, a0, a1, b0, b1⟩ kp2
    | cons c0 cs0 =>
      refine iteT ?_
      generalize hcs : c0 :: cs0 = cs at *
      have ne : cs ≠ [] := by rw [← hcs]; exact List.cons_ne_nil _ _
      obtain ⟨ini, z, rfl⟩ : ∃ (ini : List Int) (z : Int), cs = ini ++ [z] := ⟨cs.dropLast, cs.getLast ne, (List.dropLast_concat_getLast ne).symm⟩
      have hq1' : (upd H l (.lst [])) q = some (.lst (ini.map V.int ++ [V.int z])) := by rw [hq1, List.map_append]; rfl
      have hlast : (ini.map V.int ++ [V.int z])[(ini.map V.int ++ [V.int z]).length - 1]? = some (V.int z) := by simp
      have hdrop : (ini.map V.int ++ [V.int z]).dropLast = ini.map V.int := by simp
      refine ⟨_, rfl, p, _, 0, _, rfl, rfl, SqL.of hp1, atI_nat (j := 0) rfl, .inl ⟨rfl, _, SqL.of hq1'⟩, q, _, _, rfl, rfl, hq1', hlast, ?_⟩
      rw [hdrop]
      have hp2 : (upd (upd H l (.lst [])) q (.lst (ini.map V.int))) p = some (.lst [.ref q, .int a, .int b, .int m]) := by rw [upd_ne npq]; exact hp1
      have hq2 : (upd (upd H l (.lst [])) q (.lst (ini.map V.int))) q = some (.lst (ini.map V.int)) := upd_same
      have kp2 : Kp p q H (upd (upd H l (.lst [])) q (.lst (ini.map V.int))) := keep _ H _ _ kp1 (.inr rfl)
      have li : ini.length + 1 ≤ 60 := by simpa using hc
      refine ⟨_, rfl, _, rfl, _, _, rfl, rfl, _, rfl, ?_⟩
      refine ite2 (fun _ => ?_) (fun _ => ?_)
      · refine ⟨_, rfl, p, _, 0, _, rfl, rfl, SqL.of hp2, atI_nat (j := 0) rfl, .inl ⟨rfl, _, SqL.of hq2⟩, _, rfl, _, rfl, _, _, rfl, rfl, wide_div (b := 4000) n0 n1 (by decide) (by decide), q, _, _, rfl, rfl, hq2, small1000 (by rw [List.length_map]; omega), ?_⟩
        have hp3 : ∀ o, (upd (upd (upd H l (.lst [])) q (.lst (ini.map V.int))) q o) p = some (.lst [.ref q, .int a, .int b, .int m]) := fun o => by rw [upd_ne npq]; exact hp2
        refine ⟨_, rfl, .inl ⟨_, rfl, _, rfl, _, _, rfl, rfl, n0, ?_⟩⟩
        refine k _ _ (Int.emod_nonneg _ (by omega)) (Int.emod_lt_of_pos _ n0) ⟨ini ++ [z / n], a, b, m, hp3 _, by rw [upd_same, List.map_append]; rfl, by rw [List.length_append, List.length_singleton]; omega, a0, a1, b0, b1⟩ (keep _ H _ _ kp2 (.inr rfl))
      · refine ⟨_, rfl, .inl ⟨_, rfl, _, rfl, _, _, rfl, rfl, n0, ?_⟩⟩
        refine k _ _ (Int.emod_nonneg _ (by omega)) (Int.emod_lt_of_pos _ n0) ⟨ini, a, b, m, hp2, hq2, by omega, a0, a1, b0, b1⟩ kp2

/-! ### _law_pick, lists and tuples -/
abbrev sc_l_pickN : List Str := ["pot", "items"]
theorem sc_l_pick : FnScope sc_l_pickN ["pot", "items"] (defScope s_l_pick) := ⟨rfl, rfl, rfl, by decide +kernel, rfl, by decide +kernel, by decide +kernel⟩
theorem ok_pickA {f : Addr} {fd : FuncData} (D : DefAt K mg "_law_pick" s_l_pick ["pot", "items"] f fd) (T : Blt mg) (c_l_dip : Cal P w K mg base 1 "_law_dip" spDip) : Cal P w K mg base 2 "_law_pick" spPickA := by
  refine cal_of D sc_l_pick (fun vs H Q E h => ?_) (fun cdv A outer s H vs Q E hr h => ?_)
  · obtain ⟨p, q, a, xs, o, rfl, _⟩ := h
    rfl
  · obtain ⟨p, q, a, xs, o, rfl, hP, ha, ho, ne, lt, k⟩ := h
    refine ⟨_, (pss_one (ps_ret (pe_ix (ix_anyK K rfl) (pv 1) (pe_c c_l_dip hr (by decide) rfl (pa_cons (pv 0) (pa_cons (pe_callB (call_lenK K rfl) (by rfl) T.len PySem.boot_len (pa_cons (pv 1) pa_nil)) pa_nil))) (fun _ _ => rfl)))), ?_⟩
    have l0 : 0 < xs.length := List.length_pos_iff.mpr ne
    have sq : SqL K H a xs ∨ SqT K H a xs := by
      rcases ho with ⟨e, _⟩ | e
      · exact .inl (SqL.of (e ▸ ha))
      · exact .inr (SqT.of (e ▸ ha))
    refine ⟨_, rfl, _, rfl, _, rfl, a, xs, rfl, sq, p, q, _, rfl, hP, by omega, by omega, fun r H' r0 r1 hP' hk => ?_⟩
    obtain ⟨j, rfl⟩ : ∃ j : Nat, r = (j : Int) := ⟨r.toNat, by omega⟩
    have hj : j < xs.length := by omega
    have kk := k _ _ (List.getElem_mem hj) hP' hk
    rcases ho with ⟨e, n1, n2⟩ | e
    · exact .inl ⟨a, xs, j, _, rfl, rfl, SqL.of (hk a _ n1 n2 (e ▸ ha)), atI_nat (List.getElem?_eq_getElem hj), kk⟩
    · exact .inr ⟨a, xs, j, _, rfl, rfl, SqT.of ((hk.tk hP) _ _ (e ▸ ha)), atI_nat (List.getElem?_eq_getElem hj), kk⟩

/-! ### _law_dip, _law_pick, _law_primes, _law_common -/
abbrev sc_l_primesN : List Str := []
theorem sc_l_primes : FnScope sc_l_primesN [] (defScope s_l_primes) := ⟨rfl, rfl, rfl, by decide +kernel, rfl, by decide +kernel, by decide +kernel⟩
theorem ok_primes {f : Addr} {fd : FuncData} (D : DefAt K mg "_law_primes" s_l_primes [] f fd) : Cal P w K mg base 1 "_law_primes" spPrimes := by
  refine cal_of D sc_l_primes (fun vs H Q E h => ?_) (fun cdv A outer s H vs Q E hr h => ?_)
  · obtain ⟨rfl, _⟩ := h
    rfl
  · obtain ⟨rfl, k⟩ := h
    refine ⟨_, (pss_one (ps_ret (pe_lst (pa_cons pe_int (pa_cons pe_int (pa_cons pe_int (pa_cons pe_int (pa_cons pe_int (pa_cons pe_int (pa_cons pe_int (pa_cons pe_int (pa_cons pe_int (pa_cons pe_int (pa_cons pe_int (pa_cons pe_int (pa_cons pe_int (pa_cons pe_int (pa_cons pe_int (pa_cons pe_int (pa_cons pe_int (pa_cons pe_int (pa_cons pe_int (pa_cons pe_int (pa_cons pe_int (pa_cons pe_int (pa_cons pe_int (pa_cons pe_int (pa_cons pe_int pa_nil)))))))))))))))))))))))))))), ?_⟩
    exact ⟨by show 25 ≤ sizeLine; decide, fun a na => k a na⟩
abbrev sc_l_commonN : List Str := ["one", "other"]
theorem sc_l_common : FnScope sc_l_commonN ["one", "other"] (defScope s_l_common) := ⟨rfl, rfl, rfl, by decide +kernel, rfl, by decide +kernel, by decide +kernel⟩
theorem ok_common {f : Addr} {fd : FuncData} (D : DefAt K mg "_law_common" s_l_common ["one", "other"] f fd) : Cal P w K mg base 1 "_law_common" spCommon := by
  refine cal_of D sc_l_common (fun vs H Q E h => ?_) (fun cdv A outer s H vs Q E hr h => ?_)
  · obtain ⟨a, b, rfl, _⟩ := h
    rfl
  · obtain ⟨a, b, rfl, hb, k⟩ := h
    refine ⟨_, (pss_cons (ps_while PassesOwn.never (pt_cmpR op_gt (pv 1) pe_int (nomark _)) (pss_one (ps_par (i := 0) (j := 1) rfl sc_l_common.nd rfl rfl (by decide) rfl rfl (pa_cons (pv 1) (pa_cons (pe_op op_mod (pv 0) (pv 1)) pa_nil)) (by rfl))))
      (pss_one (ps_ret (pv 0)))), ?_⟩
    refine ⟨fun m σ H' => ∃ x y : Nat, σ = [some (.int x), some (.int y)] ∧ Nat.gcd x y = Nat.gcd a b ∧ m = y ∧ H' = H, ⟨b, a, b, rfl, rfl, rfl, rfl⟩, ?_⟩
    rintro m σ H' ⟨x, y, rfl, hg, rfl, rfl⟩
    refine ⟨_, rfl, _, _, rfl, rfl, _, rfl, ?_⟩
    refine ite2 (fun hy => ?_) (fun hy => ?_)
    · have hy' : (0 : Int) < (m : Int) := of_decide_eq_true hy
      refine ⟨fun σ' H'' => ∃ x' y' : Nat, σ' = [some (.int x'), some (.int y')] ∧ Nat.gcd x' y' = Nat.gcd a b ∧ y' < m ∧ H'' = H', fun σ' H'' ⟨x', y', e1, e2, e3, e4⟩ => ⟨y', e3, x', y', e1, e2, rfl, e4⟩, ?_⟩
      refine ⟨_, rfl, _, rfl, _, rfl, _, _, rfl, rfl, hy', _, _, rfl, m, x % m, rfl, ?_, Nat.mod_lt _ (by omega), rfl⟩
      rw [Nat.gcd_comm, ← Nat.gcd_rec, Nat.gcd_comm, hg]
    · have hy' : ¬ (0 : Int) < (m : Int) := of_decide_eq_false (by simpa using hy)
      have m0 : m = 0 := by omega
      subst m0
      refine ⟨_, rfl, ?_⟩
      rw [Nat.gcd_zero_right] at hg
      rw [hg]
      exact k

/-! ### _law_great, _law_sizes, _law_wires, _law_machine -/
abbrev sc_l_greatN : List Str := ["pot", "some", "found", "turn", "prime"]
theorem sc_l_great : FnScope sc_l_greatN ["pot"] (defScope s_l_great) := ⟨rfl, rfl, rfl, by decide +kernel, rfl, by decide +kernel, by decide +kernel⟩
theorem ok_great {f : Addr} {fd : FuncData} (D : DefAt K mg "_law_great" s_l_great ["pot"] f fd) (T : Blt mg) (c_l_dip : Cal P w K mg base 1 "_law_dip" spDip) (c_l_pick : Cal P w K mg base 2 "_law_pick" spPick) (c_l_primes : Cal P w K mg base 1 "_law_primes" spPrimes) :
    Cal P w K mg base 3 "_law_great" spGreat := by
  refine cal_of D sc_l_great (fun vs H Q E h => ?_) (fun cdv A outer s H vs Q E hr h => ?_)
  · obtain ⟨p, q, rfl, _⟩ := h
    rfl
  · obtain ⟨p, q, rfl, hP, k⟩ := h
    refine ⟨_, (pss_cons (ps_set (i := 1) sc_l_great.nd rfl (.inl rfl) (pe_lst (pa_cons (pe_op op_pow pe_int pe_int) (pa_cons (pe_op op_pow pe_int pe_int) (pa_cons (pe_op op_pow pe_int pe_int) (pa_cons (pe_op op_pow pe_int pe_int) (pa_cons (pe_op op_pow pe_int pe_int) (pa_cons (pe_op op_pow pe_int pe_int) (pa_cons (pe_op op_pow (pe_op op_pow pe_int pe_int) pe_int) (pa_cons (pe_op op_pow pe_int pe_int) (pa_cons (pe_op op_pow pe_int pe_int) (pa_cons pe_int (pa_cons pe_int pa_nil)))))))))))))
      (pss_cons (ps_set (i := 2) sc_l_great.nd rfl (.inl rfl) (pe_c c_l_pick hr (by decide) rfl (pa_cons (pv 0) (pa_cons (pv 1) pa_nil))))
      (pss_cons (ps_for PassesOwn.never rfl (pi_range1 (by rfl) T.range (pa_cons (pe_c c_l_dip hr (by decide) rfl (pa_cons (pv 0) (pa_cons pe_int pa_nil))) pa_nil)) (pg_name (i := 3) sc_l_great.nd rfl (.inl rfl)) (pss_cons (ps_set (i := 4) sc_l_great.nd rfl (.inl rfl) (pe_c c_l_pick hr (by decide) rfl (pa_cons (pv 0) (pa_cons (pe_lst (pa_cons pe_int (pa_cons pe_int (pa_cons pe_int (pa_cons pe_int (pa_cons (pe_c c_l_pick hr (by decide) rfl (pa_cons (pv 0) (pa_cons (pe_c0 c_l_primes hr (by decide) rfl) pa_nil))) pa_nil)))))) pa_nil))))
      (pss_one (ps_set (i := 2) sc_l_great.nd rfl (.inl rfl) (pe_ifExp (pt_cmpR op_le (pe_op op_mulW (pv 2) (pv 4)) (pe_op op_pow pe_int pe_int) (nomark _)) (pe_op op_mulW (pv 2) (pv 4)) (pv 2))))))
      (pss_one (ps_ret (pe_callB (call_max2 rfl) (by rfl) T.max boot_max (pa_cons (pv 2) (pa_cons pe_int pa_nil)))))))), ?_⟩
    refine ⟨_, _, rfl, rfl, ⟨by decide, by decide, by decide⟩, _, _, rfl, rfl, ⟨by decide, by decide, by decide⟩, _, _, rfl, rfl, ⟨by decide, by decide, by decide⟩, _, _, rfl, rfl, ⟨by decide, by decide, by decide⟩, _, _, rfl, rfl, ⟨by decide, by decide, by decide⟩, _, _, rfl, rfl, ⟨by decide, by decide, by decide⟩,
      _, _, rfl, rfl, ⟨by decide, by decide, by decide⟩, _, _, rfl, rfl, ⟨by decide, by decide, by decide⟩, _, _, rfl, rfl, ⟨by decide, by decide, by decide⟩, _, _, rfl, rfl, ⟨by decide, by decide, by decide⟩, by show 11 ≤ sizeLine; decide, fun c nc => ?_⟩
    refine ⟨_, rfl, _, rfl, p, q, c, _, rfl, hP.new nc, upd_same, (hP.np nc).1, (hP.np nc).2, List.cons_ne_nil _ _, by show 11 < 1000; decide, fun v H2 hv P2 k2 => ?_⟩
    have kp2 : Kp p q H H2 := ((Kp.refl p q H).new nc).trans k2
    have ov : okV v = true := by
      have all : ∀ l : List V, l.all okV = true → v ∈ l → okV v = true := fun l h => List.all_eq_true.mp h v
      exact all _ (by decide +kernel) hv
    obtain ⟨m, rfl, m1, m2, m3⟩ := okV_of ov
    refine ⟨_, rfl, p, q, _, rfl, P2, by decide, by decide, fun r H3 r0 r1 P3 k3 => ⟨r, rfl, by omega, by omega, for_range (lo := 0) (n := r.toNat) (fun i σ H' => ∃ (x : Nat) (v3 v4 : Option V), σ = [some (.ref p), some (.ref c), some (.int x), v3, v4] ∧ 1 ≤ x ∧ x ≤ 10 ^ 30 ∧ Smo x ∧ Pt H' p q ∧ Kp p q H H')
      ⟨m, none, none, rfl, m1, m2, m3, P3, kp2.trans k3⟩ ?_ ?_⟩⟩
    · rintro i σ H' hi ⟨x, v3, v4, rfl, x1, x2, x3, P4, k4⟩
      refine ⟨_, rfl, _, rfl, rfl, fun a na => ⟨p, q, a, _, rfl, P4.new na, upd_same, (P4.np na).1, (P4.np na).2, by decide, by decide, fun v H5 hv P5 k5 => ⟨by show 5 ≤ sizeLine; decide, fun b nb => ?_⟩⟩⟩
      refine ⟨p, q, b, _, rfl, P5.new nb, upd_same, (P5.np nb).1, (P5.np nb).2, List.cons_ne_nil _ _, by show 5 < 1000; decide, fun u H6 hu P6 k6 => ?_⟩
      have k06 : Kp p q H H6 := ((((k4.new na).trans k5).new nb)).trans k6
      obtain ⟨pr, rfl, hpr⟩ : ∃ pr : Nat, u = .int pr ∧ pr ∈ PRn := by
        have fromPR : ∀ y : V, y ∈ PR.map V.int → ∃ pr : Nat, y = .int pr ∧ pr ∈ PRn := fun y hy => by
          obtain ⟨z, hz, rfl⟩ := List.mem_map.mp hy
          have e : PR = PRn.map (fun n : Nat => (n : Int)) := by decide +kernel
          rw [e] at hz
          obtain ⟨n, hn, rfl⟩ := List.mem_map.mp hz
          exact ⟨n, rfl, hn⟩
        rcases List.mem_cons.mp hu with e | hu
        · exact ⟨2, e, by decide⟩
        rcases List.mem_cons.mp hu with e | hu
        · exact ⟨2, e, by decide⟩
        rcases List.mem_cons.mp hu with e | hu
        · exact ⟨3, e, by decide⟩
        rcases List.mem_cons.mp hu with e | hu
        · exact ⟨5, e, by decide⟩
        rcases List.mem_cons.mp hu with e | hu
        · exact fromPR _ (e ▸ hv)
        · cases hu
      have wide : CMulW (x : Int) (pr : Int) := wide_mul (a := 100) (b := 10) (by
        have : (10 : Nat) ^ 30 < 2 ^ 100 := by decide
        omega) (by
        have := PRn_le hpr
        omega) (by decide) (by decide) (by decide)
      refine ⟨_, rfl, _, rfl, _, _, rfl, rfl, wide, _, _, rfl, rfl, ⟨by decide, by decide, by decide⟩, _, _, rfl, rfl, _, rfl, ?_⟩
      refine ite2 (fun le => ?_) (fun _ => ?_)
      · have le' : (x : Int) * (pr : Int) ≤ 10 ^ 30 := of_decide_eq_true le
        have le2 : x * pr ≤ 10 ^ 30 := by
          have z : ((x * pr : Nat) : Int) ≤ 10 ^ 30 := by rw [Int.natCast_mul]; exact le'
          omega
        refine ⟨_, rfl, _, rfl, _, _, rfl, rfl, wide, x * pr, some (.int (0 + (i : Int))), some (.int pr), ?_, ?_, le2, x3.mulr hpr, P6, k06⟩
        · rw [Int.natCast_mul]
          rfl
        · exact Nat.mul_pos x1 (Nat.lt_of_lt_of_le (by decide) (PRn_two hpr))
      · exact ⟨_, rfl, x, _, _, rfl, x1, x2, x3, P6, k06⟩
    · rintro σ H' ⟨x, v3, v4, rfl, x1, x2, x3, P4, k4⟩
      refine ⟨_, rfl, _, _, rfl, ?_⟩
      have so : SizeOk (if (2 : Int) > (x : Int) then 2 else (x : Int)) := by
        by_cases h2 : (2 : Int) > (x : Int)
        · rw [if_pos h2]
          exact ⟨2, rfl, by decide, by decide, smo_of (by decide +kernel)⟩
        · rw [if_neg h2]
          exact ⟨x, rfl, by omega, x2, x3⟩
      exact k _ _ so P4 k4
abbrev sc_l_sizesN : List Str := ["pot", "is_great", "few", "base", "turn"]
theorem sc_l_sizes : FnScope sc_l_sizesN ["pot", "is_great"] (defScope s_l_sizes) := ⟨rfl, rfl, rfl, by decide +kernel, rfl, by decide +kernel, by decide +kernel⟩
theorem ok_sizes {f : Addr} {fd : FuncData} (D : DefAt K mg "_law_sizes" s_l_sizes ["pot", "is_great"] f fd) (T : Blt mg) (c_l_dip : Cal P w K mg base 1 "_law_dip" spDip) (c_l_pick : Cal P w K mg base 2 "_law_pick" spPick) (c_l_great : Cal P w K mg base 3 "_law_great" spGreat) :
    Cal P w K mg base 4 "_law_sizes" spSizes := by
  refine cal_of D sc_l_sizes (fun vs H Q E h => ?_) (fun cdv A outer s H vs Q E hr h => ?_)
  · obtain ⟨p, q, g, rfl, _⟩ := h
    rfl
  · obtain ⟨p, q, g, rfl, hP, k⟩ := h
    refine ⟨_, (pss_cons (ps_set (i := 2) sc_l_sizes.nd rfl (.inr rfl) (pe_lst (pa_cons pe_int (pa_cons pe_int (pa_cons pe_int (pa_cons pe_int (pa_cons pe_int (pa_cons pe_int (pa_cons pe_int (pa_cons pe_int (pa_cons pe_int (pa_cons pe_int (pa_cons pe_int (pa_cons pe_int (pa_cons pe_int pa_nil)))))))))))))))
      (pss_cons (ps_set (i := 3) sc_l_sizes.nd rfl (.inr rfl) (pe_lc (own := [("turn", 4)]) rfl sc_l_sizes.nd (pi_range1 (by rfl) T.range (pa_cons pe_int pa_nil)) (blkOk_by (N := sc_l_sizesN) (sc := defScope s_l_sizes) (by decide +kernel)) (fun _ _ _ _ _ => (pg_name (i := 4) sc_l_sizes.nd rfl (by first | exact .inl rfl | exact .inr rfl))) (fun _ _ _ _ _ => pts_nil) (fun _ _ _ _ _ => (pe_ifExp (pt_val (pv 1)) (pe_c c_l_great hr (by decide) rfl (pa_cons (pv 0) pa_nil)) (pe_c c_l_pick hr (by decide) rfl (pa_cons (pv 0) (pa_cons (pv 2) pa_nil)))))))
      (pss_one (ps_ret (pe_callTy (call_tupleK K rfl) (by rfl) T.tuple (by decide +kernel) (pa_cons (pe_lc (own := [("turn", 4)]) rfl sc_l_sizes.nd (pi_range1 (by rfl) T.range (pa_cons (pe_op op_add pe_int (pe_c c_l_dip hr (by decide) rfl (pa_cons (pv 0) (pa_cons pe_int pa_nil)))) pa_nil)) (blkOk_by (N := sc_l_sizesN) (sc := defScope s_l_sizes) (by decide +kernel)) (fun _ _ _ _ _ => (pg_name (i := 4) sc_l_sizes.nd rfl (by first | exact .inl rfl | exact .inr rfl))) (fun _ _ _ _ _ => pts_nil) (fun _ _ _ _ _ => (pe_c c_l_pick hr (by decide) rfl (pa_cons (pv 0) (pa_cons (pv 3) pa_nil))))) pa_nil)))))), ?_⟩
    refine ⟨by show 13 ≤ sizeLine; decide, fun c nc => ?_⟩
    have P1 : Pt (upd H c (.lst fewV)) p q := hP.new nc
    have k1 : Kp p q H (upd H c (.lst fewV)) := (Kp.refl p q H).new nc
    obtain ⟨nc1, nc2⟩ := hP.np nc
    refine ⟨3, rfl, by decide, by decide, fun b nb => ?_⟩
    have nbH : H b = none := by
      by_cases e : b = c
      · rw [e, upd_same] at nb
        cases nb
      · rw [upd_ne e] at nb
        exact nb
    obtain ⟨nb1, nb2⟩ := hP.np nbH
    have ncb : c ≠ b := ne_of_none upd_same nb
    refine lc_range (lo := 0) (n := 3) (fun i H' => Pt H' p q ∧ Kp p q H H' ∧ H' c = some (.lst fewV) ∧ ∃ acc : List Int, H' b = some (.lst (acc.map V.int)) ∧ acc.length = i ∧ ∀ s ∈ acc, SizeOk s)
      ⟨P1.new nb, k1.new nb, by rw [upd_ne ncb]; exact upd_same, [], upd_same, rfl, fun s hs => by cases hs⟩ ?_ ?_
    · rintro i H' hi ⟨P2, k2, hc, acc, hb, hl, ok⟩
      have fin : ∀ (n : Int) (H3 : Hp), SizeOk n → Pt H3 p q → Kp p q H' H3 → ∃ acc' : List V, H3 b = some (.lst acc') ∧ acc'.length < sizeLine ∧ (Pt (upd H3 b (.lst (acc' ++ [V.int n]))) p q ∧ Kp p q H (upd H3 b (.lst (acc' ++ [V.int n]))) ∧ (upd H3 b (.lst (acc' ++ [V.int n]))) c = H' c ∧ ∃ acc : List Int, (upd H3 b (.lst (acc' ++ [V.int n]))) b = some (.lst (acc.map V.int)) ∧ acc.length = i + 1 ∧ ∀ s ∈ acc, SizeOk s) := fun n H3 hn P3 k3 => by
        refine ⟨acc.map V.int, k3 _ _ nb1 nb2 hb, small1000 (by rw [List.length_map]; omega), P3.put nb1 nb2, (k2.trans k3).put nbH, ?_, acc ++ [n], by rw [upd_same, List.map_append]; rfl, by rw [List.length_append, List.length_singleton, hl], fun s hs => ?_⟩
        · rw [upd_ne ncb, hc]
          exact k3 _ _ nc1 nc2 hc
        · rcases List.mem_append.mp hs with h | h
          · exact ok s h
          · rw [List.mem_singleton.mp h]
            exact hn
      refine ⟨rfl, ⟨_, rfl, _, rfl, ?_⟩⟩
      cases g with
      | true =>
        refine iteT ⟨_, rfl, p, q, rfl, P2, fun n H3 hn P3 k3 => ?_⟩
        obtain ⟨acc', a1, a2, a3, a4, a5, a6⟩ := fin n H3 hn P3 k3
        exact ⟨acc', a1, a2, a3, a4, a5.trans hc, a6⟩
      | false =>
        refine iteF ⟨_, rfl, _, rfl, p, q, c, _, rfl, P2, hc, nc1, nc2, List.cons_ne_nil _ _, by show 13 < 1000; decide, fun v H3 hv P3 k3 => ?_⟩
        have ov : okV v = true := by
          have all : ∀ l : List V, l.all okV = true → v ∈ l → okV v = true := fun l h => List.all_eq_true.mp h v
          exact all _ (by decide +kernel) hv
        have big : ∀ l : List V, l.all (fun v => match v with | .int i => decide (2 ≤ i) | _ => false) = true → v ∈ l → ∀ i, v = V.int i → 2 ≤ i := fun l h m i e => by
          have z := List.all_eq_true.mp h v m
          rw [e] at z
          exact of_decide_eq_true z
        obtain ⟨n, rfl, n1, n2, n3⟩ := okV_of ov
        have n4 := big _ (by decide +kernel) hv _ rfl
        obtain ⟨acc', a1, a2, a3, a4, a5, a6⟩ := fin n H3 ⟨n, rfl, by omega, n2, n3⟩ P3 k3
        exact ⟨acc', a1, a2, a3, a4, a5.trans hc, a6⟩
    · rintro H' ⟨P2, k2, hc, acc, hb, hl, ok⟩
      refine ⟨_, rfl, p, q, _, rfl, P2, by decide, by decide, fun r H3 r0 r1 P3 k3 => ⟨1, r, rfl, rfl, _, rfl, by omega, by omega, fun d nd => ?_⟩⟩
      have hb3 : H3 b = some (.lst (acc.map V.int)) := k3 _ _ nb1 nb2 hb
      obtain ⟨nd1, nd2⟩ := P3.np nd
      have nbd : b ≠ d := ne_of_none hb3 nd
      have ndH : H d = none := (k2.trans k3).fresh nd1 nd2 nd
      refine lc_range (lo := 0) (n := (1 + r).toNat) (fun i H' => Pt H' p q ∧ Kp p q H H' ∧ H' b = some (.lst (acc.map V.int)) ∧ ∃ ac : List Int, H' d = some (.lst (ac.map V.int)) ∧ ac.length = i ∧ ∀ s ∈ ac, SizeOk s)
        ⟨P3.new nd, (k2.trans k3).new nd, by rw [upd_ne nbd]; exact hb3, [], upd_same, rfl, fun s hs => by cases hs⟩ ?_ ?_
      · rintro i H4 hi ⟨P4, k4, hb4, ac, hd, hl4, ok4⟩
        refine ⟨rfl, ⟨_, rfl, _, rfl, p, q, b, _, rfl, P4, hb4, nb1, nb2, ?_, ?_, fun v H5 hv P5 k5 => ?_⟩⟩
        · intro z
          have z' := congrArg List.length z
          rw [List.length_map, hl] at z'
          cases z'
        · rw [List.length_map, hl]
          decide
        · obtain ⟨n, hn, rfl⟩ := List.mem_map.mp hv
          refine ⟨ac.map V.int, k5 _ _ nd1 nd2 hd, small1000 (by rw [List.length_map]; omega), P5.put nd1 nd2, (k4.trans k5).put ndH, ?_, ac ++ [n], by rw [upd_same, List.map_append]; rfl, by rw [List.length_append, List.length_singleton, hl4], fun s hs => ?_⟩
          · rw [upd_ne nbd]
            exact k5 _ _ nb1 nb2 hb4
          · rcases List.mem_append.mp hs with h | h
            · exact ok4 s h
            · rw [List.mem_singleton.mp h]
              exact ok n hn
      · rintro H4 ⟨P4, k4, hb4, ac, hd, hl4, ok4⟩
        refine ⟨d, _, rfl, .inl ⟨SqL.of hd, fun t nt => ?_⟩⟩
        refine k _ ac _ (.tup upd_same ?_) (by omega) (by omega) ok4 (P4.new nt) (k4.new nt)
        exact ImAll.of_ints _ ac

abbrev sc_l_wiresN : List Str := ["pot", "many", "chance", "found", "j", "i"]
theorem sc_l_wires : FnScope sc_l_wiresN ["pot", "many"] (defScope s_l_wires) := ⟨rfl, rfl, rfl, by decide +kernel, rfl, by decide +kernel, by decide +kernel⟩
theorem wlt_low {ws : List (Nat × Nat)} {j i : Nat} {acc : List (Nat × Nat)} (h1 : ws.Pairwise wlt) (h2 : ∀ w ∈ ws, w.1 < j) (h3 : acc.Pairwise wlt) (h4 : ∀ w ∈ acc, w.1 = j) : (ws ++ acc).Pairwise wlt :=
  List.pairwise_append.mpr ⟨h1, h3, fun a ha b hb => .inl (by rw [h4 b hb]; exact h2 a ha)⟩
theorem ok_wires {f : Addr} {fd : FuncData} (D : DefAt K mg "_law_wires" s_l_wires ["pot", "many"] f fd) (T : Blt mg) (c_l_dip : Cal P w K mg base 1 "_law_dip" spDip) (c_l_pick : Cal P w K mg base 2 "_law_pick" spPick) :
    Cal P w K mg base 3 "_law_wires" spWires := by
  refine cal_of D sc_l_wires (fun vs H Q E h => ?_) (fun cdv A outer s H vs Q E hr h => ?_)
  · obtain ⟨p, q, m, rfl, _⟩ := h
    rfl
  · obtain ⟨p, q, m, rfl, hm, hP, k⟩ := h
    refine ⟨_, (pss_cons (ps_asg (pe_tup (pa_cons (pe_c c_l_pick hr (by decide) rfl (pa_cons (pv 0) (pa_cons (pe_lst (pa_cons pe_int (pa_cons pe_int (pa_cons pe_int (pa_cons pe_int (pa_cons pe_int (pa_cons pe_int pa_nil))))))) pa_nil))) (pa_cons (pe_lst pa_nil) pa_nil))) (pg_tup rfl (pgs_cons (pg_name (i := 2) sc_l_wires.nd rfl (.inr rfl)) (pgs_cons (pg_name (i := 3) sc_l_wires.nd rfl (.inl rfl)) pgs_nil))))
      (pss_cons (ps_for PassesOwn.never rfl (pi_range1 (by rfl) T.range (pa_cons (pv 1) pa_nil)) (pg_name (i := 4) sc_l_wires.nd rfl (.inr rfl)) (pss_one (ps_expr (pe_bm PySem.F.plainAttrs_list PySem.F.slot_list_extend PySem.F.type_list_extend mt_extend (pv 3) (pa_cons (pe_lc (own := [("i", 5)]) rfl sc_l_wires.nd (pi_range1 (by rfl) T.range (pa_cons (pv 1) pa_nil)) (blkOk_by (N := sc_l_wiresN) (sc := defScope s_l_wires) (by decide +kernel)) (fun _ _ _ _ _ => (pg_name (i := 5) sc_l_wires.nd rfl (by first | exact .inl rfl | exact .inr rfl))) (fun _ _ _ _ _ => (pts_one (PW.pt (pw_and (pt_cmpR op_ne (pv 5) (pv 4) (nomark _)) (pw_and1 (pt_cmpR op_lt (pe_c c_l_dip hr (by decide) rfl (pa_cons (pv 0) (pa_cons pe_int pa_nil))) (pv 2) (nomark _))))))) (fun _ _ _ _ _ => (pe_tup (pa_cons (pv 4) (pa_cons (pv 5) pa_nil))))) pa_nil)))))
      (pss_one (ps_ret (pe_callTy (call_tupleK K rfl) (by rfl) T.tuple (by decide +kernel) (pa_cons (pv 3) pa_nil)))))), ?_⟩
    refine ⟨_, rfl, by show 6 ≤ sizeLine; decide, fun a na => ⟨p, q, a, _, rfl, hP.new na, upd_same, (hP.np na).1, (hP.np na).2, List.cons_ne_nil _ _, by show 6 < 1000; decide, fun v H1 hv P1 k1 => ?_⟩⟩
    have k01 : Kp p q H H1 := ((Kp.refl p q H).new na).trans k1
    obtain ⟨ch, rfl⟩ : ∃ ch : Int, v = .int ch := by
      have all : ∀ l : List V, l.all (fun v => match v with | .int _ => true | _ => false) = true → v ∈ l → ∃ ch : Int, v = .int ch := fun l h m => by
        have z := List.all_eq_true.mp h v m
        cases v with
        | int c => exact ⟨c, rfl⟩
        | _ => cases z
      exact all _ (by decide +kernel) hv
    refine ⟨Nat.zero_le _, fun fo nfo => ⟨by show 2 ≤ sizeLine; decide, fun t nt => ?_⟩⟩
    obtain ⟨nf1, nf2⟩ := P1.np nfo
    have nfoH : H fo = none := k01.fresh nf1 nf2 nfo
    have nft : fo ≠ t := ne_of_none upd_same nt
    refine ⟨t, _, rfl, .inl (.inl upd_same), rfl, _, _, rfl, _, _, rfl, rfl, ?_⟩
    refine ⟨_, rfl, m, rfl, by omega, by omega, for_range (lo := 0) (n := (m : Int).toNat) (fun j σ H' => ∃ (v4 v5 : Option V) (ws : List (Nat × Nat)) (rs : List V), σ = [some (.ref p), some (.int m), some (.int ch), some (.ref fo), v4, v5] ∧
        Pt H' p q ∧ Kp p q H H' ∧ H' fo = some (.lst rs) ∧ ImAll H' rs (ws.map wD) ∧ ws.length ≤ 6 * j ∧ WOk m ws ∧ ∀ w ∈ ws, w.1 < j)
      ⟨none, none, [], [], rfl, (P1.new nfo).new nt, (k01.new nfo).new nt, by rw [upd_ne nft]; exact upd_same, .nil, by decide, ⟨.nil, fun w hw => by cases hw⟩, fun w hw => by cases hw⟩ ?_ ?_⟩
    · rintro j σ H2 hj ⟨v4, v5, ws, rs, rfl, P2, k2, hf, im, hlen, wok, low⟩
      have hj' : j < m := by omega
      have hrs : rs.length = ws.length := by rw [im.length, List.length_map]
      refine ⟨_, rfl, .inl ⟨rfl, _, SqL.of hf⟩, _, rfl, m, rfl, by omega, by omega, fun d nd => ?_⟩
      obtain ⟨nd1, nd2⟩ := P2.np nd
      have nfd : fo ≠ d := ne_of_none hf nd
      have ndH : H d = none := k2.fresh nd1 nd2 nd
      refine lc_range (lo := 0) (n := (m : Int).toNat) (fun i H' => ∃ (ac : List (Nat × Nat)) (rc : List V), Pt H' p q ∧ Kp p q H H' ∧ H' fo = some (.lst rs) ∧ ImAll H' rs (ws.map wD) ∧ H' d = some (.lst rc) ∧ ImAll H' rc (ac.map wD) ∧ ac.length ≤ i ∧ WOk m ac ∧ (∀ w ∈ ac, w.1 = j ∧ w.2 < i))
        ⟨[], [], P2.new nd, k2.new nd, by rw [upd_ne nfd]; exact hf, im.k ((Tk.refl H2).new nd), upd_same, .nil, Nat.le_refl _, ⟨.nil, fun w hw => by cases hw⟩, fun w hw => by cases hw⟩ ?_ ?_
      · rintro i H3 hi ⟨ac, rc, P3, k3, hf3, im3, hd, imc, hac, wac, lac⟩
        have hi' : i < m := by omega
        have hrc : rc.length = ac.length := by rw [imc.length, List.length_map]
        refine ⟨rfl, ?_⟩
        refine ⟨_, rfl, _, rfl, rfl, _, rfl, ?_⟩
        refine ite2 (fun ne => ?_) (fun _ => ?_)
        · have nij : i ≠ j := fun e => by
            subst e
            have z : (!decide (V.int (0 + (i : Int)) = V.int (0 + (i : Int)))) = true := ne
            rw [decide_eq_true rfl] at z
            cases z
          refine ⟨_, rfl, p, q, _, rfl, P3, by decide, by decide, fun r H4 r0 r1 P4 k4 => ⟨_, rfl, _, _, rfl, rfl, _, rfl, ?_⟩⟩
          have hf4 : H4 fo = some (.lst rs) := k4 _ _ nf1 nf2 hf3
          have hd4 : H4 d = some (.lst rc) := k4 _ _ nd1 nd2 hd
          have tk4 : Tk H3 H4 := k4.tk P3
          refine ite2 (fun _ => ?_) (fun _ => ?_)
          · refine ⟨_, rfl, _, rfl, by show 2 ≤ sizeLine; decide, fun t2 nt2 => ?_⟩
            obtain ⟨nt21, nt22⟩ := P4.np nt2
            have nft2 : fo ≠ t2 := ne_of_none hf4 nt2
            have ndt2 : d ≠ t2 := ne_of_none hd4 nt2
            have hdn : (upd H4 t2 (.tup [V.int (0 + (j : Int)), V.int (0 + (i : Int))])) d = some (.lst rc) := by rw [upd_ne ndt2]; exact hd4
            have tk5 : Tk H4 (upd (upd H4 t2 (.tup [V.int (0 + (j : Int)), V.int (0 + (i : Int))])) d (.lst (rc ++ [V.ref t2]))) := ((Tk.refl H4).new nt2).put hdn
            refine ⟨rc, hdn, small1000 (by omega), ac ++ [(j, i)], rc ++ [V.ref t2], (P4.new nt2).put nd1 nd2, ((k3.trans k4).new nt2).put ndH, ?_, (im3.k tk4).k tk5, upd_same, ?_, by rw [List.length_append, List.length_singleton]; omega, ⟨?_, fun w hw => ?_⟩, fun w hw => ?_⟩
            · rw [upd_ne nfd, upd_ne nft2]
              exact hf4
            · rw [List.map_append]
              refine ((imc.k tk4).k tk5).append (.cons (.tup (xs := [V.int (0 + (j : Int)), V.int (0 + (i : Int))]) ?_ (.cons ?_ (.cons ?_ .nil))) .nil)
              · rw [upd_ne ndt2.symm, upd_same]
              · exact Im.int0 j
              · exact Im.int0 i
            · refine List.pairwise_append.mpr ⟨wac.asc, List.pairwise_singleton _ _, fun a ha b hb => ?_⟩
              rw [List.mem_singleton.mp hb]
              obtain ⟨z1, z2⟩ := lac a ha
              exact .inr ⟨z1, z2⟩
            · rcases List.mem_append.mp hw with h | h
              · exact wac.low w h
              · rw [List.mem_singleton.mp h]
                exact ⟨hj', hi', Ne.symm nij⟩
            · rcases List.mem_append.mp hw with h | h
              · obtain ⟨z1, z2⟩ := lac w h
                exact ⟨z1, by omega⟩
              · rw [List.mem_singleton.mp h]
                exact ⟨rfl, Nat.lt_succ_self _⟩
          · exact ⟨ac, rc, P4, k3.trans k4, hf4, im3.k tk4, hd4, imc.k tk4, by omega, wac, fun w hw => ⟨(lac w hw).1, Nat.lt_succ_of_lt (lac w hw).2⟩⟩
        · exact ⟨ac, rc, P3, k3, hf3, im3, hd, imc, by omega, wac, fun w hw => ⟨(lac w hw).1, Nat.lt_succ_of_lt (lac w hw).2⟩⟩
      · rintro H3 ⟨ac, rc, P3, k3, hf3, im3, hd, imc, hac, wac, lac⟩
        have hrc : rc.length = ac.length := by rw [imc.length, List.length_map]
        refine ⟨fo, d, rs, rc, rfl, rfl, hf3, hd, Nat.le_of_lt (small1000 (by omega)), ?_⟩
        have tk : Tk H3 (upd H3 fo (.lst (rs ++ rc))) := (Tk.refl H3).put hf3
        refine ⟨_, _, ws ++ ac, rs ++ rc, rfl, P3.put nf1 nf2, k3.put nfoH, upd_same, by rw [List.map_append]; exact (im3.k tk).append (imc.k tk), by rw [List.length_append]; omega, ⟨?_, fun w hw => ?_⟩, fun w hw => ?_⟩
        · exact wlt_low (i := 0) wok.asc low wac.asc fun w hw => (lac w hw).1
        · rcases List.mem_append.mp hw with h | h
          · exact wok.low w h
          · exact wac.low w h
        · rcases List.mem_append.mp hw with h | h
          · have := low w h
            omega
          · have := (lac w h).1
            omega
    · rintro σ H2 ⟨v4, v5, ws, rs, rfl, P2, k2, hf, im, hlen, wok, low⟩
      refine ⟨_, rfl, fo, rs, rfl, .inl ⟨SqL.of hf, fun t2 nt2 => ?_⟩⟩
      exact k _ ws _ (.tup upd_same (im.k ((Tk.refl H2).new nt2))) wok (P2.new nt2) (k2.new nt2)
abbrev sc_l_machineN : List Str := ["pot", "is_great", "sizes"]
theorem sc_l_machine : FnScope sc_l_machineN ["pot", "is_great"] (defScope s_l_machine) := ⟨rfl, rfl, rfl, by decide +kernel, rfl, by decide +kernel, by decide +kernel⟩
theorem ok_machine {f : Addr} {fd : FuncData} (D : DefAt K mg "_law_machine" s_l_machine ["pot", "is_great"] f fd) (T : Blt mg) (c_l_sizes : Cal P w K mg base 4 "_law_sizes" spSizes) (c_l_wires : Cal P w K mg base 3 "_law_wires" spWires) :
    Cal P w K mg base 5 "_law_machine" spMachine := by
  refine cal_of D sc_l_machine (fun vs H Q E h => ?_) (fun cdv A outer s H vs Q E hr h => ?_)
  · obtain ⟨p, q, g, rfl, _⟩ := h
    rfl
  · obtain ⟨p, q, g, rfl, hP, k⟩ := h
    refine ⟨_, (pss_cons (ps_set (i := 2) sc_l_machine.nd rfl (.inl rfl) (pe_c c_l_sizes hr (by decide) rfl (pa_cons (pv 0) (pa_cons (pv 1) pa_nil))))
      (pss_one (ps_ret (pe_tup (pa_cons (pv 2) (pa_cons (pe_c c_l_wires hr (by decide) rfl (pa_cons (pv 0) (pa_cons (pe_callB (call_lenK K rfl) (by rfl) T.len PySem.boot_len (pa_cons (pv 2) pa_nil)) pa_nil))) pa_nil)))))), ?_⟩
    refine ⟨_, rfl, _, rfl, p, q, g, rfl, hP, fun v ss H1 im l1 l6 ok P1 k1 => ?_⟩
    obtain ⟨a, xs, rfl, ha, ia⟩ := im.tuple
    have hx : xs.length = ss.length := by rw [ia.length, List.length_map]
    refine ⟨_, rfl, _, rfl, _, rfl, a, xs, rfl, .inr (SqT.of ha), p, q, ss.length, by rw [hx]; rfl, l6, P1, fun v ws H2 iw wok P2 k2 => ⟨by show 2 ≤ sizeLine; decide, fun t nt => ?_⟩⟩
    have tk : Tk H1 (upd H2 t (.tup [V.ref a, v])) := (k2.tk P1).new nt
    refine k _ ss ws _ (.tup upd_same (.cons (im.k tk) (.cons (iw.k ((Tk.refl H2).new nt)) .nil))) ⟨l1, l6, ok, wok⟩ (P2.new nt) ((k1.trans k2).new nt)

/-! ### _law_pot -/
abbrev sc_l_potN : List Str := ["script", "cell", "cells", "first", "last"]
theorem sc_l_pot : FnScope sc_l_potN ["script"] (defScope s_l_pot) := ⟨rfl, rfl, rfl, by decide +kernel, rfl, by decide +kernel, by decide +kernel⟩
theorem pot_le {xs : List V} (h : xs.length ≤ 63) : (cutV xs none (some 60)).length ≤ 60 := by
  unfold cutV
  rw [HT.sIx_none, show HT.sIx xs.length xs.length (some 60) = min 60 xs.length from HT.sIx_nat xs.length xs.length 60]
  rw [List.drop_zero, List.length_take]
  omega
theorem cut_ints (ns : List Int) (a b : Option Int) : ∃ ms : List Int, cutV (ns.map V.int) a b = ms.map V.int := by
  unfold cutV
  exact ⟨_, by rw [← List.map_drop, ← List.map_take]⟩
theorem ok_pot {f : Addr} {fd : FuncData} (D : DefAt K mg "_law_pot" s_l_pot ["script"] f fd) (T : Blt mg) : Cal P w K mg base 1 "_law_pot" (spPot K) := by
  refine cal_of D sc_l_pot (fun vs H Q E h => ?_) (fun cdv A outer s H vs Q E hr h => ?_)
  · obtain ⟨a, ns, rfl, _⟩ := h
    rfl
  · obtain ⟨a, ns, rfl, hS, len, k⟩ := h
    refine ⟨_, (pss_cons (ps_setLc (i := 2) (own := [("cell", 1)]) rfl sc_l_pot.nd rfl rfl (sw_true rfl rfl rfl (by decide +kernel)) (pi_listK K rfl (pe_slice (sl_listK K rfl) (pv 0) po_none (po_some pe_int))) (blkOk_by (N := sc_l_potN) (sc := defScope s_l_pot) (by decide +kernel)) (fun _ _ _ _ _ => (pg_name (i := 1) sc_l_pot.nd rfl (by first | exact .inl rfl | exact .inr rfl))) (fun _ _ _ _ _ => pts_nil) (fun _ _ _ _ _ => (pe_ifExp (pt_cmpR op_ge (pv 1) pe_int (nomark _)) (pe_op op_mul pe_int (pv 1)) (pe_op op_sub (pe_un un_neg pe_int) (pe_op op_mul pe_int (pv 1))))))
      (pss_cons (ps_par (i := 3) (j := 4) rfl sc_l_pot.nd rfl rfl (by decide) rfl rfl (pa_cons pe_int (pa_cons (pe_op op_add pe_int (pe_callB (call_lenK K rfl) (by rfl) T.len PySem.boot_len (pa_cons (pv 2) pa_nil))) pa_nil)) (by rfl))
      (pss_cons (ps_for PassesOwn.never rfl (pi_listK K rfl (pv 2)) (pg_name (i := 1) sc_l_pot.nd rfl (.inl rfl)) (pss_one (ps_par (i := 3) (j := 4) rfl sc_l_pot.nd rfl rfl (by decide) rfl rfl (pa_cons (pe_op op_mod (pe_callTy call_int1 (by rfl) T.int (by decide +kernel) (pa_cons (pe_op op_add (pe_op op_add (pe_op op_mul (pv 3) pe_int) (pv 1)) pe_int) pa_nil)) pe_int) (pa_cons (pe_op op_mod (pe_callTy call_int1 (by rfl) T.int (by decide +kernel) (pa_cons (pe_op op_add (pe_op op_add (pe_op op_mul (pv 4) pe_int) (pe_op op_mul pe_int (pv 1))) pe_int) pa_nil)) pe_int) pa_nil)) (by rfl))))
      (pss_one (ps_ret (pe_lst (pa_cons (pe_lc (own := [("cell", 1)]) rfl sc_l_pot.nd (pi_listK K rfl (pv 2)) (blkOk_by (N := sc_l_potN) (sc := defScope s_l_pot) (by decide +kernel)) (fun _ _ _ _ _ => (pg_name (i := 1) sc_l_pot.nd rfl (by first | exact .inl rfl | exact .inr rfl))) (fun _ _ _ _ _ => (pts_one (pt_cmpR op_gt (pv 1) (pe_op op_pow pe_int pe_int) (nomark _)))) (fun _ _ _ _ _ => (pv 1))) (pa_cons (pv 3) (pa_cons (pv 4) (pa_cons pe_int pa_nil)))))))))), ?_⟩
    obtain ⟨ms, em⟩ := cut_ints ns none (some 60)
    have ml : ms.length ≤ 60 := by
      have z := pot_le (xs := ns.map V.int) (by rw [List.length_map]; exact len)
      rw [em, List.length_map] at z
      exact z
    refine ⟨_, rfl, 60, rfl, a, ns.map V.int, rfl, hS, fun c nc => ?_⟩
    rw [em]
    refine ⟨c, rfl, ⟨_, SqL.of upd_same⟩, fun D nD => ?_⟩
    have ncD : c ≠ D := ne_of_none upd_same nD
    have nDH : H D = none := by
      rw [upd_ne (Ne.symm ncD)] at nD
      exact nD
    refine lc_list (K := K) (a := c) (xs := ms.map V.int) (fun i H' => Same H H' ∧ H' c = some (.lst (ms.map V.int)) ∧ ∃ cs : List Int, H' D = some (.lst (cs.map V.int)) ∧ cs.length = i) ⟨Same.new (Same.new (Same.refl H) nc) nD, by rw [upd_ne ncD]; exact upd_same, [], upd_same, rfl⟩ (fun i H' _ z => SqL.of z.2.1) ?_ ?_
    · rintro i x H' hx ⟨sm, hc, cs, hD, hl⟩
      obtain ⟨z, hz, rfl⟩ := map_get hx
      have il : i < ms.length := (List.getElem?_eq_some_iff.mp hz).1
      have next : ∀ y : Int, ∃ acc : List V, H' D = some (.lst acc) ∧ acc.length < sizeLine ∧ (Same H (upd H' D (.lst (acc ++ [V.int y]))) ∧ (upd H' D (.lst (acc ++ [V.int y]))) c = some (.lst (ms.map V.int)) ∧ ∃ cs : List Int, (upd H' D (.lst (acc ++ [V.int y]))) D = some (.lst (cs.map V.int)) ∧ cs.length = i + 1) := fun y =>
        ⟨cs.map V.int, hD, small1000 (by rw [List.length_map]; omega), Same.put sm nDH, by rw [upd_ne ncD]; exact hc, cs ++ [y], by rw [upd_same, List.map_append]; rfl, by rw [List.length_append, List.length_singleton, hl]⟩
      refine ⟨rfl, ⟨_, rfl, _, _, rfl, rfl, _, rfl, ?_⟩⟩
      refine ite2 (fun _ => ?_) (fun _ => ?_)
      · exact ⟨_, rfl, _, _, rfl, rfl, .inl ⟨by decide, by decide⟩, next _⟩
      · exact ⟨_, rfl, _, rfl, _, _, rfl, rfl, .inl ⟨by decide, by decide⟩, _, _, rfl, rfl, next _⟩
    rintro H1 ⟨sm, hc, cs, hD, hl⟩
    rw [List.length_map] at hl
    have cl : cs.length ≤ 60 := by omega
    refine ⟨_, rfl, D, _, rfl, .inl (SqL.of hD), _, _, rfl, rfl, _, _, rfl, ?_⟩
    refine ⟨_, rfl, D, rfl, ⟨_, SqL.of hD⟩, for_list (K := K) (a := D) (xs := cs.map V.int) (fun i σ H' => ∃ (v1 : Option V) (x y : Int), σ = [some (.ref a), v1, some (.ref D), some (.int x), some (.int y)] ∧ H' = H1 ∧ 0 ≤ x ∧ x < 4294967296 ∧ 0 ≤ y ∧ y < 4294967296)
      ⟨none, _, _, rfl, rfl, by decide, by decide, by rw [List.length_map]; omega, by rw [List.length_map]; omega⟩ (fun i σ H' _ z => by obtain ⟨_, _, _, _, e, _⟩ := z; rw [e]; exact SqL.of hD) ?_ ?_⟩
    · rintro i v σ H' hv ⟨v1, x, y, rfl, rfl, x0, x1, y0, y1⟩
      obtain ⟨z, hz, rfl⟩ := map_get hv
      refine ⟨_, rfl, _, _, rfl, rfl, .inl ⟨by omega, by omega⟩, _, rfl, _, _, rfl, rfl, _, _, rfl, rfl, .inl ⟨_, rfl, _, _, rfl, rfl, (by decide : (0 : Int) < 4294967291), ?_⟩⟩
      refine ⟨_, rfl, _, _, rfl, rfl, .inl ⟨by omega, by omega⟩, _, rfl, _, _, rfl, rfl, .inl ⟨by decide, by decide⟩, _, _, rfl, rfl, _, _, rfl, rfl, .inl ⟨_, rfl, _, _, rfl, rfl, (by decide : (0 : Int) < 4294967279), ?_⟩⟩
      refine ⟨_, _, rfl, some (V.int z), _, _, rfl, rfl, Int.emod_nonneg _ (by decide), Int.lt_trans (Int.emod_lt_of_pos _ (by decide)) (by decide), Int.emod_nonneg _ (by decide), Int.lt_trans (Int.emod_lt_of_pos _ (by decide)) (by decide)⟩
    · rintro σ H' ⟨v1, x, y, rfl, rfl, x0, x1, y0, y1⟩
      refine ⟨_, rfl, D, rfl, ⟨_, SqL.of hD⟩, fun q nq => ?_⟩
      have nDq : D ≠ q := ne_of_none hD nq
      have nqH : H q = none := Same.free sm nq
      refine lc_list (K := K) (a := D) (xs := cs.map V.int) (fun i H2 => Same H H2 ∧ H2 D = some (.lst (cs.map V.int)) ∧ ∃ gs : List Int, H2 q = some (.lst (gs.map V.int)) ∧ gs.length ≤ i) ⟨Same.new sm nq, by rw [upd_ne nDq]; exact hD, [], upd_same, Nat.le_refl _⟩ (fun i H2 _ z => SqL.of z.2.1) ?_ ?_
      · rintro i v H2 hv ⟨sm2, hD2, gs, hq, gl⟩
        obtain ⟨z, hz, rfl⟩ := map_get hv
        have il : i < cs.length := (List.getElem?_eq_some_iff.mp hz).1
        refine ⟨rfl, ⟨_, rfl, _, _, rfl, rfl, ⟨by decide, by decide, by decide⟩, _, _, rfl, rfl, _, rfl, ?_⟩⟩
        refine ite2 (fun _ => ?_) (fun _ => ?_)
        · exact ⟨_, rfl, gs.map V.int, hq, small1000 (by rw [List.length_map]; omega), Same.put sm2 nqH, by rw [upd_ne nDq]; exact hD2, gs ++ [z], by rw [upd_same, List.map_append]; rfl, by rw [List.length_append, List.length_singleton]; omega⟩
        · exact ⟨sm2, hD2, gs, hq, by omega⟩
      · rintro H2 ⟨sm2, hD2, gs, hq, gl⟩
        rw [List.length_map] at gl
        refine ⟨_, rfl, _, rfl, by show 4 ≤ sizeLine; decide, fun p np => ?_⟩
        have npq : q ≠ p := ne_of_none hq np
        exact k p q _ ⟨gs, x, y, 0, upd_same, by rw [upd_ne npq]; exact hq, by omega, x0, x1, y0, y1⟩ (Same.new sm2 np) (Same.free sm2 np) nqH

/-! ### the law's own dividing -/
abbrev sc_l_stepN : List Str := ["sizes", "j", "i"]
theorem sc_l_step : FnScope sc_l_stepN ["sizes", "j", "i"] (defScope s_l_step) := ⟨rfl, rfl, rfl, by decide +kernel, rfl, by decide +kernel, by decide +kernel⟩
theorem ok_lstep {f : Addr} {fd : FuncData} (D : DefAt K mg "_law_step" s_l_step ["sizes", "j", "i"] f fd) (c_l_common : Cal P w K mg base 1 "_law_common" spCommon) : Cal P w K mg base 2 "_law_step" spLStep := by
  refine cal_of D sc_l_step (fun vs H Q E h => ?_) (fun cdv A outer s H vs Q E hr h => ?_)
  · obtain ⟨v, ss, j, i, a, b, rfl, _⟩ := h
    rfl
  · obtain ⟨v, ss, j, i, x, y, rfl, im, hj, hi, y0, y1, k⟩ := h
    refine ⟨_, (pss_one (ps_ret (pe_op op_fdivW (pe_ix (ix_tupK K rfl) (pv 0) (pv 2) (fun _ _ => rfl)) (pe_c c_l_common hr (by decide) rfl (pa_cons (pe_ix (ix_tupK K rfl) (pv 0) (pv 1) (fun _ _ => rfl)) (pa_cons (pe_ix (ix_tupK K rfl) (pv 0) (pv 2) (fun _ _ => rfl)) pa_nil)))))), ?_⟩
    obtain ⟨b, ys, rfl, hb, ib⟩ := im.tuple
    have ey := ib.ints
    subst ey
    have hi' : (ss.map V.int)[i]? = some (V.int (y : Int)) := by rw [List.getElem?_map, hi]; rfl
    have hj' : (ss.map V.int)[j]? = some (V.int (x : Int)) := by rw [List.getElem?_map, hj]; rfl
    have gp : 0 < Nat.gcd y x := gcd_pos' y0
    have gl : Nat.gcd y x < 2 ^ 4000 := Nat.lt_of_le_of_lt (Nat.le_of_dvd y0 (Nat.gcd_dvd_left y x)) y1
    refine ⟨_, rfl, _, rfl, b, _, i, _, rfl, rfl, SqT.of hb, atI_nat hi', _, rfl, _, rfl, b, _, j, _, rfl, rfl, SqT.of hb, atI_nat hj', _, rfl, _, rfl, b, _, i, _, rfl, rfl, SqT.of hb, atI_nat hi', x, y, rfl, y1, ?_⟩
    rw [Nat.gcd_comm]
    exact ⟨_, _, rfl, rfl, wide_div (b := 4000) (by omega) (by simpa using gl) (by decide) (by decide), k⟩

/-! ### small facts -/
theorem SizeOk.bnd {s : Int} (h : SizeOk s) : 2 ≤ s ∧ s ≤ 10 ^ 30 := by
  obtain ⟨m, rfl, a, b⟩ := h.nat
  omega
theorem ixN_of {n j : Nat} (h : j < n) : ixN n (j : Int) = some j := by
  unfold ixN
  simp [h]
theorem remI_get {ns ss : List Int} {i : Nat} {n s : Int} (h1 : ns[i]? = some n) (h2 : ss[i]? = some s) : (remI ns ss)[i]? = some (n % s) := by
  unfold remI
  rw [List.getElem?_zipWith, h1, h2]
theorem remI_take {ns ss : List Int} {i : Nat} {n s : Int} (h1 : ns[i]? = some n) (h2 : ss[i]? = some s) : (remI ns ss).take (i + 1) = (remI ns ss).take i ++ [n % s] := by
  rw [List.take_add_one, remI_get h1 h2]
  rfl
theorem remI_len {ns ss : List Int} (h : ns.length = ss.length) : (remI ns ss).length = ss.length := by
  unfold remI
  rw [List.length_zipWith]
  omega
theorem map_int_get {ns : List Int} {i : Nat} {x : V} (h : (ns.map V.int)[i]? = some x) : ∃ n, ns[i]? = some n ∧ x = .int n := map_get h
theorem getD_get {ns : List Int} {i : Nat} (h : i < ns.length) : (ns.map V.int)[i]? = some (.int (ns.getD i 0)) := by
  rw [List.getElem?_map, List.getElem?_eq_getElem h, List.getD_eq_getElem?_getD, List.getElem?_eq_getElem h]
  rfl
theorem farI_len (l : List (Nat × Nat × Int)) (ns : List Int) : (farI l ns).length = ns.length := by
  unfold farI
  induction l generalizing ns with
  | nil => rfl
  | cons d l ih => exact (ih _).trans (addI_len ns d)
theorem farI_most {l : List (Nat × Nat × Int)} (hl : ∀ d ∈ l, d.2.2.natAbs < 2 ^ 200) {B : Nat} {ns : List Int} (h : mostI B ns) : mostI (B + 201 * l.length) (farI l ns) := by
  induction l generalizing ns B with
  | nil => exact h
  | cons d l ih =>
    have a := ih (fun x hx => hl x (List.mem_cons_of_mem _ hx)) (addI_most h (hl d List.mem_cons_self))
    rw [show B + 201 * (d :: l).length = B + 201 + 201 * l.length by rw [List.length_cons]; omega]
    exact a

/-! ### _law_contents, _law_deed, _law_program -/
abbrev sc_l_contentsN : List Str := ["pot", "sizes", "size"]
theorem sc_l_contents : FnScope sc_l_contentsN ["pot", "sizes"] (defScope s_l_contents) := ⟨rfl, rfl, rfl, by decide +kernel, rfl, by decide +kernel, by decide +kernel⟩
theorem ok_contents {f : Addr} {fd : FuncData} (D : DefAt K mg "_law_contents" s_l_contents ["pot", "sizes"] f fd) (T : Blt mg) (c_l_dip : Cal P w K mg base 1 "_law_dip" spDipW) (c_l_pick : Cal P w K mg base 2 "_law_pick" spPick) : Cal P w K mg base 3 "_law_contents" spContents := by
  refine cal_of D sc_l_contents (fun vs H Q E h => ?_) (fun cdv A outer s H vs Q E hr h => ?_)
  · obtain ⟨p, q, v, ss, rfl, _⟩ := h
    rfl
  · obtain ⟨p, q, v, ss, rfl, hP, im, ok, l9, k⟩ := h
    refine ⟨_, (pss_one (ps_ret (pe_callTy (call_tupleK K rfl) (by rfl) T.tuple (by decide +kernel) (pa_cons (pe_lc (own := [("size", 2)]) rfl sc_l_contents.nd (pi_tupK K rfl (pv 1)) (blkOk_by (N := sc_l_contentsN) (sc := defScope s_l_contents) (by decide +kernel)) (fun _ _ _ _ _ => (pg_name (i := 2) sc_l_contents.nd rfl (by first | exact .inl rfl | exact .inr rfl))) (fun _ _ _ _ _ => pts_nil) (fun _ _ _ _ _ => (pe_op op_mod (pe_c c_l_pick hr (by decide) rfl (pa_cons (pv 0) (pa_cons (pe_lst (pa_cons pe_int (pa_cons pe_int (pa_cons (pe_op op_sub (pv 2) pe_int) (pa_cons (pe_c c_l_dip hr (by decide) rfl (pa_cons (pv 0) (pa_cons (pv 2) pa_nil))) (pa_cons (pe_op op_fdivW (pv 2) pe_int) pa_nil)))))) pa_nil))) (pv 2)))) pa_nil)))), ?_⟩
    obtain ⟨b, ys, rfl, hb, ib⟩ := im.tuple
    have ey := ib.ints
    subst ey
    refine ⟨_, rfl, b, rfl, ⟨_, SqT.of hb⟩, fun d nd => ?_⟩
    obtain ⟨nd1, nd2⟩ := hP.np nd
    refine lc_tup (K := K) (a := b) (xs := ss.map V.int) (fun i H' => Pt H' p q ∧ Kp p q H H' ∧ ∃ hs : List Int, H' d = some (.lst (hs.map V.int)) ∧ hs.length = i ∧ ∀ (j : Nat) (h s : Int), hs[j]? = some h → ss[j]? = some s → 0 ≤ h ∧ h < s)
      ⟨hP.new nd, (Kp.refl p q H).new nd, [], upd_same, rfl, fun j h s e => by simp at e⟩ (fun i H' _ z => SqT.of ((z.2.1.tk hP) _ _ hb)) ?_ ?_
    · rintro i x H1 hx ⟨P1, k1, hs, hd, hl, low⟩
      obtain ⟨s, hs', rfl⟩ := map_get hx
      obtain ⟨s2, s30⟩ := (ok s (List.mem_of_getElem? hs')).bnd
      have il : i < ss.length := (List.getElem?_eq_some_iff.mp hs').1
      have s4 : s.natAbs < 2 ^ 4000 := Nat.lt_of_le_of_lt (show s.natAbs ≤ 10 ^ 30 by omega) (by decide)
      refine ⟨rfl, _, rfl, _, rfl, _, _, rfl, rfl, _, rfl, _, rfl, p, q, _, rfl, P1, by omega, s4, fun r H2 r0 r1 P2 k2 => ?_⟩
      refine ⟨_, rfl, _, _, rfl, rfl, wide_div (b := 10) (by decide) (by decide) (by decide) (by decide), by show 5 ≤ sizeLine; decide, fun c nc => ?_⟩
      obtain ⟨nc1, nc2⟩ := P2.np nc
      have hd2 : H2 d = some (.lst (hs.map V.int)) := k2 _ _ nd1 nd2 hd
      refine ⟨p, q, c, _, rfl, P2.new nc, upd_same, nc1, nc2, List.cons_ne_nil _ _, by show 5 < 1000; decide, fun v H3 hv P3 k3 => ?_⟩
      obtain ⟨y, rfl⟩ : ∃ y : Int, v = .int y := by
        rcases List.mem_cons.mp hv with e | hv
        · exact ⟨_, e⟩
        rcases List.mem_cons.mp hv with e | hv
        · exact ⟨_, e⟩
        rcases List.mem_cons.mp hv with e | hv
        · exact ⟨_, e⟩
        rcases List.mem_cons.mp hv with e | hv
        · exact ⟨_, e⟩
        · exact ⟨_, List.mem_singleton.mp hv⟩
      have hd3 : H3 d = some (.lst (hs.map V.int)) := k3 _ _ nd1 nd2 (keepN hd2 nc)
      refine ⟨_, rfl, _, _, rfl, rfl, (show (0 : Int) < s by omega), _, hd3, small1000 (by rw [List.length_map]; omega), P3.put nd1 nd2, (((k1.trans k2).new nc).trans k3).put nd, hs ++ [y % s], by rw [upd_same, List.map_append]; rfl, by rw [List.length_append, List.length_singleton, hl], ?_⟩
      intro j h t e1 e2
      rcases Nat.lt_trichotomy j hs.length with e | e | e
      · rw [List.getElem?_append_left e] at e1
        exact low j h t e1 e2
      · subst e
        rw [List.getElem?_append_right (Nat.le_refl _), Nat.sub_self] at e1
        rw [hl] at e2
        rw [hs'] at e2
        cases e1
        cases e2
        exact ⟨Int.emod_nonneg _ (by omega), Int.emod_lt_of_pos _ (by omega)⟩
      · rw [List.getElem?_eq_none (by rw [List.length_append, List.length_singleton]; omega)] at e1
        cases e1
    · rintro H1 ⟨P1, k1, hs, hd, hl, low⟩
      rw [List.length_map] at hl
      exact ⟨d, _, rfl, .inl ⟨SqL.of hd, fun t nt => k _ hs _ (.tup upd_same (ImAll.of_ints _ hs)) ⟨hl, low⟩ (P1.new nt) (k1.new nt)⟩⟩

/-! ### _law_deed, _law_program -/
abbrev sc_l_deedN : List Str := ["pot", "machine", "j", "i", "ask", "most"]
theorem sc_l_deed : FnScope sc_l_deedN ["pot", "machine"] (defScope s_l_deed) := ⟨rfl, rfl, rfl, by decide +kernel, rfl, by decide +kernel, by decide +kernel⟩
theorem ok_deed {f : Addr} {fd : FuncData} (D : DefAt K mg "_law_deed" s_l_deed ["pot", "machine"] f fd) (T : Blt mg) (c_l_dip : Cal P w K mg base 1 "_law_dip" spDip) (c_l_pick : Cal P w K mg base 2 "_law_pick" spPickA) (c_l_step : Cal P w K mg base 2 "_law_step" spLStep) : Cal P w K mg base 3 "_law_deed" spDeed := by
  refine cal_of D sc_l_deed (fun vs H Q E h => ?_) (fun cdv A outer s H vs Q E hr h => ?_)
  · obtain ⟨p, q, v, ss, ws, rfl, _⟩ := h
    rfl
  · obtain ⟨p, q, v, ss, ws, rfl, hP, im, ok, ne, k⟩ := h
    refine ⟨_, (pss_cons (ps_asg (pe_c c_l_pick hr (by decide) rfl (pa_cons (pv 0) (pa_cons (pe_ix (ix_tupK K rfl) (pv 1) pe_int (fun _ _ => rfl)) pa_nil))) (pg_tup rfl (pgs_cons (pg_name (i := 2) sc_l_deed.nd rfl (.inl rfl)) (pgs_cons (pg_name (i := 3) sc_l_deed.nd rfl (.inl rfl)) pgs_nil))))
      (pss_cons (ps_set (i := 4) sc_l_deed.nd rfl (.inl rfl) (pe_c c_l_step hr (by decide) rfl (pa_cons (pe_ix (ix_tupK K rfl) (pv 1) pe_int (fun _ _ => rfl)) (pa_cons (pv 2) (pa_cons (pv 3) pa_nil)))))
      (pss_cons (ps_set (i := 5) sc_l_deed.nd rfl (.inl rfl) (pe_op op_fdivW (pe_op op_pow pe_int pe_int) (pv 4)))
      (pss_one (ps_ret (pe_tup (pa_cons (pv 2) (pa_cons (pv 3) (pa_cons (pe_op op_mulW (pv 4) (pe_c c_l_pick hr (by decide) rfl (pa_cons (pv 0) (pa_cons (pe_lst (pa_cons pe_int (pa_cons pe_int (pa_cons (pe_un un_neg pe_int) (pa_cons pe_int (pa_cons (pe_un un_neg pe_int) (pa_cons (pe_op op_sub (pe_c c_l_dip hr (by decide) rfl (pa_cons (pv 0) (pa_cons pe_int pa_nil))) pe_int) (pa_cons (pv 5) (pa_cons (pe_un un_neg (pv 5)) (pa_cons (pe_op op_fdivW (pv 5) pe_int) (pa_cons (pe_op op_pow pe_int pe_int) pa_nil))))))))))) pa_nil)))) pa_nil))))))))), ?_⟩
    obtain ⟨a, xs, rfl, ha, ia⟩ := id im.tuple
    obtain ⟨b0, g0, im0⟩ := ia.get (i := 0) rfl
    obtain ⟨c0, g1, im1⟩ := ia.get (i := 1) rfl
    obtain ⟨c, ys, rfl, hc, ic⟩ := im1.tuple
    have ly : ys.length = ws.length := by rw [ic.length, List.length_map]
    have wl := ok.wires.len ok.six
    have wp := List.length_pos_iff.mpr ne
    refine ⟨_, rfl, _, rfl, a, _, 1, _, rfl, rfl, SqT.of ha, atI_nat (j := 1) g1, p, q, c, ys, _, rfl, hP, hc, .inr rfl, List.length_pos_iff.mp (by omega), by omega, fun v H1 hv P1 k1 => ?_⟩
    obtain ⟨wt, hw, imw⟩ : ∃ w ∈ ws, Im H1 v (wD w) := by
      obtain ⟨i, hi, rfl⟩ := List.getElem_of_mem hv
      obtain ⟨w, hw⟩ : ∃ w, ws[i]? = some w := ⟨ws[i]'(by omega), by simp⟩
      obtain ⟨v', e1, e2⟩ := ic.get (i := i) (d := wD w) (by rw [List.getElem?_map, hw]; rfl)
      rw [List.getElem?_eq_getElem hi] at e1
      cases e1
      exact ⟨w, List.mem_of_getElem? hw, e2.k (k1.tk hP)⟩
    obtain ⟨j, i⟩ := wt
    obtain ⟨lj, li, nji⟩ := ok.wires.low _ hw
    obtain ⟨e, zs, rfl, he, ie⟩ := imw.tuple
    have ez : zs = [.int (j : Int), .int (i : Int)] := by
      match zs, ie with
      | _, .cons (.int _) (.cons (.int _) .nil) => rfl
    subst ez
    refine ⟨e, _, rfl, SqT.of he, rfl, _, _, rfl, _, _, rfl, rfl, ?_⟩
    have okk : ∀ (n : Nat), n < ss.length → ∃ m : Nat, ss[n]? = some (m : Int) ∧ 0 < m ∧ m ≤ 10 ^ 30 := fun n hn => by
      obtain ⟨m, e, m2, m3, _⟩ := ok.size ss[n] (List.getElem_mem hn)
      exact ⟨m, by rw [List.getElem?_eq_getElem hn, e], by omega, m3⟩
    obtain ⟨x, hx, x0, xl⟩ := okk j lj
    obtain ⟨y, hy, y0, yl⟩ := okk i li
    have im' := im.k (k1.tk hP)
    have ha1 := (k1.tk hP) _ _ ha
    refine ⟨_, rfl, a, _, 0, _, rfl, rfl, SqT.of ha1, atI_nat (j := 0) g0, _, rfl, _, rfl, b0, ss, j, i, x, y, rfl, im0.k (k1.tk hP), hx, hy, y0, Nat.lt_of_le_of_lt yl (by decide), ?_⟩
    obtain ⟨s0, sl⟩ := stp_le (a := x) y0
    have sl30 : stp x y ≤ 10 ^ 30 := Nat.le_trans sl yl
    have hit : ((stp x y : Nat) : Int) ∣ ((stp x y : Nat) : Int) := ⟨1, by omega⟩
    generalize hst : stp x y = st at *
    have st4 : ((st : Nat) : Int).natAbs < 2 ^ 4000 := by
      rw [Int.natAbs_natCast]
      exact Nat.lt_of_le_of_lt sl30 (by decide)
    refine ⟨_, _, rfl, rfl, ⟨by decide, by decide, by decide⟩, _, rfl, _, _, rfl, rfl, wide_div (b := 4000) (by omega) st4 (by decide) (by decide), ?_⟩
    refine ⟨_, rfl, _, rfl, _, rfl, _, rfl, _, rfl, _, rfl, _, rfl, p, q, _, rfl, P1, by decide, by decide, fun r H2 r0 r1 P2 k2 => ⟨_, _, rfl, rfl, _, rfl, _, rfl, _, rfl, _, rfl, _, _, rfl, rfl, wide_div (b := 10) (by decide) (by decide) (by decide) (by decide), _, _, rfl, rfl, ⟨by decide, by decide, by decide⟩, by show 10 ≤ sizeLine; decide, fun l nl => ?_⟩⟩
    obtain ⟨nl1, nl2⟩ := P2.np nl
    refine ⟨p, q, l, _, _, rfl, P2.new nl, upd_same, .inl ⟨rfl, nl1, nl2⟩, List.cons_ne_nil _ _, by show 10 < 1000; decide, fun v H3 hv P3 k3 => ?_⟩
    obtain ⟨z, rfl, hz⟩ : ∃ z : Int, v = .int z ∧ (((st : Nat) : Int) * z).natAbs ≤ 10 ^ 60 := by
      have small : ∀ z : Int, z.natAbs ≤ 10 ^ 29 → (((st : Nat) : Int) * z).natAbs ≤ 10 ^ 60 := fun z hz => by
        rw [Int.natAbs_mul, Int.natAbs_natCast]
        exact Nat.le_trans (Nat.mul_le_mul sl30 hz) (by decide)
      have m0 : (0 : Int) ≤ 10 ^ 60 / (st : Int) := Int.ediv_nonneg (by decide) (by omega)
      have m1 : (st : Int) * (10 ^ 60 / (st : Int)) ≤ 10 ^ 60 := by
        have := Int.mul_ediv_self_le (x := 10 ^ 60) (k := (st : Int)) (by omega)
        exact this
      have ms : 0 ≤ (st : Int) * (10 ^ 60 / (st : Int)) := Int.mul_nonneg (by omega) m0
      rcases List.mem_cons.mp hv with e | hv
      · exact ⟨_, e, small _ (by decide)⟩
      rcases List.mem_cons.mp hv with e | hv
      · exact ⟨_, e, small _ (by decide)⟩
      rcases List.mem_cons.mp hv with e | hv
      · exact ⟨_, e, small _ (by decide)⟩
      rcases List.mem_cons.mp hv with e | hv
      · exact ⟨_, e, small _ (by decide)⟩
      rcases List.mem_cons.mp hv with e | hv
      · exact ⟨_, e, small _ (by decide)⟩
      rcases List.mem_cons.mp hv with e | hv
      · exact ⟨_, e, small _ (by show (r - 20).natAbs ≤ _; omega)⟩
      rcases List.mem_cons.mp hv with e | hv
      · refine ⟨_, e, ?_⟩
        show ((st : Int) * (10 ^ 60 / (st : Int))).natAbs ≤ _
        omega
      rcases List.mem_cons.mp hv with e | hv
      · refine ⟨_, e, ?_⟩
        show ((st : Int) * -(10 ^ 60 / (st : Int))).natAbs ≤ _
        rw [Int.mul_neg, Int.natAbs_neg]
        omega
      rcases List.mem_cons.mp hv with e | hv
      · refine ⟨_, e, ?_⟩
        show ((st : Int) * (10 ^ 60 / (st : Int) / 3)).natAbs ≤ _
        have a1 : (10 ^ 60 / (st : Int)) / 3 ≤ 10 ^ 60 / (st : Int) := by omega
        have a2 : 0 ≤ (10 ^ 60 / (st : Int)) / 3 := by omega
        have a3 := Int.mul_le_mul_of_nonneg_left a1 (show (0 : Int) ≤ (st : Int) by omega)
        have a4 := Int.mul_nonneg (show (0 : Int) ≤ (st : Int) by omega) a2
        omega
      · exact ⟨_, List.mem_singleton.mp hv, small _ (by decide)⟩
    have wide : CMulW (st : Int) z := by
      by_cases z0 : z.natAbs = 0
      · have : z = 0 := by omega
        subst this
        exact wide_mul (a := 4000) (b := 10) st4 (by decide) (by decide) (by decide) (by decide)
      · refine wide_mul (a := 4000) (b := 4000) st4 ?_ (by decide) (by decide) (by decide)
        rw [Int.natAbs_mul, Int.natAbs_natCast] at hz
        have := Nat.le_mul_of_pos_left z.natAbs (show 0 < st from s0)
        exact Nat.lt_of_le_of_lt (Nat.le_trans this hz) (by decide)
    refine ⟨_, _, rfl, rfl, wide, by show 3 ≤ sizeLine; decide, fun t nt => ?_⟩
    refine k _ (j, i, (st : Int) * z) _ (.tup upd_same (.cons (.int _) (.cons (.int _) (.cons (.int _) .nil)))) ⟨hw, hz, ⟨x, y, hx, hy, ?_⟩⟩ (P3.new nt) ((((k1.trans k2).new nl).trans k3).new nt)
    rw [hst]
    exact Int.dvd_mul_right _ _
abbrev sc_l_programN : List Str := ["pot", "machine", "most", "turn"]
theorem sc_l_program : FnScope sc_l_programN ["pot", "machine", "most"] (defScope s_l_program) := ⟨rfl, rfl, rfl, by decide +kernel, rfl, by decide +kernel, by decide +kernel⟩
theorem shaped_wires (ws : List (Nat × Nat)) : SeqAt.shaped (.tuple (ws.map wD)) = true := by
  have a : ∀ ws : List (Nat × Nat), PyData.canLayAll0 (ws.map wD) = true := by
    intro ws
    induction ws with
    | nil => rfl
    | cons w ws ih =>
      rw [List.map_cons]
      simp only [PyData.canLayAll0, wD, PyData.canLay0, ih, Bool.and_self]
  have b := depth_wires ws
  unfold SeqAt.shaped
  simp only [PyData.canLay0, PyData.depth, a, Bool.true_and]
  exact decide_eq_true (by omega)
theorem eqv_nilT (ws : List (Nat × Nat)) : PyData.eqv (.tuple (ws.map wD)) (.tuple []) = ws.isEmpty := by
  cases ws with
  | nil => rfl
  | cons n ns => rfl
theorem ok_program {f : Addr} {fd : FuncData} (D : DefAt K mg "_law_program" s_l_program ["pot", "machine", "most"] f fd) (T : Blt mg) (c_l_dip : Cal P w K mg base 1 "_law_dip" spDip) (c_l_deed : Cal P w K mg base 3 "_law_deed" spDeed) : Cal P w K mg base 4 "_law_program" spProgram := by
  refine cal_of D sc_l_program (fun vs H Q E h => ?_) (fun cdv A outer s H vs Q E hr h => ?_)
  · obtain ⟨p, q, v, ss, ws, m, rfl, _⟩ := h
    rfl
  · obtain ⟨p, q, v, ss, ws, m, rfl, hP, im, ok, m9, k⟩ := h
    refine ⟨_, (pss_cons (ps_if (pt_cmpR (op_eqDK K rfl hr.units) (pe_ix (ix_tupK K rfl) (pv 1) pe_int (fun _ _ => rfl)) (pe_tup pa_nil) (nomark _)) (pss_one (ps_ret (pe_tup pa_nil))) pss_nil)
      (pss_one (ps_ret (pe_callTy (call_tupleK K rfl) (by rfl) T.tuple (by decide +kernel) (pa_cons (pe_lc (own := [("turn", 3)]) rfl sc_l_program.nd (pi_range1 (by rfl) T.range (pa_cons (pe_c c_l_dip hr (by decide) rfl (pa_cons (pv 0) (pa_cons (pe_op op_add (pv 2) pe_int) pa_nil))) pa_nil)) (blkOk_by (N := sc_l_programN) (sc := defScope s_l_program) (by decide +kernel)) (fun _ _ _ _ _ => (pg_name (i := 3) sc_l_program.nd rfl (by first | exact .inl rfl | exact .inr rfl))) (fun _ _ _ _ _ => pts_nil) (fun _ _ _ _ _ => (pe_c c_l_deed hr (by decide) rfl (pa_cons (pv 0) (pa_cons (pv 1) pa_nil))))) pa_nil))))), ?_⟩
    obtain ⟨a, xs, rfl, ha, ia⟩ := id im.tuple
    obtain ⟨c0, g1, im1⟩ := ia.get (i := 1) rfl
    refine ⟨_, rfl, a, _, 1, _, rfl, rfl, SqT.of ha, atI_nat (j := 1) g1, by show 0 ≤ sizeLine; decide, fun t nt => ?_⟩
    refine ⟨.tuple (ws.map wD), .tuple [], (im1.k ((Tk.refl H).new nt)).dp, .tup (SqT.of upd_same) .nil, shaped_wires ws, rfl, _, rfl, ?_⟩
    rw [eqv_nilT]
    have P1 := hP.new (o := .tup []) nt
    have k1 := (Kp.refl p q H).new (o := .tup []) nt
    cases ws with
    | nil =>
      refine iteT ⟨by show 0 ≤ sizeLine; decide, fun u nu => ?_⟩
      exact k _ [] _ (.tup upd_same .nil) (fun d hd => by cases hd) (Nat.zero_le _) (P1.new nu) (k1.new nu)
    | cons w0 ws0 =>
      refine iteF ?_
      have ne : w0 :: ws0 ≠ [] := List.cons_ne_nil _ _
      generalize w0 :: ws0 = ws at *
      refine ⟨_, rfl, _, rfl, _, _, rfl, rfl, p, q, _, rfl, P1, by omega, by omega, fun r H2 r0 r1 P2 k2 => ⟨r, rfl, by omega, by omega, fun d nd => ?_⟩⟩
      obtain ⟨nd1, nd2⟩ := P2.np nd
      have ndH : H d = none := (k1.trans k2).fresh nd1 nd2 nd
      have im2 := (im.k ((Tk.refl H).new (o := .tup []) nt)).k (k2.tk P1)
      generalize hT : upd H t (.tup []) = HT at *
      refine lc_range (lo := 0) (n := r.toNat) (fun i H' => Pt H' p q ∧ Kp p q H2 H' ∧ ∃ (vs : List V) (ds : List (Nat × Nat × Int)), H' d = some (.lst vs) ∧ ImAll H' vs (ds.map dD) ∧ ds.length = i ∧ ∀ x ∈ ds, DOk ss ws x)
        ⟨P2.new nd, (Kp.refl p q H2).new nd, [], [], upd_same, .nil, rfl, fun x hx => by cases hx⟩ ?_ ?_
      · rintro i H3 hi ⟨P3, k3, vs, ds, hd, ia3, hl, ok3⟩
        have lv : vs.length = ds.length := by rw [ia3.length, List.length_map]
        refine ⟨rfl, _, rfl, _, rfl, p, q, _, ss, ws, rfl, P3, im2.k (k3.tk P2), ok, ne, fun u dd H4 imu dok P4 k4 => ?_⟩
        have hd4 : H4 d = some (.lst vs) := k4 _ _ nd1 nd2 hd
        have tk5 : Tk H4 (upd H4 d (.lst (vs ++ [u]))) := (Tk.refl H4).put hd4
        refine ⟨vs, hd4, small1000 (by omega), P4.put nd1 nd2, (k3.trans k4).put nd, vs ++ [u], ds ++ [dd], upd_same, ?_, by rw [List.length_append, List.length_singleton, hl], fun x hx => ?_⟩
        · rw [List.map_append]
          exact ((ia3.k (k4.tk P3)).k tk5).append (.cons (imu.k tk5) .nil)
        · rcases List.mem_append.mp hx with h | h
          · exact ok3 x h
          · rw [List.mem_singleton.mp h]
            exact dok
      · rintro H3 ⟨P3, k3, vs, ds, hd, ia3, hl, ok3⟩
        refine ⟨d, _, rfl, .inl ⟨SqL.of hd, fun u nu => ?_⟩⟩
        refine k _ ds _ (.tup upd_same (ia3.k ((Tk.refl H3).new nu))) ok3 (by omega) (P3.new nu) (((k1.trans k2).trans k3).new nu)

/-! ### _law_run -/
abbrev sc_l_runN : List Str := ["sizes", "program", "held", "found", "j", "i", "c", "item", "size"]
theorem sc_l_run : FnScope sc_l_runN ["sizes", "program", "held"] (defScope s_l_run) := ⟨rfl, rfl, rfl, by decide +kernel, rfl, by decide +kernel, by decide +kernel⟩
theorem ok_runI {f : Addr} {fd : FuncData} (D : DefAt K mg "_law_run" s_l_run ["sizes", "program", "held"] f fd) (T : Blt mg) (T_zip : mg "zip" = none) : Cal P w K mg base 1 "_law_run" (spRunI K) := by
  refine cal_of D sc_l_run (fun vs H Q E h => ?_) (fun cdv A outer s H vs Q E hr h => ?_)
  · obtain ⟨v, u, a, ss, ns, l, rfl, _⟩ := h
    rfl
  · obtain ⟨v, u, a, ss, ns, l, rfl, imv, imu, ha, ln, l100, ok, dok, l1000, hm, k⟩ := h
    refine ⟨_, (pss_cons (ps_set (i := 3) sc_l_run.nd rfl (.inl rfl) (pe_callTy (call_listK K rfl) (by rfl) T.list (by decide +kernel) (pa_cons (pv 2) pa_nil)))
      (pss_cons (ps_for PassesOwn.never rfl (pi_tupK K rfl (pv 1)) (pg_tup rfl (pgs_cons (pg_name (i := 4) sc_l_run.nd rfl (.inl rfl)) (pgs_cons (pg_name (i := 5) sc_l_run.nd rfl (.inl rfl)) (pgs_cons (pg_name (i := 6) sc_l_run.nd rfl (.inl rfl)) pgs_nil)))) (pss_one (ps_asg (pe_op op_add (pe_ix (ix_listK K rfl) (pv 3) (pv 5) (fun _ _ => rfl)) (pe_op op_mulW (pv 6) (pe_ix (ix_listK K rfl) (pv 3) (pv 4) (fun _ _ => rfl)))) (pg_sub (pv 3) (pv 5) set_list))))
      (pss_one (ps_ret (pe_callTy (call_tupleK K rfl) (by rfl) T.tuple (by decide +kernel) (pa_cons (pe_lc (own := [("item", 7), ("size", 8)]) rfl sc_l_run.nd (pi_zipG K rfl .l .t (by rfl) T_zip (pa_cons (pv 3) (pa_cons (pv 0) pa_nil))) (blkOk_by (N := sc_l_runN) (sc := defScope s_l_run) (by decide +kernel)) (fun _ _ _ _ _ => (pg_tupK (n := 2) K rfl rfl (pgs_cons (pg_name (i := 7) sc_l_run.nd rfl (by first | exact .inl rfl | exact .inr rfl)) (pgs_cons (pg_name (i := 8) sc_l_run.nd rfl (by first | exact .inl rfl | exact .inr rfl)) pgs_nil)))) (fun _ _ _ _ _ => pts_nil) (fun _ _ _ _ _ => (pe_op op_mod (pv 7) (pv 8)))) pa_nil)))))), ?_⟩
    obtain ⟨b, ys, rfl, hb, ib⟩ := imv.tuple
    have ey := ib.ints
    subst ey
    obtain ⟨c, zs, rfl, hc, ic⟩ := imu.tuple
    have dsm : ∀ d ∈ l, d.2.2.natAbs < 2 ^ 200 := fun d hd => Nat.lt_of_le_of_lt (dok d hd).2.2 (by decide)
    refine ⟨_, rfl, a, _, rfl, ha, fun g ng => ?_⟩
    have sm0 : Same H (upd H g (.lst (ns.map V.int))) := Same.new (Same.refl H) ng
    refine ⟨_, rfl, c, rfl, ⟨_, SqT.of (sm0 _ _ hc)⟩, for_tup (K := K) (a := c) (xs := zs) (fun t σ H' => ∃ v4 v5 v6 : Option V, σ = [some (.ref b), some (.ref c), some (.ref a), some (.ref g), v4, v5, v6, none, none] ∧ Same H H' ∧ H' g = some (.lst ((farI (l.take t) ns).map V.int)))
      ⟨none, none, none, rfl, sm0, upd_same⟩ (fun t σ H' _ ⟨_, _, _, _, z, _⟩ => SqT.of (z _ _ hc)) ?_ ?_⟩
    · rintro t y σ H1 hy ⟨v4, v5, v6, rfl, sm, hg⟩
      have lt : t < l.length := by
        have := (List.getElem?_eq_some_iff.mp hy).1
        rw [ic.length, List.length_map] at this
        exact this
      obtain ⟨d, hd⟩ : ∃ d, l[t]? = some d := ⟨l[t], List.getElem?_eq_getElem lt⟩
      obtain ⟨y', e1, imd⟩ := ic.get (i := t) (d := dD d) (by rw [List.getElem?_map, hd]; rfl)
      rw [hy] at e1
      cases e1
      obtain ⟨e, ws, rfl, he, ie⟩ := (Same.k sm imd).tuple
      have ew : ws = [.int (d.1 : Int), .int (d.2.1 : Int), .int d.2.2] := by
        match ws, ie with
        | _, .cons (.int _) (.cons (.int _) (.cons (.int _) .nil)) => rfl
      subst ew
      obtain ⟨dj, di, dc⟩ := dok d (List.mem_of_getElem? hd)
      have nx := farI_next (ns := ns) hd
      have fl := farI_len (l.take t) ns
      have fm := farI_most (l := l.take t) (fun x hx => dsm x (List.mem_of_mem_take hx)) hm
      have tl : (l.take t).length ≤ 1000 := by
        rw [List.length_take]
        omega
      generalize farI (l.take t) ns = fs at *
      have gm : (fs.getD d.1 0).natAbs < 2 ^ 300000 := Nat.lt_of_lt_of_le (getD_most fm d.1) (Nat.pow_le_pow_right (by decide) (by omega))
      refine ⟨e, _, rfl, SqT.of he, rfl, _, _, rfl, _, _, rfl, _, _, rfl, rfl, ?_⟩
      refine ⟨_, rfl, _, rfl, g, _, _, _, rfl, rfl, SqL.of hg, atI_nat (getD_get (by omega)), _, rfl, _, rfl, _, rfl, g, _, _, _, rfl, rfl, SqL.of hg, atI_nat (getD_get (by omega)), _, _, rfl, rfl, wide_mul (a := 200) (b := 300000) (dsm d (List.mem_of_getElem? hd)) gm (by decide) (by decide) (by decide), _, _, rfl, rfl, _, rfl, _, rfl, ?_⟩
      refine ⟨g, _, _, d.2.1, rfl, rfl, hg, ixN_of (by rw [List.length_map]; omega), some (.int (d.1 : Int)), some (.int (d.2.1 : Int)), some (.int d.2.2), rfl, ?_, ?_⟩
      · intro x o hx
        by_cases e : x = g
        · subst e
          rw [ng] at hx
          cases hx
        · rw [upd_ne e]
          exact sm _ _ hx
      · rw [upd_same, nx]
        unfold addI
        rw [List.map_set]
    · rintro σ H1 ⟨v4, v5, v6, rfl, sm, hg⟩
      have full : l.take zs.length = l := by rw [ic.length, List.length_map, List.take_length]
      rw [full] at hg
      have fl := farI_len l ns
      generalize hfs : farI l ns = fs at *
      have gne : ∀ e : Addr, H1 e = none → g ≠ e := fun e ne z => by rw [z, ne] at hg; cases hg
      refine ⟨_, rfl, _, rfl, g, b, _, _, rfl, SqS.of_l hg, SqS.of_t (sm _ _ hb), fun e ne => ?_⟩
      have neH : H e = none := Same.free sm ne
      refine lc_it (walk_zipG (n := ss.length) (by rw [List.length_map, List.length_map]; omega)) (fun i H' => Same H H' ∧ H' g = some (.lst (fs.map V.int)) ∧ H' e = some (.lst (((remI fs ss).take i).map V.int))) ⟨Same.new sm ne, keepN hg ne, upd_same⟩ (fun i H' _ z => ⟨SqS.of_l z.2.1, SqS.of_t (z.1 _ _ hb)⟩) ?_ ?_
      · rintro i x H2 H3 hi ⟨sm2, hg2, he2⟩ ⟨T1, x1, x2, rfl, nT, rfl, e1, e2⟩
        obtain ⟨n, hn, rfl⟩ := map_get e1
        obtain ⟨s, hs, rfl⟩ := map_get e2
        obtain ⟨s2, _⟩ := (ok s (List.mem_of_getElem? hs)).bnd
        refine ⟨T1, _, rfl, SqT.of upd_same, rfl, _, _, rfl, _, _, rfl, rfl, rfl, ?_⟩
        refine ⟨_, rfl, _, rfl, _, _, rfl, rfl, (show (0 : Int) < s by omega), _, keepN he2 nT, small1000 (by rw [List.length_map, List.length_take]; omega), Same.put (Same.new sm2 nT) neH, ?_, ?_⟩
        · rw [upd_ne (gne e ne)]
          exact keepN hg2 nT
        · rw [upd_same, remI_take hn hs, List.map_append]
          rfl
      · rintro H2 ⟨sm2, hg2, he2⟩
        refine ⟨e, _, rfl, .inl ⟨SqL.of he2, fun t nt => ?_⟩⟩
        have full2 : (remI fs ss).take ss.length = remI fs ss := by
          rw [List.take_of_length_le]
          rw [remI_len (by omega)]
          exact Nat.le_refl _
        rw [full2]
        refine k _ _ (.tup upd_same ?_) (Same.new sm2 nt)
        unfold runI
        rw [hfs]
        exact ImAll.of_ints _ _
theorem zw_get {α β γ : Type} {f : α → β → γ} {l : List α} {m : List β} {i : Nat} {x : α} {y : β} (h1 : l[i]? = some x) (h2 : m[i]? = some y) : (List.zipWith f l m)[i]? = some (f x y) := by
  rw [List.getElem?_zipWith, h1, h2]
theorem take_get {α : Type} {l : List α} {i : Nat} {x : α} (h : l[i]? = some x) : l.take (i + 1) = l.take i ++ [x] := by
  rw [List.take_add_one, h]
  rfl
theorem zw_len {α β γ : Type} {f : α → β → γ} {l : List α} {m : List β} {n : Nat} (h1 : l.length = n) (h2 : m.length = n) : (List.zipWith f l m).length = n := by
  rw [List.length_zipWith]
  omega
theorem range_get {n i : Nat} (h : i < n) : (List.range n)[i]? = some i := by
  rw [List.getElem?_eq_getElem (by rw [List.length_range]; exact h), List.getElem_range]
theorem rm_get {α : Type} {n i : Nat} (f : Nat → α) (h : i < n) : ((List.range n).map f)[i]? = some (f i) := by
  rw [List.getElem?_map, range_get h]
  rfl
theorem rm_full {α : Type} {n : Nat} (f : Nat → α) : ((List.range n).map f).take n = (List.range n).map f := List.take_of_length_le (by rw [List.length_map, List.length_range]; exact Nat.le_refl _)

theorem cok_mostR {ss hs : List Int} (ok : ∀ s ∈ ss, SizeOk s) (h : COk ss hs) : mostI 300 hs := fun n hn => by
  obtain ⟨i, hi, rfl⟩ := List.getElem_of_mem hn
  obtain ⟨s, es⟩ := get_some (show i < ss.length by rw [← h.len]; exact hi)
  obtain ⟨a, b⟩ := h.low i _ s (List.getElem?_eq_getElem hi) es
  obtain ⟨_, c⟩ := (ok s (List.mem_of_getElem? es)).bnd
  exact Nat.lt_of_le_of_lt (show hs[i].natAbs ≤ 10 ^ 30 by omega) (by decide)

/-! ### _law_sum, _law_is_sum -/
def spRun : Sp := fun vs H Q _ => ∃ (m l h : V) (ss : List Int) (ws : List (Nat × Nat)) (prog : List (Nat × Nat × Int)) (hs : List Int), vs = [m, l, h] ∧ Im H m (mD ss ws) ∧ MOk ss ws ∧ Im H l (pD prog) ∧ (∀ d ∈ prog, DOk ss ws d) ∧ prog.length ≤ 1000 ∧ Im H h (sD hs) ∧ COk ss hs ∧
  ∀ (u : V) (H' : Hp), Im H' u (sD (runP ss prog hs)) → Same H H' → Q u H'
def spDone : Sp := fun vs H Q _ => ∃ (m h e : V) (ss : List Int) (ws : List (Nat × Nat)) (d : Nat × Nat × Int) (hs : List Int), vs = [m, h, e] ∧ Im H m (mD ss ws) ∧ MOk ss ws ∧ Im H e (dD d) ∧ DOk ss ws d ∧ Im H h (sD hs) ∧ COk ss hs ∧
  ∀ (u : V) (H' : Hp), Im H' u (sD (doneI ss hs d)) → Same H H' → Q u H'

/-! ### the program's run, done -/
abbrev sc_runN : List Str := ["machine", "program", "contents", "sizes", "held", "j", "i", "c"]
theorem sc_run : FnScope sc_runN ["machine", "program", "contents"] (defScope s_run) := ⟨rfl, rfl, rfl, by decide +kernel, rfl, by decide +kernel, by decide +kernel⟩
theorem fn_run {f : Addr} {fd : FuncData} (D : DefAt K mg "run" s_run ["machine", "program", "contents"] f fd) (T : Blt mg) : FnOk P w K mg base CX0 1 f fd ["machine", "program", "contents"] spRun := by
  refine D.fn.ok sc_run (fun vs H Q E h => ?_) (fun cdv A outer s H vs Q E hr h => ?_)
  · obtain ⟨m, l, h, ss, ws, prog, hs, rfl, _⟩ := h
    rfl
  · obtain ⟨m, l, h, ss, ws, prog, hs, rfl, imm, ok, iml, dok, p1000, imh, co, k⟩ := h
    refine ⟨_, (pss_cons (ps_set (i := 3) sc_run.nd rfl (.inl rfl) (pe_ix (ix_tupK K rfl) (pv 0) pe_int (fun _ _ => rfl)))
      (pss_cons (ps_set (i := 4) sc_run.nd rfl (.inl rfl) (pe_callTy (call_listK K rfl) (by rfl) T.list (by decide +kernel) (pa_cons (pv 2) pa_nil)))
      (pss_cons (ps_for PassesOwn.never rfl (pi_tupK K rfl (pv 1)) (pg_tup rfl (pgs_cons (pg_name (i := 5) sc_run.nd rfl (.inl rfl)) (pgs_cons (pg_name (i := 6) sc_run.nd rfl (.inl rfl)) (pgs_cons (pg_name (i := 7) sc_run.nd rfl (.inl rfl)) pgs_nil)))) (pss_one (ps_asg (pe_op op_mod (pe_op op_add (pe_ix (ix_listK K rfl) (pv 4) (pv 6) (fun _ _ => rfl)) (pe_op op_mulW (pv 7) (pe_ix (ix_listK K rfl) (pv 4) (pv 5) (fun _ _ => rfl)))) (pe_ix (ix_tupK K rfl) (pv 3) (pv 6) (fun _ _ => rfl))) (pg_sub (pv 4) (pv 6) set_list))))
      (pss_one (ps_ret (pe_callTy (call_tupleK K rfl) (by rfl) T.tuple (by decide +kernel) (pa_cons (pv 4) pa_nil))))))), ?_⟩
    obtain ⟨a, xs, rfl, ha, ia⟩ := id imm.tuple
    obtain ⟨b0, g0, im0⟩ := ia.get (i := 0) rfl
    obtain ⟨b, ys, rfl, hb, ib⟩ := id im0.tuple
    have ey := ib.ints
    subst ey
    obtain ⟨c, zs, rfl, hc, ic⟩ := id iml.tuple
    obtain ⟨e, us, rfl, he, ie⟩ := id imh.tuple
    have ey := ie.ints
    subst ey
    have l6 := ok.six
    refine ⟨_, rfl, a, _, 0, _, rfl, rfl, SqT.of ha, atI_nat (j := 0) g0, ?_⟩
    refine ⟨_, rfl, e, _, rfl, .inr (SqT.of he), fun g ng => ?_⟩
    have sm0 : Same H (upd H g (.lst (hs.map V.int))) := Same.new (Same.refl H) ng
    refine ⟨_, rfl, c, rfl, ⟨_, SqT.of (sm0 _ _ hc)⟩, for_tup (K := K) (a := c) (xs := zs) (fun t σ H' => ∃ v5 v6 v7 : Option V, σ = [some (.ref a), some (.ref c), some (.ref e), some (.ref b), some (.ref g), v5, v6, v7] ∧ Same H H' ∧ H' g = some (.lst ((runP ss (prog.take t) hs).map V.int)))
      ⟨none, none, none, rfl, sm0, upd_same⟩ (fun t σ H' _ ⟨_, _, _, _, z, _⟩ => SqT.of (z _ _ hc)) ?_ ?_⟩
    · rintro t y σ H1 hy ⟨v5, v6, v7, rfl, sm, hg⟩
      have lt : t < prog.length := by
        have := (List.getElem?_eq_some_iff.mp hy).1
        rw [ic.length, List.length_map] at this
        exact this
      obtain ⟨d, hd⟩ : ∃ d, prog[t]? = some d := ⟨prog[t], List.getElem?_eq_getElem lt⟩
      obtain ⟨y', e1, imd⟩ := ic.get (i := t) (d := dD d) (by rw [List.getElem?_map, hd]; rfl)
      rw [hy] at e1
      cases e1
      obtain ⟨q, ws', rfl, hq, iq⟩ := (Same.k sm imd).tuple
      have ew : ws' = [.int (d.1 : Int), .int (d.2.1 : Int), .int d.2.2] := by
        match ws', iq with
        | _, .cons (.int _) (.cons (.int _) (.cons (.int _) .nil)) => rfl
      subst ew
      have dk := dok d (List.mem_of_getElem? hd)
      obtain ⟨dj, di, dn⟩ := ok.wires.low _ dk.wire
      have co' : COk ss (runP ss (prog.take t) hs) := runP_cok ok.size co
      obtain ⟨s, hs'⟩ := get_some (ss := ss) di
      have nx := (runP_next (ss := ss) (hs := hs) hd).trans (doneI_set ok.size co' hs')
      generalize runP ss (prog.take t) hs = fs at *
      have lf := co'.len
      obtain ⟨s2, _⟩ := (ok.size s (List.mem_of_getElem? hs')).bnd
      have hsV : (ss.map V.int)[d.2.1]? = some (V.int s) := by rw [List.getElem?_map, hs']; rfl
      refine ⟨q, _, rfl, SqT.of hq, rfl, _, _, rfl, _, _, rfl, _, _, rfl, rfl, ?_⟩
      refine ⟨_, rfl, _, rfl, g, _, _, _, rfl, rfl, SqL.of hg, atI_nat (getD_get (by omega)), _, rfl, _, rfl, _, rfl, g, _, _, _, rfl, rfl, SqL.of hg, atI_nat (getD_get (by omega)), _, _, rfl, rfl, wide_mul (a := 210) (b := 110) (Nat.lt_of_le_of_lt dk.most (by decide)) (co'.most ok.size _) (by decide) (by decide) (by decide), _, _, rfl, rfl, _, rfl, _, rfl, b, _, _, _, rfl, rfl, SqT.of (sm _ _ hb), atI_nat hsV, _, _, rfl, rfl, (show (0 : Int) < s by omega), ?_⟩
      refine ⟨_, rfl, _, rfl, g, _, _, d.2.1, rfl, rfl, hg, ixN_of (by rw [List.length_map]; omega), some (.int (d.1 : Int)), some (.int (d.2.1 : Int)), some (.int d.2.2), rfl, ?_, ?_⟩
      · intro x o hx
        by_cases e : x = g
        · subst e
          rw [ng] at hx
          cases hx
        · rw [upd_ne e]
          exact sm _ _ hx
      · rw [upd_same, nx, List.map_set]
    · rintro σ H1 ⟨v5, v6, v7, rfl, sm, hg⟩
      have full : prog.take zs.length = prog := by rw [ic.length, List.length_map, List.take_length]
      rw [full] at hg
      refine ⟨_, rfl, g, _, rfl, .inl ⟨SqL.of hg, fun t nt => ?_⟩⟩
      exact k _ _ (.tup upd_same (ImAll.of_ints _ _)) (Same.new sm nt)
theorem k_run {f : Addr} {fd : FuncData} (F : Fun K "run" "run" s_run f fd) : KBinds K fd ["machine", "program", "contents"] ["contents", "program", "machine"] kg321 kg321 := by
  obtain ⟨oc, od, kV, doc, pm, an, cdv, ct, osl, rfl, lk, hcd⟩ := F.ex
  refine ⟨fun s us ws _ hl => ?_, kg321_rel⟩
  match us, ws, hl with
  | [], [a, b, c], _ => exact .of_eq rfl
abbrev sc_doneN : List Str := ["machine", "contents", "deed"]
theorem sc_done : FnScope sc_doneN ["machine", "contents", "deed"] (defScope s_done) := ⟨rfl, rfl, rfl, by decide +kernel, rfl, by decide +kernel, by decide +kernel⟩
theorem fn_done {f : Addr} {fd : FuncData} (D : DefAt K mg "done" s_done ["machine", "contents", "deed"] f fd) (c_run : Cal P w K mg base 1 "run" spRun) : FnOk P w K mg base CX0 2 f fd ["machine", "contents", "deed"] spDone := by
  refine D.fn.ok sc_done (fun vs H Q E h => ?_) (fun cdv A outer s H vs Q E hr h => ?_)
  · obtain ⟨m, h, e, ss, ws, d, hs, rfl, _⟩ := h
    rfl
  · obtain ⟨m, h, e, ss, ws, d, hs, rfl, imm, ok, ime, dok, imh, co, k⟩ := h
    refine ⟨_, (pss_one (ps_ret (pe_c c_run hr (by decide) rfl (pa_cons (pv 0) (pa_cons (pe_tup (pa_cons (pv 2) pa_nil)) (pa_cons (pv 1) pa_nil)))))), ?_⟩
    refine ⟨_, rfl, _, rfl, by show 1 ≤ sizeLine; decide, fun t nt => ⟨_, rfl, ?_⟩⟩
    have sm : Same H (upd H t (.tup [e])) := Same.new (Same.refl H) nt
    refine ⟨m, .ref t, h, ss, ws, [d], hs, rfl, Same.k sm imm, ok, .tup upd_same (.cons (Same.k sm ime) .nil), fun x hx => ?_, by show 1 ≤ 1000; decide, Same.k sm imh, co, fun u H' im sm' => k u H' im (sm.trans sm')⟩
    rw [List.mem_singleton.mp hx]
    exact dok
theorem k_done {f : Addr} {fd : FuncData} (F : Fun K "done" "done" s_done f fd) : KBinds K fd ["machine", "contents", "deed"] ["deed", "contents", "machine"] kg321 kg321 := by
  obtain ⟨oc, od, kV, doc, pm, an, cdv, ct, osl, rfl, lk, hcd⟩ := F.ex
  refine ⟨fun s us ws _ hl => ?_, kg321_rel⟩
  match us, ws, hl with
  | [], [a, b, c], _ => exact .of_eq rfl

/-! ### _law_every, _law_small -/
theorem catJ {K : PySem.W.Frag} {a b : Addr} {xs ys : List V} {H : Hp} {Q : VK} (h : H a = some (.tup xs)) (h2 : H b = some (.tup ys)) (l : xs.length + ys.length ≤ sizeLine) (k : ∀ c H', Same H H' → H' c = some (.tup (xs ++ ys)) → Q (.ref c) H') : rCatA K (.ref a) (.ref b) H Q :=
  ⟨a, b, xs, ys, rfl, rfl, SqT.of h, SqT.of h2, l, fun e => k b H (Same.refl H) (by rw [e, List.nil_append]; exact h2), fun _ e => k a H (Same.refl H) (by rw [e, List.append_nil]; exact h), fun _ _ p n => k p _ (Same.new (Same.refl H) n) upd_same⟩
theorem ImAll.getV {H : Hp} : ∀ {vs : List V} {ds : List PyData} {i : Nat} {v : V}, ImAll H vs ds → vs[i]? = some v → ∃ d, ds[i]? = some d ∧ Im H v d
  | _, _, _, _, .nil, e => by simp at e
  | _, _, 0, _, .cons a _, e => by
    cases Option.some.inj e
    exact ⟨_, rfl, a⟩
  | _, _, i + 1, v, .cons _ b, e => by
    obtain ⟨d, h1, h2⟩ := ImAll.getV (i := i) b (by simpa using e)
    exact ⟨d, by simpa using h1, h2⟩
abbrev sc_l_everyN : List Str := ["sizes", "found", "size", "longer", "held", "item"]
theorem sc_l_every : FnScope sc_l_everyN ["sizes"] (defScope s_l_every) := ⟨rfl, rfl, rfl, by decide +kernel, rfl, by decide +kernel, by decide +kernel⟩
theorem ok_every {f : Addr} {fd : FuncData} (D : DefAt K mg "_law_every" s_l_every ["sizes"] f fd) (T : Blt mg) : Cal P w K mg base 1 "_law_every" spEvery := by
  refine cal_of D sc_l_every (fun vs H Q E h => ?_) (fun cdv A outer s H vs Q E hr h => ?_)
  · obtain ⟨x, ss, rfl, _⟩ := h
    rfl
  · obtain ⟨x, ss, rfl, imx, ok, p1000, k⟩ := h
    refine ⟨_, (pss_cons (ps_set (i := 1) sc_l_every.nd rfl (.inl rfl) (pe_lst (pa_cons (pe_tup pa_nil) pa_nil)))
      (pss_cons (ps_for PassesOwn.never rfl (pi_tupK K rfl (pv 0)) (pg_name (i := 2) sc_l_every.nd rfl (.inl rfl)) (pss_cons (ps_set (i := 3) sc_l_every.nd rfl (.inl rfl) (pe_lst pa_nil))
      (pss_cons (ps_for PassesOwn.never rfl (pi_listK K rfl (pv 1)) (pg_name (i := 4) sc_l_every.nd rfl (.inr rfl)) (pss_one (ps_set (i := 3) sc_l_every.nd rfl (.inl rfl) (pe_op op_cat (pv 3) (pe_lc (own := [("item", 5)]) rfl sc_l_every.nd (pi_range1 (by rfl) T.range (pa_cons (pv 2) pa_nil)) (blkOk_by (N := sc_l_everyN) (sc := defScope s_l_every) (by decide +kernel)) (fun _ _ _ _ _ => (pg_name (i := 5) sc_l_every.nd rfl (by first | exact .inl rfl | exact .inr rfl))) (fun _ _ _ _ _ => pts_nil) (fun _ _ _ _ _ => (pe_op (op_catAK K rfl) (pv 4) (pe_tup (pa_cons (pv 5) pa_nil)))))))))
      (pss_one (ps_set (i := 1) sc_l_every.nd rfl (.inl rfl) (pv 3))))))
      (pss_one (ps_ret (pv 1))))), ?_⟩
    obtain ⟨b, bs, rfl, hb, ib⟩ := imx.tuple
    have ey := ib.ints
    subst ey
    have lb : (ss.map V.int).length = ss.length := List.length_map ..
    have pr : ∀ i, i ≤ ss.length → prodN (ss.take i) ≤ 1000 := fun i hi => by
      have := prod_le ok (ss.length - i) i (by omega)
      rw [show i + (ss.length - i) = ss.length by omega, List.take_length] at this
      omega
    refine ⟨by show 0 ≤ sizeLine; decide, fun t nt => ⟨by show 1 ≤ sizeLine; decide, fun g ng => ?_⟩⟩
    have ngH : H g = none := Same.free (Same.new (Same.refl H) nt) ng
    have s0 : Same H (upd (upd H t (.tup [])) g (.lst [.ref t])) := Same.new (Same.new (Same.refl H) nt) ng
    refine ⟨_, rfl, b, rfl, ⟨_, SqT.of (s0 _ _ hb)⟩, for_tup (K := K) (a := b) (xs := ss.map V.int) (fun i σ H' => ∃ (a : Addr) (v2 v3 v4 : Option V) (us : List V), σ = [some (.ref b), some (.ref a), v2, v3, v4, none] ∧ Same H H' ∧ H a = none ∧ H' a = some (.lst us) ∧ ImAll H' us ((everyI (ss.take i)).map sD))
      ⟨g, none, none, none, [.ref t], rfl, s0, ngH, upd_same, .cons (.tup (by rw [upd_ne (fun z => by rw [← z, upd_same] at ng; cases ng)]; exact upd_same) .nil) .nil⟩ (fun i σ H' _ ⟨_, _, _, _, _, _, z, _⟩ => SqT.of (z _ _ hb)) ?_ ?_⟩
    · rintro i y σ H1 hy ⟨a, v2, v3, v4, us, rfl, sm1, na, ha, iu⟩
      obtain ⟨s, hs, rfl⟩ := map_get hy
      have li := (List.getElem?_eq_some_iff.mp hs).1
      have ev := every_ok ss ok i (by omega)
      have p1 := pr i (by omega)
      have p2 := pr (i + 1) (by omega)
      rw [prod_next hs] at p2
      have pp := prod_pos ok i (by omega)
      obtain ⟨m, rfl, m2, m3⟩ := (ok s (List.mem_of_getElem? hs)).nat
      have lu : us.length = (everyI (ss.take i)).length := by rw [iu.length, List.length_map]
      have lE := ev.len
      have m1000 : m ≤ 1000 := by
        have := Nat.le_mul_of_pos_left m pp
        rw [Int.toNat_natCast] at p2
        omega
      refine ⟨by show 0 ≤ sizeLine; decide, fun l nl => ?_⟩
      have nlH : H l = none := Same.free sm1 nl
      have s2 : Same H1 (upd H1 l (.lst [])) := Same.new (Same.refl H1) nl
      refine ⟨_, rfl, a, rfl, ⟨_, SqL.of (s2 _ _ ha)⟩, for_list (K := K) (a := a) (xs := us) (fun j σ H' => ∃ (c : Addr) (v4 : Option V) (ws : List V), σ = [some (.ref b), some (.ref a), some (.int (m : Int)), some (.ref c), v4, none] ∧ Same H1 H' ∧ H1 c = none ∧ H' c = some (.lst ws) ∧ ImAll H' ws ((exI (m : Int) ((everyI (ss.take i)).take j)).map sD))
        ⟨l, _, [], rfl, s2, nl, upd_same, .nil⟩ (fun j σ H' _ ⟨_, _, _, _, z, _⟩ => SqL.of (z _ _ ha)) ?_ ?_⟩
      · rintro j u σ H2 hu ⟨c, v4', ws, rfl, sm2, nc, hc, iw⟩
        obtain ⟨d, hd, iu'⟩ := ImAll.getV iu hu
        obtain ⟨held, hheld, rfl⟩ := map_get hd
        have ch := ev.cok held (List.mem_of_getElem? hheld)
        obtain ⟨e, es, rfl, he, ie⟩ := (Same.k sm2 iu').tuple
        have ez := ie.ints
        subst ez
        have lh : held.length ≤ 1000 := by
          have := ch.len
          rw [List.length_take] at this
          have h2 := pow_prod ok i (by omega)
          have := Nat.lt_two_pow_self (n := i)
          omega
        have lw : ws.length ≤ 1000 := by
          rw [iw.length, List.length_map, ex_len, List.length_take, Int.toNat_natCast]
          rw [Int.toNat_natCast] at p2
          refine Nat.le_trans ?_ p2
          rw [← lE]
          exact Nat.mul_le_mul_right _ (Nat.min_le_right _ _)
        refine ⟨_, rfl, _, rfl, _, rfl, by omega, by omega, fun D nD => ?_⟩
        have nD1 : H1 D = none := Same.free sm2 nD
        rw [Int.toNat_natCast]
        refine lc_range (lo := 0) (n := m) (fun t H' => Same H2 H' ∧ ∃ xs : List V, H' D = some (.lst xs) ∧ ImAll H' xs ((((List.range m).map fun i : Nat => held ++ [(i : Int)]).take t).map sD)) ⟨Same.new (Same.refl H2) nD, [], upd_same, .nil⟩ ?_ ?_
        · rintro t H3 ht ⟨sm3, xs, hD, ix⟩
          have lx : xs.length ≤ 1000 := by
            rw [ix.length, List.length_map, List.length_take]
            omega
          refine ⟨rfl, _, rfl, _, rfl, by show 1 ≤ sizeLine; decide, fun q nq => ?_⟩
          have s4 : Same H3 (upd H3 q (.tup [.int ((0 : Int) + (t : Int))])) := Same.new (Same.refl H3) nq
          refine catJ ((sm3.trans s4) _ _ he) upd_same (by rw [List.length_map]; exact Nat.le_trans (Nat.add_le_add_right lh _) (by show 1000 + 1 ≤ sizeLine; decide)) fun r H5 sm5 hr5 => ?_
          have s35 := s4.trans sm5
          have hD5 := s35 _ _ hD
          have tk : Tk H5 (upd H5 D (.lst (xs ++ [.ref r]))) := (Tk.refl _).put hD5
          refine ⟨_, hD5, small1000 (by omega), Same.put (sm3.trans s35) nD, _, upd_same, ?_⟩
          rw [take_get (rm_get (fun i : Nat => held ++ [(i : Int)]) ht), List.map_append]
          refine ((ix.k (Tk.same s35)).k tk).append (.cons (Im.k (.tup hr5 ?_) tk) .nil)
          rw [show held.map V.int ++ [V.int ((0 : Int) + (t : Int))] = (held ++ [(t : Int)]).map V.int by rw [List.map_append, Int.zero_add]; rfl]
          exact ImAll.of_ints _ _
        · rintro H3 ⟨sm3, xs, hD, ix⟩
          rw [rm_full] at ix
          have lx : xs.length ≤ 1000 := by
            rw [ix.length, List.length_map, List.length_map, List.length_range]
            exact m1000
          refine ⟨c, D, ws, xs, rfl, rfl, sm3 _ _ hc, hD, Nat.le_trans (Nat.add_le_add lw lx) (by decide), fun r nr => ?_⟩
          have s5 : Same H2 (upd H3 r (.lst (ws ++ xs))) := Same.new sm3 nr
          refine ⟨r, some (.ref e), ws ++ xs, rfl, sm2.trans s5, Same.free (sm2.trans sm3) nr, upd_same, ?_⟩
          have e2 : exI (m : Int) ((everyI (ss.take i)).take (j + 1)) = exI (m : Int) ((everyI (ss.take i)).take j) ++ ((List.range m).map fun i : Nat => held ++ [(i : Int)]) := by
            rw [take_get hheld]
            unfold exI
            rw [List.flatMap_append, List.flatMap_singleton, Int.toNat_natCast]
          rw [e2, List.map_append]
          exact (iw.k (Tk.same s5)).append (ix.k ((Tk.refl H3).new nr))
      · rintro σ H2 ⟨c, v4', ws, rfl, sm2, nc, hc, iw⟩
        rw [lu, List.take_length] at iw
        refine ⟨_, rfl, c, _, _, _, ws, rfl, sm1.trans sm2, Same.free sm1 nc, hc, ?_⟩
        rw [every_next hs]
        exact iw
    · rintro σ H1 ⟨a, v2, v3, v4, us, rfl, sm1, na, ha, iu⟩
      rw [lb, List.take_length] at iu
      exact ⟨_, rfl, k a us H1 na ha iu sm1⟩
abbrev sc_l_smallN : List Str := ["pot", "most", "sizes", "room", "turn", "size"]
theorem sc_l_small : FnScope sc_l_smallN ["pot", "most"] (defScope s_l_small) := ⟨rfl, rfl, rfl, by decide +kernel, rfl, by decide +kernel, by decide +kernel⟩
theorem ok_small {f : Addr} {fd : FuncData} (D : DefAt K mg "_law_small" s_l_small ["pot", "most"] f fd) (T : Blt mg) (c_l_dip : Cal P w K mg base 1 "_law_dip" spDip) (c_l_pick : Cal P w K mg base 2 "_law_pick" spPick) (c_l_wires : Cal P w K mg base 3 "_law_wires" spWires) : Cal P w K mg base 4 "_law_small" spSmall := by
  refine cal_of D sc_l_small (fun vs H Q E h => ?_) (fun cdv A outer s H vs Q E hr h => ?_)
  · obtain ⟨p, q, m, rfl, _⟩ := h
    rfl
  · obtain ⟨p, q, m, rfl, hP, m2, m1000, k⟩ := h
    refine ⟨_, (pss_cons (ps_par (i := 2) (j := 3) rfl sc_l_small.nd rfl rfl (by decide) rfl rfl (pa_cons (pe_lst pa_nil) (pa_cons (pv 1) pa_nil)) (by rfl))
      (pss_cons (ps_for PassesOwn.never rfl (pi_range1 (by rfl) T.range (pa_cons (pe_op op_add pe_int (pe_c c_l_dip hr (by decide) rfl (pa_cons (pv 0) (pa_cons pe_int pa_nil)))) pa_nil)) (pg_name (i := 4) sc_l_small.nd rfl (.inl rfl)) (pss_cons (ps_set (i := 5) sc_l_small.nd rfl (.inl rfl) (pe_c c_l_pick hr (by decide) rfl (pa_cons (pv 0) (pa_cons (pe_lst (pa_cons pe_int (pa_cons pe_int (pa_cons pe_int (pa_cons pe_int (pa_cons pe_int (pa_cons pe_int (pa_cons pe_int (pa_cons pe_int pa_nil))))))))) pa_nil))))
      (pss_one (ps_if (pt_cmpR op_le (pv 5) (pv 3) (nomark _)) (pss_cons (ps_expr (pe_bm PySem.F.plainAttrs_list PySem.F.slot_list_append PySem.F.type_list_append mt_append (pv 2) (pa_cons (pv 5) pa_nil)))
      (pss_one (ps_set (i := 3) sc_l_small.nd rfl (.inl rfl) (pe_op op_fdivW (pv 3) (pv 5))))) pss_nil))))
      (pss_cons (ps_set (i := 2) sc_l_small.nd rfl (.inl rfl) (pe_ifExp (pt_cmpR (op_neDK K rfl hr.units) (pv 2) (pe_lst pa_nil) (nomark _)) (pe_callTy (call_tupleK K rfl) (by rfl) T.tuple (by decide +kernel) (pa_cons (pv 2) pa_nil)) (pe_tup (pa_cons pe_int pa_nil))))
      (pss_one (ps_ret (pe_tup (pa_cons (pv 2) (pa_cons (pe_c c_l_wires hr (by decide) rfl (pa_cons (pv 0) (pa_cons (pe_callB (call_lenK K rfl) (by rfl) T.len PySem.boot_len (pa_cons (pv 2) pa_nil)) pa_nil))) pa_nil)))))))), ?_⟩
    refine ⟨by show 0 ≤ sizeLine; decide, fun g ng => ⟨_, rfl, _, _, rfl, ?_⟩⟩
    obtain ⟨ng1, ng2⟩ := hP.np ng
    have P1 := hP.new (o := .lst []) ng
    have k1 : Kp p q H (upd H g (.lst [])) := (Kp.refl p q H).new ng
    refine ⟨_, rfl, p, q, _, rfl, P1, by decide, by decide, fun r H2 r0 r1 P2 k2 => ⟨_, _, rfl, rfl, _, rfl, by omega, by omega, ?_⟩⟩
    have kt : Kp p q H H2 := k1.trans k2
    have nt1 : (1 + r).toNat ≤ 4 := by omega
    refine for_range (lo := 0) (n := (1 + r).toNat) (fun t σ H' => ∃ (v4 v5 : Option V) (room : Nat) (ns : List Int), σ = [some (.ref p), some (.int (m : Int)), some (.ref g), some (.int (room : Int)), v4, v5] ∧ Pt H' p q ∧ Kp p q H H' ∧ H' g = some (.lst (ns.map V.int)) ∧ 1 ≤ room ∧ prodN ns * room ≤ m ∧ ns.length ≤ t ∧ (∀ s ∈ ns, SizeOk s) ∧ t ≤ 4)
      ⟨none, none, m, [], rfl, P2, kt, k2 _ _ ng1 ng2 upd_same, by omega, by show 1 * m ≤ m; omega, Nat.le_refl _, (fun s hs => absurd hs List.not_mem_nil), Nat.zero_le _⟩ ?_ ?_
    · rintro t σ H3 ht ⟨v4, v5, room, ns, rfl, P3, k3, hg, r1', pr, ln, okn, t4⟩
      refine ⟨_, rfl, by show 8 ≤ sizeLine; decide, fun c nc => ?_⟩
      obtain ⟨nc1, nc2⟩ := P3.np nc
      refine ⟨p, q, c, _, rfl, P3.new nc, upd_same, nc1, nc2, List.cons_ne_nil _ _, by show 8 < 1000; decide, fun v H4 hv P4 k4 => ?_⟩
      obtain ⟨sz, rfl, s2, s9, so⟩ : ∃ z : Nat, v = .int (z : Int) ∧ 2 ≤ z ∧ z ≤ 9 ∧ SizeOk (z : Int) := by
        have all : ([.int 2, .int 2, .int 3, .int 4, .int 4, .int 6, .int 8, .int 9] : List V).all (fun v => okV v && (match v with | .int i => decide (2 ≤ i) && decide (i ≤ 9) | _ => false)) = true := by decide +kernel
        have z := List.all_eq_true.mp all v hv
        rw [Bool.and_eq_true] at z
        obtain ⟨m', e, m1, m2', m3⟩ := okV_of z.1
        subst e
        have z2 := z.2
        rw [Bool.and_eq_true] at z2
        have a1 : (2 : Int) ≤ (m' : Int) := of_decide_eq_true z2.1
        have a2 : (m' : Int) ≤ 9 := of_decide_eq_true z2.2
        exact ⟨m', rfl, by omega, by omega, m', rfl, by omega, m2', m3⟩
      have kc : Kp p q H3 H4 := ((Kp.refl p q H3).new nc).trans k4
      have hg4 := kc _ _ ng1 ng2 hg
      refine ⟨_, rfl, _, rfl, _, _, rfl, rfl, _, rfl, ?_⟩
      refine ite2 (fun h => ?_) (fun h => ?_)
      · have le : sz ≤ room := by
          have := of_decide_eq_true h
          omega
        refine ⟨_, rfl, .inl ⟨rfl, _, SqL.of hg4⟩, _, rfl, g, _, _, rfl, rfl, hg4, small1000 (by rw [List.length_map]; omega), ?_⟩
        have d2 : ((room : Int) / (sz : Int)) = ((room / sz : Nat) : Int) := rfl
        refine ⟨_, rfl, _, rfl, _, _, rfl, rfl, wide_div (b := 20) (by omega) (by omega) (by decide) (by decide), ?_⟩
        refine ⟨_, some (.int (sz : Int)), room / sz, ns ++ [(sz : Int)], by rw [← d2]; rfl, P4.put ng1 ng2, (k3.trans kc).put ng, by rw [upd_same, List.map_append]; rfl, ?_, ?_, by rw [List.length_append, List.length_singleton]; omega, fun s hs => ?_, by omega⟩
        · exact Nat.div_pos le (by omega)
        · rw [prod_snoc, Int.toNat_natCast]
          refine Nat.le_trans ?_ pr
          rw [Nat.mul_assoc]
          exact Nat.mul_le_mul_left _ (Nat.mul_div_le room sz)
        · rcases List.mem_append.mp hs with z | z
          · exact okn s z
          · rw [List.mem_singleton.mp z]
            exact so
      · exact ⟨_, some (.int (sz : Int)), room, ns, rfl, P4, k3.trans kc, hg4, r1', pr, by omega, okn, by omega⟩
    · rintro σ H3 ⟨v4, v5, room, ns, rfl, P3, k3, hg, r1', pr, ln, okn, t4⟩
      have lp : prodN ns ≤ m := Nat.le_trans (Nat.le_mul_of_pos_right _ (by omega)) pr
      refine ⟨_, rfl, by show 0 ≤ sizeLine; decide, fun l nl => ?_⟩
      have s4 : Same H3 (upd H3 l (.lst [])) := Same.new (Same.refl H3) nl
      have P4 := P3.same s4
      have k4 := k3.trans (Kp.same s4)
      refine ⟨.list (ns.map PyData.int), .list [], .lst (SqL.of (s4 _ _ hg)) (DpAll.ints K _ ns), .lst (SqL.of upd_same) .nil, shaped_ints ns, rfl, _, rfl, ?_⟩
      have hg4 := s4 _ _ hg
      rw [eqv_nil]
      generalize upd H3 l (.lst []) = H4 at *
      have rest : ∀ (b : Addr) (ms : List Int) (H5 : Hp), H5 b = some (.tup (ms.map V.int)) → ms ≠ [] → ms.length ≤ 4 → (∀ s ∈ ms, SizeOk s) → prodN ms ≤ m → Pt H5 p q → Kp p q H H5 →
          spWires [.ref p, .int (((ms.map V.int).length : Nat) : Int)] H5 (fun u H6 => 2 ≤ sizeLine ∧ ∀ a, H6 a = none → Q (.ref a) (upd H6 a (.tup [.ref b, u]))) E0 := fun b ms H5 hb ne l4 okm lpm P5 k5 => by
        refine ⟨p, q, ms.length, by rw [List.length_map], by omega, P5, fun v ws H6 iw wok P6 k6 => ⟨by decide, fun a na => ?_⟩⟩
        have t6 := k6.tk P5
        refine k _ ms ws _ (.tup upd_same (.cons (.tup (keepN (t6 _ _ hb) na) (ImAll.of_ints _ _)) (.cons (iw.k ((Tk.refl H6).new na)) .nil))) ⟨List.length_pos_iff.mpr ne, by omega, okm, wok⟩ lpm (P6.new na) ((k5.trans k6).new na)
      cases ns with
      | nil =>
        refine iteF ⟨by show 1 ≤ sizeLine; decide, fun b nb => ?_⟩
        exact ⟨_, rfl, _, rfl, _, rfl, b, _, rfl, .inr (SqT.of upd_same), rest b [2] _ upd_same (List.cons_ne_nil _ _) (by decide) (fun s hs => by rw [List.mem_singleton.mp hs]; exact ⟨2, rfl, by decide, by decide, smo_of (by decide +kernel)⟩) (by show 2 ≤ m; exact m2) (P4.new nb) (k4.new nb)⟩
      | cons n0 ns0 =>
        refine iteT ⟨_, rfl, g, _, rfl, .inl ⟨SqL.of hg4, fun b nb => ?_⟩⟩
        exact ⟨_, rfl, _, rfl, _, rfl, b, _, rfl, .inr (SqT.of upd_same), rest b (n0 :: ns0) _ upd_same (List.cons_ne_nil _ _) (by omega) okn lp (P4.new nb) (k4.new nb)⟩

/-! ### k10: _law_single, _law_is_led, _law_is_deed, _law_are_unlike -/
theorem tab_sh0J : ∀ {t : List (List Int)}, (∀ r ∈ t, r.length ≤ 100 ∧ ∀ n ∈ r, n.natAbs < 2 ^ 1900) → okAll (t.map sD) = true ∧ costAll (t.map sD) ≤ 200000 * t.length ∧ PyData.depthAll (t.map sD) ≤ 1
  | [], _ => ⟨rfl, Nat.le_refl _, Nat.zero_le _⟩
  | r :: t, h => by
    obtain ⟨a, b, c⟩ := tab_sh0J fun x hx => h x (List.mem_cons_of_mem _ hx)
    obtain ⟨l, m⟩ := h r List.mem_cons_self
    refine ⟨?_, ?_, ?_⟩
    · rw [List.map_cons]
      simp only [okAll, sD, okD, okAll_ints r m, a, Bool.and_self]
    · rw [List.map_cons]
      simp only [costAll, sD, NA.cost, costAll_ints, List.length_cons]
      omega
    · rw [List.map_cons]
      simp only [PyData.depthAll, sD, PyData.depth, depth_ints]
      omega
theorem tab_shJ {ss : List Int} {t : List (List Int)} (ok : ∀ s ∈ ss, SizeOk s) (l : ss.length ≤ 6) (h : GT ss t) : Sh (tD t) ∧ NA.cost (tD t) ≤ 2000000 ∧ (tD t).depth ≤ 10 := by
  have q := h.sh ok
  obtain ⟨a, b, c⟩ := tab_sh0J (t := t) fun r hr => ⟨by rw [q.row r hr]; omega, fun n hn => Nat.lt_trans (q.most r hr n hn) (by decide)⟩
  have lt : t.length ≤ 6 := by rw [q.len]; exact l
  have cc : NA.cost (tD t) ≤ 2000000 := by
    simp only [tD, NA.cost]
    omega
  have dd : (tD t).depth ≤ 10 := by
    simp only [tD, PyData.depth]
    omega
  exact ⟨⟨by simp only [tD, okD, a], by omega, by omega⟩, cc, dd⟩
theorem cok_shJ {ss hs : List Int} (ok : ∀ s ∈ ss, SizeOk s) (l : ss.length ≤ 6) (h : COk ss hs) : Sh (sD hs) ∧ NA.cost (sD hs) ≤ 1000000 ∧ (sD hs).depth ≤ 10 := by
  refine ⟨Sh.ints (fun n hn => ?_) (by rw [h.len]; omega), ?_, ?_⟩
  · obtain ⟨i, hi, rfl⟩ := List.getElem_of_mem hn
    obtain ⟨s, es⟩ := get_some (show i < ss.length by rw [← h.len]; exact hi)
    obtain ⟨a, b⟩ := h.low i _ s (List.getElem?_eq_getElem hi) es
    obtain ⟨_, c⟩ := (ok s (List.mem_of_getElem? es)).bnd
    exact Nat.lt_of_le_of_lt (show hs[i].natAbs ≤ 10 ^ 30 by omega) (by decide)
  · have := h.len
    simp only [sD, NA.cost, costAll_ints]
    omega
  · simp only [sD, PyData.depth, depth_ints]
    decide
theorem mach_shJ {ss : List Int} {ws : List (Nat × Nat)} (ok : MOk ss ws) : Sh (mD ss ws) ∧ NA.cost (mD ss ws) ≤ 1000000 ∧ (mD ss ws).depth ≤ 10 := by
  have l1 := ok.six
  have l2 := ok.wires.len l1
  refine ⟨Sh.mach ok, ?_, ?_⟩
  · simp only [mD, sD, NA.cost, costAll, costAll_ints, costAll_wires]
    omega
  · have := depth_wires ws
    simp only [mD, sD, PyData.depth, PyData.depthAll, depth_ints]
    omega
abbrev ShB (d : PyData) : Prop := Sh d ∧ NA.cost d ≤ 2000000 ∧ d.depth ≤ 10
theorem Sh.listN {ds : List PyData} (h : ∀ d ∈ ds, ShB d) (l : ds.length ≤ 6) : Sh (.list ds) := by
  have : ∀ ds : List PyData, (∀ d ∈ ds, ShB d) → okAll ds = true ∧ costAll ds ≤ 2000002 * ds.length ∧ PyData.depthAll ds ≤ 10 := by
    intro ds
    induction ds with
    | nil => intro _; exact ⟨rfl, Nat.le_refl _, Nat.zero_le _⟩
    | cons d ds ih =>
      intro h
      obtain ⟨a, b, c⟩ := ih fun x hx => h x (List.mem_cons_of_mem _ hx)
      obtain ⟨x, y, z⟩ := h d List.mem_cons_self
      refine ⟨?_, ?_, ?_⟩
      · simp only [okAll, x.ok, a, Bool.and_self]
      · simp only [costAll, List.length_cons]
        omega
      · simp only [PyData.depthAll]
        omega
  obtain ⟨a, b, c⟩ := this ds h
  refine ⟨by simp only [okD, a], ?_, ?_⟩
  · simp only [NA.cost]
    omega
  · simp only [PyData.depth]
    omega
theorem shaped_sD (l : List Int) : SeqAt.shaped (sD l) = true := by
  unfold SeqAt.shaped sD
  simp only [PyData.canLay0, PyData.depth, canLay_ints, depth_ints, Bool.true_and]
  decide
theorem eqv_sD : ∀ a b : List Int, PyData.eqv (sD a) (sD b) = decide (a = b) := by
  have : ∀ a b : List Int, PyData.eqvAll (a.map PyData.int) (b.map PyData.int) = decide (a = b) := by
    intro a
    induction a with
    | nil => intro b; cases b with | nil => rfl | cons _ _ => rfl
    | cons x a ih =>
      intro b
      cases b with
      | nil => rfl
      | cons y b =>
        rw [List.map_cons, List.map_cons]
        simp only [PyData.eqvAll, PyData.eqv, ih b, List.cons.injEq]
        by_cases h : x = y <;> by_cases g : a = b <;> simp [h, g]
  intro a b
  unfold sD
  simp only [PyData.eqv]
  exact this a b


/-! ### k06: the program's backward; _law_is_run -/
def spBackM : Sp := fun vs H Q _ => ∃ (y : V) (l : List (Nat × Nat × Int)), vs = [y] ∧ Im H y (pD l) ∧ l.length ≤ 1100 ∧ (∀ d ∈ l, d.2.2.natAbs ≤ 10 ^ 60) ∧ ∀ (u : V) (H' : Hp), Im H' u (pD (backI l)) → Same H H' → Q u H'
theorem backI_rev (l : List (Nat × Nat × Int)) : backI l = l.reverse.map fun d => (d.1, d.2.1, -d.2.2) := by
  unfold backI
  rw [List.map_reverse]
theorem backI_lenB (l : List (Nat × Nat × Int)) : (backI l).length = l.length := by
  unfold backI
  rw [List.length_reverse, List.length_map]
theorem ImAll.rev {H : Hp} : ∀ {vs : List V} {ds : List PyData}, ImAll H vs ds → ImAll H vs.reverse ds.reverse
  | _, _, .nil => .nil
  | _, _, .cons a b => by
    rw [List.reverse_cons, List.reverse_cons]
    exact (ImAll.rev b).append (.cons a .nil)
abbrev sc_backwardN : List Str := ["program", "j", "i", "c"]
theorem sc_backward : FnScope sc_backwardN ["program"] (defScope s_backward) := ⟨rfl, rfl, rfl, by decide +kernel, rfl, by decide +kernel, by decide +kernel⟩
theorem fn_backward {f : Addr} {fd : FuncData} (D : DefAt K mg "backward" s_backward ["program"] f fd) (T : Blt mg) : FnOk P w K mg base CX0 1 f fd ["program"] spBackM := by
  refine D.fn.ok sc_backward (fun vs H Q E h => ?_) (fun cdv A outer s H vs Q E hr h => ?_)
  · obtain ⟨y, l, rfl, _⟩ := h
    rfl
  · obtain ⟨y, l, rfl, imy, l1100, dm, k⟩ := h
    refine ⟨_, (pss_one (ps_ret (pe_callTy (call_tupleK K rfl) (by rfl) T.tuple (by decide +kernel) (pa_cons (pe_lc (own := [("j", 1), ("i", 2), ("c", 3)]) rfl sc_backward.nd (pi_tupK K rfl (pe_revT K rfl (pv 0) (pe_m1 pe_int))) (blkOk_by (N := sc_backwardN) (sc := defScope s_backward) (by decide +kernel)) (fun _ _ _ _ _ => (pg_tupK (n := 3) K rfl rfl (pgs_cons (pg_name (i := 1) sc_backward.nd rfl (by first | exact .inl rfl | exact .inr rfl)) (pgs_cons (pg_name (i := 2) sc_backward.nd rfl (by first | exact .inl rfl | exact .inr rfl)) (pgs_cons (pg_name (i := 3) sc_backward.nd rfl (by first | exact .inl rfl | exact .inr rfl)) pgs_nil))))) (fun _ _ _ _ _ => pts_nil) (fun _ _ _ _ _ => (pe_tup (pa_cons (pv 1) (pa_cons (pv 2) (pa_cons (pe_un un_neg (pv 3)) pa_nil)))))) pa_nil)))), ?_⟩
    obtain ⟨a, xs, rfl, ha, ia⟩ := imy.tuple
    have lx : xs.length = l.length := by rw [ia.length, List.length_map]
    refine ⟨_, rfl, a, xs, rfl, SqT.of ha, fun r nr => ?_⟩
    have s1 : Same H (upd H r (.tup xs.reverse)) := Same.new (Same.refl H) nr
    have hr1 : (upd H r (.tup xs.reverse)) r = some (.tup xs.reverse) := upd_same
    have ir : ImAll (upd H r (.tup xs.reverse)) xs.reverse (l.reverse.map dD) := by
      rw [List.map_reverse]
      exact (ia.k (Tk.same s1)).rev
    generalize upd H r (.tup xs.reverse) = H1 at *
    refine ⟨r, rfl, ⟨_, SqT.of hr1⟩, fun D nD => ?_⟩
    refine lc_tup (K := K) (a := r) (xs := xs.reverse) (fun i H' => Same H1 H' ∧ ∃ vs : List V, H' D = some (.lst vs) ∧ ImAll H' vs (((backI l).take i).map dD)) ⟨Same.new (Same.refl H1) nD, [], upd_same, .nil⟩ (fun i H' _ z => SqT.of (z.1 _ _ hr1)) ?_ ?_
    · rintro i x H2 hx ⟨sm, vs, hD, iv⟩
      obtain ⟨dx, hdx, imx⟩ := ImAll.getV ir hx
      obtain ⟨d, hd, rfl⟩ := map_get hdx
      have hb : (backI l)[i]? = some (d.1, d.2.1, -d.2.2) := by rw [backI_rev, List.getElem?_map, hd]; rfl
      have lv : vs.length ≤ 1100 := by
        rw [iv.length, List.length_map, List.length_take, backI_lenB]
        omega
      obtain ⟨q, ws, rfl, hq, iq⟩ := (Same.k sm imx).tuple
      have ew : ws = [.int (d.1 : Int), .int (d.2.1 : Int), .int d.2.2] := by
        match ws, iq with
        | _, .cons (.int _) (.cons (.int _) (.cons (.int _) .nil)) => rfl
      subst ew
      refine ⟨q, _, rfl, SqT.of hq, rfl, _, _, rfl, _, _, rfl, _, _, rfl, rfl, rfl, ?_⟩
      refine ⟨_, rfl, _, rfl, _, rfl, _, rfl, by show 3 ≤ sizeLine; decide, fun t nt => ?_⟩
      have hD3 : (upd H2 t (.tup [.int (d.1 : Int), .int (d.2.1 : Int), .int (-d.2.2)])) D = some (.lst vs) := keepN hD nt
      have tk : Tk (upd H2 t (.tup [.int (d.1 : Int), .int (d.2.1 : Int), .int (-d.2.2)])) (upd (upd H2 t (.tup [.int (d.1 : Int), .int (d.2.1 : Int), .int (-d.2.2)])) D (.lst (vs ++ [.ref t]))) := (Tk.refl _).put hD3
      refine ⟨_, hD3, Nat.lt_of_le_of_lt lv (by decide), Same.put (Same.new sm nt) nD, _, upd_same, ?_⟩
      rw [take_get hb, List.map_append]
      exact ((iv.k ((Tk.refl H2).new nt)).k tk).append (.cons (Im.k (.tup upd_same (.cons (.int _) (.cons (.int _) (.cons (.int _) .nil)))) tk) .nil)
    · rintro H2 ⟨sm, vs, hD, iv⟩
      rw [List.length_reverse, lx, ← backI_lenB l, List.take_length] at iv
      exact ⟨D, _, rfl, .inl ⟨SqL.of hD, fun u nu => k _ _ (.tup upd_same (iv.k ((Tk.refl H2).new nu))) (s1.trans (Same.new sm nu))⟩⟩
theorem k_backward {f : Addr} {fd : FuncData} (F : Fun K "backward" "backward" s_backward f fd) : KBinds K fd ["program"] ["program"] kg1 kg1 := by
  obtain ⟨oc, od, kV, doc, pm, an, cdv, ct, osl, rfl, lk, hcd⟩ := F.ex
  refine ⟨fun s us ws _ hl => ?_, kg1_rel⟩
  match us, ws, hl with
  | [], [a], _ => exact .of_eq rfl
theorem shareV {c : Bool} {ta tb : TE} {σ : L2.St} {H : Hp} {Q : VK} {N : V → Hp → Prop} (h1 : (∀ u H', N u H' → Q u H') → ta σ H Q) (h2 : (∀ u H', N u H' → Q u H') → tb σ H Q) (rest : ∀ u H', N u H' → Q u H') : if c = true then ta σ H Q else tb σ H Q := by
  cases c with
  | true => exact iteT (h1 rest)
  | false => exact iteF (h2 rest)
theorem iteSK {c A B : Prop} [Decidable c] (hc : c) (h : A) : if decide c = true then A else B := by
  rw [decide_eq_true hc]
  exact iteT h
theorem qSK {c : Prop} [Decidable c] (hc : c) {Q : VK} {H : Hp} (h : Q (.bl true) H) : Q (.bl (decide c)) H := by
  rw [decide_eq_true hc]
  exact h
theorem cut_toK (xs : List V) (n : Nat) : cutV xs none (some (n : Int)) = xs.take n := by
  unfold cutV
  rw [HT.sIx_none, HT.sIx_nat, List.drop_zero, Nat.sub_zero, ← List.take_take, List.take_length]
theorem slT_anyK {K : PySem.W.Frag} {a : Addr} {xs : List V} {lo hi : Option Int} {H : Hp} {Q : VK} (h : H a = some (.tup xs)) (k : ∀ c H', Same H H' → H' c = some (.tup (cutV xs lo hi)) → Q (.ref c) H') : rSlA K (.ref a) lo hi H Q := by
  refine ⟨a, xs, rfl, SqT.of h, fun e => k a H (Same.refl H) ?_, fun _ p n => k p _ (Same.new (Same.refl H) n) upd_same⟩
  rw [h]
  unfold cutV
  rw [e.1, e.2, List.drop_zero, Nat.sub_zero, List.take_length]
theorem ImAll.takeK {H : Hp} : ∀ (n : Nat) {vs : List V} {ds : List PyData}, ImAll H vs ds → ImAll H (vs.take n) (ds.take n)
  | 0, _, _, _ => .nil
  | _ + 1, _, _, .nil => .nil
  | n + 1, _, _, .cons a b => .cons a (ImAll.takeK n b)
def spIsRun : Sp := fun vs H Q _ => ∃ (p q : Addr) (m y : V) (ss : List Int) (ws : List (Nat × Nat)) (l : List (Nat × Nat × Int)), vs = [.ref p, m, y] ∧ Pt H p q ∧ Im H m (mD ss ws) ∧ MOk ss ws ∧ Im H y (pD l) ∧ (∀ d ∈ l, DOk ss ws d) ∧ l.length ≤ 20 ∧ ∀ H', Pt H' p q → Kp p q H H' → Q (.bl true) H'
theorem prog_shK {ss : List Int} {ws : List (Nat × Nat)} (ok : MOk ss ws) : ∀ {l : List (Nat × Nat × Int)}, (∀ d ∈ l, d.1 < 1000 ∧ d.2.1 < 1000 ∧ d.2.2.natAbs ≤ 10 ^ 60) → okAll (l.map dD) = true ∧ costAll (l.map dD) ≤ 6000 * l.length ∧ PyData.depthAll (l.map dD) ≤ 1
  | [], _ => ⟨rfl, Nat.le_refl _, Nat.zero_le _⟩
  | d :: l, h => by
    obtain ⟨a, b, c⟩ := prog_shK ok fun x hx => h x (List.mem_cons_of_mem _ hx)
    obtain ⟨w1, w2, w3⟩ := h d List.mem_cons_self
    have sm : ∀ n : Nat, n < 1000 → (n : Int).natAbs < 2 ^ 1900 := fun n hn => by
      rw [Int.natAbs_natCast]
      exact Nat.lt_trans hn (by decide)
    have big : d.2.2.natAbs < 2 ^ 1900 := Nat.lt_of_le_of_lt w3 (by decide)
    refine ⟨?_, ?_, ?_⟩
    · rw [List.map_cons]
      simp only [okAll, dD, okD, a, decide_eq_true (small_log (sm d.1 w1)), decide_eq_true (small_log (sm d.2.1 w2)), decide_eq_true (small_log big), Bool.and_self]
    · rw [List.map_cons]
      simp only [costAll, dD, NA.cost, List.length_cons]
      omega
    · rw [List.map_cons]
      simp only [PyData.depthAll, dD, PyData.depth]
      omega
theorem prog_shB {ss : List Int} {ws : List (Nat × Nat)} (ok : MOk ss ws) {l : List (Nat × Nat × Int)} (h : ∀ d ∈ l, DOk ss ws d) (n : l.length ≤ 300) : ShB (pD l) := by
  have six := ok.six
  obtain ⟨a, b, c⟩ := prog_shK ok (l := l) fun d hd => by
    obtain ⟨w1, w2, _⟩ := ok.wires.low _ (h d hd).wire
    exact ⟨by omega, by omega, (h d hd).most⟩
  refine ⟨⟨by simp only [pD, okD, a], ?_, ?_⟩, ?_, ?_⟩
  · simp only [pD, NA.cost]
    omega
  · simp only [pD, PyData.depth]
    omega
  · simp only [pD, NA.cost]
    omega
  · simp only [pD, PyData.depth]
    omega
theorem cok_shB {ss hs : List Int} (ok : ∀ s ∈ ss, SizeOk s) (l : ss.length ≤ 6) (h : COk ss hs) : ShB (sD hs) := by
  obtain ⟨x, y, z⟩ := cok_shJ ok l h
  exact ⟨x, by omega, z⟩
theorem sh_twoK {a b : PyData} (x : ShB a) (y : ShB b) : Sh (.list [a, b]) := Sh.listN (fun d hd => by
  rcases List.mem_cons.mp hd with rfl | hd
  · exact x
  · rw [List.mem_singleton.mp hd]
    exact y) (by show 2 ≤ 6; decide)
theorem sh_threeK {a b c : PyData} (x : ShB a) (y : ShB b) (z : ShB c) : Sh (.list [a, b, c]) := Sh.listN (fun d hd => by
  rcases List.mem_cons.mp hd with rfl | hd
  · exact x
  rcases List.mem_cons.mp hd with rfl | hd
  · exact y
  · rw [List.mem_singleton.mp hd]
    exact z) (by show 3 ≤ 6; decide)
theorem back_dokK {ss : List Int} {ws : List (Nat × Nat)} {l : List (Nat × Nat × Int)} (h : ∀ d ∈ l, DOk ss ws d) : ∀ d ∈ backI l, DOk ss ws d := fun d hd => by
  unfold backI at hd
  obtain ⟨x, hx, rfl⟩ := List.mem_map.mp (List.mem_reverse.mp hd)
  have k := h x hx
  obtain ⟨c, e, f, g, st⟩ := k.step
  refine ⟨k.wire, by show (-x.2.2).natAbs ≤ _; rw [Int.natAbs_neg]; exact k.most, c, e, f, g, ?_⟩
  exact Int.dvd_neg.mpr st
theorem mach_shB {ss : List Int} {ws : List (Nat × Nat)} (ok : MOk ss ws) : ShB (mD ss ws) := by
  obtain ⟨x, y, z⟩ := mach_shJ ok
  exact ⟨x, by omega, z⟩
theorem eqv_sDK (a : List Int) : PyData.eqv (sD a) (sD a) = true := by rw [eqv_sD]; exact decide_eq_true rfl
/-- what _law_run tells of contents, or of what is alike -/
theorem runI_eq {ss : List Int} {ws : List (Nat × Nat)} (ok : MOk ss ws) {l : List (Nat × Nat × Int)} (dok : ∀ d ∈ l, DOk ss ws d) {hs ns : List Int} (ch : COk ss hs) (g : Cg ss hs ns) : runI ss l ns = runP ss l hs :=
  (runP_eq ok.size (fun d hd => (dok d hd).din ok) ch g).symm
theorem dok_low {ss : List Int} {ws : List (Nat × Nat)} (ok : MOk ss ws) {l : List (Nat × Nat × Int)} (dok : ∀ d ∈ l, DOk ss ws d) : ∀ d ∈ l, d.1 < ss.length ∧ d.2.1 < ss.length ∧ d.2.2.natAbs ≤ 10 ^ 60 := fun d hd => by
  obtain ⟨a, b, _⟩ := ok.wires.low _ (dok d hd).wire
  exact ⟨a, b, (dok d hd).most⟩
theorem cok_most5 {ss hs : List Int} (ok : ∀ s ∈ ss, SizeOk s) (h : COk ss hs) : mostI 5000 hs := fun n hn => Nat.lt_of_lt_of_le (cok_mostR ok h n hn) (Nat.pow_le_pow_right (by decide) (by decide))
abbrev sc_l_is_runN : List Str := ["pot", "machine", "listed", "sizes", "held", "kept", "due", "others", "told", "here", "place", "deed", "turned", "item", "size", "j", "i", "c"]
theorem sc_l_is_run : FnScope sc_l_is_runN ["pot", "machine", "listed"] (defScope s_l_is_run) := ⟨rfl, rfl, rfl, by decide +kernel, rfl, by decide +kernel, by decide +kernel⟩
theorem ok_isrun {f : Addr} {fd : FuncData} (F : Fun K "_law_is_run" "_law_is_run" s_l_is_run f fd) (T : Blt mg) (T_zip : mg "zip" = none) (c_l_contents : Cal P w K mg base 3 "_law_contents" spContents) (c_l_run : Cal P w K mg base 1 "_law_run" (spRunI K)) (c_l_pick : Cal P w K mg base 2 "_law_pick" spPick)
    (c_run : Cal P w K mg base 1 "run" spRun) (k_run_cpm : CalK P w K mg base 1 "run" spRun ["contents", "program", "machine"] kg321) (c_done : Cal P w K mg base 2 "done" spDone) (k_done_dcm : CalK P w K mg base 2 "done" spDone ["deed", "contents", "machine"] kg321)
    (c_backward : Cal P w K mg base 1 "backward" spBackM) (k_backward_p : CalK P w K mg base 1 "backward" spBackM ["program"] kg1) : GFn P w K mg base 4 f fd ["pot", "machine", "listed"] spIsRun := by
  refine gfn_of F sc_l_is_run (fun vs H Q E h => ?_) (fun cdv A outer s H vs Q E hcd0 hg hr h => ?_)
  · obtain ⟨p, q, m, y, ss, ws, l, rfl, _⟩ := h
    rfl
  · obtain ⟨p, q, m, y, ss, ws, l, rfl, hP, imm, ok, iml, dok, l20, k⟩ := h
    refine ⟨_, (pss_cons (ps_set (i := 3) sc_l_is_run.nd rfl (.inl rfl) (pe_ix (ix_tupK K rfl) (pv 1) pe_int (fun _ _ => rfl)))
      (pss_cons (ps_set (i := 4) sc_l_is_run.nd rfl (.inl rfl) (pe_c c_l_contents hr (by decide) rfl (pa_cons (pv 0) (pa_cons (pv 3) pa_nil))))
      (pss_cons (ps_par (i := 5) (j := 6) rfl sc_l_is_run.nd rfl rfl (by decide) rfl rfl (pa_cons (pe_callB (call_reprK K rfl hg hr) (by rfl) T.repr boot_repr (pa_cons (pe_lst (pa_cons (pv 1) (pa_cons (pv 2) (pa_cons (pv 4) pa_nil)))) pa_nil)) (pa_cons (pe_c c_l_run hr (by decide) rfl (pa_cons (pv 3) (pa_cons (pv 2) (pa_cons (pv 4) pa_nil)))) pa_nil)) (by rfl))
      (pss_cons (ps_setLc (i := 7) (own := [("item", 13), ("size", 14)]) rfl sc_l_is_run.nd rfl rfl (sw_true rfl rfl rfl (by decide +kernel)) (pi_zipG K rfl .t .t (by rfl) T_zip (pa_cons (pv 4) (pa_cons (pv 3) pa_nil))) (blkOk_by (N := sc_l_is_runN) (sc := defScope s_l_is_run) (by decide +kernel)) (fun _ _ _ _ _ => (pg_tupK (n := 2) K rfl rfl (pgs_cons (pg_name (i := 13) sc_l_is_run.nd rfl (by first | exact .inl rfl | exact .inr rfl)) (pgs_cons (pg_name (i := 14) sc_l_is_run.nd rfl (by first | exact .inl rfl | exact .inr rfl)) pgs_nil)))) (fun _ _ _ _ _ => pts_nil) (fun _ _ _ _ _ => (pe_op op_add (pv 13) (pe_op op_mulW (pv 14) (pe_c c_l_pick hr (by decide) rfl (pa_cons (pv 0) (pa_cons (pe_lst (pa_cons pe_int (pa_cons pe_int (pa_cons (pe_un un_neg pe_int) (pa_cons (pe_op op_pow pe_int pe_int) (pa_cons (pe_un un_neg (pe_op op_pow pe_int pe_int)) pa_nil)))))) pa_nil)))))))
      (pss_cons (ps_if (pt_cmpR (op_neDK K rfl hr.units) (pe_c c_l_run hr (by decide) rfl (pa_cons (pv 3) (pa_cons (pv 2) (pa_cons (pv 7) pa_nil)))) (pv 6) (nomark _)) (pss_one (ps_ret pe_bl)) pss_nil)
      (pss_cons (ps_set (i := 8) sc_l_is_run.nd rfl (.inl rfl) (pe_lst (pa_cons (pe_c c_run hr (by decide) rfl (pa_cons (pv 1) (pa_cons (pv 2) (pa_cons (pv 4) pa_nil)))) (pa_cons (pe_ck k_run_cpm hr (by decide) rfl (pk_cons (pv 4) (pk_cons (pv 2) (pk_cons (pv 1) pk_nil)))) pa_nil))))
      (pss_cons (ps_set (i := 9) sc_l_is_run.nd rfl (.inl rfl) (pv 4))
      (pss_cons (ps_for PassesOwn.never rfl (pi_enumTK K rfl (by rfl) T.enumerate (pa_cons (pv 2) pa_nil)) (pg_tup rfl (pgs_cons (pg_name (i := 10) sc_l_is_run.nd rfl (.inl rfl)) (pgs_cons (pg_name (i := 11) sc_l_is_run.nd rfl (.inl rfl)) pgs_nil))) (pss_cons (ps_set (i := 9) sc_l_is_run.nd rfl (.inl rfl) (pe_ifExp (pt_cmpR op_eq (pv 10) pe_int (nomark _)) (pe_ck k_done_dcm hr (by decide) rfl (pk_cons (pv 11) (pk_cons (pv 9) (pk_cons (pv 1) pk_nil)))) (pe_c c_done hr (by decide) rfl (pa_cons (pv 1) (pa_cons (pv 9) (pa_cons (pv 11) pa_nil))))))
      (pss_one (ps_if (pt_cmpR op_ne (pe_callB (call_reprK K rfl hg hr) (by rfl) T.repr boot_repr (pa_cons (pv 9) pa_nil)) (pe_callB (call_reprK K rfl hg hr) (by rfl) T.repr boot_repr (pa_cons (pe_c c_l_run hr (by decide) rfl (pa_cons (pv 3) (pa_cons (pe_slice sl_tupA (pv 2) po_none (po_some (pe_op op_add (pv 10) pe_int))) (pa_cons (pv 4) pa_nil)))) pa_nil)) (nomark _)) (pss_one (ps_ret pe_bl)) pss_nil))))
      (pss_cons (ps_if (PW.pt (pw_or (pt_cmpR op_ne (pe_callB (call_reprK K rfl hg hr) (by rfl) T.repr boot_repr (pa_cons (pv 8) pa_nil)) (pe_callB (call_reprK K rfl hg hr) (by rfl) T.repr boot_repr (pa_cons (pe_lst (pa_cons (pv 6) (pa_cons (pv 6) pa_nil))) pa_nil)) (nomark _)) (pw_or1 (pt_cmpR op_ne (pe_callB (call_reprK K rfl hg hr) (by rfl) T.repr boot_repr (pa_cons (pv 9) pa_nil)) (pe_callB (call_reprK K rfl hg hr) (by rfl) T.repr boot_repr (pa_cons (pv 6) pa_nil)) (nomark _))))) (pss_one (ps_ret pe_bl)) pss_nil)
      (pss_cons (ps_set (i := 12) sc_l_is_run.nd rfl (.inl rfl) (pe_callTy (call_tupleK K rfl) (by rfl) T.tuple (by decide +kernel) (pa_cons (pe_lc (own := [("j", 15), ("i", 16), ("c", 17)]) rfl sc_l_is_run.nd (pi_tupK K rfl (pe_revT K rfl (pv 2) (pe_m1 pe_int))) (blkOk_by (N := sc_l_is_runN) (sc := defScope s_l_is_run) (by decide +kernel)) (fun _ _ _ _ _ => (pg_tupK (n := 3) K rfl rfl (pgs_cons (pg_name (i := 15) sc_l_is_run.nd rfl (by first | exact .inl rfl | exact .inr rfl)) (pgs_cons (pg_name (i := 16) sc_l_is_run.nd rfl (by first | exact .inl rfl | exact .inr rfl)) (pgs_cons (pg_name (i := 17) sc_l_is_run.nd rfl (by first | exact .inl rfl | exact .inr rfl)) pgs_nil))))) (fun _ _ _ _ _ => pts_nil) (fun _ _ _ _ _ => (pe_tup (pa_cons (pv 15) (pa_cons (pv 16) (pa_cons (pe_un un_neg (pv 17)) pa_nil)))))) pa_nil)))
      (pss_cons (ps_if (pt_cmpR op_ne (pe_callB (call_reprK K rfl hg hr) (by rfl) T.repr boot_repr (pa_cons (pe_lst (pa_cons (pe_c c_backward hr (by decide) rfl (pa_cons (pv 2) pa_nil)) (pa_cons (pe_ck k_backward_p hr (by decide) rfl (pk_cons (pv 2) pk_nil)) pa_nil))) pa_nil)) (pe_callB (call_reprK K rfl hg hr) (by rfl) T.repr boot_repr (pa_cons (pe_lst (pa_cons (pv 12) (pa_cons (pv 12) pa_nil))) pa_nil)) (nomark _)) (pss_one (ps_ret pe_bl)) pss_nil)
      (pss_one (ps_ret (pe_and (pe_cmpR op_eq (pe_callB (call_reprK K rfl hg hr) (by rfl) T.repr boot_repr (pa_cons (pe_c c_run hr (by decide) rfl (pa_cons (pv 1) (pa_cons (pv 12) (pa_cons (pv 6) pa_nil)))) pa_nil)) (pe_callB (call_reprK K rfl hg hr) (by rfl) T.repr boot_repr (pa_cons (pv 4) pa_nil)) (nomark _)) (pe_one (pe_cmpR op_eq (pe_callB (call_reprK K rfl hg hr) (by rfl) T.repr boot_repr (pa_cons (pe_lst (pa_cons (pv 1) (pa_cons (pv 2) (pa_cons (pv 4) pa_nil)))) pa_nil)) (pv 5) (nomark _))))))))))))))))), ?_⟩
    obtain ⟨a, xs, rfl, ha, ia⟩ := id imm.tuple
    obtain ⟨b0, g0, im0⟩ := ia.get (i := 0) rfl
    have l6 := ok.six
    have din : ∀ d ∈ l, DIn ss d := fun d hd => (dok d hd).din ok
    have dlo := dok_low ok dok
    refine ⟨_, rfl, a, _, 0, _, rfl, rfl, SqT.of ha, atI_nat (j := 0) g0, ?_⟩
    refine ⟨_, rfl, _, rfl, p, q, _, ss, rfl, hP, im0, ok.size, by omega, fun hv hs H1 ih ch P1 k1 => ?_⟩
    have t1 := k1.tk hP
    have im1 := imm.k t1
    have is1 := im0.k t1
    have il1 := iml.k t1
    refine ⟨_, rfl, _, rfl, _, rfl, by show 3 ≤ sizeLine; decide, fun lk nlk => ?_⟩
    have s2 : Same H1 (upd H1 lk (.lst [.ref a, y, hv])) := Same.new (Same.refl H1) nlk
    have sh3 := sh_threeK (mach_shB ok) (prog_shB ok dok (by omega)) (cok_shB ok.size l6 ch)
    refine ⟨_, _, rfl, .lst (SqL.of upd_same) (.cons (Same.k s2 im1).dp (.cons (Same.k s2 il1).dp (.cons (Same.k s2 ih).dp .nil))), sh3, ?_⟩
    have im2 := Same.k s2 im1
    have is2 := Same.k s2 is1
    have il2 := Same.k s2 il1
    have ih2 := Same.k s2 ih
    have P2 := P1.same s2
    generalize upd H1 lk (.lst [.ref a, y, hv]) = H2 at *
    obtain ⟨he, hxs, rfl, hhe, ihe⟩ := id ih2.tuple
    have ey := ihe.ints
    subst ey
    refine ⟨_, rfl, _, rfl, _, rfl, _, _, he, ss, hs, l, rfl, is2, il2, .inr (SqT.of hhe), ch.len, by omega, ok.size, dlo, by omega, cok_most5 ok.size ch, fun dv H3 idv s3 => ⟨_, _, rfl, ?_⟩⟩
    rw [runI_eq ok dok ch (Cg.refl ch.len)] at idv
    have cr := runP_cok (l := l) ok.size ch
    have P3 := P2.same s3
    obtain ⟨b, bs, rfl, hb, ib⟩ := id is2.tuple
    have ey := ib.ints
    subst ey
    refine ⟨_, rfl, _, rfl, he, b, _, _, rfl, SqS.of_t (s3 _ _ hhe), SqS.of_t (s3 _ _ hb), fun D nD => ?_⟩
    obtain ⟨nd1, nd2⟩ := P3.np nD
    refine lc_it (walk_zipG (n := ss.length) (by rw [List.length_map, List.length_map, ch.len, Nat.min_self])) (fun i H' => Pt H' p q ∧ Kp p q H3 H' ∧ ∃ ns : List Int, H' D = some (.lst (ns.map V.int)) ∧ ns.length = i ∧ mostI 5000 ns ∧ ∀ (t : Nat) (x s n : Int), hs[t]? = some x → ss[t]? = some s → ns[t]? = some n → s ∣ x - n)
      ⟨P3.new nD, (Kp.refl p q H3).new nD, [], upd_same, rfl, (fun n hn => absurd hn List.not_mem_nil), fun t x s n _ _ e => by simp at e⟩ (fun i H' _ z => ⟨SqS.of_t ((z.2.1.tk P3) _ _ (s3 _ _ hhe)), SqS.of_t ((z.2.1.tk P3) _ _ (s3 _ _ hb))⟩) ?_ ?_
    · rintro i x H4 H5 hi ⟨P4, k4, ns, hD, ln, mn, al⟩ ⟨T1, x1, x2, rfl, nT, rfl, e1, e2⟩
      obtain ⟨n, hn, rfl⟩ := map_get e1
      obtain ⟨sz, hsz, rfl⟩ := map_get e2
      obtain ⟨sz2, sz3⟩ := (ok.size sz (List.mem_of_getElem? hsz)).bnd
      obtain ⟨lo, hi'⟩ := ch.low i n sz hn hsz
      have P5 := P4.new (o := .tup [.int n, .int sz]) nT
      have hD5 : (upd H4 T1 (.tup [.int n, .int sz])) D = some (.lst (ns.map V.int)) := keepN hD nT
      have k5 : Kp p q H3 (upd H4 T1 (.tup [.int n, .int sz])) := k4.new nT
      refine ⟨T1, _, rfl, SqT.of upd_same, rfl, _, _, rfl, _, _, rfl, rfl, rfl, ?_⟩
      generalize upd H4 T1 (.tup [.int n, .int sz]) = H5 at *
      refine ⟨_, rfl, _, rfl, _, rfl, _, rfl, _, _, rfl, rfl, ⟨by decide, by decide, by decide⟩, _, _, rfl, rfl, ⟨by decide, by decide, by decide⟩, _, rfl, by show 5 ≤ sizeLine; decide, fun c nc => ?_⟩
      obtain ⟨nc1, nc2⟩ := P5.np nc
      refine ⟨p, q, c, _, rfl, P5.new nc, upd_same, nc1, nc2, List.cons_ne_nil _ _, by show 5 < 1000; decide, fun v H6 hv' P6 k6 => ?_⟩
      obtain ⟨z, rfl, zb⟩ : ∃ z : Int, v = .int z ∧ z.natAbs ≤ 10 ^ 30 := by
        rcases List.mem_cons.mp hv' with e | hv'
        · exact ⟨_, e, by decide⟩
        rcases List.mem_cons.mp hv' with e | hv'
        · exact ⟨_, e, by decide⟩
        rcases List.mem_cons.mp hv' with e | hv'
        · exact ⟨_, e, by decide⟩
        rcases List.mem_cons.mp hv' with e | hv'
        · exact ⟨_, e, by decide⟩
        · exact ⟨_, List.mem_singleton.mp hv', by decide⟩
      have kc := ((Kp.refl p q H5).new (o := .lst [.int 0, .int 1, .int (-1), .int (10 ^ 9), .int (-10 ^ 30)]) nc)
      have hD6 : H6 D = some (.lst (ns.map V.int)) := k6 _ _ nd1 nd2 (keepN hD5 nc)
      have zs : (sz * z).natAbs < 2 ^ 300 := by
        rw [Int.natAbs_mul]
        exact Nat.lt_of_le_of_lt (Nat.mul_le_mul (show sz.natAbs ≤ 10 ^ 30 by omega) zb) (by decide)
      refine ⟨_, _, rfl, rfl, wide_mul (a := 110) (b := 110) (Nat.lt_of_le_of_lt (show sz.natAbs ≤ 10 ^ 30 by omega) (by decide)) (Nat.lt_of_le_of_lt zb (by decide)) (by decide) (by decide) (by decide), _, _, rfl, rfl, _, hD6, small1000 (by rw [List.length_map]; omega), P6.put nd1 nd2, ((k5.new nc).trans k6).put nD, ns ++ [n + sz * z], by rw [upd_same, List.map_append]; rfl, by rw [List.length_append, ln]; rfl, fun x hx => ?_, fun t x s' n' h1 h2 h3 => ?_⟩
      · rcases List.mem_append.mp hx with hx | hx
        · exact mn x hx
        · rw [List.mem_singleton.mp hx]
          have := Int.natAbs_add_le n (sz * z)
          have : n.natAbs ≤ 10 ^ 30 := by omega
          have b1 : (n + sz * z).natAbs < 10 ^ 30 + 2 ^ 300 := by omega
          exact Nat.lt_of_lt_of_le b1 (Nat.le_trans (by decide : 10 ^ 30 + 2 ^ 300 ≤ 2 ^ 301) (Nat.pow_le_pow_right (by decide) (by decide)))
      · by_cases tt : t < ns.length
        · rw [List.getElem?_append_left tt] at h3
          exact al t x s' n' h1 h2 h3
        · have et : t = i := by
            have := (List.getElem?_eq_some_iff.mp h3).1
            rw [List.length_append, List.length_singleton] at this
            omega
          subst et
          rw [List.getElem?_append_right (by omega), ln, Nat.sub_self] at h3
          cases Option.some.inj h3
          rw [hn] at h1
          rw [hsz] at h2
          cases h1
          cases h2
          exact ⟨-z, by rw [Int.mul_neg]; omega⟩
    rintro H4 ⟨P4, k4, ns, hD, ln, mn, al⟩
    have cg : Cg ss hs ns := ⟨ch.len, ln, fun i s es => by
      have li := (List.getElem?_eq_some_iff.mp es).1
      obtain ⟨x, ex⟩ := get_some (ss := hs) (show i < hs.length by rw [ch.len]; exact li)
      obtain ⟨n, en'⟩ := get_some (ss := ns) (show i < ns.length by rw [ln]; exact li)
      have := al i x s n ex es en'
      rw [List.getD_eq_getElem?_getD, List.getD_eq_getElem?_getD, ex, en']
      exact this⟩
    have t34 := k4.tk P3
    have is4 := (Same.k s3 is2).k t34
    have il4 := (Same.k s3 il2).k t34
    have im4 := (Same.k s3 im2).k t34
    have ih4 := (Same.k s3 ih2).k t34
    have id4 := idv.k t34
    have hhe4 := t34 _ _ (s3 _ _ hhe)
    refine ⟨_, rfl, _, rfl, _, rfl, _, _, D, ss, ns, l, rfl, is4, il4, .inl (SqL.of hD), ln, by omega, ok.size, dlo, by omega, mn, fun ev H5 iev s5 => ?_⟩
    rw [runI_eq ok dok ch cg] at iev
    refine ⟨_, rfl, sD (runP ss l hs), sD (runP ss l hs), iev.dp, (Same.k s5 id4).dp, shaped_sD _, shaped_sD _, _, rfl, ?_⟩
    rw [eqv_sDK]
    refine iteF ?_
    refine ⟨_, rfl, _, rfl, _, rfl, _, _, _, ss, ws, l, hs, rfl, Same.k s5 im4, ok, Same.k s5 il4, dok, by omega, Same.k s5 ih4, ch, fun r1 H6 ir1 s6 => ?_⟩
    have s56 := s5.trans s6
    refine ⟨_, rfl, _, rfl, _, rfl, _, _, _, ss, ws, l, hs, rfl, Same.k s56 im4, ok, Same.k s56 il4, dok, by omega, Same.k s56 ih4, ch, fun r2 H7 ir2 s7 => ⟨by show 2 ≤ sizeLine; decide, fun tl ntl => ?_⟩⟩
    have s8 : Same H7 (upd H7 tl (.lst [r1, r2])) := Same.new (Same.refl H7) ntl
    have htl : (upd H7 tl (.lst [r1, r2])) tl = some (.lst [r1, r2]) := upd_same
    have s48 := (s56.trans s7).trans s8
    have ir1' := Same.k (s7.trans s8) ir1
    have ir2' := Same.k s8 ir2
    generalize upd H7 tl (.lst [r1, r2]) = H8 at *
    have im8 := Same.k s48 im4
    have is8 := Same.k s48 is4
    have il8 := Same.k s48 il4
    have ih8 := Same.k s48 ih4
    have id8 := Same.k s48 id4
    have hhe8 := s48 _ _ hhe4
    have P8 := P4.same s48
    refine ⟨_, rfl, ?_⟩
    obtain ⟨c, cs, rfl, hc, ic⟩ := id il8.tuple
    have lcs : cs.length = l.length := by rw [ic.length, List.length_map]
    refine ⟨_, rfl, c, cs, rfl, SqT.of hc, for_it walk_enumT (fun t σ H' => ∃ (hv : V) (v10 v11 : Option V), σ = [some (.ref p), some (.ref a), some (.ref c), some (.ref b), some (.ref he), some (.str (PyData.list [mD ss ws, pD l, sD hs]).shown), some dv, some (.ref D), some (.ref tl), some hv, v10, v11, none, none, none, none, none, none] ∧ Same H8 H' ∧ Im H' hv (sD (runP ss (l.take t) hs)))
      ⟨.ref he, none, none, rfl, Same.refl H8, ih8⟩ (fun i σ H' _ ⟨_, _, _, _, z, _⟩ => SqT.of (z _ _ hc)) ?_ ?_⟩
    · rintro t x σ H9 H10 ht ⟨hv, v10, v11, rfl, sm, ihv⟩ ⟨T1, x1, x2, rfl, nT, rfl, e1, e2⟩
      cases e1
      have ht' : t < l.length := lcs ▸ ht
      obtain ⟨dx, hdx, imx⟩ := ImAll.getV ic e2
      obtain ⟨d, hd, rfl⟩ := map_get hdx
      have smT : Same H9 (upd H9 T1 (.tup [.int (t : Nat), x2])) := Same.new (Same.refl H9) nT
      have s8T := sm.trans smT
      refine ⟨T1, _, rfl, SqT.of upd_same, rfl, _, _, rfl, _, _, rfl, rfl, ?_⟩
      have ihT := Same.k smT ihv
      have idT := Same.k s8T imx
      have imT := Same.k s8T im8
      generalize upd H9 T1 (.tup [.int (t : Nat), x2]) = HT at *
      have dd := dok d (List.mem_of_getElem? hd)
      have ch' : COk ss (runP ss (l.take t) hs) := runP_cok ok.size ch
      refine ⟨_, rfl, rfl, _, rfl, ?_⟩
      refine shareV (H := HT) (N := fun u H' => Same HT H' ∧ Im H' u (sD (runP ss (l.take (t + 1)) hs))) ?_ ?_ ?_
      · intro r
        refine ⟨_, rfl, _, rfl, _, rfl, _, _, _, ss, ws, d, _, rfl, imT, ok, idT, dd, ihT, ch', fun u H' iu su => r u H' ⟨su, ?_⟩⟩
        rw [runP_next hd]
        exact iu
      · intro r
        refine ⟨_, rfl, _, rfl, _, rfl, _, _, _, ss, ws, d, _, rfl, imT, ok, idT, dd, ihT, ch', fun u H' iu su => r u H' ⟨su, ?_⟩⟩
        rw [runP_next hd]
        exact iu
      · rintro u HU ⟨su, iu⟩
        have s8U := s8T.trans su
        have ch1 : COk ss (runP ss (l.take (t + 1)) hs) := runP_cok ok.size ch
        refine ⟨_, rfl, _, _, rfl, iu.dp, (cok_shB ok.size l6 ch1).1, _, rfl, _, rfl, _, rfl, ?_⟩
        have hcU := s8U _ _ hc
        refine ⟨_, _, rfl, rfl, _, rfl, slT_anyK hcU fun e HV sV hev => ?_⟩
        rw [show ((t : Nat) : Int) + 1 = ((t + 1 : Nat) : Int) from rfl, cut_toK] at hev
        have s8V := s8U.trans sV
        have ile : Im HV (.ref e) (pD (l.take (t + 1))) := by
          have z := ImAll.takeK (t + 1) ((ic.k (Tk.same s8V)))
          rw [← List.map_take] at z
          exact .tup hev z
        have dok1 : ∀ d ∈ l.take (t + 1), DOk ss ws d := fun d hd => dok d (List.mem_of_mem_take hd)
        refine ⟨_, rfl, _, _, he, ss, hs, l.take (t + 1), rfl, Same.k s8V is8, ile, .inr (SqT.of (s8V _ _ hhe8)), ch.len, by omega, ok.size, dok_low ok dok1, by rw [List.length_take]; omega, cok_most5 ok.size ch, fun y HW iy sW => ?_⟩
        rw [runI_eq ok dok1 ch (Cg.refl ch.len)] at iy
        refine ⟨_, _, rfl, iy.dp, (cok_shB ok.size l6 ch1).1, rfl, _, rfl, iteNS rfl ?_⟩
        exact ⟨u, _, _, rfl, (s8V.trans sW), Same.k (sV.trans sW) iu⟩
    · rintro σ H9 ⟨hv, v10, v11, rfl, sm, ihv⟩
      rw [lcs, List.take_length] at ihv
      have cr' := cr
      have P9 := P8.same sm
      have shd := cok_shB ok.size l6 cr
      refine ⟨_, rfl, _, _, rfl, .lst (SqL.of (sm _ _ htl)) (.cons (Same.k sm ir1').dp (.cons (Same.k sm ir2').dp .nil)), Sh.listN (fun d hd => ?_) (by show 2 ≤ 6; decide), ?_⟩
      · rcases List.mem_cons.mp hd with rfl | hd
        · exact shd
        · rw [List.mem_singleton.mp hd]
          exact shd
      have sh2 : Sh (.list [sD (runP ss l hs), sD (runP ss l hs)]) := Sh.listN (fun d hd => by
        rcases List.mem_cons.mp hd with rfl | hd
        · exact shd
        · rw [List.mem_singleton.mp hd]
          exact shd) (by show 2 ≤ 6; decide)
      refine ⟨_, rfl, _, rfl, by show 2 ≤ sizeLine; decide, fun dl ndl => ?_⟩
      have sX : Same H9 (upd H9 dl (.lst [dv, dv])) := Same.new (Same.refl H9) ndl
      have idX := Same.k (sm.trans sX) id8
      have ihX := Same.k sX ihv
      have imX := Same.k (sm.trans sX) im8
      have ilX := Same.k (sm.trans sX) il8
      have ih0X := Same.k (sm.trans sX) ih8
      have PX := P9.same sX
      have hcX := sX _ _ (sm _ _ hc)
      have icX := ic.k (Tk.same (sm.trans sX))
      refine ⟨_, _, rfl, .lst (SqL.of upd_same) (.cons idX.dp (.cons idX.dp .nil)), sh2, rfl, _, rfl, iteNS rfl ?_⟩
      refine ⟨_, rfl, _, _, rfl, ihX.dp, shd.1, _, rfl, _, _, rfl, idX.dp, shd.1, rfl, _, rfl, iteNS rfl ?_⟩
      generalize upd H9 dl (.lst [dv, dv]) = HX at *
      refine ⟨_, rfl, c, cs, rfl, SqT.of hcX, fun r nr => ?_⟩
      have s1 : Same HX (upd HX r (.tup cs.reverse)) := Same.new (Same.refl HX) nr
      have hr1 : (upd HX r (.tup cs.reverse)) r = some (.tup cs.reverse) := upd_same
      have ir : ImAll (upd HX r (.tup cs.reverse)) cs.reverse (l.reverse.map dD) := by
        rw [List.map_reverse]
        exact (icX.k (Tk.same s1)).rev
      refine ⟨r, rfl, ⟨_, SqT.of hr1⟩, fun D2 nD2 => ?_⟩
      have PY := PX.same s1
      generalize upd HX r (.tup cs.reverse) = HY at *
      refine lc_tup (K := K) (a := r) (xs := cs.reverse) (fun i H' => Same HY H' ∧ ∃ vs : List V, H' D2 = some (.lst vs) ∧ ImAll H' vs (((backI l).take i).map dD)) ⟨Same.new (Same.refl HY) nD2, [], upd_same, .nil⟩ (fun i H' _ z => SqT.of (z.1 _ _ hr1)) ?_ ?_
      · rintro i x H2' hx ⟨sm2, vs, hD2, iv⟩
        obtain ⟨dx, hdx, imx⟩ := ImAll.getV ir hx
        obtain ⟨d, hd, rfl⟩ := map_get hdx
        have hb2 : (backI l)[i]? = some (d.1, d.2.1, -d.2.2) := by rw [backI_rev, List.getElem?_map, hd]; rfl
        have lv : vs.length ≤ 1100 := by
          rw [iv.length, List.length_map, List.length_take, backI_lenB]
          omega
        obtain ⟨q2, ws2, rfl, hq2, iq2⟩ := (Same.k sm2 imx).tuple
        have ew : ws2 = [.int (d.1 : Int), .int (d.2.1 : Int), .int d.2.2] := by
          match ws2, iq2 with
          | _, .cons (.int _) (.cons (.int _) (.cons (.int _) .nil)) => rfl
        subst ew
        refine ⟨q2, _, rfl, SqT.of hq2, rfl, _, _, rfl, _, _, rfl, _, _, rfl, rfl, rfl, ?_⟩
        refine ⟨_, rfl, _, rfl, _, rfl, _, rfl, by show 3 ≤ sizeLine; decide, fun t nt => ?_⟩
        have hD3 : (upd H2' t (.tup [.int (d.1 : Int), .int (d.2.1 : Int), .int (-d.2.2)])) D2 = some (.lst vs) := keepN hD2 nt
        have tk : Tk (upd H2' t (.tup [.int (d.1 : Int), .int (d.2.1 : Int), .int (-d.2.2)])) (upd (upd H2' t (.tup [.int (d.1 : Int), .int (d.2.1 : Int), .int (-d.2.2)])) D2 (.lst (vs ++ [.ref t]))) := (Tk.refl _).put hD3
        refine ⟨_, hD3, Nat.lt_of_le_of_lt lv (by decide), Same.put (Same.new sm2 nt) nD2, _, upd_same, ?_⟩
        rw [take_get hb2, List.map_append]
        exact ((iv.k ((Tk.refl H2').new nt)).k tk).append (.cons (Im.k (.tup upd_same (.cons (.int _) (.cons (.int _) (.cons (.int _) .nil)))) tk) .nil)
      · rintro HZ ⟨sm2, vs, hD2, iv⟩
        rw [List.length_reverse, lcs, ← backI_lenB l, List.take_length] at iv
        refine ⟨D2, _, rfl, .inl ⟨SqL.of hD2, fun u nu => ?_⟩⟩
        have itn : Im (upd HZ u (.tup vs)) (.ref u) (pD (backI l)) := .tup upd_same (iv.k ((Tk.refl HZ).new nu))
        have sZ : Same HX (upd HZ u (.tup vs)) := s1.trans (Same.new sm2 nu)
        generalize upd HZ u (.tup vs) = HA at *
        have imA := Same.k sZ imX
        have ilA := Same.k sZ ilX
        have ihA := Same.k sZ ih0X
        have idA := Same.k sZ idX
        have PA := PX.same sZ
        have dom : ∀ d ∈ l, d.2.2.natAbs ≤ 10 ^ 60 := fun d hd => (dlo d hd).2.2
        have bok := back_dokK dok
        have shb := prog_shB ok bok (by rw [backI_lenB]; omega)
        have sh2b : Sh (.list [pD (backI l), pD (backI l)]) := Sh.listN (fun d hd => by
          rcases List.mem_cons.mp hd with rfl | hd
          · exact shb
          · rw [List.mem_singleton.mp hd]
            exact shb) (by show 2 ≤ 6; decide)
        refine ⟨_, rfl, _, l, rfl, ilA, by omega, dom, fun y1 HB iy1 sB => ?_⟩
        refine ⟨_, rfl, _, l, rfl, Same.k sB ilA, by omega, dom, fun y2 HC iy2 sC => ⟨by show 2 ≤ sizeLine; decide, fun l1 nl1 => ?_⟩⟩
        have sBC := sB.trans sC
        have sDD : Same HC (upd HC l1 (.lst [y1, y2])) := Same.new (Same.refl HC) nl1
        refine ⟨_, _, rfl, .lst (SqL.of upd_same) (.cons (Same.k (sC.trans sDD) iy1).dp (.cons (Same.k sDD iy2).dp .nil)), sh2b, _, rfl, _, rfl, by show 2 ≤ sizeLine; decide, fun l2 nl2 => ?_⟩
        have itD := Same.k (sBC.trans sDD) itn
        have sAD := sBC.trans sDD
        generalize upd HC l1 (.lst [y1, y2]) = HD at *
        have sE : Same HD (upd HD l2 (.lst [.ref u, .ref u])) := Same.new (Same.refl HD) nl2
        have itE := Same.k sE itD
        refine ⟨_, _, rfl, .lst (SqL.of upd_same) (.cons itE.dp (.cons itE.dp .nil)), sh2b, rfl, _, rfl, iteNS rfl ?_⟩
        have sAE := sAD.trans sE
        generalize upd HD l2 (.lst [.ref u, .ref u]) = HE at *
        refine ⟨_, rfl, _, rfl, _, rfl, _, _, _, ss, ws, backI l, runP ss l hs, rfl, Same.k sAE imA, ok, itE, bok, by rw [backI_lenB]; omega, Same.k sAE idA, cr, fun y3 HF iy3 sF => ?_⟩
        rw [runP_back ok.size din ch] at iy3
        have sAF := sAE.trans sF
        have shh := cok_shB ok.size l6 ch
        refine ⟨_, _, rfl, iy3.dp, shh.1, _, rfl, _, _, rfl, (Same.k sAF ihA).dp, shh.1, rfl, ?_⟩
        refine ⟨_, rfl, iteSK rfl ?_⟩
        refine ⟨_, rfl, _, rfl, _, rfl, by show 3 ≤ sizeLine; decide, fun l4 nl4 => ?_⟩
        have sG : Same HF (upd HF l4 (.lst [.ref a, .ref c, .ref he])) := Same.new (Same.refl HF) nl4
        have sAG := sAF.trans sG
        refine ⟨_, _, rfl, .lst (SqL.of upd_same) (.cons (Same.k sAG imA).dp (.cons (Same.k sAG ilA).dp (.cons (Same.k sAG ihA).dp .nil))), sh3, _, rfl, rfl, qSK rfl ?_⟩
        exact k _ (PA.same sAG) (((k1.trans (Kp.same (s2.trans s3))).trans k4).trans (Kp.same ((s48.trans sm).trans ((sX.trans sZ).trans sAG))))

/-! ### k06: _law_far, _law_are_unlike -/
def spFar : Sp := fun vs H Q _ => ∃ (v u y : V) (ss hs : List Int) (l : List (Nat × Nat × Int)), vs = [v, u, y] ∧ Im H v (sD ss) ∧ Im H u (pD l) ∧ Im H y (sD hs) ∧ (∀ s ∈ ss, SizeOk s) ∧ ss.length ≤ 6 ∧
  (∀ d ∈ l, d.1 < ss.length ∧ d.2.1 < ss.length ∧ d.2.2.natAbs ≤ 10 ^ 60) ∧ COk ss hs ∧ ∀ (z : V) (H' : Hp), Im H' z (sD (runP ss l hs)) → Same H H' → Q z H'
abbrev sc_l_farN : List Str := ["sizes", "listed", "held", "found", "j", "i", "c"]
theorem sc_l_far : FnScope sc_l_farN ["sizes", "listed", "held"] (defScope s_l_far) := ⟨rfl, rfl, rfl, by decide +kernel, rfl, by decide +kernel, by decide +kernel⟩
theorem ok_far {f : Addr} {fd : FuncData} (D : DefAt K mg "_law_far" s_l_far ["sizes", "listed", "held"] f fd) (T : Blt mg) : Cal P w K mg base 1 "_law_far" spFar := by
  refine Cal.of D (D.fn.ok sc_l_far (fun vs H Q E h => ?_) (fun cdv A outer s H vs Q E hr h => ?_))
  · obtain ⟨v, u, y, ss, hs, l, rfl, _⟩ := h
    rfl
  · obtain ⟨v, u, y, ss, hs, l, rfl, ims, iml, imh, ok, l6, din, co, k⟩ := h
    refine ⟨_, (pss_cons (ps_set (i := 3) sc_l_far.nd rfl (.inl rfl) (pe_callTy (call_listK K rfl) (by rfl) T.list (by decide +kernel) (pa_cons (pv 2) pa_nil)))
      (pss_cons (ps_for PassesOwn.never rfl (pi_tupK K rfl (pv 1)) (pg_tup rfl (pgs_cons (pg_name (i := 4) sc_l_far.nd rfl (.inl rfl)) (pgs_cons (pg_name (i := 5) sc_l_far.nd rfl (.inl rfl)) (pgs_cons (pg_name (i := 6) sc_l_far.nd rfl (.inl rfl)) pgs_nil)))) (pss_one (ps_asg (pe_op op_mod (pe_op op_add (pe_ix (ix_listK K rfl) (pv 3) (pv 5) (fun _ _ => rfl)) (pe_op op_mulW (pv 6) (pe_ix (ix_listK K rfl) (pv 3) (pv 4) (fun _ _ => rfl)))) (pe_ix (ix_tupK K rfl) (pv 0) (pv 5) (fun _ _ => rfl))) (pg_sub (pv 3) (pv 5) set_list))))
      (pss_one (ps_ret (pe_callTy (call_tupleK K rfl) (by rfl) T.tuple (by decide +kernel) (pa_cons (pv 3) pa_nil)))))), ?_⟩
    obtain ⟨b, ys, rfl, hb, ib⟩ := id ims.tuple
    have ey := ib.ints
    subst ey
    obtain ⟨c, zs, rfl, hc, ic⟩ := id iml.tuple
    obtain ⟨e, us, rfl, he, ie⟩ := id imh.tuple
    have ey := ie.ints
    subst ey
    refine ⟨_, rfl, e, _, rfl, .inr (SqT.of he), fun g ng => ?_⟩
    have sm0 : Same H (upd H g (.lst (hs.map V.int))) := Same.new (Same.refl H) ng
    refine ⟨_, rfl, c, rfl, ⟨_, SqT.of (sm0 _ _ hc)⟩, for_tup (K := K) (a := c) (xs := zs) (fun t σ H' => ∃ v5 v6 v7 : Option V, σ = [some (.ref b), some (.ref c), some (.ref e), some (.ref g), v5, v6, v7] ∧ Same H H' ∧ H' g = some (.lst ((runP ss (l.take t) hs).map V.int)))
      ⟨none, none, none, rfl, sm0, upd_same⟩ (fun t σ H' _ ⟨_, _, _, _, z, _⟩ => SqT.of (z _ _ hc)) ?_ ?_⟩
    · rintro t y σ H1 hy ⟨v5, v6, v7, rfl, sm, hg⟩
      have lt : t < l.length := by
        have := (List.getElem?_eq_some_iff.mp hy).1
        rw [ic.length, List.length_map] at this
        exact this
      obtain ⟨d, hd⟩ : ∃ d, l[t]? = some d := ⟨l[t], List.getElem?_eq_getElem lt⟩
      obtain ⟨y', e1, imd⟩ := ic.get (i := t) (d := dD d) (by rw [List.getElem?_map, hd]; rfl)
      rw [hy] at e1
      cases e1
      obtain ⟨q, ws', rfl, hq, iq⟩ := (Same.k sm imd).tuple
      have ew : ws' = [.int (d.1 : Int), .int (d.2.1 : Int), .int d.2.2] := by
        match ws', iq with
        | _, .cons (.int _) (.cons (.int _) (.cons (.int _) .nil)) => rfl
      subst ew
      obtain ⟨dj, di, dm⟩ := din d (List.mem_of_getElem? hd)
      have co' : COk ss (runP ss (l.take t) hs) := runP_cok ok co
      obtain ⟨s, hs'⟩ := get_some (ss := ss) di
      have nx := (runP_next (ss := ss) (hs := hs) hd).trans (doneI_set ok co' hs')
      generalize runP ss (l.take t) hs = fs at *
      have lf := co'.len
      obtain ⟨s2, _⟩ := (ok s (List.mem_of_getElem? hs')).bnd
      have hsV : (ss.map V.int)[d.2.1]? = some (V.int s) := by rw [List.getElem?_map, hs']; rfl
      refine ⟨q, _, rfl, SqT.of hq, rfl, _, _, rfl, _, _, rfl, _, _, rfl, rfl, ?_⟩
      refine ⟨_, rfl, _, rfl, g, _, _, _, rfl, rfl, SqL.of hg, atI_nat (getD_get (by omega)), _, rfl, _, rfl, _, rfl, g, _, _, _, rfl, rfl, SqL.of hg, atI_nat (getD_get (by omega)), _, _, rfl, rfl, wide_mul (a := 210) (b := 110) (Nat.lt_of_le_of_lt dm (by decide)) (co'.most ok _) (by decide) (by decide) (by decide), _, _, rfl, rfl, _, rfl, _, rfl, b, _, _, _, rfl, rfl, SqT.of (sm _ _ hb), atI_nat hsV, _, _, rfl, rfl, (show (0 : Int) < s by omega), ?_⟩
      refine ⟨_, rfl, _, rfl, g, _, _, d.2.1, rfl, rfl, hg, ixN_of (by rw [List.length_map]; omega), some (.int (d.1 : Int)), some (.int (d.2.1 : Int)), some (.int d.2.2), rfl, ?_, ?_⟩
      · intro x o hx
        by_cases e : x = g
        · subst e
          rw [ng] at hx
          cases hx
        · rw [upd_ne e]
          exact sm _ _ hx
      · rw [upd_same, nx, List.map_set]
    · rintro σ H1 ⟨v5, v6, v7, rfl, sm, hg⟩
      have full : l.take zs.length = l := by rw [ic.length, List.length_map, List.take_length]
      rw [full] at hg
      refine ⟨_, rfl, g, _, rfl, .inl ⟨SqL.of hg, fun t nt => ?_⟩⟩
      exact k _ _ (.tup upd_same (ImAll.of_ints _ _)) (Same.new sm nt)
theorem valV_newK {κ : Type} [DecidableEq κ] (f : List Int → κ) (y : V) {k : κ} : ∀ (xs : List (List Int)), (∀ h ∈ xs, f h ≠ k) → valV (xs.map fun h => (f h, y)) k = none
  | [], _ => rfl
  | x :: xs, hx => by
    rw [List.map_cons, valV_neg (hx x (by simp))]
    exact valV_newK f y xs (fun h m => hx h (List.mem_cons_of_mem _ m))
theorem nodup_take {α : Type} {l : List α} (nd : l.Nodup) {t : Nat} {x y : α} (hx : x ∈ l.take t) (hy : l[t]? = some y) : x ≠ y := by
  rw [← List.take_append_drop t l] at nd
  refine (List.pairwise_append.mp nd).2.2 x hx y ?_
  refine List.mem_of_getElem? (i := 0) ?_
  rw [List.getElem?_drop]
  exact hy
theorem inl_inj : ∀ {a b : List Int}, (a.map Sum.inl : List Key) = b.map Sum.inl → a = b
  | [], [], _ => rfl
  | _ :: _, _ :: _, h => by
    rw [List.map_cons, List.map_cons] at h
    obtain ⟨h1, h2⟩ := List.cons.inj h
    cases h1
    rw [inl_inj h2]
theorem inl_kV (a : List Int) : (a.map Sum.inl : List Key).map kV = a.map V.int := by
  rw [List.map_map]
  rfl
def spUnlike6 : Sp := fun vs H Q _ => ∃ (p q : Addr), vs = [.ref p] ∧ Pt H p q ∧ ∀ H', Pt H' p q → Q (.bl true) H'
abbrev sc_l_are_unlikeN : List Str := ["pot", "machine", "listed", "met", "every", "held", "told"]
theorem sc_l_are_unlike : FnScope sc_l_are_unlikeN ["pot"] (defScope s_l_are_unlike) := ⟨rfl, rfl, rfl, by decide +kernel, rfl, by decide +kernel, by decide +kernel⟩
theorem ok_unlike {f : Addr} {fd : FuncData} (F : Fun K "_law_are_unlike" "_law_are_unlike" s_l_are_unlike f fd) (T : Blt mg) (c_l_small : Cal P w K mg base 4 "_law_small" spSmall) (c_l_program : Cal P w K mg base 4 "_law_program" spProgram) (c_l_every : Cal P w K mg base 1 "_law_every" spEvery) (c_run : Cal P w K mg base 1 "run" spRun) (c_l_run : Cal P w K mg base 1 "_law_run" (spRunI K)) : GFn P w K mg base 5 f fd ["pot"] spUnlike6 := by
  refine gfn_of F sc_l_are_unlike (fun vs H Q E h => ?_) (fun cdv A outer s H vs Q E hcd0 hg hr h => ?_)
  · obtain ⟨p, q, rfl, _⟩ := h
    rfl
  · obtain ⟨p, q, rfl, hP, k⟩ := h
    refine ⟨_, (pss_cons (ps_set (i := 1) sc_l_are_unlike.nd rfl (.inl rfl) (pe_c c_l_small hr (by decide) rfl (pa_cons (pv 0) (pa_cons pe_int pa_nil))))
      (pss_cons (ps_par (i := 2) (j := 3) rfl sc_l_are_unlike.nd rfl rfl (by decide) rfl rfl (pa_cons (pe_c c_l_program hr (by decide) rfl (pa_cons (pv 0) (pa_cons (pv 1) (pa_cons pe_int pa_nil)))) (pa_cons pe_dnewT pa_nil)) (by rfl))
      (pss_cons (ps_set (i := 4) sc_l_are_unlike.nd rfl (.inl rfl) (pe_c c_l_every hr (by decide) rfl (pa_cons (pe_ix (ix_tupK K rfl) (pv 1) pe_int (fun _ _ => rfl)) pa_nil)))
      (pss_cons (ps_for PassesOwn.never rfl (pi_listK K rfl (pv 4)) (pg_name (i := 5) sc_l_are_unlike.nd rfl (.inl rfl)) (pss_cons (ps_set (i := 6) sc_l_are_unlike.nd rfl (.inl rfl) (pe_c c_run hr (by decide) rfl (pa_cons (pv 1) (pa_cons (pv 2) (pa_cons (pv 5) pa_nil)))))
      (pss_cons (ps_if (pt_cmpR op_ne (pe_callB (call_reprK K rfl hg hr) (by rfl) T.repr boot_repr (pa_cons (pv 6) pa_nil)) (pe_callB (call_reprK K rfl hg hr) (by rfl) T.repr boot_repr (pa_cons (pe_c c_l_run hr (by decide) rfl (pa_cons (pe_ix (ix_tupK K rfl) (pv 1) pe_int (fun _ _ => rfl)) (pa_cons (pv 2) (pa_cons (pv 5) pa_nil)))) pa_nil)) (nomark _)) (pss_one (ps_ret pe_bl)) pss_nil)
      (pss_one (ps_dput (hu_of hr) (pv 3) (pv 6) pe_bl rfl)))))
      (pss_one (ps_ret (pe_cmpR op_eq (pe_callB call_len_dT (by rfl) T.len PySem.boot_len (pa_cons (pv 3) pa_nil)) (pe_callB (call_lenK K rfl) (by rfl) T.len PySem.boot_len (pa_cons (pv 4) pa_nil)) (nomark _)))))))), ?_⟩
    refine ⟨_, rfl, p, q, 120, rfl, hP, by decide, by decide, fun mv ss ws H1 im ok pr P1 _ => ?_⟩
    obtain ⟨a, xs, rfl, ha, ia⟩ := id im.tuple
    obtain ⟨b0, g0, is0⟩ := ia.get (i := 0) rfl
    have l6 := ok.six
    refine ⟨_, rfl, _, rfl, p, q, _, ss, ws, 5, rfl, P1, im, ok, by decide, fun lv l H2 iml dok l5 P2 k2 => ?_⟩
    have t2 := k2.tk P1
    intro dm ndm
    have P3 := P2.new (o := .dT []) ndm
    have im3 := (im.k t2).k ((Tk.refl H2).new (o := .dT []) ndm)
    have il3 := iml.k ((Tk.refl H2).new (o := .dT []) ndm)
    have is3 := (is0.k t2).k ((Tk.refl H2).new (o := .dT []) ndm)
    have hdm3 : (upd H2 dm (.dT [])) dm = some (.dT []) := upd_same
    obtain ⟨nd1, nd2⟩ := P2.np ndm
    have ha3 := ((Tk.refl H2).new (o := .dT []) ndm) _ _ (t2 _ _ ha)
    have n3 : Same H2 (upd H2 dm (.dT [])) := Same.new (Same.refl H2) ndm
    generalize upd H2 dm (.dT []) = H3 at *
    refine ⟨_, _, rfl, ?_⟩
    refine ⟨_, rfl, a, _, 0, _, rfl, rfl, SqT.of ha3, atI_nat (j := 0) g0, _, ss, rfl, is3, ok.size, by omega, fun e us H4 ne he iu s4 => ?_⟩
    have ev := every_full ss ok.size
    generalize everyI ss = es at *
    have le : us.length = es.length := by rw [iu.length, List.length_map]
    have l120 : es.length ≤ 1000 := by rw [ev.len]; omega
    have P4 := P3.same s4
    have dme : dm ≠ e := fun z => by
      rw [← z, hdm3] at ne
      cases ne
    refine ⟨_, rfl, e, rfl, ⟨_, SqL.of he⟩, for_list (K := K) (a := e) (xs := us) (fun t σ H' => ∃ v5 v6 : Option V, σ = [some (.ref p), some (.ref a), some lv, some (.ref dm), some (.ref e), v5, v6] ∧ Same H2 H' ∧ Pt H' p q ∧ Tk H4 H' ∧ H' e = some (.lst us) ∧ H' dm = some (.dT ((es.take t).map fun h => (((runP ss l h).map Sum.inl : List Key), V.bl true))))
      ⟨none, none, rfl, n3.trans s4, P4, Tk.refl H4, he, s4 _ _ hdm3⟩ (fun t σ H' _ ⟨_, _, _, _, _, _, z, _⟩ => SqL.of z) ?_ ?_⟩
    · rintro t x σ H5 hx ⟨v5, v6, rfl, s25, P5, t45, he5, hdm5⟩
      obtain ⟨dx, hdx, imx⟩ := ImAll.getV iu hx
      obtain ⟨h, hh, rfl⟩ := map_get hdx
      have ch := ev.cok h (List.mem_of_getElem? hh)
      have lt : t < es.length := (List.getElem?_eq_some_iff.mp hh).1
      have im5 := (im3.k (Tk.same s4)).k t45
      have is5 := (is3.k (Tk.same s4)).k t45
      have il5 := (il3.k (Tk.same s4)).k t45
      have ix5 := imx.k t45
      have ha5 := t45 _ _ (s4 _ _ ha3)
      refine ⟨_, rfl, _, rfl, _, rfl, _, _, _, ss, ws, l, h, rfl, im5, ok, il5, dok, by omega, ix5, ch, fun u H6 iu6 s6 => ?_⟩
      have cr := runP_cok (l := l) ok.size ch
      have shr := cok_shB ok.size l6 cr
      obtain ⟨g, gs, rfl, hg, ig⟩ := id iu6.tuple
      have eg := ig.ints
      subst eg
      obtain ⟨o, os, rfl, ho, io⟩ := id ix5.tuple
      have eo := io.ints
      subst eo
      refine ⟨_, rfl, _, _, rfl, iu6.dp, shr.1, _, rfl, a, _, 0, _, rfl, rfl, SqT.of (s6 _ _ ha5), atI_nat (j := 0) g0, _, rfl, _, rfl, _, _, o, ss, h, l, rfl, Same.k s6 is5, Same.k s6 il5, .inr (SqT.of (s6 _ _ ho)), ch.len, by omega, ok.size, dok_low ok dok, by omega, cok_most5 ok.size ch, fun y H7 iy s7 => ?_⟩
      rw [runI_eq ok dok ch (Cg.refl ch.len)] at iy
      have s57 := s6.trans s7
      refine ⟨_, _, rfl, iy.dp, shr.1, rfl, _, rfl, iteNS rfl ?_⟩
      have hdm7 := s57 _ _ hdm5
      have hg7 := s7 _ _ hg
      rw [← inl_kV] at hg7
      have fresh : valV ((es.take t).map fun h => (((runP ss l h).map Sum.inl : List Key), V.bl true)) ((runP ss l h).map Sum.inl) = none := by
        refine valV_newK (fun h => ((runP ss l h).map Sum.inl : List Key)) _ _ (fun h' hm e' => ?_)
        have e2 := inl_inj e'
        refine nodup_take ev.nd hm hh ?_
        have din : ∀ d ∈ l, DIn ss d := fun d hd => (dok d hd).din ok
        rw [← runP_back ok.size din (ev.cok h' (List.mem_of_mem_take hm)), e2, runP_back ok.size din ch]
      have tkp : Tk H7 (upd H7 dm (.dT (putK ((es.take t).map fun h => (((runP ss l h).map Sum.inl : List Key), V.bl true)) ((runP ss l h).map Sum.inl) (.bl true)))) := fun b ys z => by
        rw [upd_ne (ne_of z hdm7 (by intro q; cases q))]
        exact z
      refine ⟨_, rfl, _, rfl, dm, _, rfl, DPut.t hdm7 hg7 (by rw [List.length_map, List.length_take]; exact Nat.lt_of_le_of_lt (show _ ≤ 1000 by omega) (by decide)), _, _, rfl, Same.put (Same.trans s25 s57) ndm, (P5.same s57).put nd1 nd2, (t45.trans (Tk.same s57)).trans tkp, ?_, ?_⟩
      · rw [upd_ne (Ne.symm dme)]
        exact s57 _ _ he5
      · rw [upd_same, putK_new _ fresh, take_get hh, List.map_append]
        rfl
    · rintro σ H5 ⟨v5, v6, rfl, s25, P5, t45, he5, hdm5⟩
      rw [le, List.take_length] at hdm5
      refine ⟨_, rfl, dm, _, rfl, hdm5, ?_⟩
      refine ⟨_, rfl, e, _, rfl, .inl (SqL.of he5), ?_⟩
      rw [List.length_map]
      exact ⟨rfl, qSK (by rw [le]) (k _ P5)⟩

/-! ### k06: _law_is_long, law -/
def spLong6 : Sp := fun vs H Q _ => ∃ (p q : Addr), vs = [.ref p] ∧ Pt H p q ∧ ∀ H', Pt H' p q → Q (.bl true) H'
def szVK (v : V) : Bool := okV v && (match v with | .int i => decide (2 ≤ i) | _ => false)
theorem szVK_of {v : V} (h : szVK v = true) : ∃ n : Int, v = .int n ∧ SizeOk n := by
  unfold szVK at h
  rw [Bool.and_eq_true] at h
  obtain ⟨m, rfl, m1, m2, m3⟩ := okV_of h.1
  have : 2 ≤ (m : Int) := of_decide_eq_true h.2
  exact ⟨m, rfl, m, rfl, by omega, m2, m3⟩
theorem sz_allK {ss : List Int} (h : (ss.map V.int).all szVK = true) : ∀ s ∈ ss, SizeOk s := fun s hs => by
  obtain ⟨n, e, ok⟩ := szVK_of (List.all_eq_true.mp h (.int s) (List.mem_map_of_mem hs))
  cases e
  exact ok
theorem ImAll.repK {H : Hp} {vs : List V} {ds : List PyData} (h : ImAll H vs ds) : ∀ n : Nat, ImAll H (List.replicate n vs).flatten (List.replicate n ds).flatten
  | 0 => .nil
  | n + 1 => by
    rw [List.replicate_succ, List.replicate_succ, List.flatten_cons, List.flatten_cons]
    exact h.append (ImAll.repK h n)
theorem map_repK {α β : Type} (f : α → β) (l : List α) : ∀ n : Nat, (List.replicate n (l.map f)).flatten = ((List.replicate n l).flatten).map f
  | 0 => rfl
  | n + 1 => by rw [List.replicate_succ, List.replicate_succ, List.flatten_cons, List.flatten_cons, List.map_append, map_repK f l n]
theorem mem_repK {α : Type} {l : List α} {x : α} : ∀ {n : Nat}, x ∈ (List.replicate n l).flatten → x ∈ l
  | 0, h => by cases h
  | n + 1, h => by
    rw [List.replicate_succ, List.flatten_cons] at h
    rcases List.mem_append.mp h with h | h
    · exact h
    · exact mem_repK h
theorem len_repK {α : Type} (l : List α) : ∀ n : Nat, ((List.replicate n l).flatten).length = n * l.length
  | 0 => by rw [Nat.zero_mul]; rfl
  | n + 1 => by rw [List.replicate_succ, List.flatten_cons, List.length_append, len_repK l n, Nat.succ_mul, Nat.add_comm]
theorem back_appK (a b : List (Nat × Nat × Int)) : backI (a ++ b) = backI b ++ backI a := by
  unfold backI
  rw [List.map_append, List.reverse_append]
theorem rep_last {α : Type} (l : List α) : ∀ n : Nat, (List.replicate (n + 1) l).flatten = (List.replicate n l).flatten ++ l
  | 0 => by simp
  | n + 1 => by
    rw [List.replicate_succ, List.flatten_cons, rep_last l n, ← List.append_assoc, ← List.flatten_cons, ← List.replicate_succ, rep_last l n]
theorem back_take12 {ds : List (Nat × Nat × Int)} (h : ds.length = 12) (n : Nat) : (backI (List.replicate (n + 1) ds).flatten).take 12 = backI ds ∧ ((List.replicate (n + 1) ds).flatten).take 12 = ds := by
  constructor
  · rw [rep_last, back_appK, List.take_append_of_le_length (by rw [backI_lenB]; omega), List.take_of_length_le (by rw [backI_lenB]; omega)]
  · rw [List.replicate_succ, List.flatten_cons, List.take_append_of_le_length (by omega), List.take_of_length_le (by omega)]
def ringW (n : Nat) : List (Nat × Nat) := (List.range n).map fun j => (j, (j + 1) % n)
theorem ring_mok {ss : List Int} (ok : ∀ s ∈ ss, SizeOk s) (l2 : 2 ≤ ss.length) (l4 : ss.length ≤ 4) : MOk ss (ringW ss.length) := by
  refine ⟨by omega, by omega, ok, ⟨?_, fun w hw => ?_⟩⟩
  · unfold ringW
    rw [List.pairwise_map]
    exact List.pairwise_lt_range.imp fun h => .inl h
  · obtain ⟨j, hj, rfl⟩ := List.mem_map.mp hw
    have hj := List.mem_range.mp hj
    refine ⟨hj, Nat.mod_lt _ (by omega), ?_⟩
    show j ≠ (j + 1) % ss.length
    by_cases z : j + 1 < ss.length
    · rw [Nat.mod_eq_of_lt z]
      omega
    · rw [show j + 1 = ss.length by omega, Nat.mod_self]
      omega
theorem ring_len (n : Nat) : (ringW n).length = n := by
  unfold ringW
  rw [List.length_map, List.length_range]
theorem ring_get {n i : Nat} (h : i < n) : (ringW n)[i]? = some (i, (i + 1) % n) := by
  unfold ringW
  rw [List.getElem?_map, List.getElem?_range h]
  rfl
abbrev sc_l_is_longN : List Str := ["pot", "sizes", "many", "machine", "listed", "held", "due", "back", "j", "turn"]
theorem sc_l_is_long : FnScope sc_l_is_longN ["pot"] (defScope s_l_is_long) := ⟨rfl, rfl, rfl, by decide +kernel, rfl, by decide +kernel, by decide +kernel⟩
theorem ok_long {f : Addr} {fd : FuncData} (F : Fun K "_law_is_long" "_law_is_long" s_l_is_long f fd) (T : Blt mg) (c_l_pick : Cal P w K mg base 2 "_law_pick" spPick) (c_l_deed : Cal P w K mg base 3 "_law_deed" spDeed) (c_l_contents : Cal P w K mg base 3 "_law_contents" spContents) (c_l_far : Cal P w K mg base 1 "_law_far" spFar) (c_backward : Cal P w K mg base 1 "backward" spBackM) (c_run : Cal P w K mg base 1 "run" spRun) : GFn P w K mg base 4 f fd ["pot"] spLong6 := by
  refine gfn_of F sc_l_is_long (fun vs H Q E h => ?_) (fun cdv A outer s H vs Q E hcd0 hg hr h => ?_)
  · obtain ⟨p, q, rfl, _⟩ := h
    rfl
  · obtain ⟨p, q, rfl, hP, k⟩ := h
    refine ⟨_, (pss_cons (ps_set (i := 1) sc_l_is_long.nd rfl (.inl rfl) (pe_c c_l_pick hr (by decide) rfl (pa_cons (pv 0) (pa_cons (pe_lst (pa_cons (pe_tup (pa_cons pe_int (pa_cons pe_int (pa_cons pe_int pa_nil)))) (pa_cons (pe_tup (pa_cons (pe_op op_pow pe_int pe_int) (pa_cons (pe_op op_pow pe_int pe_int) pa_nil))) (pa_cons (pe_tup (pa_cons pe_int (pa_cons (pe_op op_pow pe_int pe_int) (pa_cons pe_int (pa_cons pe_int pa_nil))))) pa_nil)))) pa_nil))))
      (pss_cons (ps_set (i := 2) sc_l_is_long.nd rfl (.inr rfl) (pe_callB (call_lenK K rfl) (by rfl) T.len PySem.boot_len (pa_cons (pv 1) pa_nil)))
      (pss_cons (ps_set (i := 3) sc_l_is_long.nd rfl (.inr rfl) (pe_tup (pa_cons (pv 1) (pa_cons (pe_callTy (call_tupleK K rfl) (by rfl) T.tuple (by decide +kernel) (pa_cons (pe_lc (own := [("j", 8)]) rfl sc_l_is_long.nd (pi_range1 (by rfl) T.range (pa_cons (pv 2) pa_nil)) (blkOk_by (N := sc_l_is_longN) (sc := defScope s_l_is_long) (by decide +kernel)) (fun _ _ _ _ _ => (pg_name (i := 8) sc_l_is_long.nd rfl (by first | exact .inl rfl | exact .inr rfl))) (fun _ _ _ _ _ => pts_nil) (fun _ _ _ _ _ => (pe_tup (pa_cons (pv 8) (pa_cons (pe_op op_mod (pe_callTy call_int1 (by rfl) T.int (by decide +kernel) (pa_cons (pe_op op_add (pv 8) pe_int) pa_nil)) (pv 2)) pa_nil))))) pa_nil)) pa_nil))))
      (pss_cons (ps_set (i := 4) sc_l_is_long.nd rfl (.inl rfl) (pe_op op_repT (pe_callTy (call_tupleK K rfl) (by rfl) T.tuple (by decide +kernel) (pa_cons (pe_lc (own := [("turn", 9)]) rfl sc_l_is_long.nd (pi_range1 (by rfl) T.range (pa_cons pe_int pa_nil)) (blkOk_by (N := sc_l_is_longN) (sc := defScope s_l_is_long) (by decide +kernel)) (fun _ _ _ _ _ => (pg_name (i := 9) sc_l_is_long.nd rfl (by first | exact .inl rfl | exact .inr rfl))) (fun _ _ _ _ _ => pts_nil) (fun _ _ _ _ _ => (pe_c c_l_deed hr (by decide) rfl (pa_cons (pv 0) (pa_cons (pv 3) pa_nil))))) pa_nil)) pe_int))
      (pss_cons (ps_set (i := 5) sc_l_is_long.nd rfl (.inl rfl) (pe_c c_l_contents hr (by decide) rfl (pa_cons (pv 0) (pa_cons (pv 1) pa_nil))))
      (pss_cons (ps_par (i := 6) (j := 7) rfl sc_l_is_long.nd rfl rfl (by decide) rfl rfl (pa_cons (pe_c c_l_far hr (by decide) rfl (pa_cons (pv 1) (pa_cons (pv 4) (pa_cons (pv 5) pa_nil)))) (pa_cons (pe_c c_backward hr (by decide) rfl (pa_cons (pv 4) pa_nil)) pa_nil)) (by rfl))
      (pss_cons (ps_if (pt_cmpR op_ne (pe_callB (call_reprK K rfl hg hr) (by rfl) T.repr boot_repr (pa_cons (pe_lst (pa_cons (pe_c c_run hr (by decide) rfl (pa_cons (pv 3) (pa_cons (pv 4) (pa_cons (pv 5) pa_nil)))) (pa_cons (pe_callB (call_lenK K rfl) (by rfl) T.len PySem.boot_len (pa_cons (pv 7) pa_nil)) (pa_cons (pe_slice sl_tupA (pv 7) po_none (po_some pe_int)) pa_nil)))) pa_nil)) (pe_callB (call_reprK K rfl hg hr) (by rfl) T.repr boot_repr (pa_cons (pe_lst (pa_cons (pv 6) (pa_cons pe_int (pa_cons (pe_c c_backward hr (by decide) rfl (pa_cons (pe_slice sl_tupA (pv 4) po_none (po_some pe_int)) pa_nil)) pa_nil)))) pa_nil)) (nomark _)) (pss_one (ps_ret pe_bl)) pss_nil)
      (pss_one (ps_ret (pe_cmpR op_eq (pe_callB (call_reprK K rfl hg hr) (by rfl) T.repr boot_repr (pa_cons (pe_c c_run hr (by decide) rfl (pa_cons (pv 3) (pa_cons (pv 7) (pa_cons (pv 6) pa_nil)))) pa_nil)) (pe_callB (call_reprK K rfl hg hr) (by rfl) T.repr boot_repr (pa_cons (pv 5) pa_nil)) (nomark _))))))))))), ?_⟩
    refine ⟨_, rfl, by show 3 ≤ sizeLine; decide, fun t1 n1 => ⟨_, _, rfl, rfl, ⟨by decide, by decide, by decide⟩, _, _, rfl, rfl, ⟨by decide, by decide, by decide⟩, by show 2 ≤ sizeLine; decide, fun t2 n2 => ⟨_, _, rfl, rfl, ⟨by decide, by decide, by decide⟩, by show 4 ≤ sizeLine; decide, fun t3 n3 => ⟨by show 3 ≤ sizeLine; decide, fun z nz => ?_⟩⟩⟩⟩
    have Pz := ((hP.new (o := .tup [.int 8, .int 4, .int 8]) n1).new (o := .tup [.int (2 ^ (64 : Int).toNat), .int (10 ^ (30 : Int).toNat)]) n2).new (o := .tup [.int 36, .int (2 ^ (32 : Int).toNat), .int 6, .int 97]) n3
    obtain ⟨nz1, nz2⟩ := Pz.np nz
    have i3 : Im (upd (upd (upd (upd H t1 (.tup [.int 8, .int 4, .int 8])) t2 (.tup [.int (2 ^ (64 : Int).toNat), .int (10 ^ (30 : Int).toNat)])) t3 (.tup [.int 36, .int (2 ^ (32 : Int).toNat), .int 6, .int 97])) z (.lst [.ref t1, .ref t2, .ref t3])) (.ref t3) (sD [36, 2 ^ (32 : Int).toNat, 6, 97]) := .tup (keepN upd_same nz) (.cons (.int _) (.cons (.int _) (.cons (.int _) (.cons (.int _) .nil))))
    have i2 : Im (upd (upd (upd (upd H t1 (.tup [.int 8, .int 4, .int 8])) t2 (.tup [.int (2 ^ (64 : Int).toNat), .int (10 ^ (30 : Int).toNat)])) t3 (.tup [.int 36, .int (2 ^ (32 : Int).toNat), .int 6, .int 97])) z (.lst [.ref t1, .ref t2, .ref t3])) (.ref t2) (sD [2 ^ (64 : Int).toNat, 10 ^ (30 : Int).toNat]) := .tup (keepN (keepN upd_same n3) nz) (.cons (.int _) (.cons (.int _) .nil))
    have i1 : Im (upd (upd (upd (upd H t1 (.tup [.int 8, .int 4, .int 8])) t2 (.tup [.int (2 ^ (64 : Int).toNat), .int (10 ^ (30 : Int).toNat)])) t3 (.tup [.int 36, .int (2 ^ (32 : Int).toNat), .int 6, .int 97])) z (.lst [.ref t1, .ref t2, .ref t3])) (.ref t1) (sD [8, 4, 8]) := .tup (keepN (keepN (keepN upd_same n2) n3) nz) (.cons (.int _) (.cons (.int _) (.cons (.int _) .nil)))
    refine ⟨p, q, z, _, rfl, Pz.new nz, upd_same, nz1, nz2, List.cons_ne_nil _ _, by show 3 < 1000; decide, fun v H1 hv P1 k1 => ?_⟩
    have tz := k1.tk (Pz.new nz)
    obtain ⟨ss, ims, oks, l2, l4⟩ : ∃ ss : List Int, Im H1 v (sD ss) ∧ (∀ s ∈ ss, SizeOk s) ∧ 2 ≤ ss.length ∧ ss.length ≤ 4 := by
      rcases List.mem_cons.mp hv with rfl | hv
      · exact ⟨_, i1.k tz, sz_allK (by decide +kernel), by show 2 ≤ 3; decide, by show 3 ≤ 4; decide⟩
      rcases List.mem_cons.mp hv with rfl | hv
      · exact ⟨_, i2.k tz, sz_allK (by decide +kernel), by show 2 ≤ 2; decide, by show 2 ≤ 4; decide⟩
      · rw [List.mem_singleton.mp hv]
        exact ⟨_, i3.k tz, sz_allK (by decide +kernel), by show 2 ≤ 4; decide, by show 4 ≤ 4; decide⟩
    obtain ⟨b, ys, rfl, hb, ib⟩ := id ims.tuple
    have ey := ib.ints
    subst ey
    have mok := ring_mok oks l2 l4
    refine ⟨_, rfl, b, _, rfl, .inr (SqT.of hb), ?_⟩
    rw [List.length_map]
    refine ⟨_, rfl, _, rfl, _, rfl, by omega, by omega, fun D nD => ?_⟩
    rw [Int.toNat_natCast]
    obtain ⟨nd1, nd2⟩ := P1.np nD
    refine lc_range (lo := 0) (n := ss.length) (fun i H' => Same H1 H' ∧ ∃ vs : List V, H' D = some (.lst vs) ∧ ImAll H' vs (((ringW ss.length).take i).map wD)) ⟨Same.new (Same.refl H1) nD, [], upd_same, .nil⟩ ?_ ?_
    · rintro i H2 hi ⟨sm, vs, hD, iv⟩
      have lv : vs.length ≤ 10 := by
        rw [iv.length, List.length_map, List.length_take]
        omega
      simp only [Int.zero_add]
      refine ⟨rfl, _, rfl, _, rfl, _, _, rfl, rfl, .inl ⟨_, rfl, ?_⟩⟩
      refine ⟨_, rfl, _, _, rfl, rfl, (show (0 : Int) < (ss.length : Int) by omega), by show 2 ≤ sizeLine; decide, fun t nt => ?_⟩
      have hD3 : (upd H2 t (.tup [.int (i : Int), .int (((i : Int) + 1) % (ss.length : Int))])) D = some (.lst vs) := keepN hD nt
      have tk : Tk (upd H2 t (.tup [.int (i : Int), .int (((i : Int) + 1) % (ss.length : Int))])) (upd (upd H2 t (.tup [.int (i : Int), .int (((i : Int) + 1) % (ss.length : Int))])) D (.lst (vs ++ [.ref t]))) := (Tk.refl _).put hD3
      refine ⟨_, hD3, small1000 (by omega), Same.put (Same.new sm nt) nD, _, upd_same, ?_⟩
      rw [take_get (ring_get hi), List.map_append]
      refine ((iv.k ((Tk.refl H2).new nt)).k tk).append (.cons (Im.k (.tup upd_same (.cons (.int _) (.cons ?_ .nil))) tk) .nil)
      rw [show ((i : Int) + 1) % (ss.length : Int) = (((i + 1) % ss.length : Nat) : Int) from (Int.natCast_emod (i + 1) ss.length).symm]
      exact .int _
    rintro H2 ⟨sm, vs, hD, iv⟩
    have full : (ringW ss.length).take ss.length = ringW ss.length := List.take_of_length_le (by rw [ring_len]; exact Nat.le_refl _)
    rw [full] at iv
    refine ⟨D, _, rfl, .inl ⟨SqL.of hD, fun u nu => ⟨by show 2 ≤ sizeLine; decide, fun t nt => ?_⟩⟩⟩
    have s13 : Same H1 (upd (upd H2 u (.tup vs)) t (.tup [.ref b, .ref u])) := Same.new (sm.trans (Same.new (Same.refl H2) nu)) nt
    have s23 : Same H2 (upd (upd H2 u (.tup vs)) t (.tup [.ref b, .ref u])) := Same.new (Same.new (Same.refl H2) nu) nt
    have im : Im (upd (upd H2 u (.tup vs)) t (.tup [.ref b, .ref u])) (.ref t) (mD ss (ringW ss.length)) := .tup upd_same (.cons (Same.k s13 ims) (.cons (.tup (keepN upd_same nt) (iv.k (Tk.same s23))) .nil))
    have P3 := P1.same s13
    have ims3 := Same.k s13 ims
    generalize upd (upd H2 u (.tup vs)) t (.tup [.ref b, .ref u]) = H3 at *
    have wne : ringW ss.length ≠ [] := fun z => by
      have := ring_len ss.length
      rw [z] at this
      have : (0 : Nat) = ss.length := this
      omega
    have six := mok.six
    generalize ringW ss.length = ws at *
    refine ⟨12, rfl, by decide, by decide, fun d nd => ?_⟩
    obtain ⟨ndd1, ndd2⟩ := P3.np nd
    refine lc_range (lo := 0) (n := (12 : Int).toNat) (fun i H' => Pt H' p q ∧ Kp p q H3 H' ∧ ∃ (vs : List V) (ds : List (Nat × Nat × Int)), H' d = some (.lst vs) ∧ ImAll H' vs (ds.map dD) ∧ ds.length = i ∧ ∀ x ∈ ds, DOk ss ws x)
      ⟨P3.new nd, (Kp.refl p q H3).new nd, [], [], upd_same, .nil, rfl, fun x hx => by cases hx⟩ ?_ ?_
    · rintro i H6 hi ⟨P6, k6, vs, ds, hd, ia3, hl, ok3⟩
      have lv : vs.length = ds.length := by rw [ia3.length, List.length_map]
      have hi' : i < 12 := hi
      refine ⟨rfl, _, rfl, _, rfl, p, q, _, _, _, rfl, P6, im.k (k6.tk P3), mok, wne, fun u dd H7 imu dok P7 k7 => ?_⟩
      have hd4 : H7 d = some (.lst vs) := k7 _ _ ndd1 ndd2 hd
      have tk5 : Tk H7 (upd H7 d (.lst (vs ++ [u]))) := (Tk.refl H7).put hd4
      refine ⟨vs, hd4, small1000 (by omega), P7.put ndd1 ndd2, (k6.trans k7).put nd, vs ++ [u], ds ++ [dd], upd_same, ?_, by rw [List.length_append, List.length_singleton, hl], fun x hx => ?_⟩
      · rw [List.map_append]
        exact ((ia3.k (k7.tk P6)).k tk5).append (.cons (imu.k tk5) .nil)
      · rcases List.mem_append.mp hx with h | h
        · exact ok3 x h
        · rw [List.mem_singleton.mp h]
          exact dok
    rintro H6 ⟨P6, k6, vs, ds, hd, ia3, hl, ok3⟩
    have hl : ds.length = 12 := hl
    have lv : vs.length = 12 := by rw [ia3.length, List.length_map]; exact hl
    refine ⟨d, _, rfl, .inl ⟨SqL.of hd, fun u nu => ⟨u, 50, vs, rfl, rfl, SqT.of upd_same, (fun z => by rw [z] at lv; cases lv), by decide, by decide, by omega, fun r nr => ?_⟩⟩⟩
    have s7 : Same H6 (upd (upd H6 u (.tup vs)) r (.tup (List.replicate (50 : Int).toNat vs).flatten)) := Same.new (Same.new (Same.refl H6) nu) nr
    have il : Im (upd (upd H6 u (.tup vs)) r (.tup (List.replicate (50 : Int).toNat vs).flatten)) (.ref r) (pD (List.replicate (49 + 1) ds).flatten) := .tup upd_same (by
      have z := (ia3.k (Tk.same s7)).repK 50
      rwa [map_repK] at z)
    have P7 := P6.same s7
    have t37 := (k6.tk P3).trans (Tk.same s7)
    have im7 := im.k t37
    have is7 := ims3.k t37
    generalize upd (upd H6 u (.tup vs)) r (.tup (List.replicate (50 : Int).toNat vs).flatten) = H7 at *
    obtain ⟨bt, lt12⟩ := back_take12 hl 49
    have ll : (List.replicate (49 + 1) ds).flatten.length = 600 := by rw [len_repK, hl]
    have dok : ∀ x ∈ (List.replicate (49 + 1) ds).flatten, DOk ss ws x := fun x hx => ok3 x (mem_repK hx)
    generalize (List.replicate (49 + 1) ds).flatten = l at *
    have din : ∀ x ∈ l, DIn ss x := fun x hx => (dok x hx).din mok
    have dlo := dok_low mok dok
    have dom : ∀ d ∈ l, d.2.2.natAbs ≤ 10 ^ 60 := fun d hd => (dlo d hd).2.2
    refine ⟨_, rfl, _, rfl, p, q, _, ss, rfl, P7, is7, oks, by omega, fun hv' hs H8 ih ch P8 k8 => ?_⟩
    have t78 := k8.tk P7
    refine ⟨_, rfl, _, rfl, _, rfl, _, _, _, ss, hs, l, rfl, is7.k t78, il.k t78, ih, oks, by omega, dlo, ch, fun du H9 idu s9 => ?_⟩
    refine ⟨_, rfl, _, l, rfl, Same.k s9 (il.k t78), by omega, dom, fun bk HA ibk sA => ⟨_, _, rfl, ?_⟩⟩
    have s8A := s9.trans sA
    have imA := Same.k s8A (im7.k t78)
    have ilA := Same.k s8A (il.k t78)
    have ihA := Same.k s8A ih
    have iduA := Same.k sA idu
    have PA := P8.same s8A
    have bok := back_dokK dok
    have cr := runP_cok (l := l) oks ch
    refine ⟨_, rfl, _, rfl, _, rfl, _, _, _, ss, ws, l, hs, rfl, imA, mok, ilA, dok, by omega, ihA, ch, fun r1 HB ir1 sB => ?_⟩
    obtain ⟨e, es, rfl, he, ie⟩ := id ibk.tuple
    have les : es.length = 600 := by rw [ie.length, List.length_map, backI_lenB]; exact ll
    have heB := sB _ _ he
    refine ⟨_, rfl, e, _, rfl, .inr (SqT.of heB), ?_⟩
    rw [les]
    refine ⟨_, rfl, 12, rfl, slT_anyK heB fun c1 HC sC hc1 => ⟨by show 3 ≤ sizeLine; decide, fun l1 nl1 => ?_⟩⟩
    rw [show (some (12 : Int)) = some ((12 : Nat) : Int) from rfl, cut_toK] at hc1
    have sAC := sB.trans sC
    have ic1 : Im HC (.ref c1) (pD (backI ds)) := .tup hc1 (by
      have y := ImAll.takeK 12 (ie.k (Tk.same sAC))
      rw [← List.map_take, bt] at y
      exact y)
    have ok3b := back_dokK ok3
    have shp := prog_shB mok ok3b (by rw [backI_lenB]; omega)
    have shr := cok_shB oks mok.six cr
    have sh6 : ShB (.int 600) := ⟨Sh.int (Nat.lt_of_lt_of_le (show (600 : Int).natAbs < 2 ^ 10 by decide) (Nat.pow_le_pow_right (by decide) (by decide))), by simp only [NA.cost]; decide, by simp only [PyData.depth]; decide⟩
    have sh3 := sh_threeK shr sh6 shp
    have sD1 : Same HC (upd HC l1 (.lst [r1, .int ((600 : Nat) : Int), .ref c1])) := Same.new (Same.refl HC) nl1
    refine ⟨_, _, rfl, .lst (SqL.of upd_same) (.cons (Same.k (sC.trans sD1) ir1).dp (.cons (.int _) (.cons (Same.k sD1 ic1).dp .nil))), sh3, _, rfl, _, rfl, 12, rfl, ?_⟩
    have sAD := sAC.trans sD1
    generalize upd HC l1 (.lst [r1, .int ((600 : Nat) : Int), .ref c1]) = HD at *
    obtain ⟨g, gs, ge, hg, ig⟩ := id (Same.k sAD ilA).tuple
    cases ge
    refine slT_anyK hg fun c2 HE sE hc2 => ?_
    rw [show (some (12 : Int)) = some ((12 : Nat) : Int) from rfl, cut_toK] at hc2
    have ic2 : Im HE (.ref c2) (pD ds) := .tup hc2 (by
      have y := ImAll.takeK 12 (ig.k (Tk.same sE))
      rw [← List.map_take, lt12] at y
      exact y)
    refine ⟨_, ds, rfl, ic2, by omega, fun d hd => ((ok3 d hd).most), fun y2 HF iy2 sF => ⟨by show 3 ≤ sizeLine; decide, fun l2 nl2 => ?_⟩⟩
    have sAF := (sAD.trans sE).trans sF
    have sG : Same HF (upd HF l2 (.lst [du, .int 600, y2])) := Same.new (Same.refl HF) nl2
    have sAG := sAF.trans sG
    refine ⟨_, _, rfl, .lst (SqL.of upd_same) (.cons (Same.k sAG iduA).dp (.cons (.int _) (.cons (Same.k sG iy2).dp .nil))), sh3, rfl, _, rfl, iteNS rfl ?_⟩
    generalize upd HF l2 (.lst [du, .int 600, y2]) = HG at *
    refine ⟨_, rfl, _, rfl, _, rfl, _, _, _, ss, ws, backI l, runP ss l hs, rfl, Same.k sAG imA, mok, Same.k sAG ibk, bok, by rw [backI_lenB]; omega, Same.k sAG iduA, cr, fun r3 HI ir3 sI => ?_⟩
    rw [runP_back oks din ch] at ir3
    have sAI := sAG.trans sI
    have shh := cok_shB oks mok.six ch
    exact ⟨_, _, rfl, ir3.dp, shh.1, _, rfl, _, _, rfl, (Same.k sAI ihA).dp, shh.1, rfl, qSK rfl (k _ (PA.same sAI))⟩
abbrev sc_lawN : List Str := ["script", "pot", "turn", "machine"]
theorem sc_law : FnScope sc_lawN ["script"] (defScope s_law) := ⟨rfl, rfl, rfl, by decide +kernel, rfl, by decide +kernel, by decide +kernel⟩
theorem ok_law {f : Addr} {fd : FuncData} (F : Fun K "law" "law" s_law f fd) (T : Blt mg) (c_l_pot : Cal P w K mg base 1 "_law_pot" (spPot K)) (c_l_machine : Cal P w K mg base 5 "_law_machine" spMachine) (c_l_program : Cal P w K mg base 4 "_law_program" spProgram) (c_l_is_run : GCal P w K mg base 4 "_law_is_run" spIsRun) (c_l_are_unlike : GCal P w K mg base 5 "_law_are_unlike" spUnlike6) (c_l_is_long : GCal P w K mg base 4 "_law_is_long" spLong6) (c_l_dip : Cal P w K mg base 1 "_law_dip" spDip) : GFn P w K mg base 6 f fd ["script"] (spLaw K) := by
  refine gfn_of F sc_law (fun vs H Q E h => ?_) (fun cdv A outer s H vs Q E hcd0 hg hr h => ?_)
  · obtain ⟨a, ns, rfl, _⟩ := h
    rfl
  · obtain ⟨sa, ns, rfl, hS, hlen, k⟩ := h
    refine ⟨_, (pss_cons (ps_set (i := 1) sc_law.nd rfl (.inl rfl) (pe_c c_l_pot hr (by decide) rfl (pa_cons (pv 0) pa_nil)))
      (pss_cons (ps_for PassesOwn.never rfl (pi_range1 (by rfl) T.range (pa_cons pe_int pa_nil)) (pg_name (i := 2) sc_law.nd rfl (.inl rfl)) (pss_cons (ps_set (i := 3) sc_law.nd rfl (.inl rfl) (pe_c c_l_machine hr (by decide) rfl (pa_cons (pv 1) (pa_cons (pe_cmpR op_eq (pe_op op_mod (pv 2) pe_int) pe_int (nomark _)) pa_nil))))
      (pss_one (ps_if (pt_not (pt_val (pe_g c_l_is_run hg hr (by decide) rfl (pa_cons (pv 1) (pa_cons (pv 3) (pa_cons (pe_c c_l_program hr (by decide) rfl (pa_cons (pv 1) (pa_cons (pv 3) (pa_cons pe_int pa_nil)))) pa_nil)))))) (pss_one (ps_ret pe_bl)) pss_nil))))
      (pss_cons (ps_if (PW.pt (pw_or (pt_not (pt_val (pe_g c_l_is_run hg hr (by decide) rfl (pa_cons (pv 1) (pa_cons (pe_c c_l_machine hr (by decide) rfl (pa_cons (pv 1) (pa_cons pe_bl pa_nil))) (pa_cons (pe_tup pa_nil) pa_nil)))))) (pw_or1 (pt_not (pt_val (pe_g c_l_are_unlike hg hr (by decide) rfl (pa_cons (pv 1) pa_nil))))))) (pss_one (ps_ret pe_bl)) pss_nil)
      (pss_one (ps_ret (pe_or (pe_cmpR op_gt (pe_c c_l_dip hr (by decide) rfl (pa_cons (pv 1) (pa_cons pe_int pa_nil))) pe_int (nomark _)) (pe_one (pe_g c_l_is_long hg hr (by decide) rfl (pa_cons (pv 1) pa_nil))))))))), ?_⟩
    refine ⟨_, rfl, sa, ns, rfl, hS, hlen, fun p q H1 P1 sm1 np nq => ?_⟩
    refine ⟨8, rfl, by decide, by decide, for_range (lo := 0) (n := 8) (fun _ σ H' => ∃ v2 v3 : Option V, σ = [some (.ref sa), some (.ref p), v2, v3] ∧ Pt H' p q)
      ⟨none, none, rfl, P1⟩ ?_ ?_⟩
    · rintro t σ H2 ht ⟨v2, v3, rfl, P2⟩
      refine ⟨_, rfl, _, rfl, _, _, rfl, rfl, (by decide : (0 : Int) < 2), rfl, p, q, _, rfl, P2, fun mv ss ws H3 im3 ok P3 k3 => ?_⟩
      refine ⟨_, rfl, _, rfl, _, rfl, _, rfl, p, q, _, ss, ws, 12, rfl, P3, im3, ok, by decide, fun u l H4 iml dok l12 P4 k4 => ?_⟩
      refine ⟨p, q, _, _, ss, ws, l, rfl, P4, im3.k (k4.tk P3), ok, iml, dok, by omega, fun H5 P5 k5 => ?_⟩
      refine ⟨_, rfl, iteF ?_⟩
      exact ⟨_, _, rfl, P5⟩
    · rintro σ H2 ⟨v2, v3, rfl, P2⟩
      refine ⟨_, rfl, _, rfl, p, q, _, rfl, P2, fun mv ss ws H3 im3 ok P3 k3 => ⟨by show 0 ≤ sizeLine; decide, fun z nz => ?_⟩⟩
      have im4 := im3.k ((Tk.refl H3).new (o := .tup []) nz)
      refine ⟨p, q, _, _, ss, ws, [], rfl, P3.new nz, im4, ok, .tup upd_same .nil, (fun d hd => absurd hd List.not_mem_nil), by show 0 ≤ 20; decide, fun H5 P5 k5 => ?_⟩
      refine ⟨_, rfl, iteF ?_⟩
      refine ⟨_, rfl, p, q, rfl, P5, fun H6 P6 => ⟨_, rfl, iteF ?_⟩⟩
      refine ⟨_, rfl, p, q, 6, rfl, P6, by decide, by decide, fun n H7 _ _ P7 _ => ⟨_, _, rfl, rfl, _, rfl, ?_⟩⟩
      refine ite2 (fun e => ?_) (fun e => ?_)
      · exact k _
      · exact ⟨_, rfl, p, q, rfl, P7, fun H8 P8 => k _⟩

end
/-! ### what the top has written -/
theorem all_mk {l : PySem.W.OpenLaw} {w : World} {K : PySem.W.Frag} {h : Heap} {mg : Str → Option Value} {fa f1 f2 f3 f4 f5 f6 f7 f8 f9 f10 f11 f12 f13 f14 f15 f16 f17 f18 f19 f20 f21 f22 f23 f24 : Addr} (X : K.In h) (G : h.Ns mainGlobals mg) (hfa : mg "law" = some (.ref fa))
    {od1 an1 od2 an2 od3 an3 od4 an4 od5 an5 od6 an6 od7 an7 od8 an8 od9 an9 od10 an10 od11 an11 od12 an12 od13 an13 od14 an14 od15 an15 od16 an16 od17 an17 od18 an18 od19 an19 od20 an20 od21 an21 od22 an22 od23 an23 od24 an24 : Option Addr} {sl1 sl2 sl3 sl4 sl5 sl6 sl7 sl8 sl9 sl10 sl11 sl12 sl13 sl14 sl15 sl16 sl17 sl18 sl19 sl20 sl21 sl22 sl23 sl24 : Array (Option Value)} {oc1 kV1 dc1 pm1 cd1 ct1 oc2 kV2 dc2 pm2 cd2 ct2 oc3 kV3 dc3 pm3 cd3 ct3 oc4 kV4 dc4 pm4 cd4 ct4 oc5 kV5 dc5 pm5 cd5 ct5 oc6 kV6 dc6 pm6 cd6 ct6 oc7 kV7 dc7 pm7 cd7 ct7 oc8 kV8 dc8 pm8 cd8 ct8 oc9 kV9 dc9 pm9 cd9 ct9 oc10 kV10 dc10 pm10 cd10 ct10 oc11 kV11 dc11 pm11 cd11 ct11 oc12 kV12 dc12 pm12 cd12 ct12 oc13 kV13 dc13 pm13 cd13 ct13 oc14 kV14 dc14 pm14 cd14 ct14 oc15 kV15 dc15 pm15 cd15 ct15 oc16 kV16 dc16 pm16 cd16 ct16 oc17 kV17 dc17 pm17 cd17 ct17 oc18 kV18 dc18 pm18 cd18 ct18 oc19 kV19 dc19 pm19 cd19 ct19 oc20 kV20 dc20 pm20 cd20 ct20 oc21 kV21 dc21 pm21 cd21 ct21 oc22 kV22 dc22 pm22 cd22 ct22 oc23 kV23 dc23 pm23 cd23 ct23 oc24 kV24 dc24 pm24 cd24 ct24 : Value}
    (a1 : PySem.W.nsIn K mainGlobals "done" = some (some (.ref f1))) (l1 : K.lookup f1 = some ⟨oc1, od1, .func (PySem.W.fnOf "done" "done" (defArgs s_done) (defBody s_done) (defScope s_done) .none kV1 dc1 pm1 an1 cd1 ct1), sl1⟩) (c1 : PySem.W.codeIn K cd1 "done" = true) (k1 : PySem.W.keepIn K (.ref f1) = true)
    (a2 : PySem.W.nsIn K mainGlobals "run" = some (some (.ref f2))) (l2 : K.lookup f2 = some ⟨oc2, od2, .func (PySem.W.fnOf "run" "run" (defArgs s_run) (defBody s_run) (defScope s_run) .none kV2 dc2 pm2 an2 cd2 ct2), sl2⟩) (c2 : PySem.W.codeIn K cd2 "run" = true) (k2 : PySem.W.keepIn K (.ref f2) = true)
    (a3 : PySem.W.nsIn K mainGlobals "backward" = some (some (.ref f3))) (l3 : K.lookup f3 = some ⟨oc3, od3, .func (PySem.W.fnOf "backward" "backward" (defArgs s_backward) (defBody s_backward) (defScope s_backward) .none kV3 dc3 pm3 an3 cd3 ct3), sl3⟩) (c3 : PySem.W.codeIn K cd3 "backward" = true) (k3 : PySem.W.keepIn K (.ref f3) = true)
    (a4 : PySem.W.nsIn K mainGlobals "_law_pot" = some (some (.ref f4))) (l4 : K.lookup f4 = some ⟨oc4, od4, .func (PySem.W.fnOf "_law_pot" "_law_pot" (defArgs s_l_pot) (defBody s_l_pot) (defScope s_l_pot) .none kV4 dc4 pm4 an4 cd4 ct4), sl4⟩) (c4 : PySem.W.codeIn K cd4 "_law_pot" = true) (k4 : PySem.W.keepIn K (.ref f4) = true)
    (a5 : PySem.W.nsIn K mainGlobals "_law_dip" = some (some (.ref f5))) (l5 : K.lookup f5 = some ⟨oc5, od5, .func (PySem.W.fnOf "_law_dip" "_law_dip" (defArgs s_l_dip) (defBody s_l_dip) (defScope s_l_dip) .none kV5 dc5 pm5 an5 cd5 ct5), sl5⟩) (c5 : PySem.W.codeIn K cd5 "_law_dip" = true) (k5 : PySem.W.keepIn K (.ref f5) = true)
    (a6 : PySem.W.nsIn K mainGlobals "_law_pick" = some (some (.ref f6))) (l6 : K.lookup f6 = some ⟨oc6, od6, .func (PySem.W.fnOf "_law_pick" "_law_pick" (defArgs s_l_pick) (defBody s_l_pick) (defScope s_l_pick) .none kV6 dc6 pm6 an6 cd6 ct6), sl6⟩) (c6 : PySem.W.codeIn K cd6 "_law_pick" = true) (k6 : PySem.W.keepIn K (.ref f6) = true)
    (a7 : PySem.W.nsIn K mainGlobals "_law_primes" = some (some (.ref f7))) (l7 : K.lookup f7 = some ⟨oc7, od7, .func (PySem.W.fnOf "_law_primes" "_law_primes" (defArgs s_l_primes) (defBody s_l_primes) (defScope s_l_primes) .none kV7 dc7 pm7 an7 cd7 ct7), sl7⟩) (c7 : PySem.W.codeIn K cd7 "_law_primes" = true) (k7 : PySem.W.keepIn K (.ref f7) = true)
    (a8 : PySem.W.nsIn K mainGlobals "_law_common" = some (some (.ref f8))) (l8 : K.lookup f8 = some ⟨oc8, od8, .func (PySem.W.fnOf "_law_common" "_law_common" (defArgs s_l_common) (defBody s_l_common) (defScope s_l_common) .none kV8 dc8 pm8 an8 cd8 ct8), sl8⟩) (c8 : PySem.W.codeIn K cd8 "_law_common" = true) (k8 : PySem.W.keepIn K (.ref f8) = true)
    (a9 : PySem.W.nsIn K mainGlobals "_law_step" = some (some (.ref f9))) (l9 : K.lookup f9 = some ⟨oc9, od9, .func (PySem.W.fnOf "_law_step" "_law_step" (defArgs s_l_step) (defBody s_l_step) (defScope s_l_step) .none kV9 dc9 pm9 an9 cd9 ct9), sl9⟩) (c9 : PySem.W.codeIn K cd9 "_law_step" = true) (k9 : PySem.W.keepIn K (.ref f9) = true)
    (a10 : PySem.W.nsIn K mainGlobals "_law_great" = some (some (.ref f10))) (l10 : K.lookup f10 = some ⟨oc10, od10, .func (PySem.W.fnOf "_law_great" "_law_great" (defArgs s_l_great) (defBody s_l_great) (defScope s_l_great) .none kV10 dc10 pm10 an10 cd10 ct10), sl10⟩) (c10 : PySem.W.codeIn K cd10 "_law_great" = true) (k10 : PySem.W.keepIn K (.ref f10) = true)
    (a11 : PySem.W.nsIn K mainGlobals "_law_sizes" = some (some (.ref f11))) (l11 : K.lookup f11 = some ⟨oc11, od11, .func (PySem.W.fnOf "_law_sizes" "_law_sizes" (defArgs s_l_sizes) (defBody s_l_sizes) (defScope s_l_sizes) .none kV11 dc11 pm11 an11 cd11 ct11), sl11⟩) (c11 : PySem.W.codeIn K cd11 "_law_sizes" = true) (k11 : PySem.W.keepIn K (.ref f11) = true)
    (a12 : PySem.W.nsIn K mainGlobals "_law_wires" = some (some (.ref f12))) (l12 : K.lookup f12 = some ⟨oc12, od12, .func (PySem.W.fnOf "_law_wires" "_law_wires" (defArgs s_l_wires) (defBody s_l_wires) (defScope s_l_wires) .none kV12 dc12 pm12 an12 cd12 ct12), sl12⟩) (c12 : PySem.W.codeIn K cd12 "_law_wires" = true) (k12 : PySem.W.keepIn K (.ref f12) = true)
    (a13 : PySem.W.nsIn K mainGlobals "_law_machine" = some (some (.ref f13))) (l13 : K.lookup f13 = some ⟨oc13, od13, .func (PySem.W.fnOf "_law_machine" "_law_machine" (defArgs s_l_machine) (defBody s_l_machine) (defScope s_l_machine) .none kV13 dc13 pm13 an13 cd13 ct13), sl13⟩) (c13 : PySem.W.codeIn K cd13 "_law_machine" = true) (k13 : PySem.W.keepIn K (.ref f13) = true)
    (a14 : PySem.W.nsIn K mainGlobals "_law_contents" = some (some (.ref f14))) (l14 : K.lookup f14 = some ⟨oc14, od14, .func (PySem.W.fnOf "_law_contents" "_law_contents" (defArgs s_l_contents) (defBody s_l_contents) (defScope s_l_contents) .none kV14 dc14 pm14 an14 cd14 ct14), sl14⟩) (c14 : PySem.W.codeIn K cd14 "_law_contents" = true) (k14 : PySem.W.keepIn K (.ref f14) = true)
    (a15 : PySem.W.nsIn K mainGlobals "_law_deed" = some (some (.ref f15))) (l15 : K.lookup f15 = some ⟨oc15, od15, .func (PySem.W.fnOf "_law_deed" "_law_deed" (defArgs s_l_deed) (defBody s_l_deed) (defScope s_l_deed) .none kV15 dc15 pm15 an15 cd15 ct15), sl15⟩) (c15 : PySem.W.codeIn K cd15 "_law_deed" = true) (k15 : PySem.W.keepIn K (.ref f15) = true)
    (a16 : PySem.W.nsIn K mainGlobals "_law_program" = some (some (.ref f16))) (l16 : K.lookup f16 = some ⟨oc16, od16, .func (PySem.W.fnOf "_law_program" "_law_program" (defArgs s_l_program) (defBody s_l_program) (defScope s_l_program) .none kV16 dc16 pm16 an16 cd16 ct16), sl16⟩) (c16 : PySem.W.codeIn K cd16 "_law_program" = true) (k16 : PySem.W.keepIn K (.ref f16) = true)
    (a17 : PySem.W.nsIn K mainGlobals "_law_run" = some (some (.ref f17))) (l17 : K.lookup f17 = some ⟨oc17, od17, .func (PySem.W.fnOf "_law_run" "_law_run" (defArgs s_l_run) (defBody s_l_run) (defScope s_l_run) .none kV17 dc17 pm17 an17 cd17 ct17), sl17⟩) (c17 : PySem.W.codeIn K cd17 "_law_run" = true) (k17 : PySem.W.keepIn K (.ref f17) = true)
    (a18 : PySem.W.nsIn K mainGlobals "_law_every" = some (some (.ref f18))) (l18 : K.lookup f18 = some ⟨oc18, od18, .func (PySem.W.fnOf "_law_every" "_law_every" (defArgs s_l_every) (defBody s_l_every) (defScope s_l_every) .none kV18 dc18 pm18 an18 cd18 ct18), sl18⟩) (c18 : PySem.W.codeIn K cd18 "_law_every" = true) (k18 : PySem.W.keepIn K (.ref f18) = true)
    (a19 : PySem.W.nsIn K mainGlobals "_law_small" = some (some (.ref f19))) (l19 : K.lookup f19 = some ⟨oc19, od19, .func (PySem.W.fnOf "_law_small" "_law_small" (defArgs s_l_small) (defBody s_l_small) (defScope s_l_small) .none kV19 dc19 pm19 an19 cd19 ct19), sl19⟩) (c19 : PySem.W.codeIn K cd19 "_law_small" = true) (k19 : PySem.W.keepIn K (.ref f19) = true)
    (a20 : PySem.W.nsIn K mainGlobals "_law_is_run" = some (some (.ref f20))) (l20 : K.lookup f20 = some ⟨oc20, od20, .func (PySem.W.fnOf "_law_is_run" "_law_is_run" (defArgs s_l_is_run) (defBody s_l_is_run) (defScope s_l_is_run) .none kV20 dc20 pm20 an20 cd20 ct20), sl20⟩) (c20 : PySem.W.codeIn K cd20 "_law_is_run" = true) (k20 : PySem.W.keepIn K (.ref f20) = true)
    (a21 : PySem.W.nsIn K mainGlobals "_law_are_unlike" = some (some (.ref f21))) (l21 : K.lookup f21 = some ⟨oc21, od21, .func (PySem.W.fnOf "_law_are_unlike" "_law_are_unlike" (defArgs s_l_are_unlike) (defBody s_l_are_unlike) (defScope s_l_are_unlike) .none kV21 dc21 pm21 an21 cd21 ct21), sl21⟩) (c21 : PySem.W.codeIn K cd21 "_law_are_unlike" = true) (k21 : PySem.W.keepIn K (.ref f21) = true)
    (a22 : PySem.W.nsIn K mainGlobals "_law_far" = some (some (.ref f22))) (l22 : K.lookup f22 = some ⟨oc22, od22, .func (PySem.W.fnOf "_law_far" "_law_far" (defArgs s_l_far) (defBody s_l_far) (defScope s_l_far) .none kV22 dc22 pm22 an22 cd22 ct22), sl22⟩) (c22 : PySem.W.codeIn K cd22 "_law_far" = true) (k22 : PySem.W.keepIn K (.ref f22) = true)
    (a23 : PySem.W.nsIn K mainGlobals "_law_is_long" = some (some (.ref f23))) (l23 : K.lookup f23 = some ⟨oc23, od23, .func (PySem.W.fnOf "_law_is_long" "_law_is_long" (defArgs s_l_is_long) (defBody s_l_is_long) (defScope s_l_is_long) .none kV23 dc23 pm23 an23 cd23 ct23), sl23⟩) (c23 : PySem.W.codeIn K cd23 "_law_is_long" = true) (k23 : PySem.W.keepIn K (.ref f23) = true)
    (a24 : PySem.W.nsIn K mainGlobals "law" = some (some (.ref f24))) (l24 : K.lookup f24 = some ⟨oc24, od24, .func (PySem.W.fnOf "law" "law" (defArgs s_law) (defBody s_law) (defScope s_law) .none kV24 dc24 pm24 an24 cd24 ct24), sl24⟩) (c24 : PySem.W.codeIn K cd24 "law" = true) (k24 : PySem.W.keepIn K (.ref f24) = true)
    (z_len : PySem.W.nsIn K mainGlobals "len" = some none)
    (z_int : PySem.W.nsIn K mainGlobals "int" = some none)
    (z_max : PySem.W.nsIn K mainGlobals "max" = some none)
    (z_min : PySem.W.nsIn K mainGlobals "min" = some none)
    (z_tuple : PySem.W.nsIn K mainGlobals "tuple" = some none)
    (z_list : PySem.W.nsIn K mainGlobals "list" = some none)
    (z_range : PySem.W.nsIn K mainGlobals "range" = some none)
    (z_any : PySem.W.nsIn K mainGlobals "any" = some none)
    (z_all : PySem.W.nsIn K mainGlobals "all" = some none)
    (z_repr : PySem.W.nsIn K mainGlobals "repr" = some none)
    (z_enumerate : PySem.W.nsIn K mainGlobals "enumerate" = some none)
    (z_isinstance : PySem.W.nsIn K mainGlobals "isinstance" = some none)
    (z_bool : PySem.W.nsIn K mainGlobals "bool" = some none)
    (z_zip : PySem.W.nsIn K mainGlobals "zip" = some none) :
    ∃ fd : FuncData, (∀ (s : Shared) (v : Value), BindsTo s fd ⟨[v], []⟩ [("script", v)]) ∧ ∀ base : Heap, K.In base → base.Ns mainGlobals mg → GFn l.prog w K mg base 6 fa fd ["script"] (spLaw K) := by
  have e := hfa.symm.trans (PySem.W.mg_of X G a24)
  cases e
  have T : Blt mg := ⟨PySem.W.mg_none_of X G z_len, PySem.W.mg_none_of X G z_int, PySem.W.mg_none_of X G z_max, PySem.W.mg_none_of X G z_min, PySem.W.mg_none_of X G z_tuple, PySem.W.mg_none_of X G z_list, PySem.W.mg_none_of X G z_range, PySem.W.mg_none_of X G z_any, PySem.W.mg_none_of X G z_all, PySem.W.mg_none_of X G z_repr, PySem.W.mg_none_of X G z_enumerate, PySem.W.mg_none_of X G z_isinstance, PySem.W.mg_none_of X G z_bool⟩
  have F1 := fun_mk (st := s_done) l1 c1 k1
  have D_done : DefAt K mg "done" s_done ["machine", "contents", "deed"] f1 _ := ⟨F1, PySem.W.mg_of X G a1, F1.binds (ps := ["machine", "contents", "deed"]) fun _ _ _ _ _ _ us hl => match us, hl with | [_, _, _], _ => rfl⟩
  have F2 := fun_mk (st := s_run) l2 c2 k2
  have D_run : DefAt K mg "run" s_run ["machine", "program", "contents"] f2 _ := ⟨F2, PySem.W.mg_of X G a2, F2.binds (ps := ["machine", "program", "contents"]) fun _ _ _ _ _ _ us hl => match us, hl with | [_, _, _], _ => rfl⟩
  have F3 := fun_mk (st := s_backward) l3 c3 k3
  have D_backward : DefAt K mg "backward" s_backward ["program"] f3 _ := ⟨F3, PySem.W.mg_of X G a3, F3.binds (ps := ["program"]) fun _ _ _ _ _ _ us hl => match us, hl with | [_], _ => rfl⟩
  have F4 := fun_mk (st := s_l_pot) l4 c4 k4
  have D_l_pot : DefAt K mg "_law_pot" s_l_pot ["script"] f4 _ := ⟨F4, PySem.W.mg_of X G a4, F4.binds (ps := ["script"]) fun _ _ _ _ _ _ us hl => match us, hl with | [_], _ => rfl⟩
  have F5 := fun_mk (st := s_l_dip) l5 c5 k5
  have D_l_dip : DefAt K mg "_law_dip" s_l_dip ["pot", "size"] f5 _ := ⟨F5, PySem.W.mg_of X G a5, F5.binds (ps := ["pot", "size"]) fun _ _ _ _ _ _ us hl => match us, hl with | [_, _], _ => rfl⟩
  have F6 := fun_mk (st := s_l_pick) l6 c6 k6
  have D_l_pick : DefAt K mg "_law_pick" s_l_pick ["pot", "items"] f6 _ := ⟨F6, PySem.W.mg_of X G a6, F6.binds (ps := ["pot", "items"]) fun _ _ _ _ _ _ us hl => match us, hl with | [_, _], _ => rfl⟩
  have F7 := fun_mk (st := s_l_primes) l7 c7 k7
  have D_l_primes : DefAt K mg "_law_primes" s_l_primes [] f7 _ := ⟨F7, PySem.W.mg_of X G a7, F7.binds (ps := []) fun _ _ _ _ _ _ us hl => match us, hl with | [], _ => rfl⟩
  have F8 := fun_mk (st := s_l_common) l8 c8 k8
  have D_l_common : DefAt K mg "_law_common" s_l_common ["one", "other"] f8 _ := ⟨F8, PySem.W.mg_of X G a8, F8.binds (ps := ["one", "other"]) fun _ _ _ _ _ _ us hl => match us, hl with | [_, _], _ => rfl⟩
  have F9 := fun_mk (st := s_l_step) l9 c9 k9
  have D_l_step : DefAt K mg "_law_step" s_l_step ["sizes", "j", "i"] f9 _ := ⟨F9, PySem.W.mg_of X G a9, F9.binds (ps := ["sizes", "j", "i"]) fun _ _ _ _ _ _ us hl => match us, hl with | [_, _, _], _ => rfl⟩
  have F10 := fun_mk (st := s_l_great) l10 c10 k10
  have D_l_great : DefAt K mg "_law_great" s_l_great ["pot"] f10 _ := ⟨F10, PySem.W.mg_of X G a10, F10.binds (ps := ["pot"]) fun _ _ _ _ _ _ us hl => match us, hl with | [_], _ => rfl⟩
  have F11 := fun_mk (st := s_l_sizes) l11 c11 k11
  have D_l_sizes : DefAt K mg "_law_sizes" s_l_sizes ["pot", "is_great"] f11 _ := ⟨F11, PySem.W.mg_of X G a11, F11.binds (ps := ["pot", "is_great"]) fun _ _ _ _ _ _ us hl => match us, hl with | [_, _], _ => rfl⟩
  have F12 := fun_mk (st := s_l_wires) l12 c12 k12
  have D_l_wires : DefAt K mg "_law_wires" s_l_wires ["pot", "many"] f12 _ := ⟨F12, PySem.W.mg_of X G a12, F12.binds (ps := ["pot", "many"]) fun _ _ _ _ _ _ us hl => match us, hl with | [_, _], _ => rfl⟩
  have F13 := fun_mk (st := s_l_machine) l13 c13 k13
  have D_l_machine : DefAt K mg "_law_machine" s_l_machine ["pot", "is_great"] f13 _ := ⟨F13, PySem.W.mg_of X G a13, F13.binds (ps := ["pot", "is_great"]) fun _ _ _ _ _ _ us hl => match us, hl with | [_, _], _ => rfl⟩
  have F14 := fun_mk (st := s_l_contents) l14 c14 k14
  have D_l_contents : DefAt K mg "_law_contents" s_l_contents ["pot", "sizes"] f14 _ := ⟨F14, PySem.W.mg_of X G a14, F14.binds (ps := ["pot", "sizes"]) fun _ _ _ _ _ _ us hl => match us, hl with | [_, _], _ => rfl⟩
  have F15 := fun_mk (st := s_l_deed) l15 c15 k15
  have D_l_deed : DefAt K mg "_law_deed" s_l_deed ["pot", "machine"] f15 _ := ⟨F15, PySem.W.mg_of X G a15, F15.binds (ps := ["pot", "machine"]) fun _ _ _ _ _ _ us hl => match us, hl with | [_, _], _ => rfl⟩
  have F16 := fun_mk (st := s_l_program) l16 c16 k16
  have D_l_program : DefAt K mg "_law_program" s_l_program ["pot", "machine", "most"] f16 _ := ⟨F16, PySem.W.mg_of X G a16, F16.binds (ps := ["pot", "machine", "most"]) fun _ _ _ _ _ _ us hl => match us, hl with | [_, _, _], _ => rfl⟩
  have F17 := fun_mk (st := s_l_run) l17 c17 k17
  have D_l_run : DefAt K mg "_law_run" s_l_run ["sizes", "program", "held"] f17 _ := ⟨F17, PySem.W.mg_of X G a17, F17.binds (ps := ["sizes", "program", "held"]) fun _ _ _ _ _ _ us hl => match us, hl with | [_, _, _], _ => rfl⟩
  have F18 := fun_mk (st := s_l_every) l18 c18 k18
  have D_l_every : DefAt K mg "_law_every" s_l_every ["sizes"] f18 _ := ⟨F18, PySem.W.mg_of X G a18, F18.binds (ps := ["sizes"]) fun _ _ _ _ _ _ us hl => match us, hl with | [_], _ => rfl⟩
  have F19 := fun_mk (st := s_l_small) l19 c19 k19
  have D_l_small : DefAt K mg "_law_small" s_l_small ["pot", "most"] f19 _ := ⟨F19, PySem.W.mg_of X G a19, F19.binds (ps := ["pot", "most"]) fun _ _ _ _ _ _ us hl => match us, hl with | [_, _], _ => rfl⟩
  have F20 := fun_mk (st := s_l_is_run) l20 c20 k20
  have D_l_is_run : DefAt K mg "_law_is_run" s_l_is_run ["pot", "machine", "listed"] f20 _ := ⟨F20, PySem.W.mg_of X G a20, F20.binds (ps := ["pot", "machine", "listed"]) fun _ _ _ _ _ _ us hl => match us, hl with | [_, _, _], _ => rfl⟩
  have F21 := fun_mk (st := s_l_are_unlike) l21 c21 k21
  have D_l_are_unlike : DefAt K mg "_law_are_unlike" s_l_are_unlike ["pot"] f21 _ := ⟨F21, PySem.W.mg_of X G a21, F21.binds (ps := ["pot"]) fun _ _ _ _ _ _ us hl => match us, hl with | [_], _ => rfl⟩
  have F22 := fun_mk (st := s_l_far) l22 c22 k22
  have D_l_far : DefAt K mg "_law_far" s_l_far ["sizes", "listed", "held"] f22 _ := ⟨F22, PySem.W.mg_of X G a22, F22.binds (ps := ["sizes", "listed", "held"]) fun _ _ _ _ _ _ us hl => match us, hl with | [_, _, _], _ => rfl⟩
  have F23 := fun_mk (st := s_l_is_long) l23 c23 k23
  have D_l_is_long : DefAt K mg "_law_is_long" s_l_is_long ["pot"] f23 _ := ⟨F23, PySem.W.mg_of X G a23, F23.binds (ps := ["pot"]) fun _ _ _ _ _ _ us hl => match us, hl with | [_], _ => rfl⟩
  have F24 := fun_mk (st := s_law) l24 c24 k24
  refine ⟨PySem.W.fnOf "law" "law" (defArgs s_law) (defBody s_law) (defScope s_law) .none kV24 dc24 pm24 an24 cd24 ct24, fun s v => .of_eq rfl, fun base _ _ => ?_⟩
  have T_zip := PySem.W.mg_none_of X G z_zip
  have c_dipW := ok_dipW (P := l.prog) (w := w) (base := base) D_l_dip T
  have c_dip := Cal.weak c_dipW (fun _ _ _ _ h => dip_of h)
  have c_pickA := ok_pickA D_l_pick T c_dip
  have c_pick := Cal.weak c_pickA (fun _ _ _ _ h => pick_of h)
  have c_primes := ok_primes (P := l.prog) (w := w) (base := base) D_l_primes
  have c_common := ok_common (P := l.prog) (w := w) (base := base) D_l_common
  have c_great := ok_great D_l_great T c_dip c_pick c_primes
  have c_sizes := ok_sizes D_l_sizes T c_dip c_pick c_great
  have c_wires := ok_wires D_l_wires T c_dip c_pick
  have c_machine := ok_machine D_l_machine T c_sizes c_wires
  have c_pot := ok_pot (P := l.prog) (w := w) (base := base) D_l_pot T
  have c_lstep := ok_lstep D_l_step c_common
  have c_contents := ok_contents D_l_contents T c_dipW c_pick
  have c_deed := ok_deed D_l_deed T c_dip c_pickA c_lstep
  have c_program := ok_program D_l_program T c_dip c_deed
  have f_run := fn_run (P := l.prog) (w := w) (base := base) D_run T
  have c_run := Cal.of D_run f_run
  have f_done := fn_done D_done c_run
  have c_done := Cal.of D_done f_done
  have f_back := fn_backward (P := l.prog) (w := w) (base := base) D_backward T
  have c_back := Cal.of D_backward f_back
  have c_l_run := ok_runI (P := l.prog) (w := w) (base := base) D_l_run T T_zip
  have c_every := ok_every (P := l.prog) (w := w) (base := base) D_l_every T
  have c_small := ok_small D_l_small T c_dip c_pick c_wires
  have c_far := ok_far (P := l.prog) (w := w) (base := base) D_l_far T
  have c_isrun : GCal l.prog w K mg base _ "_law_is_run" _ := ⟨_, _, _, ok_isrun D_l_is_run.fn T T_zip c_contents c_l_run c_pick c_run (CalK.of D_run f_run (k_run D_run.fn)) c_done (CalK.of D_done f_done (k_done D_done.fn)) c_back (CalK.of D_backward f_back (k_backward D_backward.fn)), D_l_is_run.mgf, D_l_is_run.fn.kp, D_l_is_run.bd⟩
  have c_unl : GCal l.prog w K mg base _ "_law_are_unlike" _ := ⟨_, _, _, ok_unlike D_l_are_unlike.fn T c_small c_program c_every c_run c_l_run, D_l_are_unlike.mgf, D_l_are_unlike.fn.kp, D_l_are_unlike.bd⟩
  have c_long : GCal l.prog w K mg base _ "_law_is_long" _ := ⟨_, _, _, ok_long D_l_is_long.fn T c_pick c_deed c_contents c_far c_back c_run, D_l_is_long.mgf, D_l_is_long.fn.kp, D_l_is_long.bd⟩
  exact ok_law F24 T c_pot c_machine c_program c_isrun c_unl c_long c_dip
end NA
open PySem PySem.W PyProof.Rows in
set_option maxRecDepth 100000 in
set_option maxHeartbeats 0 in
theorem PySem.Challenge.cw_narrowadds_k06_whole_runs_by_any_integer_holds : PySem.Challenge.rw_narrowadds_k06_whole_runs_by_any_integer.Holds := by
  w_on; o_law; k_head; (case hw => w_witness2)
  k_fill
  refine NA.walkG (l := PySem.Challenge.rw_narrowadds_k06_whole_runs_by_any_integer) (n := 63) (k := 6) (x := "script") (sp := NA.spLaw) rfl (by decide) rfl ⟨rfl, by decide, by decide⟩ (fun w h Y => PySem.W.kIn_of Y) ?F (fun _ _ a ns hl _ hS => ⟨a, ns, rfl, hS, hl, fun _ => rfl⟩)
  case F =>
    intro w mg fa h KX G hmg
    refine' NA.all_mk KX G hmg ?a1 ?l1 ?c1 ?k1 ?a2 ?l2 ?c2 ?k2 ?a3 ?l3 ?c3 ?k3 ?a4 ?l4 ?c4 ?k4 ?a5 ?l5 ?c5 ?k5 ?a6 ?l6 ?c6 ?k6 ?a7 ?l7 ?c7 ?k7 ?a8 ?l8 ?c8 ?k8 ?a9 ?l9 ?c9 ?k9 ?a10 ?l10 ?c10 ?k10 ?a11 ?l11 ?c11 ?k11 ?a12 ?l12 ?c12 ?k12 ?a13 ?l13 ?c13 ?k13 ?a14 ?l14 ?c14 ?k14 ?a15 ?l15 ?c15 ?k15 ?a16 ?l16 ?c16 ?k16 ?a17 ?l17 ?c17 ?k17 ?a18 ?l18 ?c18 ?k18 ?a19 ?l19 ?c19 ?k19 ?a20 ?l20 ?c20 ?k20 ?a21 ?l21 ?c21 ?k21 ?a22 ?l22 ?c22 ?k22 ?a23 ?l23 ?c23 ?k23 ?a24 ?l24 ?c24 ?k24 ?z_len ?z_int ?z_max ?z_min ?z_tuple ?z_list ?z_range ?z_any ?z_all ?z_repr ?z_enumerate ?z_isinstance ?z_bool ?z_zip
    (case a1 => k_is)
    (case l1 => k_is)
    (case c1 => k_is)
    (case k1 => k_is)
    (case a2 => k_is)
    (case l2 => k_is)
    (case c2 => k_is)
    (case k2 => k_is)
    (case a3 => k_is)
    (case l3 => k_is)
    (case c3 => k_is)
    (case k3 => k_is)
    (case a4 => k_is)
    (case l4 => k_is)
    (case c4 => k_is)
    (case k4 => k_is)
    (case a5 => k_is)
    (case l5 => k_is)
    (case c5 => k_is)
    (case k5 => k_is)
    (case a6 => k_is)
    (case l6 => k_is)
    (case c6 => k_is)
    (case k6 => k_is)
    (case a7 => k_is)
    (case l7 => k_is)
    (case c7 => k_is)
    (case k7 => k_is)
    (case a8 => k_is)
    (case l8 => k_is)
    (case c8 => k_is)
    (case k8 => k_is)
    (case a9 => k_is)
    (case l9 => k_is)
    (case c9 => k_is)
    (case k9 => k_is)
    (case a10 => k_is)
    (case l10 => k_is)
    (case c10 => k_is)
    (case k10 => k_is)
    (case a11 => k_is)
    (case l11 => k_is)
    (case c11 => k_is)
    (case k11 => k_is)
    (case a12 => k_is)
    (case l12 => k_is)
    (case c12 => k_is)
    (case k12 => k_is)
    (case a13 => k_is)
    (case l13 => k_is)
    (case c13 => k_is)
    (case k13 => k_is)
    (case a14 => k_is)
    (case l14 => k_is)
    (case c14 => k_is)
    (case k14 => k_is)
    (case a15 => k_is)
    (case l15 => k_is)
    (case c15 => k_is)
    (case k15 => k_is)
    (case a16 => k_is)
    (case l16 => k_is)
    (case c16 => k_is)
    (case k16 => k_is)
    (case a17 => k_is)
    (case l17 => k_is)
    (case c17 => k_is)
    (case k17 => k_is)
    (case a18 => k_is)
    (case l18 => k_is)
    (case c18 => k_is)
    (case k18 => k_is)
    (case a19 => k_is)
    (case l19 => k_is)
    (case c19 => k_is)
    (case k19 => k_is)
    (case a20 => k_is)
    (case l20 => k_is)
    (case c20 => k_is)
    (case k20 => k_is)
    (case a21 => k_is)
    (case l21 => k_is)
    (case c21 => k_is)
    (case k21 => k_is)
    (case a22 => k_is)
    (case l22 => k_is)
    (case c22 => k_is)
    (case k22 => k_is)
    (case a23 => k_is)
    (case l23 => k_is)
    (case c23 => k_is)
    (case k23 => k_is)
    (case a24 => k_is)
    (case l24 => k_is)
    (case c24 => k_is)
    (case k24 => k_is)
    (case z_len => k_is)
    (case z_int => k_is)
    (case z_max => k_is)
    (case z_min => k_is)
    (case z_tuple => k_is)
    (case z_list => k_is)
    (case z_range => k_is)
    (case z_any => k_is)
    (case z_all => k_is)
    (case z_repr => k_is)
    (case z_enumerate => k_is)
    (case z_isinstance => k_is)
    (case z_bool => k_is)
    (case z_zip => k_is)
