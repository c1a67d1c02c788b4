import PyProof.Rows.All
import Wide.All
import OpenK.AllK
import Wide.FinOn
import HandS.ForMost
import HandS.Codes
import HandS.Wide
import HandS.WideMore
import HandS.Gcd
import HandS.Walk
import HandS.Style
import HandS.Conv
import HandS.IsInst
import HandS.SetIn
import HandS.TupLe
import HandS.TupAny
import HandS.TupMul
import HandS.Zip
import HandS.Star
import HandS.ListItems
import HandS.Sort
import HandS.TryOnly
import HandS.TupLen
import HandS.Text
import HandS.StrMore
import HandS.FStr
import HandS.DictComp
import PyProof.Rows.ReprOcc
import KE.GoesZip
import PyProof.CollectWalk
import PyProof.ListNew
import PyProof.MeetsSeq2
import PyProof.WalkInts
import KE.GoesMore
import KE.GoesEnum
import KE.KSetDisp
import PySem.Challenge.RW_narrowadds_k05_deeds_and_programs_judged
set_option Elab.async false
set_option linter.all false
set_option maxRecDepth 100000
set_option maxHeartbeats 2000000
set_option exponentiation.threshold 5000
/-! the mathematics of sizes: primes to 97, how often they divide -/
namespace NA
def PRn : List Nat := [2, 3, 5, 7, 11, 13, 17, 19, 23, 29, 31, 37, 41, 43, 47, 53, 59, 61, 67, 71, 73, 79, 83, 89, 97]
inductive Smo : Nat → Prop
  | one : Smo 1
  | mul {p n : Nat} : p ∈ PRn → Smo n → Smo (p * n)
theorem PRn_two {p : Nat} (h : p ∈ PRn) : 2 ≤ p := by
  have e : PRn.all (fun p => decide (2 ≤ p)) = true := by decide
  exact of_decide_eq_true (List.all_eq_true.mp e p h)
theorem PRn_le {p : Nat} (h : p ∈ PRn) : p ≤ 97 := by
  have e : PRn.all (fun p => decide (p ≤ 97)) = true := by decide
  exact of_decide_eq_true (List.all_eq_true.mp e p h)
theorem Smo.pos {n : Nat} (h : Smo n) : 0 < n := by
  induction h with
  | one => decide
  | mul hp _ ih => exact Nat.mul_pos (Nat.lt_of_lt_of_le (by decide) (PRn_two hp)) ih
theorem Smo.mulr {p n : Nat} (hp : p ∈ PRn) (h : Smo n) : Smo (n * p) := by
  rw [Nat.mul_comm]
  exact .mul hp h
def stripN (p : Nat) : Nat → Nat → Nat
  | 0, n => n
  | f + 1, n => if n % p = 0 then stripN p f (n / p) else n
theorem stripN_smo {p : Nat} (hp : p ∈ PRn) : ∀ (f n : Nat), Smo (stripN p f n) → Smo n
  | 0, _, h => h
  | f + 1, n, h => by
    unfold stripN at h
    by_cases e : n % p = 0
    · rw [if_pos e] at h
      have h1 := stripN_smo hp f (n / p) h
      have h2 : n = p * (n / p) := by
        have := Nat.div_add_mod n p
        omega
      rw [h2]
      exact .mul hp h1
    · rw [if_neg e] at h
      exact h
def smoB (n : Nat) : Bool := PRn.foldl (fun n p => stripN p 110 n) n == 1
theorem foldl_smo : ∀ (l : List Nat), (∀ p ∈ l, p ∈ PRn) → ∀ n, Smo (l.foldl (fun n p => stripN p 110 n) n) → Smo n
  | [], _, _, h => h
  | p :: l, hl, n, h => stripN_smo (hl p List.mem_cons_self) 110 n (foldl_smo l (fun q hq => hl q (List.mem_cons_of_mem _ hq)) _ h)
theorem smo_of {n : Nat} (h : smoB n = true) : Smo n := by
  refine foldl_smo PRn (fun _ h => h) n ?_
  rw [show List.foldl (fun n p => stripN p 110 n) n PRn = 1 from eq_of_beq h]
  exact .one
def SizeOk (n : Int) : Prop := ∃ m : Nat, n = m ∧ 2 ≤ m ∧ m ≤ 10 ^ 30 ∧ Smo m
def wlt (a b : Nat × Nat) : Prop := a.1 < b.1 ∨ (a.1 = b.1 ∧ a.2 < b.2)
/-- wires of a machine of many registers -/
structure WOk (many : Nat) (ws : List (Nat × Nat)) : Prop where
  asc : ws.Pairwise wlt
  low : ∀ w ∈ ws, w.1 < many ∧ w.2 < many ∧ w.1 ≠ w.2
structure MOk (ss : List Int) (ws : List (Nat × Nat)) : Prop where
  one : 1 ≤ ss.length
  six : ss.length ≤ 6
  size : ∀ s ∈ ss, SizeOk s
  wires : WOk ss.length ws
end NA
namespace NA
def val (p n : Nat) : Nat := if h : 2 ≤ p ∧ 0 < n ∧ n % p = 0 then val p (n / p) + 1 else 0
termination_by n
decreasing_by exact Nat.div_lt_self h.2.1 h.1
theorem val_yes {p n : Nat} (hp : 2 ≤ p) (hn : 0 < n) (h : n % p = 0) : val p n = val p (n / p) + 1 := by
  rw [val]
  exact dif_pos ⟨hp, hn, h⟩
theorem val_no {p n : Nat} (h : n % p ≠ 0) : val p n = 0 := by
  rw [val]
  exact dif_neg fun z => h z.2.2
theorem pow_dvd_val {p : Nat} (hp : 2 ≤ p) : ∀ (k n : Nat), 0 < n → (p ^ k ∣ n ↔ k ≤ val p n)
  | 0, n, _ => by simp
  | k + 1, n, hn => by
    by_cases h : n % p = 0
    · have e : n = p * (n / p) := by
        have := Nat.div_add_mod n p
        omega
      have hq : 0 < n / p := Nat.div_pos (Nat.le_of_dvd hn (Nat.dvd_of_mod_eq_zero h)) (by omega)
      rw [val_yes hp hn h]
      have ih := pow_dvd_val hp k (n / p) hq
      constructor
      · intro d
        rw [e, Nat.pow_succ, Nat.mul_comm] at d
        have := ih.mp (Nat.dvd_of_mul_dvd_mul_left (by omega) d)
        omega
      · intro d
        have := ih.mpr (by omega)
        rw [e, Nat.pow_succ, Nat.mul_comm]
        exact Nat.mul_dvd_mul_left p this
    · rw [val_no h]
      constructor
      · intro d
        exact absurd (Nat.mod_eq_zero_of_dvd (Nat.dvd_trans (by rw [Nat.pow_succ]; exact Nat.dvd_mul_left p _) d)) h
      · intro d
        omega
theorem val_eq {p n m : Nat} (hp : 2 ≤ p) (hn : 0 < n) (hm : 0 < m) (h : ∀ k, p ^ k ∣ n ↔ p ^ k ∣ m) : val p n = val p m := by
  have a := (pow_dvd_val hp (val p n) m hm).mp ((h _).mp ((pow_dvd_val hp _ n hn).mpr (Nat.le_refl _)))
  have b := (pow_dvd_val hp (val p m) n hn).mp ((h _).mpr ((pow_dvd_val hp _ m hm).mpr (Nat.le_refl _)))
  omega
theorem PRn_prime {p : Nat} (h : p ∈ PRn) {d : Nat} (hd : d ∣ p) : d = 1 ∨ d = p := by
  have e : (PRn.all fun p => (List.range (p + 1)).all fun d => p % d != 0 || d == 1 || d == p) = true := by decide +kernel
  have e1 := List.all_eq_true.mp e p h
  have dl : d ≤ p := Nat.le_of_dvd (Nat.lt_of_lt_of_le (by decide) (PRn_two h)) hd
  have e2 := List.all_eq_true.mp e1 d (List.mem_range.mpr (by omega))
  have m := Nat.mod_eq_zero_of_dvd hd
  simp only [m, bne_self_eq_false, Bool.false_or, Bool.or_eq_true, beq_iff_eq] at e2
  exact e2
theorem PRn_cop {p x : Nat} (h : p ∈ PRn) (hx : ¬ p ∣ x) : Nat.Coprime p x := by
  rcases PRn_prime h (Nat.gcd_dvd_left p x) with e | e
  · exact e
  · exact absurd (e ▸ Nat.gcd_dvd_right p x) hx
theorem PRn_euclid {p x y : Nat} (h : p ∈ PRn) (d : p ∣ x * y) : p ∣ x ∨ p ∣ y := by
  by_cases hx : p ∣ x
  · exact .inl hx
  · exact .inr ((PRn_cop h hx).dvd_of_dvd_mul_left d)
theorem PRn_ne {p q : Nat} (hp : p ∈ PRn) (hq : q ∈ PRn) (h : p ≠ q) : Nat.Coprime p q := PRn_cop hp fun d => by
  rcases PRn_prime hq d with e | e
  · have := PRn_two hp
    omega
  · exact h e
theorem val_mul_ne {p q n : Nat} (hp : p ∈ PRn) (hq : q ∈ PRn) (hn : 0 < n) (h : p ≠ q) : val p (q * n) = val p n := by
  refine val_eq (PRn_two hp) (Nat.mul_pos (Nat.lt_of_lt_of_le (by decide) (PRn_two hq)) hn) hn fun k => ⟨fun d => ?_, fun d => Nat.dvd_trans d (Nat.dvd_mul_left n q)⟩
  exact (Nat.Coprime.pow_left k (PRn_ne hp hq h)).dvd_of_dvd_mul_left d
theorem val_mul_self {p n : Nat} (hp : 2 ≤ p) (hn : 0 < n) : val p (p * n) = val p n + 1 := by
  rw [val_yes hp (Nat.mul_pos (by omega) hn) (Nat.mul_mod_right p n), Nat.mul_div_cancel_left n (by omega)]
theorem val_add {p : Nat} (hp : p ∈ PRn) : ∀ (x y : Nat), 0 < x → 0 < y → val p (x * y) = val p x + val p y := by
  intro x
  induction x using Nat.strongRecOn with
  | ind x ih =>
    intro y hx hy
    have h2 := PRn_two hp
    by_cases h : x % p = 0
    · have e : x = p * (x / p) := by
        have := Nat.div_add_mod x p
        omega
      have hq : 0 < x / p := Nat.div_pos (Nat.le_of_dvd hx (Nat.dvd_of_mod_eq_zero h)) (by omega)
      have i := ih (x / p) (Nat.div_lt_self hx h2) y hq hy
      rw [val_yes h2 hx h, show x * y = p * (x / p * y) by rw [← Nat.mul_assoc, ← e], val_mul_self h2 (Nat.mul_pos hq hy), i]
      omega
    · rw [val_no h, Nat.zero_add]
      have c : Nat.Coprime p x := PRn_cop hp fun d => h (Nat.mod_eq_zero_of_dvd d)
      refine val_eq h2 (Nat.mul_pos hx hy) hy fun k => ⟨fun d => (Nat.Coprime.pow_left k c).dvd_of_dvd_mul_left d, fun d => Nat.dvd_trans d (Nat.dvd_mul_left y x)⟩
theorem val_gcd {p a b : Nat} (hp : 2 ≤ p) (ha : 0 < a) (hb : 0 < b) : val p (Nat.gcd a b) = min (val p a) (val p b) := by
  have hg : 0 < Nat.gcd a b := Nat.gcd_pos_of_pos_left b ha
  have le : ∀ k, k ≤ val p (Nat.gcd a b) ↔ k ≤ val p a ∧ k ≤ val p b := fun k => by
    rw [← pow_dvd_val hp k _ hg, ← pow_dvd_val hp k a ha, ← pow_dvd_val hp k b hb]
    exact ⟨fun d => ⟨Nat.dvd_trans d (Nat.gcd_dvd_left a b), Nat.dvd_trans d (Nat.gcd_dvd_right a b)⟩, fun ⟨x, y⟩ => Nat.dvd_gcd x y⟩
  have h1 := (le _).mp (Nat.le_refl _)
  have h2 := (le (min (val p a) (val p b))).mpr ⟨Nat.min_le_left _ _, Nat.min_le_right _ _⟩
  omega
/-! ### a size is put together of its primes -/
def made (l : List Nat) (m s : Nat) : Nat := l.foldl (fun m p => m * p ^ val p s) m
theorem made_acc : ∀ (l : List Nat) (m s : Nat), made l m s = m * made l 1 s
  | [], m, s => by simp [made]
  | p :: l, m, s => by
    show made l (m * p ^ val p s) s = m * made l (1 * p ^ val p s) s
    rw [made_acc l (m * p ^ val p s) s, made_acc l (1 * p ^ val p s) s, Nat.one_mul, Nat.mul_assoc]
theorem made_one : ∀ l : List Nat, made l 1 1 = 1
  | [] => rfl
  | p :: l => by
    show made l (1 * p ^ val p 1) 1 = 1
    have v : val p 1 = 0 := by
      by_cases h : 1 % p = 0
      · by_cases h2 : 2 ≤ p
        · rw [Nat.mod_eq_of_lt (by omega)] at h
          cases h
        · rw [val]
          exact dif_neg fun z => h2 z.1
      · exact val_no h
    rw [v, Nat.pow_zero, Nat.mul_one, made_one l]
theorem made_mul {q n : Nat} (hq : q ∈ PRn) (hn : 0 < n) : ∀ l : List Nat, (∀ p ∈ l, p ∈ PRn) → made l 1 (q * n) = q ^ l.count q * made l 1 n
  | [], _ => by simp [made]
  | p :: l, hl => by
    have ih := made_mul hq hn l fun x hx => hl x (List.mem_cons_of_mem _ hx)
    have hp := hl p List.mem_cons_self
    show made l (1 * p ^ val p (q * n)) (q * n) = q ^ (p :: l).count q * made l (1 * p ^ val p n) n
    rw [made_acc l (1 * p ^ val p (q * n)), made_acc l (1 * p ^ val p n), ih, Nat.one_mul, Nat.one_mul]
    by_cases e : p = q
    · subst e
      rw [val_mul_self (PRn_two hp) hn, List.count_cons_self, Nat.pow_succ, Nat.pow_succ]
      simp only [Nat.mul_assoc, Nat.mul_left_comm]
    · rw [val_mul_ne hp hq hn e, List.count_cons_of_ne e]
      simp only [Nat.mul_left_comm]
theorem made_smo {s : Nat} (h : Smo s) : made PRn 1 s = s := by
  induction h with
  | one => exact made_one PRn
  | @mul q n hq hn ih =>
    rw [made_mul hq hn.pos PRn fun _ z => z, ih]
    have c : PRn.count q = 1 := by
      have e : (PRn.all fun q => PRn.count q == 1) = true := by decide +kernel
      exact eq_of_beq (List.all_eq_true.mp e q hq)
    rw [c, Nat.pow_one]
theorem made_filter {s : Nat} (f : Nat → Bool) : ∀ (l : List Nat) (m : Nat), (∀ p ∈ l, f p = false → val p s = 0) → made (l.filter f) m s = made l m s
  | [], _, _ => rfl
  | p :: l, m, h => by
    have hl : ∀ q ∈ l, f q = false → val q s = 0 := fun q hq => h q (List.mem_cons_of_mem _ hq)
    cases e : f p with
    | true =>
      rw [List.filter_cons_of_pos e]
      exact made_filter f l _ hl
    | false =>
      rw [List.filter_cons_of_neg (by rw [e]; exact Bool.false_ne_true), made_filter f l m hl]
      show made l m s = made l (m * p ^ val p s) s
      rw [h p List.mem_cons_self e, Nat.pow_zero, Nat.mul_one]
/-! ### steps: b by what it has in common with a -/
def stp (a b : Nat) : Nat := b / Nat.gcd b a
section
variable {a b : Nat}
theorem gcd_pos' (hb : 0 < b) : 0 < Nat.gcd b a := Nat.gcd_pos_of_pos_left a hb
theorem stp_mul (a b : Nat) : stp a b * Nat.gcd b a = b := Nat.div_mul_cancel (Nat.gcd_dvd_left b a)
theorem stp_pos (hb : 0 < b) : 0 < stp a b := Nat.div_pos (Nat.le_of_dvd hb (Nat.gcd_dvd_left b a)) (gcd_pos' hb)
theorem stp_cop (hb : 0 < b) : Nat.Coprime (stp a b) (a / Nat.gcd b a) := Nat.coprime_div_gcd_div_gcd (gcd_pos' hb)
theorem a_eq (a b : Nat) : a / Nat.gcd b a * Nat.gcd b a = a := Nat.div_mul_cancel (Nat.gcd_dvd_right b a)
/-- the multiples that do -/
theorem stp_iff (hb : 0 < b) (x : Nat) : b ∣ x * a ↔ stp a b ∣ x := by
  have g := gcd_pos' (a := a) hb
  have eb : b = Nat.gcd b a * stp a b := by rw [Nat.mul_comm]; exact (stp_mul a b).symm
  have ea : x * a = Nat.gcd b a * (x * (a / Nat.gcd b a)) := by
    rw [Nat.mul_left_comm, Nat.mul_comm (Nat.gcd b a), a_eq]
  constructor
  · intro d
    rw [ea] at d
    have d2 : Nat.gcd b a * stp a b ∣ Nat.gcd b a * (x * (a / Nat.gcd b a)) := by rw [← eb]; exact d
    exact (stp_cop hb).dvd_of_dvd_mul_right (Nat.dvd_of_mul_dvd_mul_left g d2)
  · intro d
    rw [ea]
    have d2 : Nat.gcd b a * stp a b ∣ Nat.gcd b a * (x * (a / Nat.gcd b a)) := Nat.mul_dvd_mul_left _ (Nat.dvd_trans d (Nat.dvd_mul_right x _))
    rw [← eb] at d2
    exact d2
theorem stp_least (hb : 0 < b) {p : Nat} (hp : 2 ≤ p) (h : stp a b % p = 0) : stp a b / p * a % b ≠ 0 := fun z => by
  have d := (stp_iff hb _).mp (Nat.dvd_of_mod_eq_zero z)
  have pos := stp_pos (a := a) hb
  have q : 0 < stp a b / p := Nat.div_pos (Nat.le_of_dvd pos (Nat.dvd_of_mod_eq_zero h)) (by omega)
  have := Nat.le_of_dvd q d
  have := Nat.div_lt_self pos hp
  omega
theorem stp_val (ha : 0 < a) (hb : 0 < b) {p : Nat} (hp : p ∈ PRn) : val p (stp a b) = val p b - val p a := by
  have e := val_add hp (stp a b) (Nat.gcd b a) (stp_pos hb) (gcd_pos' hb)
  rw [stp_mul, val_gcd (PRn_two hp) hb ha] at e
  omega
theorem stp_one (hb : 0 < b) : stp a b = 1 ↔ a % b = 0 := by
  constructor
  · intro e
    have d := (stp_iff hb 1).mpr (by rw [e]; exact Nat.dvd_refl 1)
    rw [Nat.one_mul] at d
    exact Nat.mod_eq_zero_of_dvd d
  · intro e
    have d := (stp_iff hb 1).mp (by rw [Nat.one_mul]; exact Nat.dvd_of_mod_eq_zero e)
    exact Nat.dvd_one.mp d
theorem stp_all (hb : 0 < b) : stp a b = b ↔ Nat.gcd b a = 1 := by
  have e := stp_mul a b
  constructor
  · intro h
    rw [h] at e
    have : b * Nat.gcd b a = b * 1 := by rw [e, Nat.mul_one]
    exact Nat.eq_of_mul_eq_mul_left hb this
  · intro h
    rw [h, Nat.mul_one] at e
    exact e
theorem stp_does (hb : 0 < b) : stp a b * a % b = 0 := Nat.mod_eq_zero_of_dvd ((stp_iff hb _).mpr (Nat.dvd_refl _))
theorem stp_two {c : Nat} (hb : 0 < b) (hc : 0 < c) : stp a b * stp b c % stp a c = 0 := by
  refine Nat.mod_eq_zero_of_dvd ((stp_iff hc _).mp ?_)
  have d1 : b ∣ stp a b * a := (stp_iff hb _).mpr (Nat.dvd_refl _)
  have d2 : c ∣ stp b c * b := (stp_iff hc _).mpr (Nat.dvd_refl _)
  have e : stp a b * stp b c * a = stp b c * (stp a b * a) := by
    rw [Nat.mul_comm (stp a b), Nat.mul_assoc]
  rw [e]
  exact Nat.dvd_trans d2 (Nat.mul_dvd_mul_left _ d1)
end
end NA
namespace NA
open PySem PySem.Spec PyProof.Rows L2

/-! ### defs while no repr is under way -/
abbrev Bare (A : Around) : Prop := A.guards = some []
structure GFn (P : Program) (w : World) (K : PySem.W.Frag) (mg : Str → Option Value) (base : Heap) (k : Nat) (f : Addr) (fd : FuncData) (ps : List Str) (sp : Sp) : Prop where
  len : ∀ vs H Q E, sp vs H Q E → vs.length = ps.length
  go : ∀ (A : Around) (outer : List Env) (s : Shared) (H : Hp) (args : Args) (us : List Value) (vs : List V) (Q : VK) (E : XK),
    Bare A → Room k A → Env0 P w K mg base A outer s H → BindsTo s fd args (ps.zip us) → Vals vs us → sp vs H Q E →
    codeAny (model P w) A (.call (.ref f) args) (CR CX0 outer P w H s Q E) s
/-- a def of the text: where it stands, how it binds -/
structure DefAt (K : PySem.W.Frag) (mg : Str → Option Value) (x : Str) (st : Stmt) (ps : List Str) (f : Addr) (fd : FuncData) : Prop where
  fn : Fun K x x st f fd
  mgf : mg x = some (.ref f)
  bd : Binds K fd ps []
structure Cal (P : Program) (w : World) (K : PySem.W.Frag) (mg : Str → Option Value) (base : Heap) (k : Nat) (x : Str) (sp : Sp) : Prop where
  ex : ∃ (f : Addr) (fd : FuncData) (ps : List Str), FnOk P w K mg base CX0 k f fd ps sp ∧ mg x = some (.ref f) ∧ PySem.W.keepIn K (.ref f) = true ∧ Binds K fd ps []
structure GCal (P : Program) (w : World) (K : PySem.W.Frag) (mg : Str → Option Value) (base : Heap) (k : Nat) (x : Str) (sp : Sp) : Prop where
  ex : ∃ (f : Addr) (fd : FuncData) (ps : List Str), GFn P w K mg base k f fd ps sp ∧ mg x = some (.ref f) ∧ PySem.W.keepIn K (.ref f) = true ∧ Binds K fd ps []
section
variable {P : Program} {w : World} {K : PySem.W.Frag} {mg : Str → Option Value} {base : Heap}
theorem cal_of {x : Str} {st : Stmt} {f : Addr} {fd : FuncData} {N ps : List Str} {k : Nat} {sp : Sp} (D : DefAt K mg x st ps f fd) (S : FnScope N ps (defScope st)) (len : ∀ vs H Q E, sp vs H Q E → vs.length = ps.length)
    (body : ∀ (cdv : Value) (A : Around) (outer : List Env) (s : Shared) (H : Hp) (vs : List V) (Q : VK) (E : XK), Room k (A.deeper (envOfC x (defScope st) s.heap.objs.size f cdv)) → sp vs H Q E →
      ∃ t, PSs (cxOf CX0 P w K mg base N x (defScope st) f cdv A outer s H E).nox (defBody st) t ∧ t { nx := fun _ H' => Q .non H', rt := Q } (start N vs) H) : Cal P w K mg base (k + 1) x sp :=
  ⟨f, fd, ps, D.fn.ok S len body, D.mgf, D.fn.kp, D.bd⟩
theorem gfn_of {x : Str} {st : Stmt} {f : Addr} {fd : FuncData} {N ps : List Str} {k : Nat} {sp : Sp} (F : Fun K x x st f fd) (S : FnScope N ps (defScope st)) (len : ∀ vs H Q E, sp vs H Q E → vs.length = ps.length)
    (body : ∀ (cdv : Value) (A : Around) (outer : List Env) (s : Shared) (H : Hp) (vs : List V) (Q : VK) (E : XK), PySem.W.codeIn K cdv x = true → Bare A → Room k (A.deeper (envOfC x (defScope st) s.heap.objs.size f cdv)) → sp vs H Q E →
      ∃ t, PSs (cxOf CX0 P w K mg base N x (defScope st) f cdv A outer s H E).nox (defBody st) t ∧ t { nx := fun _ H' => Q .non H', rt := Q } (start N vs) H) : GFn P w K mg base (k + 1) f fd ps sp := by
  obtain ⟨oc, od, kV, doc, pm, an, cdv, ct, osl, rfl, lk, hcode⟩ := F.ex
  refine ⟨len, fun A outer s H args us vs Q E hg room e0 bind rel want => ?_⟩
  have hlen := len _ _ _ _ want
  have KX : K.In s.heap := e0.mod.kin.keeps fun b o z => (e0.bs b o z).1
  have nolim : s.heap.NoLimit := e0.mod.nolimit.keeps fun b o z => (e0.bs b o z).1
  have kinds : ∀ y ∈ ps.zip us, (defScope st).names.lookup y.1 = some .local ∨ ((defScope st).names.lookup y.1 = some .cell ∧ ((cellsFrom (s.heap.objs.size + 1) (defScope st).names []).lookup y.1).isSome = true) := by
    intro ⟨nm, v⟩ hy
    rcases S.par nm (List.of_mem_zip hy).1 with z | z
    · exact .inl z
    · exact .inr ⟨z, PySem.W.cellsFrom_some _ _ _ (.inl z)⟩
  refine codeAny_call_function room.depth (KX _ _ lk) rfl S.co S.gen rfl (PySem.W.codeRec_of KX hcode) (bind _ _ _ _ ?_)
  refine wpAny_newFunctionEnv_cells S.kind kinds fun env henv s1 inc => ?_
  subst henv
  refine ⟨nolim.keeps inc.toInCall.keep, codeAny_func ?_⟩
  obtain ⟨t, derives, reads⟩ := body cdv A outer s H vs Q E hcode hg (room.deeper _) want
  have I := inv_start (CX := CX0) (E := E) (cd := cdv) S room.hd e0 hlen rel inc
  refine wpAny_mono (derives.nox.run [] s1 (start N vs) H _ I reads) (fun fl s' hs => ?_) fun e s' hs => hs
  cases fl with
  | ret u =>
    obtain ⟨v, σ', H', J, rv, q⟩ := hs
    exact ⟨v, H', J.os, J.bare, J.base, J.hok, rv, q⟩
  | next =>
    obtain ⟨σ', H', J, q⟩ := hs
    exact ⟨V.non, H', J.os, J.bare, J.base, J.hok, rfl, q⟩
  | brk =>
    obtain ⟨σ', H', J, q⟩ := hs
    exact False.elim q
  | cont =>
    obtain ⟨σ', H', J, q⟩ := hs
    exact False.elim q
theorem gcal_of {x : Str} {st : Stmt} {f : Addr} {fd : FuncData} {N ps : List Str} {k : Nat} {sp : Sp} (D : DefAt K mg x st ps f fd) (S : FnScope N ps (defScope st)) (len : ∀ vs H Q E, sp vs H Q E → vs.length = ps.length)
    (body : ∀ (cdv : Value) (A : Around) (outer : List Env) (s : Shared) (H : Hp) (vs : List V) (Q : VK) (E : XK), PySem.W.codeIn K cdv x = true → Bare A → Room k (A.deeper (envOfC x (defScope st) s.heap.objs.size f cdv)) → sp vs H Q E →
      ∃ t, PSs (cxOf CX0 P w K mg base N x (defScope st) f cdv A outer s H E).nox (defBody st) t ∧ t { nx := fun _ H' => Q .non H', rt := Q } (start N vs) H) : GCal P w K mg base (k + 1) x sp :=
  ⟨f, fd, ps, gfn_of D.fn S len body, D.mgf, D.fn.kp, D.bd⟩
end
section
variable {X : Cx} {x : Str} {p pos : Pos} {e : Expr} {es : List Expr} {t : TA} {k j : Nat} {sp : Sp}
/-- f(..) of such a def -/
theorem pe_g (c : GCal X.prog X.w X.K X.mg X.base k x sp) (hg : Bare X.A) (hr : Room j X.A) (hk : k ≤ j) (hgl : Gl X x) (ha : PA X (e :: es) t) (hdb : (x == ("__debug__" : Str)) = false := by decide)
    (he : starEach (e :: es) X.env = (false, eval e X.env) :: starEach es X.env := by rfl) (hpl : (backTo pos (starEach es X.env)).any (·.1) = false := by rfl) :
    PE X (.Call (.Name x p) (e :: es) [] pos) (tCall sp [] E0 t) := by
  obtain ⟨f, fd, ps, F, hm, hkeep, hb⟩ := c.ex
  refine ⟨fun pins s σ H Q I h => wpAny_Call_Name_kw (ld_glob I hgl hm ?_ hdb)⟩
  refine PySem.W.callWith_K (h₀ := X.base) I.ok.mod.kin hkeep (thn (ha.run pos pins s σ H _ I h) fun us s1 ⟨vs, H1, I1, r, q⟩ => ⟨I1.kIn, ?_⟩) he hpl
  have q' : sp (vs ++ []) H1 Q E0 := q
  rw [List.append_nil] at q'
  have l : (us ++ []).length = ps.length := by rw [List.append_nil, ← r.length]; exact F.len _ _ _ _ q'
  have b := hb s1 us I1.kIn l
  rw [List.append_nil] at b
  refine wpAny_call (codeAny_mono (F.go X.A X.stack s1 H1 ⟨us, []⟩ us vs Q E0 hg (hr.mono hk) I1.env0 b r q') fun res s' hq => ?_)
  cases res with
  | error err => exact False.elim hq
  | ok fl =>
    cases fl with
    | ret u => exact I1.after hq
    | next => exact False.elim hq
    | brk => exact False.elim hq
    | cont => exact False.elim hq
/-- f(k=v, ..): keywords alone -/
theorem pe_kw {CX : CXT} {f : Addr} {fd : FuncData} {ps ks : List Str} {E : XK} {kws : List Keyword} {tk : TA} {g : List Value → List Value → List Value} {gV : List V → List V → List V} (F : FnOk X.prog X.w X.K X.mg X.base CX k f fd ps sp) (hr : Room k X.A) (hgl : Gl X x) (hm : X.mg x = some (.ref f))
    (hkeep : PySem.W.keepIn X.K (.ref f) = true) (hb : KBinds X.K fd ps ks g gV) (hx : Passes CX X E) (hkw : PK X kws tk) (hall : (backToKw pos (keywordEach kws X.env)).all (·.1.isSome) = true := by rfl)
    (hks : (backToKw pos (keywordEach kws X.env)).filterMap (·.1) = ks := by rfl) (hdb : (x == ("__debug__" : Str)) = false := by decide)
    (hpl : ((backTo pos (starEach [] X.env)).any (·.1) || (backToKw pos (keywordEach kws X.env)).any (·.1.isNone)) = false := by rfl) :
    PE X (.Call (.Name x p) [] kws pos) (tCallK sp gV E tNil tk) := by
  refine ⟨fun pins s σ H Q I h => wpAny_Call_Name_kw (ld_glob I hgl hm ?_ hdb)⟩
  refine PySem.W.callWith_KW0 (h₀ := X.base) I.ok.mod.kin hkeep hall (thn (hkw.run pos pins s σ H _ I h) fun ws s2 ⟨zs, H2, I2, rz, q2⟩ => ⟨I2.kIn, ?_⟩) hpl
  rw [hks]
  exact run_fnk (us := []) F hr hb hx I2 .nil rz q2
end
/-- a def that may be called by keywords, in the order ks -/
structure CalK (P : Program) (w : World) (K : PySem.W.Frag) (mg : Str → Option Value) (base : Heap) (k : Nat) (x : Str) (sp : Sp) (ks : List Str) (gV : List V → List V → List V) : Prop where
  ex : ∃ (f : Addr) (fd : FuncData) (ps : List Str) (g : List Value → List Value → List Value), FnOk P w K mg base CX0 k f fd ps sp ∧ mg x = some (.ref f) ∧ PySem.W.keepIn K (.ref f) = true ∧ KBinds K fd ps ks g gV
section
variable {X : Cx} {x : Str} {p pos : Pos} {k j : Nat} {sp : Sp} {ks : List Str} {kws : List Keyword} {tk : TA} {gV : List V → List V → List V}
theorem pe_ck (c : CalK X.prog X.w X.K X.mg X.base k x sp ks gV) (hr : Room j X.A) (hk : k ≤ j) (hgl : Gl X x) (hkw : PK X kws tk) (hall : (backToKw pos (keywordEach kws X.env)).all (·.1.isSome) = true := by rfl)
    (hks : (backToKw pos (keywordEach kws X.env)).filterMap (·.1) = ks := by rfl) (hdb : (x == ("__debug__" : Str)) = false := by decide)
    (hpl : ((backTo pos (starEach [] X.env)).any (·.1) || (backToKw pos (keywordEach kws X.env)).any (·.1.isNone)) = false := by rfl) :
    PE X (.Call (.Name x p) [] kws pos) (tCallK sp gV E0 tNil tk) := by
  obtain ⟨f, fd, ps, g, F, hm, hkeep, hb⟩ := c.ex
  exact pe_kw F (hr.mono hk) hgl hm hkeep hb pass0 hkw hall hks hdb hpl
theorem pe_c0 (c : Cal X.prog X.w X.K X.mg X.base k x sp) (hr : Room j X.A) (hk : k ≤ j) (hgl : Gl X x) (hdb : (x == ("__debug__" : Str)) = false := by decide) : PE X (.Call (.Name x p) [] [] pos) (tCall sp [] E0 tNil) := by
  obtain ⟨f, fd, ps, F, hm, hkeep, hb⟩ := c.ex
  exact pe_call0 F (hr.mono hk) hgl hm hkeep hb .nil pass0 hdb
theorem pe_c {e : Expr} {es : List Expr} {t : TA} (c : Cal X.prog X.w X.K X.mg X.base k x sp) (hr : Room j X.A) (hk : k ≤ j) (hgl : Gl X x) (ha : PA X (e :: es) t) (hdb : (x == ("__debug__" : Str)) = false := by decide)
    (he : starEach (e :: es) X.env = (false, eval e X.env) :: starEach es X.env := by rfl) (hpl : (backTo pos (starEach es X.env)).any (·.1) = false := by rfl) : PE X (.Call (.Name x p) (e :: es) [] pos) (tCall sp [] E0 t) := by
  obtain ⟨f, fd, ps, F, hm, hkeep, hb⟩ := c.ex
  exact pe_call F (hr.mono hk) hgl hm hkeep hb .nil pass0 ha hdb he hpl
end
/-- the end of a law over such a def -/
theorem walkG {l : PySem.W.OpenLaw} {n k : Nat} {q : Program} {loose : List Str} {XP : (Str → Option Value) → Heap → Prop} {YP : World → Heap → Prop} {d : DefRec} {K : Params → PySem.W.Frag} {sp : PySem.W.Frag → Sp} {x : Str}
    (hn : l.most = some n) (hn2 : n ≤ sizeLine) (hdf : d.params.defaults = []) (hr : Room k callerA)
    (hY : ∀ (w : World) (h : Heap), YP w h → (K w.params).In h)
    (F : ∀ (w : World) (mg : Str → Option Value) (fa : Addr) (h : Heap), (K w.params).In h → h.Ns mainGlobals mg → mg d.name = some (.ref fa) →
      ∃ fd : FuncData, (∀ (s : Shared) (u : Value), BindsTo s fd ⟨[u], []⟩ [(x, u)]) ∧
        ∀ base : Heap, (K w.params).In base → base.Ns mainGlobals mg → GFn l.prog w (K w.params) mg base k fa fd [x] (sp (K w.params)))
    (hsp : ∀ (K : PySem.W.Frag) (H : Hp) (a : Addr) (ns : List Int), ns.length ≤ n → Only H → SqL K H a (ns.map V.int) → sp K [.ref a] H (fun v _ => v = .bl true) fun _ _ _ => False) :
    PySem.W.WalkO q loose XP YP l.row.toRowW d [] (fun f vs => PySem.call f vs) := by
  refine Att.attach_call hn hdf fun w s₀ s₁ mg mb fa o pm cd doc a vs ns G Y ho hd hcd hmg hobj hints hlen hgen => ?_
  have KX := hY w _ Y
  obtain ⟨fd, hb, hF⟩ := F w mg fa _ KX G.T.g hmg
  have mine : ∀ base : Heap, (K w.params).In base → base.Ns mainGlobals mg → FnOk l.prog w (K w.params) mg base CX0 k fa fd [x] (sp (K w.params)) → True := fun _ _ _ _ => trivial
  have rv := vals_ints hints
  have lenV := hints.length
  -- as the layer's own head does it, for the caller's surroundings alone
  have core : ∀ H : Hp, Only H → SqL (K w.params) H a (ns.map V.int) → HOk l.prog w H s₁.heap → (∀ b, H b ≠ none → b = a) → (H a ≠ none → (K w.params).lookup a = none) →
      codeAny (model l.prog w) callerA (.call (.ref fa) ⟨[.ref a], []⟩) (fun r s' => r = .ok (.ret (.bool true)) ∧ OldK s₁.heap s'.heap ∧ s'.os = s₁.os ∧ AllBare s'.gens) s₁ := by
    intro H hO hS hok only unk
    have keepHid : ∀ {b : Addr} {ob : Obj}, s₁.heap.get? b = some ob → H b = none → (hidT s₁.heap H).get? b = some ob := fun z nn => hidT_get z nn
    have dictFree : ∀ {b : Addr} {ob : Obj} {es : Array DictEntry} {ep : Nat}, s₁.heap.get? b = some ob → ob.data = .dict es ep → H b = none := by
      intro b ob es ep z dd
      cases hb' : H b with
      | none => rfl
      | some u =>
        have eb : b = a := only b (by rw [hb']; exact Option.some_ne_none u)
        rw [eb, hobj] at z
        cases z
        have dd' : Data.seq vs.toArray _ = Data.dict es ep := dd
        cases dd'
    have nsHid : ∀ {b : Addr} {m : Str → Option Value}, s₁.heap.Ns b m → (hidT s₁.heap H).Ns b m := fun {b m} ⟨ob, es, ep, z, dd, rest⟩ => ⟨ob, es, ep, keepHid z (dictFree z dd), dd, rest⟩
    have inHid : (K w.params).In (hidT s₁.heap H) := fun b ob z => keepHid (KX b ob z) (by
      cases hb' : H b with
      | none => rfl
      | some u =>
        have eb : b = a := only b (by rw [hb']; exact Option.some_ne_none u)
        rw [eb, unk (by rw [← eb, hb']; exact Option.some_ne_none u)] at z
        cases z)
    have M : Mod (K w.params) mg (hidT s₁.heap H) := ⟨inHid, nsHid G.T.g, ⟨mb, nsHid G.T.b, G.T.builtins⟩, let ⟨mc, z1, z2⟩ := G.T.nolimit; ⟨mc, nsHid z1, z2⟩⟩
    have e0 : Env0 l.prog w (K w.params) mg (hidT s₁.heap H) callerA [] s₁ H := ⟨rfl, M, fun b ob z => of_hidT z, Nat.le_of_eq (hidT_size _ _), trivial, fun b hb => absurd (show b ∈ ([] : List Addr) from hb) List.not_mem_nil, hok, .of_eq hgen⟩
    refine codeAny_mono ((hF _ inHid (nsHid G.T.g)).go callerA [] s₁ H ⟨[.ref a], []⟩ [.ref a] [.ref a] _ _ rfl hr e0 (hb s₁ (.ref a)) (.cons rfl .nil) (hsp (K w.params) H a ns hlen hO hS)) fun r s' hq => ?_
    have hq2 : ∃ u, r = .ok (.ret u) ∧ CE [] l.prog w H s₁ (fun v _ => v = .bl true) u s' := by
      cases r with
      | error err => exact False.elim hq
      | ok fl =>
        cases fl with
        | ret u => exact ⟨u, rfl, hq⟩
        | next => exact False.elim hq
        | brk => exact False.elim hq
        | cont => exact False.elim hq
    match hq2 with
    | ⟨u, er, v, H', os, bare, un, hok', rel, q⟩ =>
      have q' : v = .bl true := q
      subst q'
      have eu : u = Value.bool true := rel
      subst eu
      refine ⟨er, OldK.of_keep fun b ob z => ?_, os, bare⟩
      cases hb' : H b with
      | none => exact un.keep b ob z hb' (fun m => by cases m) (fun m => by cases m)
      | some u =>
        rcases hO b with n0 | ⟨ob', xs, n0⟩
        · rw [hb'] at n0
          cases n0
        · have n1 := un.frzs b ob' _ n0
          obtain ⟨z1, _⟩ := hok b _ n0
          obtain ⟨z2, _⟩ := hok' b _ n1
          rw [z] at z1
          cases z1
          exact z2
  cases hk : (K w.params).lookup a with
  | some ob =>
    have z := KX a ob hk
    rw [hobj] at z
    cases z
    exact core (fun _ => none) (fun _ => .inl rfl) (.inr ⟨_, vs.toArray, _, hk, rfl, rfl, rfl, by rw [List.size_toArray, lenV]; exact Nat.le_trans hlen hn2, by simpa using rv⟩) (fun b u z => by have z' : (none : Option HO) = some u := z; cases z') (fun b z => absurd rfl z) fun z => absurd rfl z
  | none =>
    refine core (fun b => if b = a then some (.frz { cls := .type "list", data := .seq vs.toArray } (.lst (ns.map V.int))) else none) (fun b => ?_) (.inl (.inr ⟨{ cls := .type "list", data := .seq vs.toArray }, if_pos rfl⟩)) (fun b u z => ?_) (fun b z => ?_) fun _ => hk
    · by_cases eb : b = a
      · exact .inr ⟨_, _, if_pos eb⟩
      · exact .inl (if_neg eb)
    · by_cases eb : b = a
      · have z' := (if_pos eb).symm.trans z
        cases z'
        subst eb
        exact ⟨hobj, by rw [List.length_map]; exact Nat.le_trans hlen hn2, vs, _, rv, hobj⟩
      · have z' := (if_neg eb).symm.trans z
        cases z'
    · by_cases eb : b = a
      · exact eb
      · exact absurd (if_neg eb) z
end NA
namespace NA
open PySem PySem.Spec PyProof.Rows L2

/-! ### how long a repr may be -/
mutual
def cost : PyData → Nat
  | .none => 4
  | .bool _ => 5
  | .int _ => 1921
  | .str x => 10 * x.length + 2
  | .list xs => costAll xs + 3
  | .tuple xs => costAll xs + 3
  | .dict _ => 0
def costAll : List PyData → Nat
  | [] => 0
  | x :: xs => cost x + 2 + costAll xs
end
def strSmall (x : Str) : Bool := x.cps.toList.all fun c => decide (c < 16 ^ 8)
mutual
def okD : PyData → Bool
  | .none => true
  | .bool _ => true
  | .int i => decide (i.natAbs.log2 < 1920)
  | .str x => strSmall x
  | .list xs => okAll xs
  | .tuple xs => okAll xs
  | .dict _ => false
def okAll : List PyData → Bool
  | [] => true
  | x :: xs => okD x && okAll xs
end
mutual
theorem okD_facts : ∀ d : PyData, okD d = true → d.showable = true ∧ d.hasDict = false ∧ d.shown.length ≤ cost d
  | .none, _ => ⟨rfl, rfl, by decide +kernel⟩
  | .bool true, _ => ⟨rfl, rfl, by decide +kernel⟩
  | .bool false, _ => ⟨rfl, rfl, by decide +kernel⟩
  | .int i, h => by
    have h1 : i.natAbs.log2 < 1920 := by simpa [okD] using h
    refine ⟨by simpa [PyData.showable] using h1, by simp only [PyData.hasDict], ?_⟩
    simp only [PyData.shown, cost]
    exact PyProof.Rows.int_text_len_1921 h1
  | .str x, h => by
    refine ⟨by simp only [PyData.showable], by simp only [PyData.hasDict], ?_⟩
    simp only [PyData.shown, cost]
    refine StrLaws.reprText_len x fun c hc => ?_
    have h1 : strSmall x = true := by simpa [okD] using h
    unfold strSmall at h1
    exact of_decide_eq_true (List.all_eq_true.mp h1 c hc)
  | .list xs, h => by
    obtain ⟨a, b, c, e⟩ := okAll_facts xs (by simpa [okD] using h)
    refine ⟨by simpa [PyData.showable] using a, by simpa [PyData.hasDict] using b, ?_⟩
    simp only [PyData.shown, cost]
    have := listText_len_le (PyData.shownAll xs)
    omega
  | .tuple xs, h => by
    obtain ⟨a, b, c, e⟩ := okAll_facts xs (by simpa [okD] using h)
    refine ⟨by simpa [PyData.showable] using a, by simpa [PyData.hasDict] using b, ?_⟩
    simp only [PyData.shown, cost]
    have := tupleText_len_le (PyData.shownAll xs)
    omega
  | .dict _, h => by simp [okD] at h
theorem okAll_facts : ∀ xs : List PyData, okAll xs = true → PyData.showableAll xs = true ∧ PyData.hasDictAll xs = false ∧ ((PyData.shownAll xs).map (·.length)).sum + 2 * (PyData.shownAll xs).length ≤ costAll xs ∧ True
  | [], _ => ⟨rfl, rfl, Nat.le_refl _, trivial⟩
  | x :: xs, h => by
    have h' : okD x = true ∧ okAll xs = true := by simpa [okAll] using h
    obtain ⟨a, b, c⟩ := okD_facts x h'.1
    obtain ⟨d, e, f, _⟩ := okAll_facts xs h'.2
    refine ⟨by simp only [PyData.showableAll, a, d, Bool.and_self], by simp only [PyData.hasDictAll, b, e, Bool.or_self], ?_, trivial⟩
    simp only [PyData.shownAll, costAll, List.map_cons, List.sum_cons, List.length_cons]
    omega
end
/-- data whose repr may be taken -/
structure Sh (d : PyData) : Prop where
  ok : okD d = true
  cost : cost d ≤ 16000000
  depth : d.depth ≤ 60
section
variable {X : Cx}
theorem call_reprD {k : Nat} (hg : Bare X.A) (hr : Room k X.A) : CallR X (.builtin "repr") (fun xs H Q => ∃ v d, xs = [v] ∧ Dp X.K H v d ∧ Sh d ∧ Q (.str d.shown) H) := by
  intro pins s σ H xs us Q I r h
  obtain ⟨v, d, rfl, hd, sh, q⟩ := h
  obtain ⟨u, rfl, rv⟩ := r.one
  obtain ⟨f1, f2, f3⟩ := okD_facts d sh.ok
  have hz : d.shown.length ≤ sizeLine := Nat.le_trans f3 (Nat.le_trans sh.cost (by decide))
  have hu := hr.un
  have hdep := sh.depth
  obtain ⟨as, rd⟩ := Dp.reads I d v u hd rv
  have big : ∀ a, u = Value.ref a → wpAny (model X.prog X.w) X.A (call (.builtin "repr") [u]) (EP X pins σ Q) X.xe s := fun a e => by
    subst e
    exact repr_of_reads' rd f1 (PyData.noDict_hsm f2) hg (by omega) (fun _ _ z => z) (fun h' u tk hk => ⟨.str _, H, I.kept (t' := tk) hk, ⟨_, rfl⟩, q⟩) hz
  cases hd with
  | non =>
    cases (show u = Value.none from rv)
    exact PySem.P.repr_of_none ⟨.str _, H, I.tok _, ⟨_, rfl⟩, q⟩
  | bl b =>
    cases (show u = Value.bool b from rv)
    refine PySem.P.repr_of_bool ⟨.str _, H, I.tok _, ⟨_, rfl⟩, ?_⟩
    simpa only [PyData.shown] using q
  | int i =>
    obtain ⟨t, rfl⟩ := (show ∃ t, u = Value.int i t from rv)
    refine PySem.P.repr_of_int (by simpa [okD] using sh.ok) ⟨.str _, H, I.tok _, ⟨_, rfl⟩, ?_⟩
    simpa only [PyData.shown] using q
  | str x =>
    obtain ⟨t, rfl⟩ := (show ∃ t, u = Value.str x t from rv)
    refine PySem.P.repr_of_str ⟨.str _, H, I.tok _, ⟨_, rfl⟩, ?_⟩ (by simpa only [PyData.shown] using hz)
    simpa only [PyData.shown] using q
  | lst _ _ => exact big _ rv
  | tup _ _ => exact big _ rv
end
/-! ### data that never changes: tuples all the way -/
mutual
inductive Im (H : Hp) : V → PyData → Prop
  | non : Im H .non .none
  | bl (b : Bool) : Im H (.bl b) (.bool b)
  | int (i : Int) : Im H (.int i) (.int i)
  | str (x : Str) : Im H (.str x) (.str x)
  | tup {a : Addr} {xs : List V} {ds : List PyData} : H a = some (.tup xs) → ImAll H xs ds → Im H (.ref a) (.tuple ds)
inductive ImAll (H : Hp) : List V → List PyData → Prop
  | nil : ImAll H [] []
  | cons {v : V} {vs : List V} {d : PyData} {ds : List PyData} : Im H v d → ImAll H vs ds → ImAll H (v :: vs) (d :: ds)
end
/-- tuples stay -/
def Tk (H H' : Hp) : Prop := ∀ b xs, H b = some (.tup xs) → H' b = some (.tup xs)
theorem Tk.refl (H : Hp) : Tk H H := fun _ _ h => h
theorem Tk.trans {H H1 H2 : Hp} (a : Tk H H1) (b : Tk H1 H2) : Tk H H2 := fun c x h => b c x (a c x h)
theorem Tk.new {H H' : Hp} {p : Addr} {o : HO} (e : Tk H H') (h : H' p = none) : Tk H (upd H' p o) := fun b xs z => by
  have z' := e b xs z
  rw [upd_ne (ne_of_none z' h)]
  exact z'
theorem Tk.put {H H' : Hp} {p : Addr} {xs : List V} {o : HO} (e : Tk H H') (h : H' p = some (.lst xs)) : Tk H (upd H' p o) := fun b ys z => by
  have z' := e b ys z
  rw [upd_ne (ne_of z' h (by intro q; cases q))]
  exact z'
theorem Tk.same {H H' : Hp} (e : Same H H') : Tk H H' := fun b xs z => e b _ z
mutual
theorem Im.keep {H H' : Hp} (e : Tk H H') : ∀ (d : PyData) (v : V), Im H v d → Im H' v d
  | .none, _, h => by cases h; exact .non
  | .bool _, _, h => by cases h; exact .bl _
  | .int _, _, h => by cases h; exact .int _
  | .str _, _, h => by cases h; exact .str _
  | .tuple ds, _, h => by
    cases h with
    | tup a b => exact .tup (e _ _ a) (ImAll.keep e ds _ b)
  | .list _, _, h => by cases h
  | .dict _, _, h => by cases h
theorem ImAll.keep {H H' : Hp} (e : Tk H H') : ∀ (ds : List PyData) (vs : List V), ImAll H vs ds → ImAll H' vs ds
  | [], _, h => by cases h; exact .nil
  | d :: ds, _, h => by
    cases h with
    | cons a b => exact .cons (Im.keep e d _ a) (ImAll.keep e ds _ b)
end
theorem Im.k {H H' : Hp} {v : V} {d : PyData} (h : Im H v d) (e : Tk H H') : Im H' v d := Im.keep e d v h
theorem ImAll.k {H H' : Hp} {vs : List V} {ds : List PyData} (h : ImAll H vs ds) (e : Tk H H') : ImAll H' vs ds := ImAll.keep e ds vs h
mutual
theorem Im.toDp {K : PySem.W.Frag} {H : Hp} : ∀ (d : PyData) (v : V), Im H v d → Dp K H v d
  | .none, _, h => by cases h; exact .non
  | .bool _, _, h => by cases h; exact .bl _
  | .int _, _, h => by cases h; exact .int _
  | .str _, _, h => by cases h; exact .str _
  | .tuple ds, _, h => by
    cases h with
    | tup a b => exact .tup (SqT.of a) (ImAll.toDp ds _ b)
  | .list _, _, h => by cases h
  | .dict _, _, h => by cases h
theorem ImAll.toDp {K : PySem.W.Frag} {H : Hp} : ∀ (ds : List PyData) (vs : List V), ImAll H vs ds → DpAll K H vs ds
  | [], _, h => by cases h; exact .nil
  | d :: ds, _, h => by
    cases h with
    | cons a b => exact .cons (Im.toDp d _ a) (ImAll.toDp ds _ b)
end
theorem Im.dp {K : PySem.W.Frag} {H : Hp} {v : V} {d : PyData} (h : Im H v d) : Dp K H v d := Im.toDp d v h
theorem ImAll.dp {K : PySem.W.Frag} {H : Hp} {vs : List V} {ds : List PyData} (h : ImAll H vs ds) : DpAll K H vs ds := ImAll.toDp ds vs h
theorem Im.tuple {H : Hp} {v : V} {ds : List PyData} (h : Im H v (.tuple ds)) : ∃ a xs, v = .ref a ∧ H a = some (.tup xs) ∧ ImAll H xs ds := by
  cases h with
  | tup a b => exact ⟨_, _, rfl, a, b⟩
theorem Im.isInt {H : Hp} {v : V} {i : Int} (h : Im H v (.int i)) : v = .int i := by cases h; rfl
theorem ImAll.length {H : Hp} : ∀ {vs : List V} {ds : List PyData}, ImAll H vs ds → vs.length = ds.length
  | _, _, .nil => rfl
  | _, _, .cons _ b => by rw [List.length_cons, List.length_cons, ImAll.length b]
theorem ImAll.get {H : Hp} : ∀ {vs : List V} {ds : List PyData} {i : Nat} {d : PyData}, ImAll H vs ds → ds[i]? = some d → ∃ v, vs[i]? = some v ∧ Im H v d
  | _, _, _, _, .nil, e => by simp at e
  | _, _, 0, _, .cons a _, e => by
    simp at e
    subst e
    exact ⟨_, rfl, a⟩
  | _, _, i + 1, d, .cons _ b, e => by
    obtain ⟨v, h1, h2⟩ := ImAll.get (i := i) (d := d) b (by simpa using e)
    exact ⟨v, by simpa using h1, h2⟩
theorem ImAll.ints {H : Hp} : ∀ {vs : List V} {ns : List Int}, ImAll H vs (ns.map PyData.int) → vs = ns.map V.int
  | vs, [], h => by cases h; rfl
  | vs, n :: ns, h => by
    cases h with
    | cons a b =>
      cases a
      rw [List.map_cons, ImAll.ints b]
theorem ImAll.of_ints (H : Hp) : ∀ ns : List Int, ImAll H (ns.map V.int) (ns.map PyData.int)
  | [] => .nil
  | n :: ns => .cons (.int n) (ImAll.of_ints H ns)
theorem ImAll.append {H : Hp} : ∀ {vs ws : List V} {ds es : List PyData}, ImAll H vs ds → ImAll H ws es → ImAll H (vs ++ ws) (ds ++ es)
  | _, _, _, _, .nil, h => h
  | _, _, _, _, .cons a b, h => .cons a (ImAll.append b h)
end NA
namespace PySem
open Sem (wp)
open AutoSeq1 (wpAny_loadPart')
/-- the iterator of a tuple at l, new -/
abbrev tIt (l : Addr) : Obj := { cls := .type "tuple_iterator", data := .fields #[.ref l, .int 0 0] }
/-- the enumerate object over the iterator at i, new -/
abbrev tEn (i : Addr) : Obj := { cls := .type "enumerate", data := .fields #[.none, .bool false, .ref i, rawInt 0, .none, .none] }
set_option maxHeartbeats 1000000 in
theorem enumT_new (l : Addr) (o : Obj) (its : Array Value) (hc : o.cls = .type "tuple") (hd : ∃ n, o.data = .seq its n) :
    Meets (Builtin.«enumerate.__new__» ⟨[.type "enumerate", .ref l], []⟩)
      (fun _ R s => s.heap.get? l = some o ∧ R (.ok (.ret (.ref (s.heap.push (tIt l)).objs.size))) { s with heap := (s.heap.push (tIt l)).push (tEn s.heap.objs.size) }) :=
  .of_wp fun prog w A R s h => by
    obtain ⟨hp, gg, dr, tk, os⟩ := s
    obtain ⟨hl, h⟩ := h
    have sub := sub_enumerate
    have T : Heap.IsTuple (Shared.heap ⟨hp, gg, dr, tk, os⟩) l its := ⟨o, hl, hc, hd⟩
    wp_walk using wpAny_loadPart' hl
    refine wpAny_stack_any fun _ => wpAny_pure ?_
    split
    · rename_i cc _ _ _ _ _
      cases (cc == Value.type "enumerate")
      · wp_walk using wpAny_loadPart' hl, wpAny_pyIter_tuple T
        exact ⟨_, rfl, h⟩
      · wp_walk using wpAny_loadPart' hl, wpAny_pyIter_tuple T
        exact ⟨_, rfl, h⟩
    · wp_walk using wpAny_loadPart' hl, wpAny_pyIter_tuple T
      exact ⟨_, rfl, h⟩
section
variable {prog : Program} {w : World} {A : Around} {E : Value → Shared → Prop} {s : Shared}
theorem enumT_call {l : Addr} {its : Array Value} {Q : Value → Shared → Prop} (T : s.heap.IsTuple l its)
    (h : ∀ h', IsEnum h' (s.heap.objs.size + 1) s.heap.objs.size 0 .none → h'.get? s.heap.objs.size = some (tIt l) →
      (∀ b o, s.heap.get? b = some o → h'.get? b = some o) → Q (.ref (s.heap.objs.size + 1)) { s with heap := h' }) :
    wpAny (model prog w) A (call (.type "enumerate") [.ref l]) Q E s := by
  obtain ⟨o, hl, hc, hd⟩ := T
  refine callType_new F.called_enumerate (by decide) (F.typeCall_enumerate_1 _) (F.newCall_enumerate_1 _) (fun obj => F.args_object_init_2 obj _) F.entry_enumerate_new (enumT_new l o its hc hd) ⟨hl, ?_⟩
  have sz : (s.heap.push (tIt l)).objs.size = s.heap.objs.size + 1 := Heap.size_push ..
  show _ ∧ _
  rw [sz]
  have en : IsEnum ((s.heap.push (tIt l)).push (tEn s.heap.objs.size)) (s.heap.objs.size + 1) s.heap.objs.size 0 .none := by
    have z := Heap.get?_push_size (s.heap.push (tIt l)) (o := tEn s.heap.objs.size) rfl
    rw [sz] at z
    exact z
  exact ⟨⟨_, en, rfl⟩, h _ en (Heap.get?_push_of_some _ (Heap.get?_push_size _ rfl)) fun b u z => Heap.get?_push_of_some _ (Heap.get?_push_of_some _ z)⟩
end
end PySem
namespace NA
open PySem PySem.Spec PyProof.Rows L2
/-- enumerate(t), t a tuple: each item in a new pair -/
def IeT (K : PySem.W.Frag) (a : Addr) : It :=
  ⟨fun i H => ∃ (xs : List V) (x : V), SqT K H a xs ∧ xs[i]? = some x, fun i H v H' => ∃ T x, v = .ref T ∧ H T = none ∧ H' = upd H T (.tup [.int (i : Nat), x]) ∧ ∀ xs, SqT K H a xs → xs[i]? = some x,
    fun i H => ∃ xs : List V, SqT K H a xs ∧ xs.length ≤ i⟩
theorem turn_enumT {P : Program} {w : World} {K : PySem.W.Frag} {elts : List Expr} {kk : Nat} {tpos : Pos} (a e it : Addr) :
    Turn P w K (.Tuple elts kk tpos) (IeT K a) [e, it] e (fun i h => (∃ old, IsEnum h e it (0 + ((i : Nat) : Int)) old) ∧ h.IsTupleIter it a i ∧ e ≠ it) where
  mem := by simp
  obj := fun i h st b hb => by
    obtain ⟨⟨old, he⟩, ⟨o, ho, hc, hd⟩, _⟩ := st
    have cases2 : b = e ∨ b = it := by simpa using hb
    rcases cases2 with z | z
    · subst z
      exact ⟨_, he, fun v q => nomatch q⟩
    · subst z
      exact ⟨o, ho, fun v q => by rw [hd] at q; cases q⟩
  keep := fun i h h' st k => by
    obtain ⟨⟨old, he⟩, hi, hne⟩ := st
    exact ⟨⟨old, k e (by simp) _ he⟩, hi.at fun o q => k it (by simp) o q, hne⟩
  item := by
    intro X hP hw hK hc i pins s σ H E I hf st hg
    subst hP hw hK
    obtain ⟨⟨old, he⟩, hit, hne⟩ := st
    obtain ⟨xs, x, hq, hx⟩ := hg
    obtain ⟨its, rv, tp, hz⟩ := I.tuple hq
    obtain ⟨u, hu, ru⟩ := rv.get hx
    have el : e < s.heap.objs.size := Heap.lt_size he
    have il : it < s.heap.objs.size := by obtain ⟨_, q, _⟩ := hit; exact Heap.lt_size q
    have al : a < s.heap.objs.size := tp.lt
    have lenI : i < its.toArray.size := by
      have := (List.getElem?_eq_some_iff.mp hu).1
      simpa using this
    -- the tuple's own iterator, by what it draws
    have ta_it : a ≠ it := fun z => by
      obtain ⟨o1, q1, c1, _⟩ := hit
      obtain ⟨o2, q2, c2, _⟩ := (show s.heap.IsTuple a its.toArray from tp)
      rw [z, q1] at q2
      cases q2
      rw [c1] at c2
      exact absurd c2 (by decide)
    have ta_e : a ≠ e := fun z => by
      obtain ⟨o2, q2, c2, _⟩ := (show s.heap.IsTuple a its.toArray from tp)
      rw [z, show s.heap.get? e = some _ from he] at q2
      cases q2
      exact absurd (show Value.type "enumerate" = Value.type "tuple" from c2) (by decide)
    have D : Draws X.prog X.w X.A.in1 it [it, a] its.toArray.size (fun i v => its.toArray[i]? = some v) (fun i h => h.IsTupleIter it a i ∧ h.IsTuple a its.toArray) := Draws.tuple (A := X.A.in1) (I.ok.hd hc) it a ta_it its.toArray
    refine wpAny_pyNext_enum_itemC D he ⟨hit, tp⟩ lenI hne (by simp [hne, Ne.symm ta_e]) fun y h' tk hP ho hs' hT hsz hk => ?_
    have ey : y = u := Option.some.inj (hP.symm.trans (by simpa using hu))
    subst ey
    refine ⟨_, rfl, wpAny_letOwnedTupleGo_enum (s := { s with heap := h', toks := tk + 1 }) ho fun h'' he' sb => ?_⟩
    have hT2 : h''.get? s.heap.objs.size = some { cls := .type "tuple", data := .seq #[.int (0 + (i : Int)) tk, y] } := (sb.2 _ (Nat.ne_of_gt el)).trans hT
    have e0 : (0 + (i : Int)) = (i : Int) := by omega
    have new : ObjOk X.prog X.w (upd H s.heap.objs.size (.tup [.int (i : Nat), x])) h'' s.heap.objs.size (.tup [.int (i : Nat), x]) :=
      ⟨by show 2 ≤ sizeLine; decide, [.int (0 + (i : Int)) tk, y], .cons ⟨tk, by rw [e0]⟩ (.cons ru .nil), ⟨_, hT2, rfl, _, rfl⟩⟩
    have I1 : Inv X pins σ (upd H s.heap.objs.size (.tup [.int (i : Nat), x])) { s with heap := h'', toks := tk + 1 } :=
      I.turnedNew (ch := [e, it]) (fun b ob hb q => (sb.2 b (fun z => hb (by simp [z]))).trans (hk b ob (fun z => hb (by simp [z])) (fun z => hb (by simp [z])) q)) hf (Nat.le_refl _) new
    refine ⟨.ref s.heap.objs.size, _, I1, rfl, ⟨_, x, rfl, I.hok.fresh (Nat.le_refl _), rfl, fun ys hy => by rw [I.tuple_inj hy hq]; exact hx⟩, ⟨⟨y, ?_⟩, hs'.1.at fun o q => (sb.2 it (Ne.symm hne)).trans q, hne⟩, fun b hb => ?_⟩
    · have e1 : (0 + ((i + 1 : Nat) : Int)) = 0 + (i : Int) + 1 := by omega
      rw [e1]
      exact he'
    · have lt : b < s.heap.objs.size := by
        have cases2 : b = e ∨ b = it := by simpa using hb
        rcases cases2 with z | z
        · rw [z]; exact el
        · rw [z]; exact il
      rw [upd_ne (Nat.ne_of_lt lt)]
      exact (hf b hb).1
  done := by
    intro X hP hw hK hc i pins s σ H E I hf st hg
    subst hP hw hK
    obtain ⟨⟨old, he⟩, hit, hne⟩ := st
    obtain ⟨xs, hq, hx⟩ := hg
    obtain ⟨its, rv, tp, hz⟩ := I.tuple hq
    have ta_it : a ≠ it := fun z => by
      obtain ⟨o1, q1, c1, _⟩ := hit
      obtain ⟨o2, q2, c2, _⟩ := (show s.heap.IsTuple a its.toArray from tp)
      rw [z, q1] at q2
      cases q2
      rw [c1] at c2
      exact absurd c2 (by decide)
    obtain ⟨f0, f1, f2, f3, f4, f5⟩ := hf it (by simp)
    have ln := rv.length
    have gone : xs.length ≤ i := hx
    have D : Draws X.prog X.w X.A.in1 it [it, a] i (fun _ _ => False) (fun j h => j = i ∧ h.IsTupleIter it a j ∧ h.IsTuple a its.toArray) := {
      live := fun j h st => by
        obtain ⟨_, ⟨o, q, _⟩, _⟩ := st
        exact ⟨o, q⟩
      frame := fun j h h' st k => ⟨st.1, st.2.1.at fun o q => k it (by simp) o q, st.2.2.at fun o q => k a (by simp) o q⟩
      item := fun j s Q E hj st _ => absurd hj (by rw [st.1]; exact Nat.lt_irrefl _)
      done := fun s Q E st hE => wpAny_nextOf_tuple_end (A := X.A.in1) (I.ok.hd hc) st.2.1 st.2.2 (Array.getElem?_eq_none (by simp; omega)) hE }
    exact wpAny_pyNext_enum_endD D he ⟨rfl, hit, tp⟩ fun h' eb => ⟨rfl, I.turned (t' := s.toks) (fun b o hb q => eb b o hb q) f0 f1 f3 f4 f5⟩
  self := fun A i s Q E st h => by
    obtain ⟨⟨_, he⟩, _⟩ := st
    exact wpAny_pyIter_enum he h
def iEnumT (K : PySem.W.Frag) (ta : TA) : TI := fun σ H R => ta σ H fun vs H1 => ∃ a xs, vs = [.ref a] ∧ SqT K H1 a xs ∧ R (IeT K a) H1
theorem pi_enumT {X : Cx} {e : Expr} {ta : TA} {p pos tpos : Pos} {elts : List Expr} {kk : Nat} (hg : Gl X "enumerate") (hm : X.mg "enumerate" = none) (ha : PA X [e] ta) (hs : starEach [e] X.env = [(false, eval e X.env)] := by rfl) :
    PI X (.Tuple elts kk tpos) (.Call (.Name "enumerate" p) [e] [] pos) (iEnumT X.K ta) := by
  refine ⟨fun pins s σ H R I h => ?_⟩
  refine Call_ (ld_blt I hg hm boot_enumerate (PyProof.Rows.callWith_type1 (thn (ha.run pos pins s σ H _ I h) fun us s1 ⟨vs, H1, I1, r1, q1⟩ => ?_) hs rfl))
  obtain ⟨a, xs, ex, hq, q⟩ := q1
  subst ex
  obtain ⟨u, rfl, ru⟩ := r1.one
  cases (show u = Value.ref a from ru)
  obtain ⟨its, rv, tp, hz⟩ := I1.tuple hq
  refine enumT_call (its := its.toArray) tp fun h' en it kept => wpAny_pyIter_enum en ?_
  refine ⟨s1.heap.objs.size + 1, [s1.heap.objs.size + 1, s1.heap.objs.size], _, _, H1, rfl, I1.kept (t' := s1.toks) kept, turn_enumT a (s1.heap.objs.size + 1) s1.heap.objs.size, ⟨⟨.none, en⟩, ⟨_, it, rfl, rfl⟩, Nat.succ_ne_self _⟩, fun b hb => ?_, q⟩
  have two : b = s1.heap.objs.size + 1 ∨ b = s1.heap.objs.size := by simpa using hb
  have le : s1.heap.objs.size ≤ b := by
    rcases two with z | z
    · rw [z]
      exact Nat.le_succ _
    · rw [z]
      exact Nat.le_refl _
  exact I1.fpOk le (I1.hok.fresh le)
theorem walk_enumT {K : PySem.W.Frag} {a : Addr} {xs : List V} : Walk (IeT K a) xs.length (fun H => SqT K H a xs) (YPair (fun i => some (.int (i : Nat))) (fun i => xs[i]?)) := by
  refine ⟨fun i _ hi q => ⟨xs, xs[i], q, by simp [hi]⟩, fun _ q => ⟨xs, q, Nat.le_refl _⟩, fun i H v H' _ q y => ?_⟩
  obtain ⟨T, x, y1, y2, y3, y4⟩ := y
  exact ⟨T, .int (i : Nat), x, y1, y2, y3, rfl, y4 xs q⟩
end NA
namespace NA
open PySem PySem.Spec PyProof.Rows L2

/-! ### built-in names that no text here takes -/
structure Blt (mg : Str → Option Value) : Prop where
  len : mg "len" = none
  int : mg "int" = none
  max : mg "max" = none
  min : mg "min" = none
  tuple : mg "tuple" = none
  list : mg "list" = none
  range : mg "range" = none
  any : mg "any" = none
  all : mg "all" = none
  repr : mg "repr" = none
  enumerate : mg "enumerate" = none
  isinstance : mg "isinstance" = none
  bool : mg "bool" = none
/-! ### the pot that is drawn from -/
def Pt (H : Hp) (p q : Addr) : Prop := ∃ (cs : List Int) (a b n : Int), H p = some (.lst [.ref q, .int a, .int b, .int n]) ∧ H q = some (.lst (cs.map V.int)) ∧ cs.length ≤ 60 ∧ 0 ≤ a ∧ a < 4294967296 ∧ 0 ≤ b ∧ b < 4294967296
theorem Pt.lp {H : Hp} {p q : Addr} (h : Pt H p q) : ∃ xs, H p = some (.lst xs) := by
  obtain ⟨cs, a, b, n, h1, _⟩ := h
  exact ⟨_, h1⟩
theorem Pt.lq {H : Hp} {p q : Addr} (h : Pt H p q) : ∃ xs, H q = some (.lst xs) := by
  obtain ⟨cs, a, b, n, _, h1, _⟩ := h
  exact ⟨_, h1⟩
theorem pq_ne {H : Hp} {p q : Addr} {cs : List Int} {a b n : Int} (h1 : H p = some (.lst [.ref q, .int a, .int b, .int n])) (h2 : H q = some (.lst (cs.map V.int))) : p ≠ q := fun e => by
  subst e
  rw [h1] at h2
  cases cs with
  | nil => cases h2
  | cons c cs => cases h2
theorem Pt.ne {H : Hp} {p q : Addr} (h : Pt H p q) : p ≠ q := by
  obtain ⟨cs, a, b, n, h1, h2, _⟩ := h
  exact pq_ne h1 h2
/-- all else stays -/
def Kp (p q : Addr) (H H' : Hp) : Prop := ∀ b o, b ≠ p → b ≠ q → H b = some o → H' b = some o
theorem Kp.refl (p q : Addr) (H : Hp) : Kp p q H H := fun _ _ _ _ h => h
theorem Kp.trans {p q : Addr} {H H1 H2 : Hp} (a : Kp p q H H1) (b : Kp p q H1 H2) : Kp p q H H2 := fun c o n1 n2 h => b c o n1 n2 (a c o n1 n2 h)
theorem Kp.new {p q c : Addr} {o : HO} {H H' : Hp} (e : Kp p q H H') (h : H' c = none) : Kp p q H (upd H' c o) := fun b u n1 n2 z => by
  have z' := e b u n1 n2 z
  rw [upd_ne (ne_of_none z' h)]
  exact z'
theorem Kp.same {p q : Addr} {H H' : Hp} (e : Same H H') : Kp p q H H' := fun b o _ _ z => e b o z
/-- a change of what was not there at the beginning -/
theorem Kp.put {p q c : Addr} {o : HO} {H H' : Hp} (e : Kp p q H H') (h : H c = none) : Kp p q H (upd H' c o) := fun b u n1 n2 z => by
  rw [upd_ne (ne_of_none z h)]
  exact e b u n1 n2 z
theorem Kp.fresh {p q c : Addr} {H H' : Hp} (e : Kp p q H H') (n1 : c ≠ p) (n2 : c ≠ q) (h : H' c = none) : H c = none := by
  cases z : H c with
  | none => rfl
  | some o =>
    rw [e c o n1 n2 z] at h
    cases h
theorem Kp.tk {p q : Addr} {H H' : Hp} (e : Kp p q H H') (P : Pt H p q) : Tk H H' := fun b xs z => by
  obtain ⟨ys, h1⟩ := P.lp
  obtain ⟨zs, h2⟩ := P.lq
  exact e b _ (ne_of z h1 (by intro k; cases k)) (ne_of z h2 (by intro k; cases k)) z
theorem Pt.new {H : Hp} {p q c : Addr} {o : HO} (P : Pt H p q) (h : H c = none) : Pt (upd H c o) p q := by
  obtain ⟨cs, a, b, n, h1, h2, r⟩ := P
  exact ⟨cs, a, b, n, by rw [upd_ne (ne_of_none h1 h)]; exact h1, by rw [upd_ne (ne_of_none h2 h)]; exact h2, r⟩
theorem Pt.put {H : Hp} {p q c : Addr} {o : HO} (P : Pt H p q) (n1 : c ≠ p) (n2 : c ≠ q) : Pt (upd H c o) p q := by
  obtain ⟨cs, a, b, n, h1, h2, r⟩ := P
  exact ⟨cs, a, b, n, by rw [upd_ne (Ne.symm n1)]; exact h1, by rw [upd_ne (Ne.symm n2)]; exact h2, r⟩
theorem Pt.same {H H' : Hp} {p q : Addr} (P : Pt H p q) (e : Same H H') : Pt H' p q := by
  obtain ⟨cs, a, b, n, h1, h2, r⟩ := P
  exact ⟨cs, a, b, n, e _ _ h1, e _ _ h2, r⟩
theorem Pt.np {H : Hp} {p q c : Addr} (P : Pt H p q) (h : H c = none) : c ≠ p ∧ c ≠ q := by
  obtain ⟨xs, h1⟩ := P.lp
  obtain ⟨ys, h2⟩ := P.lq
  refine ⟨fun e => ?_, fun e => ?_⟩
  · rw [e, h1] at h
    cases h
  · rw [e, h2] at h
    cases h
theorem Same.new {H H' : Hp} {c : Addr} {o : HO} (e : Same H H') (h : H' c = none) : Same H (upd H' c o) := fun b u z => by
  have z' := e b u z
  rw [upd_ne (ne_of_none z' h)]
  exact z'
/-- data all of whose items are ints -/
theorem DpAll.ints (K : PySem.W.Frag) (H : Hp) : ∀ ns : List Int, DpAll K H (ns.map V.int) (ns.map PyData.int)
  | [] => .nil
  | n :: ns => .cons (.int n) (DpAll.ints K H ns)
theorem canLay_ints : ∀ ns : List Int, PyData.canLayAll0 (ns.map PyData.int) = true
  | [] => rfl
  | n :: ns => by
    rw [List.map_cons]
    simp only [PyData.canLayAll0, PyData.canLay0, canLay_ints ns, Bool.and_self]
theorem depth_ints : ∀ ns : List Int, PyData.depthAll (ns.map PyData.int) = 0
  | [] => rfl
  | n :: ns => by
    rw [List.map_cons]
    simp only [PyData.depthAll, PyData.depth, depth_ints ns, Nat.max_self]
theorem shaped_ints (ns : List Int) : SeqAt.shaped (.list (ns.map PyData.int)) = true := by
  unfold SeqAt.shaped
  simp only [PyData.canLay0, PyData.depth, canLay_ints, depth_ints, Bool.true_and]
  decide
theorem Im.int0 {H : Hp} (n : Nat) : Im H (.int (0 + (n : Int))) (.int n) := by
  rw [Int.zero_add]
  exact .int _
/-! ### the promises of what draws -/
def spDip : Sp := fun vs H Q _ => ∃ (p q : Addr) (n : Int), vs = [.ref p, .int n] ∧ Pt H p q ∧ 0 < n ∧ n < 1073741824 ∧ ∀ (r : Int) (H' : Hp), 0 ≤ r → r < n → Pt H' p q → Kp p q H H' → Q (.int r) H'
def spPick : Sp := fun vs H Q _ => ∃ (p q a : Addr) (xs : List V), vs = [.ref p, .ref a] ∧ Pt H p q ∧ H a = some (.lst xs) ∧ a ≠ p ∧ a ≠ q ∧ xs ≠ [] ∧ xs.length < 1000 ∧
  ∀ (v : V) (H' : Hp), v ∈ xs → Pt H' p q → Kp p q H H' → Q v H'
def PR : List Int := [2, 3, 5, 7, 11, 13, 17, 19, 23, 29, 31, 37, 41, 43, 47, 53, 59, 61, 67, 71, 73, 79, 83, 89, 97]
def spPrimes : Sp := fun vs H Q _ => vs = [] ∧ ∀ a, H a = none → Q (.ref a) (upd H a (.lst (PR.map V.int)))
def spGreat : Sp := fun vs H Q _ => ∃ (p q : Addr), vs = [.ref p] ∧ Pt H p q ∧ ∀ (n : Int) (H' : Hp), SizeOk n → Pt H' p q → Kp p q H H' → Q (.int n) H'
def sD (ss : List Int) : PyData := .tuple (ss.map .int)
def wD (w : Nat × Nat) : PyData := .tuple [.int w.1, .int w.2]
def mD (ss : List Int) (ws : List (Nat × Nat)) : PyData := .tuple [sD ss, .tuple (ws.map wD)]
def spSizes : Sp := fun vs H Q _ => ∃ (p q : Addr) (g : Bool), vs = [.ref p, .bl g] ∧ Pt H p q ∧
  ∀ (v : V) (ss : List Int) (H' : Hp), Im H' v (sD ss) → 1 ≤ ss.length → ss.length ≤ 6 → (∀ s ∈ ss, SizeOk s) → Pt H' p q → Kp p q H H' → Q v H'
def spWires : Sp := fun vs H Q _ => ∃ (p q : Addr) (m : Nat), vs = [.ref p, .int m] ∧ m ≤ 6 ∧ Pt H p q ∧
  ∀ (v : V) (ws : List (Nat × Nat)) (H' : Hp), Im H' v (.tuple (ws.map wD)) → WOk m ws → Pt H' p q → Kp p q H H' → Q v H'
def spMachine : Sp := fun vs H Q _ => ∃ (p q : Addr) (g : Bool), vs = [.ref p, .bl g] ∧ Pt H p q ∧
  ∀ (v : V) (ss : List Int) (ws : List (Nat × Nat)) (H' : Hp), Im H' v (mD ss ws) → MOk ss ws → Pt H' p q → Kp p q H H' → Q v H'
/-- a list at c of great numbers, all of them ints that may be a size but for 1 -/
def okV (v : V) : Bool := match v with
  | .int i => decide (1 ≤ i) && decide (i ≤ 10 ^ 30) && smoB i.toNat
  | _ => false
theorem okV_of {v : V} (h : okV v = true) : ∃ m : Nat, v = .int m ∧ 1 ≤ m ∧ m ≤ 10 ^ 30 ∧ Smo m := by
  cases v with
  | int i =>
    have h' : (decide (1 ≤ i) && decide (i ≤ 10 ^ 30) && smoB i.toNat) = true := h
    rw [Bool.and_eq_true, Bool.and_eq_true] at h'
    have h1 : 1 ≤ i := of_decide_eq_true h'.1.1
    have h2 : i ≤ 10 ^ 30 := of_decide_eq_true h'.1.2
    exact ⟨i.toNat, by rw [Int.toNat_of_nonneg (by omega)], by omega, by omega, smo_of h'.2⟩
  | _ => cases h
def fewV : List V := [.int 2, .int 3, .int 4, .int 5, .int 6, .int 8, .int 9, .int 12, .int 16, .int 18, .int 27, .int 97, .int 36]
def spCommon : Sp := fun vs H Q _ => ∃ a b : Nat, vs = [.int a, .int b] ∧ b < 2 ^ 4000 ∧ Q (.int (Nat.gcd a b : Nat)) H
end NA
namespace NA
open PySem PySem.Spec PyProof.Rows L2
theorem Same.put {H H' : Hp} {c : Addr} {o : HO} (e : Same H H') (h : H c = none) : Same H (upd H' c o) := fun b u z => by
  rw [upd_ne (ne_of_none z h)]
  exact e b u z
theorem take_filter {α : Type} {l : List α} {i : Nat} {x : α} (f : α → Bool) (h : l[i]? = some x) : (l.take (i + 1)).filter f = (l.take i).filter f ++ (if f x = true then [x] else []) := by
  rw [List.take_add_one, h, List.filter_append]
  simp only [Option.toList, List.filter_cons, List.filter_nil]
theorem take_map {α β : Type} {l : List α} {i : Nat} {x : α} (f : α → β) (h : l[i]? = some x) : (l.take (i + 1)).map f = (l.take i).map f ++ [f x] := by
  rw [List.take_add_one, h, List.map_append]
  rfl
theorem map_get {α β : Type} {l : List α} {f : α → β} {i : Nat} {y : β} (h : (l.map f)[i]? = some y) : ∃ x, l[i]? = some x ∧ y = f x := by
  rw [List.getElem?_map] at h
  cases e : l[i]? with
  | none =>
    rw [e] at h
    cases h
  | some x =>
    rw [e] at h
    exact ⟨x, rfl, (Option.some.inj h).symm⟩
theorem dec_int0 (x y : Int) : decide (V.int x = V.int y) = decide (x = y) := by
  by_cases h : x = y
  · subst h
    rw [decide_eq_true rfl, decide_eq_true rfl]
  · rw [decide_eq_false h, decide_eq_false fun z => h (V.int.inj z)]
/-- primes that divide some of these -/
def dv (ss : List Int) (p : Int) : Bool := ss.any fun s => decide (s % p = 0)
def dueP (ss : List Int) : List Int := PR.filter (dv ss)
def spDepth : Sp := fun vs H Q _ => ∃ (v : V) (ss : List Int) (d : PyData) (p i s : Nat), vs = [v, .int p, .int i] ∧ Im H v (.tuple [sD ss, d]) ∧ 2 ≤ p ∧ p ≤ 1000 ∧ ss[i]? = some (s : Int) ∧ 0 < s ∧ s < 2 ^ 4000 ∧ Q (.int (val p s : Nat)) H
def spStep : Sp := fun vs H Q _ => ∃ (v : V) (ss : List Int) (d : PyData) (j i a b : Nat), vs = [v, .int j, .int i] ∧ Im H v (.tuple [sD ss, d]) ∧ ss[j]? = some (a : Int) ∧ ss[i]? = some (b : Int) ∧ 0 < b ∧ b < 2 ^ 4000 ∧ Q (.int (stp a b : Nat)) H
def spPrimesOf : Sp := fun vs H Q _ => ∃ (v : V) (ss : List Int) (d : PyData), vs = [v] ∧ Im H v (.tuple [sD ss, d]) ∧ ss.length ≤ 100 ∧ ∀ (u : V) (H' : Hp), Im H' u (.tuple ((dueP ss).map .int)) → Same H H' → Q u H'
def spLStep : Sp := fun vs H Q _ => ∃ (v : V) (ss : List Int) (j i a b : Nat), vs = [v, .int j, .int i] ∧ Im H v (sD ss) ∧ ss[j]? = some (a : Int) ∧ ss[i]? = some (b : Int) ∧ 0 < b ∧ b < 2 ^ 4000 ∧ Q (.int (stp a b : Nat)) H
def spOften : Sp := fun vs H Q _ => ∃ (s p : Nat), vs = [.int s, .int p] ∧ 2 ≤ p ∧ p ≤ 1000 ∧ 0 < s ∧ s < 2 ^ 4000 ∧ Q (.int (val p s : Nat)) H
def spPot (K : PySem.W.Frag) : Sp := fun vs H Q _ => ∃ (a : Addr) (ns : List Int), vs = [.ref a] ∧ SqL K H a (ns.map V.int) ∧ ns.length ≤ 63 ∧ ∀ (p q : Addr) (H' : Hp), Pt H' p q → Same H H' → H p = none → H q = none → Q (.ref p) H'
theorem pl_pos {p s : Nat} (hp : 2 ≤ p) (h : 0 < s) (e : s % p = 0) : 0 < s / p := Nat.div_pos (Nat.le_of_dvd h (Nat.dvd_of_mod_eq_zero e)) (by omega)
theorem Cal.of {P : Program} {w : World} {K : PySem.W.Frag} {mg : Str → Option Value} {base : Heap} {x : Str} {st : Stmt} {f : Addr} {fd : FuncData} {ps : List Str} {k : Nat} {sp : Sp} (D : DefAt K mg x st ps f fd) (F : FnOk P w K mg base CX0 k f fd ps sp) : Cal P w K mg base k x sp :=
  ⟨f, fd, ps, F, D.mgf, D.fn.kp, D.bd⟩
theorem CalK.of {P : Program} {w : World} {K : PySem.W.Frag} {mg : Str → Option Value} {base : Heap} {x : Str} {st : Stmt} {f : Addr} {fd : FuncData} {ps ks : List Str} {k : Nat} {sp : Sp} {g : List Value → List Value → List Value} {gV : List V → List V → List V} (D : DefAt K mg x st ps f fd)
    (F : FnOk P w K mg base CX0 k f fd ps sp) (b : KBinds K fd ps ks g gV) : CalK P w K mg base k x sp ks gV :=
  ⟨f, fd, ps, g, F, D.mgf, D.fn.kp, b⟩
/-- keywords alone, put in order by o -/
def kg1 {α : Type} : List α → List α → List α
  | [], [a] => [a]
  | _, _ => []
def kg321 {α : Type} : List α → List α → List α
  | [], [a, b, c] => [c, b, a]
  | _, _ => []
theorem kg1_rel {vs zs : List V} {us ws : List Value} (h1 : Vals vs us) (h2 : Vals zs ws) : Vals (kg1 vs zs) (kg1 us ws) := by
  cases h1 with
  | cons _ _ => exact .nil
  | nil =>
    cases h2 with
    | nil => exact .nil
    | cons a h2 =>
      cases h2 with
      | nil => exact .cons a .nil
      | cons _ _ => exact .nil
theorem kg321_rel {vs zs : List V} {us ws : List Value} (h1 : Vals vs us) (h2 : Vals zs ws) : Vals (kg321 vs zs) (kg321 us ws) := by
  cases h1 with
  | cons _ _ => exact .nil
  | nil =>
    cases h2 with
    | nil => exact .nil
    | cons a h2 =>
      cases h2 with
      | nil => exact .nil
      | cons b h2 =>
        cases h2 with
        | nil => exact .nil
        | cons c h2 =>
          cases h2 with
          | nil => exact .cons c (.cons b (.cons a .nil))
          | cons _ _ => exact .nil
section
variable {X : Cx}
/-! rules over a written part that is named -/
theorem pi_listK (K : PySem.W.Frag) (hK : X.K = K) {tg l : Expr} {tl : TE} (hl : PE X l tl) : PI X tg l (iList K tl) := hK ▸ pi_list hl
theorem pi_tupK (K : PySem.W.Frag) (hK : X.K = K) {tg l : Expr} {tl : TE} (hl : PE X l tl) : PI X tg l (iTup K tl) := hK ▸ pi_tup hl
theorem ix_listK (K : PySem.W.Frag) (hK : X.K = K) : IxR X (rIxL K) := hK ▸ ix_list
theorem ix_tupK (K : PySem.W.Frag) (hK : X.K = K) : IxR X (rIxT K) := hK ▸ ix_tup
theorem sl_listK (K : PySem.W.Frag) (hK : X.K = K) : SlR X (rSlL K) := hK ▸ sl_list
theorem cr_anyK (K : PySem.W.Frag) (hK : X.K = K) (hc : X.calm = true) : CallR X (.builtin "any") (rAny K) := hK ▸ cr_any hc
theorem cr_allK (K : PySem.W.Frag) (hK : X.K = K) (hc : X.calm = true) : CallR X (.builtin "all") (rAll K) := hK ▸ cr_all hc
def rLenQ (K : PySem.W.Frag) : List V → Hp → VK → Prop := fun xs H Q => ∃ p ys, xs = [.ref p] ∧ (SqL K H p ys ∨ SqT K H p ys) ∧ Q (.int ys.length) H
theorem call_lenK (K : PySem.W.Frag) (hK : X.K = K) : CallR X (.builtin "len") (rLenQ K) := hK ▸ call_len_seq
def rTupQ (K : PySem.W.Frag) : List V → Hp → VK → Prop := fun xs H Q => ∃ p ys, xs = [.ref p] ∧ ((SqL K H p ys ∧ ∀ l, H l = none → Q (.ref l) (upd H l (.tup ys))) ∨ (SqT K H p ys ∧ Q (.ref p) H))
theorem call_tupleK (K : PySem.W.Frag) (hK : X.K = K) : CallR X (.type "tuple") (rTupQ K) := hK ▸ call_tuple_of
def rLstQ (K : PySem.W.Frag) : List V → Hp → VK → Prop := fun xs H Q => ∃ p ys, xs = [.ref p] ∧ (SqL K H p ys ∨ SqT K H p ys) ∧ ∀ l, H l = none → Q (.ref l) (upd H l (.lst ys))
theorem call_listK (K : PySem.W.Frag) (hK : X.K = K) : CallR X (.type "list") (rLstQ K) := hK ▸ call_list_of
theorem op_neDK (K : PySem.W.Frag) (hK : X.K = K) (hu : X.A.units + 64 < cLine) : OpR X (compareOp .NotEq) (rNeD K) := hK ▸ op_neD hu
theorem op_eqDK (K : PySem.W.Frag) (hK : X.K = K) (hu : X.A.units + 64 < cLine) : OpR X (compareOp .Eq) (rEqD K) := hK ▸ op_eqD hu
def rReprQ (K : PySem.W.Frag) : List V → Hp → VK → Prop := fun xs H Q => ∃ v d, xs = [v] ∧ Dp K H v d ∧ Sh d ∧ Q (.str d.shown) H
theorem call_reprK (K : PySem.W.Frag) (hK : X.K = K) {k : Nat} (hg : Bare X.A) (hr : Room k X.A) : CallR X (.builtin "repr") (rReprQ K) := hK ▸ call_reprD hg hr
theorem call_isiK' (K : PySem.W.Frag) (hK : X.K = K) : CallR X (.builtin "isinstance") (rIsi K) := hK ▸ call_isi
/-- an operator in place, by its rule -/
theorem ip_of {op : Operator} {r : R2} (h : OpR X (inplaceOp op) r) : PIp X op r := fun pins s σ H x y v u Q I rx ry z => h pins s σ H x y v u Q I rx ry z
/-- expressions one behind another, none starred -/
inductive PEL (X : Cx) : List Expr → TA → Prop
  | nil : PEL X [] tNil
  | cons {e : Expr} {es : List Expr} {te : TE} {t : TA} : PE X e te → PEL X es t → PySem.W.kdsPlain e = true → PEL X (e :: es) (tCons te t)
theorem PEL.plain {es : List Expr} {t : TA} (h : PEL X es t) : es.all PySem.W.kdsPlain = true := by
  induction h with
  | nil => rfl
  | cons _ _ h3 ih => rw [List.all_cons, h3, ih] <;> rfl
theorem PEL.run {es : List Expr} {t : TA} (h : PEL X es t) : ∀ (pins : List (Addr × Obj)) (s : Shared) (σ : L2.St) (H : Hp) (R : List V → Hp → Prop) (Q : List Value → Shared → Prop), Inv X pins σ H s → t σ H R →
    (∀ us s' vs H', Inv X pins σ H' s' → Vals vs us → R vs H' → Q us s') → PySem.W.KdsAll (model X.prog X.w) X.A X.xe X.env es Q s := by
  induction h with
  | nil => intro pins s σ H R Q I h q; exact q [] s [] H I .nil h
  | cons he _ _ ih =>
    intro pins s σ H R Q I h q
    refine thn (he.run pins s σ H _ I h) fun u s1 ⟨v, H1, I1, rv, h1⟩ => ?_
    exact ih pins s1 σ H1 _ _ I1 h1 fun us s' vs H' I' rel r => q (u :: us) s' (v :: vs) H' I' (.cons rv rel) r
theorem Vals.toInts : ∀ {ns : List Int} {us : List Value}, Vals (ns.map V.int) us → IntsAre us ns
  | [], _, h => by cases h; exact .nil
  | n :: ns, _, h => by
    cases h with
    | cons a b =>
      obtain ⟨t, rfl⟩ := a
      exact .cons n t (Vals.toInts b)
/-- how many unlike ones -/
def unlike : List Int → List Int → Nat
  | _, [] => 0
  | seen, n :: ns => if n ∈ seen then unlike seen ns else unlike (n :: seen) ns + 1
section
variable {P : Program} {w : World} {A : Around} {E : Value → Shared → Prop} {s : Shared} {D : Addr}
theorem unledI {S : Int → Bool} {n : Nat} {Q : Unit → Shared → Prop} (hS : s.heap.SetOf (intKind P w) D S n) (h : ∀ h', h'.SetOf (intKind P w) D S n → (∀ b o, b ≠ D → s.heap.get? b = some o → h'.get? b = some o) → Q () { s with heap := h' }) :
    wpAny (model P w) A (setUnled D) Q E s := by
  obtain ⟨o, es, ep, tb, get, exact', data, elems, mem, bound, fit, cnt⟩ := hS
  have fit' : ({ tb with led := false } : SetTable).fits es.size = true := by cases tb; exact fit
  unfold setUnled
  refine wpAny_bind (wpAny_setState_of get data fit ?_)
  dsimp only
  refine wpAny_storeSet_of get data ?_ (fits_of_scanBound bound)
  obtain ⟨_, hS2⟩ := SetOf_store (knd := intKind P w) get exact' data elems mem bound fit'
  rw [cnt] at hS2
  have but := Heap.SameBut.update s.heap D (Obj.putSet es { tb with led := false })
  exact h _ hS2 fun b ob hb z => (but.2 b hb).trans z
theorem fillI {u : Bool} {h₀ : Heap} {us : List Value} {ns : List Int} (r : IntsAre us ns) : ∀ (h : Heap) (k : Nat) (S : Int → Bool) (seen : List Int) (n : Nat) (Q : Value → Shared → Prop), h.SetOf (intKind P w) D S n → (∀ z, S z = true ↔ z ∈ seen) →
    (∀ b o, b ≠ D → h₀.get? b = some o → h.get? b = some o) → n + ns.length < 4000 →
    (∀ h' k' S', h'.SetOf (intKind P w) D S' (n + unlike seen ns) → (∀ b o, b ≠ D → h₀.get? b = some o → h'.get? b = some o) → PySem.W.KdsFill (model P w) A E u D Q [] { s with heap := h', toks := k' }) →
    PySem.W.KdsFill (model P w) A E u D Q us { s with heap := h, toks := k } := by
  induction r with
  | nil =>
    intro h k S seen n Q hS _ hk _ q
    exact q h k S hS hk
  | cons y t r ih =>
    rename_i us2 ns2
    intro h k S seen n Q hS hmem hk hn q
    rw [List.length_cons] at hn
    refine PySem.W.kds_fill_cons ?_
    unfold setAdd
    refine wpAny_holding (wpAny_bind ((intKind P w).pyHash (k := y) (intKind_is _ _ _ _) ?_))
    refine wpAny_setAddHashed_of (knd := intKind P w) (s := { s with heap := h, toks := k + 1 }) (intKind_is _ _ _ _) rfl hS (by unfold scanBound; omega) fun h' sb hS' => ?_
    refine ih h' (k + 1) _ (if y ∈ seen then seen else y :: seen) _ Q hS' (fun z => ?_) (fun b o hb e => (sb.2 b hb).trans (hk b o hb e)) (by split <;> omega) fun h2 k2 S2 a b => q h2 k2 S2 ?_ b
    · by_cases hy : y ∈ seen
      · rw [if_pos hy]
        simp only [Bool.or_eq_true, decide_eq_true_eq, hmem]
        exact ⟨fun z => z.elim id fun e => e ▸ hy, Or.inl⟩
      · rw [if_neg hy]
        simp only [Bool.or_eq_true, decide_eq_true_eq, hmem, List.mem_cons]
        exact Or.comm
    · have e : n + unlike seen (y :: ns2) = (if S y = true then n else n + 1) + unlike (if y ∈ seen then seen else y :: seen) ns2 := by
        by_cases hy : y ∈ seen
        · rw [if_pos ((hmem y).mpr hy), if_pos hy]
          show n + (if y ∈ seen then unlike seen ns2 else unlike (y :: seen) ns2 + 1) = _
          rw [if_pos hy]
        · rw [if_neg (fun z => hy ((hmem y).mp z)), if_neg hy]
          show n + (if y ∈ seen then unlike seen ns2 else unlike (y :: seen) ns2 + 1) = _
          rw [if_neg hy]
          omega
      rw [e]
      exact a
end
/-- len({e, ..}), all of them ints -/
def tLenSet (t : TA) : TE := fun σ H Q => t σ H fun vs H1 => ∃ ns : List Int, vs = ns.map V.int ∧ ns.length ≤ 30 ∧ Q (.int (unlike [] ns : Nat)) H1
theorem pe_lenSetI {es : List Expr} {t : TA} {p p2 pos : Pos} (hgl : Gl X "len") (hm : X.mg "len" = none) (hs : PEL X es t) (hl : es.length ≤ 30) (hcd : PySem.W.kdsCode X.K X.env.code = true) :
    PE X (.Call (.Name "len" p) [.Set es 0 p2] [] pos) (tLenSet t) := by
  refine ⟨fun pins s σ H Q I h => wpAny_Call_Name_kw (ld_blt I hgl hm PySem.boot_len ?_ (by decide) (by decide))⟩
  refine PyProof.Rows.callWith_builtin1 (Calls.spliced_cons ?_) (by rfl) (by rfl)
  rw [arm_eval_Set]
  refine wpAny_bind (wpAny_standAt ?_)
  refine wpAny_bind (PySem.W.kds_main I.kIn hcd fun b => ?_)
  rw [PySem.W.kds_star es hs.plain, List.map_map]
  refine PySem.W.kds_core (ts := (evalEach es X.env).map fun t => do let v ← t; standAt p2; pure v) (road0 es) ?_ ?_ ?_ fun led => ?_
  · refine List.findIdx?_eq_none_iff.mpr fun x hx => ?_
    obtain ⟨t, _, rfl⟩ := List.mem_map.mp hx
    rfl
  · rw [List.length_map, PySem.W.kds_len]
    exact hl
  · rw [List.map_map]
    try rfl
  · -- the set's object stands behind the items' evaluation
    have I1 : Inv X pins σ H { s with heap := s.heap.push { cls := .type "set", dict := none, data := .set #[] 0 (.fresh 0 0 led) } } := I.kept (t' := s.toks) fun b u e => Heap.get?_push_of_some _ e
    have hget : (s.heap.push { cls := .type "set", dict := none, data := .set #[] 0 (.fresh 0 0 led) }).get? s.heap.objs.size = some { cls := .type "set", dict := none, data := .set #[] 0 (.fresh 0 0 led) } := Heap.get?_push_size _ rfl
    have I2 := I1.pinned (fp := [s.heap.objs.size]) (fun b hb => by
      rw [List.mem_singleton.mp hb]
      exact I.fpOk (Nat.le_refl _) (I.hok.fresh (Nat.le_refl _))) (fun b hb => by
      rw [List.mem_singleton.mp hb]
      exact ⟨_, hget, fun v z => nomatch z⟩)
    refine PySem.W.kds_all p2 es _ _ (hs.run _ _ σ H (fun vs H1 => ∃ ns : List Int, vs = ns.map V.int ∧ ns.length ≤ 30 ∧ Q (.int (unlike [] ns : Nat)) H1) _ I2 h fun us s' vs H' I' rel hq => ?_)
    obtain ⟨ns, rfl, hl2, q⟩ := hq
    have hpin : s'.heap.get? s.heap.objs.size = some { cls := .type "set", dict := none, data := .set #[] 0 (.fresh 0 0 led) } :=
      (I'.pin _ (List.mem_append_right _ (List.mem_append_right _ (mem_pinsAt (List.mem_singleton.mpr rfl) hget)))).1
    have free : H' s.heap.objs.size = none := (I'.pin _ (List.mem_append_right _ (List.mem_append_right _ (mem_pinsAt (List.mem_singleton.mpr rfl) hget)))).2.1
    have I3 := I'.unpinned
    have hS0 : s'.heap.SetOf (intKind X.prog X.w) s.heap.objs.size (fun _ => false) 0 := (setObjOf_fresh (knd := intKind X.prog X.w) led).setOf hpin (by decide)
    obtain ⟨f0, f1, f2, f3, f4, f5⟩ := I.fpOk (H' := H') (Nat.le_refl s.heap.objs.size) free
    have last : ∀ (h' : Heap) (k' : Nat) (S' : Int → Bool), h'.SetOf (intKind X.prog X.w) s.heap.objs.size S' (0 + unlike [] ns) → (∀ b o, b ≠ s.heap.objs.size → s'.heap.get? b = some o → h'.get? b = some o) →
        wpAny (model X.prog X.w) X.A (spliced []) (fun vs s2 => wpAny (model X.prog X.w) X.A (call (.builtin "len") (.ref s.heap.objs.size :: vs)) (EP X pins σ Q) X.xe s2) X.xe { s' with heap := h', toks := k' } := fun h' k' S' hS hk => by
      refine Calls.spliced_nil ?_
      obtain ⟨o, el, ep, tb, get, exact', data, elems, mem, bound, fit, cnt⟩ := hS
      have fz : (el.size : Int) < 2 ^ 63 := by
        have : el.size < 4096 := bound
        omega
      refine call_len_set (s := { s' with heap := h', toks := k' }) get exact' data fit fz ⟨.int (unlike [] ns : Nat), H', I3.turned (fun b ob hb e => hk b ob hb e) f0 f1 f3 f4 f5, ⟨k' + 1, ?_⟩, q⟩
      rw [cnt, Nat.zero_add]
    refine fillI (s := s') (h₀ := s'.heap) (Vals.toInts rel) s'.heap s'.toks (fun _ => false) [] 0 _ hS0 (fun z => ⟨fun e => Bool.noConfusion e, fun e => absurd e List.not_mem_nil⟩) (fun _ _ _ e => e) (by omega) fun h' k' S' hS hk => ?_
    cases hu : (displayRoad 0 es == DisplayRoad.unsure) with
    | false => exact PySem.W.kds_fill_nil rfl (last h' k' S' hS hk)
    | true => exact PySem.W.kds_fill_unled rfl (unledI (s := { s' with heap := h', toks := k' }) hS fun h2 hS2 sb => last h2 k' S' hS2 fun b o hb e => sb b o hb (hk b o hb e))
end
end NA
namespace NA
open PySem PySem.Spec PyProof.Rows L2
theorem small_log {i : Int} (h : i.natAbs < 2 ^ 1900) : i.natAbs.log2 < 1920 := Nat.lt_of_lt_of_le (PySem.Flt.log2_lt_of (by decide) h) (by decide)
theorem okAll_ints : ∀ ns : List Int, (∀ n ∈ ns, n.natAbs < 2 ^ 1900) → okAll (ns.map PyData.int) = true
  | [], _ => rfl
  | n :: ns, h => by
    rw [List.map_cons]
    simp only [okAll, okD, okAll_ints ns fun m hm => h m (List.mem_cons_of_mem _ hm), Bool.and_true]
    exact decide_eq_true (small_log (h n List.mem_cons_self))
theorem costAll_ints : ∀ ns : List Int, costAll (ns.map PyData.int) = 1923 * ns.length
  | [] => rfl
  | n :: ns => by
    rw [List.map_cons]
    simp only [costAll, cost, costAll_ints ns, List.length_cons]
    omega
theorem Sh.ints {ns : List Int} (h : ∀ n ∈ ns, n.natAbs < 2 ^ 1900) (l : ns.length ≤ 1000) : Sh (.tuple (ns.map .int)) := by
  refine ⟨by simpa only [okD] using okAll_ints ns h, ?_, ?_⟩
  · simp only [NA.cost, costAll_ints]
    omega
  · simp only [PyData.depth, depth_ints]
    decide
theorem Sh.pair {d e : PyData} (a : Sh d) (b : Sh e) (ca : NA.cost d ≤ 4000000) (cb : NA.cost e ≤ 4000000) (da : d.depth ≤ 50) (db : e.depth ≤ 50) : Sh (.list [d, e]) := by
  refine ⟨?_, ?_, ?_⟩
  · simp only [okD, okAll, a.ok, b.ok, Bool.and_self]
  · simp only [NA.cost, costAll]
    omega
  · simp only [PyData.depth, PyData.depthAll]
    omega
theorem Sh.int {i : Int} (h : i.natAbs < 2 ^ 1900) : Sh (.int i) := ⟨by simp only [okD]; exact decide_eq_true (small_log h), by simp only [NA.cost]; decide, by simp only [PyData.depth]; decide⟩
theorem asc_len (N : Nat) : ∀ (l : List Nat) (lo : Nat), l.Pairwise (· < ·) → (∀ x ∈ l, lo ≤ x ∧ x < N) → l.length ≤ N - lo
  | [], _, _, _ => Nat.zero_le _
  | x :: l, lo, h, hb => by
    obtain ⟨h1, h2⟩ := List.pairwise_cons.mp h
    obtain ⟨b1, b2⟩ := hb x List.mem_cons_self
    have ih := asc_len N l (x + 1) h2 fun y hy => ⟨h1 y hy, (hb y (List.mem_cons_of_mem _ hy)).2⟩
    rw [List.length_cons]
    omega
theorem WOk.len {m : Nat} {ws : List (Nat × Nat)} (h : WOk m ws) (hm : m ≤ 6) : ws.length ≤ 36 := by
  have z := asc_len 36 (ws.map fun w => 6 * w.1 + w.2) 0 ?_ ?_
  · rw [List.length_map] at z
    omega
  · rw [List.pairwise_map]
    refine List.Pairwise.imp_of_mem (fun {a b} ha hb e => ?_) h.asc
    obtain ⟨a1, a2, _⟩ := h.low a ha
    obtain ⟨b1, b2, _⟩ := h.low b hb
    rcases e with e | ⟨e1, e2⟩ <;> omega
  · intro x hx
    obtain ⟨w, hw, rfl⟩ := List.mem_map.mp hx
    obtain ⟨b1, b2, _⟩ := h.low w hw
    omega
theorem okAll_wires : ∀ ws : List (Nat × Nat), (∀ w ∈ ws, w.1 < 1000 ∧ w.2 < 1000) → okAll (ws.map wD) = true
  | [], _ => rfl
  | w :: ws, h => by
    obtain ⟨a, b⟩ := h w List.mem_cons_self
    have s : ∀ n : Nat, n < 1000 → (n : Int).natAbs < 2 ^ 1900 := fun n hn => by
      rw [Int.natAbs_natCast]
      exact Nat.lt_trans hn (by decide)
    rw [List.map_cons]
    simp only [okAll, wD, okD, decide_eq_true (small_log (s _ a)), decide_eq_true (small_log (s _ b)), Bool.and_self, Bool.true_and]
    exact okAll_wires ws fun x hx => h x (List.mem_cons_of_mem _ hx)
theorem costAll_wires : ∀ ws : List (Nat × Nat), costAll (ws.map wD) = 3851 * ws.length
  | [] => rfl
  | w :: ws => by
    rw [List.map_cons]
    simp only [costAll, wD, cost, costAll_wires ws, List.length_cons]
    omega
theorem depth_wires : ∀ ws : List (Nat × Nat), PyData.depthAll (ws.map wD) ≤ 1
  | [] => by simp [PyData.depthAll]
  | w :: ws => by
    have := depth_wires ws
    rw [List.map_cons]
    simp only [PyData.depthAll, wD, PyData.depth]
    omega
theorem SizeOk.small {n : Int} (h : SizeOk n) : n.natAbs < 2 ^ 100 := by
  obtain ⟨m, rfl, _, h2, _⟩ := h
  rw [Int.natAbs_natCast]
  exact Nat.lt_of_le_of_lt h2 (by decide)
theorem Sh.mach {ss : List Int} {ws : List (Nat × Nat)} (h : MOk ss ws) : Sh (mD ss ws) := by
  have l1 := h.six
  have l2 := h.wires.len l1
  refine ⟨?_, ?_, ?_⟩
  · have a := okAll_ints ss fun n hn => Nat.lt_trans (h.size n hn).small (by decide)
    have b := okAll_wires ws fun w hw => by
      obtain ⟨x, y, _⟩ := h.wires.low w hw
      omega
    simp only [mD, sD, okD, okAll, a, b, Bool.and_self]
  · simp only [mD, sD, NA.cost, costAll, costAll_ints, costAll_wires]
    omega
  · have := depth_wires ws
    simp only [mD, sD, PyData.depth, PyData.depthAll, depth_ints]
    omega
theorem eqv_nil (ns : List Int) : PyData.eqv (.list (ns.map .int)) (.list []) = ns.isEmpty := by
  cases ns with
  | nil => rfl
  | cons n ns => rfl
/-- the primes of sizes, as numbers from 0 on -/
def dueN (ss : List Int) : List Nat := PRn.filter fun p => dv ss p
theorem dueP_eq (ss : List Int) : dueP ss = (dueN ss).map (fun n : Nat => (n : Int)) := by
  unfold dueP dueN
  rw [show PR = PRn.map (fun n : Nat => (n : Int)) by decide +kernel, List.filter_map]
  rfl
theorem dueN_mem {ss : List Int} {p : Nat} (h : p ∈ dueN ss) : p ∈ PRn := (List.mem_filter.mp h).1
theorem dueN_len (ss : List Int) : (dueN ss).length ≤ 25 := List.length_filter_le _ _
theorem dueP_len (ss : List Int) : (dueP ss).length ≤ 25 := List.length_filter_le _ _
theorem dueP_small {ss : List Int} : ∀ n ∈ dueP ss, n.natAbs < 2 ^ 1900 := fun n hn => by
  rw [dueP_eq] at hn
  obtain ⟨p, hp, rfl⟩ := List.mem_map.mp hn
  rw [Int.natAbs_natCast]
  exact Nat.lt_of_le_of_lt (PRn_le (dueN_mem hp)) (by decide)
theorem dueN_made {ss : List Int} {s : Nat} (h : (s : Int) ∈ ss) (hs : Smo s) : made (dueN ss) 1 s = s := by
  unfold dueN
  rw [made_filter, made_smo hs]
  intro p hp e
  refine val_no fun z => ?_
  have : dv ss (p : Int) = true := List.any_eq_true.mpr ⟨s, h, decide_eq_true (by
    show ((s % p : Nat) : Int) = 0
    rw [z]
    rfl)⟩
  rw [this] at e
  cases e
theorem made_pos {s : Nat} : ∀ (l : List Nat), (∀ p ∈ l, 0 < p) → 0 < made l 1 s
  | [], _ => Nat.one_pos
  | p :: l, h => by
    show 0 < made l (1 * p ^ val p s) s
    rw [made_acc]
    exact Nat.mul_pos (Nat.mul_pos Nat.one_pos (Nat.pow_pos (h p List.mem_cons_self))) (made_pos l fun q hq => h q (List.mem_cons_of_mem _ hq))
theorem made_app (l r : List Nat) (s : Nat) : made (l ++ r) 1 s = made l 1 s * made r 1 s := by
  have : made (l ++ r) 1 s = made r (made l 1 s) s := List.foldl_append
  rw [this, made_acc]
theorem made_take {l : List Nat} {s : Nat} (h : ∀ p ∈ l, 0 < p) (n : Nat) : made (l.take n) 1 s ≤ made l 1 s := by
  have e := made_app (l.take n) (l.drop n) s
  rw [List.take_append_drop] at e
  rw [e]
  exact Nat.le_mul_of_pos_right _ (made_pos _ fun p hp => h p (List.mem_of_mem_drop hp))
theorem made_next {l : List Nat} {s n p : Nat} (h : l[n]? = some p) : made (l.take (n + 1)) 1 s = made (l.take n) 1 s * p ^ val p s := by
  rw [List.take_add_one, h, made_app]
  show made (l.take n) 1 s * (1 * p ^ val p s) = _
  rw [Nat.one_mul]
def spDivided : Sp := fun vs H Q _ => ∃ (v : V) (ss : List Int) (ws : List (Nat × Nat)), vs = [v] ∧ Im H v (mD ss ws) ∧ MOk ss ws ∧ ∀ H', Same H H' → Q (.bl true) H'
def spLeast : Sp := fun vs H Q _ => ∃ (v : V) (ss : List Int) (ws : List (Nat × Nat)) (j i : Nat), vs = [v, .int j, .int i] ∧ Im H v (mD ss ws) ∧ MOk ss ws ∧ j < ss.length ∧ i < ss.length ∧ ∀ H', Same H H' → Q (.bl true) H'
def spLaw (K : PySem.W.Frag) : Sp := fun vs H Q _ => ∃ (a : Addr) (ns : List Int), vs = [.ref a] ∧ SqL K H a (ns.map V.int) ∧ ns.length ≤ 63 ∧ ∀ H', Q (.bl true) H'
theorem Same.k {H H' : Hp} {v : V} {d : PyData} (e : Same H H') (h : Im H v d) : Im H' v d := h.k (Tk.same e)
end NA
namespace NA
open PySem PySem.Spec PyProof.Rows L2
/-! ### data with lists in it; N: where lists may stand -/
mutual
inductive Dg (N : Addr → Prop) (H : Hp) : V → PyData → Prop
  | non : Dg N H .non .none
  | bl (b : Bool) : Dg N H (.bl b) (.bool b)
  | int (i : Int) : Dg N H (.int i) (.int i)
  | str (x : Str) : Dg N H (.str x) (.str x)
  | lst {a : Addr} {xs : List V} {ds : List PyData} : N a → H a = some (.lst xs) → DgAll N H xs ds → Dg N H (.ref a) (.list ds)
  | tup {a : Addr} {xs : List V} {ds : List PyData} : H a = some (.tup xs) → DgAll N H xs ds → Dg N H (.ref a) (.tuple ds)
inductive DgAll (N : Addr → Prop) (H : Hp) : List V → List PyData → Prop
  | nil : DgAll N H [] []
  | cons {v : V} {vs : List V} {d : PyData} {ds : List PyData} : Dg N H v d → DgAll N H vs ds → DgAll N H (v :: vs) (d :: ds)
end
/-- tuples stay, lists where they may stand, the empty dicts -/
structure Ks (N : Addr → Prop) (H H' : Hp) : Prop where
  tup : Tk H H'
  lst : ∀ b xs, N b → H b = some (.lst xs) → H' b = some (.lst xs)
  dic : ∀ b kvs, H b = some (.dK kvs) → H' b = some (.dK kvs)
theorem Ks.same {N : Addr → Prop} {H H' : Hp} (e : Same H H') : Ks N H H' := ⟨Tk.same e, fun b _ _ h => e b _ h, fun b _ h => e b _ h⟩
theorem Ks.kp {p q : Addr} {H H' : Hp} (e : Kp p q H H') (P : Pt H p q) : Ks (fun a => a ≠ p ∧ a ≠ q) H H' := by
  refine ⟨e.tk P, fun b xs n h => e b _ n.1 n.2 h, fun b kvs h => ?_⟩
  obtain ⟨ys, h1⟩ := P.lp
  obtain ⟨zs, h2⟩ := P.lq
  exact e b _ (ne_of h h1 (by intro k; cases k)) (ne_of h h2 (by intro k; cases k)) h
theorem Ks.refl (N : Addr → Prop) (H : Hp) : Ks N H H := ⟨Tk.refl H, fun _ _ _ h => h, fun _ _ h => h⟩
theorem Ks.trans {N : Addr → Prop} {H H1 H2 : Hp} (a : Ks N H H1) (b : Ks N H1 H2) : Ks N H H2 := ⟨a.tup.trans b.tup, fun c x n h => b.lst c x n (a.lst c x n h), fun c x h => b.dic c x (a.dic c x h)⟩
mutual
theorem Dg.keep {N N' : Addr → Prop} {H H' : Hp} (e : Ks N H H') (m : ∀ a, N a → N' a) : ∀ (d : PyData) (v : V), Dg N H v d → Dg N' H' v d
  | .none, _, h => by cases h; exact .non
  | .bool _, _, h => by cases h; exact .bl _
  | .int _, _, h => by cases h; exact .int _
  | .str _, _, h => by cases h; exact .str _
  | .tuple ds, _, h => by
    cases h with
    | tup a b => exact .tup (e.tup _ _ a) (DgAll.keep e m ds _ b)
  | .list ds, _, h => by
    cases h with
    | lst n a b => exact .lst (m _ n) (e.lst _ _ n a) (DgAll.keep e m ds _ b)
  | .dict _, _, h => by cases h
theorem DgAll.keep {N N' : Addr → Prop} {H H' : Hp} (e : Ks N H H') (m : ∀ a, N a → N' a) : ∀ (ds : List PyData) (vs : List V), DgAll N H vs ds → DgAll N' H' vs ds
  | [], _, h => by cases h; exact .nil
  | d :: ds, _, h => by
    cases h with
    | cons a b => exact .cons (Dg.keep e m d _ a) (DgAll.keep e m ds _ b)
end
mutual
theorem Dg.toDp {N : Addr → Prop} {K : PySem.W.Frag} {H : Hp} : ∀ (d : PyData) (v : V), Dg N H v d → Dp K H v d
  | .none, _, h => by cases h; exact .non
  | .bool _, _, h => by cases h; exact .bl _
  | .int _, _, h => by cases h; exact .int _
  | .str _, _, h => by cases h; exact .str _
  | .tuple ds, _, h => by
    cases h with
    | tup a b => exact .tup (SqT.of a) (DgAll.toDp ds _ b)
  | .list ds, _, h => by
    cases h with
    | lst n a b => exact .lst (SqL.of a) (DgAll.toDp ds _ b)
  | .dict _, _, h => by cases h
theorem DgAll.toDp {N : Addr → Prop} {K : PySem.W.Frag} {H : Hp} : ∀ (ds : List PyData) (vs : List V), DgAll N H vs ds → DpAll K H vs ds
  | [], _, h => by cases h; exact .nil
  | d :: ds, _, h => by
    cases h with
    | cons a b => exact .cons (Dg.toDp d _ a) (DgAll.toDp ds _ b)
end
mutual
theorem Im.toDg {N : Addr → Prop} {H : Hp} : ∀ (d : PyData) (v : V), Im H v d → Dg N H v d
  | .none, _, h => by cases h; exact .non
  | .bool _, _, h => by cases h; exact .bl _
  | .int _, _, h => by cases h; exact .int _
  | .str _, _, h => by cases h; exact .str _
  | .tuple ds, _, h => by
    cases h with
    | tup a b => exact .tup a (ImAll.toDg ds _ b)
  | .list _, _, h => by cases h
  | .dict _, _, h => by cases h
theorem ImAll.toDg {N : Addr → Prop} {H : Hp} : ∀ (ds : List PyData) (vs : List V), ImAll H vs ds → DgAll N H vs ds
  | [], _, h => by cases h; exact .nil
  | d :: ds, _, h => by
    cases h with
    | cons a b => exact .cons (Im.toDg d _ a) (ImAll.toDg ds _ b)
end
theorem Im.dg {N : Addr → Prop} {H : Hp} {v : V} {d : PyData} (h : Im H v d) : Dg N H v d := Im.toDg d v h
/-- such data, or an empty dict -/
def Dv (N : Addr → Prop) (H : Hp) (v : V) (d : PyData) : Prop := Dg N H v d ∨ ∃ a, v = .ref a ∧ H a = some (.dK []) ∧ d = .dict []
theorem Dg.k {N : Addr → Prop} {H H' : Hp} {v : V} {d : PyData} (h : Dg N H v d) (e : Ks N H H') : Dg N H' v d := Dg.keep e (fun _ z => z) d v h
theorem DgAll.k {N : Addr → Prop} {H H' : Hp} {v : List V} {d : List PyData} (h : DgAll N H v d) (e : Ks N H H') : DgAll N H' v d := DgAll.keep e (fun _ z => z) d v h
theorem Dg.any {N : Addr → Prop} {H : Hp} {v : V} {d : PyData} (h : Dg N H v d) : Dg (fun _ => True) H v d := Dg.keep (Ks.refl N H) (fun _ _ => trivial) d v h
theorem Dv.k {N : Addr → Prop} {H H' : Hp} {v : V} {d : PyData} (h : Dv N H v d) (e : Ks N H H') : Dv N H' v d := by
  rcases h with h | ⟨a, h1, h2, h3⟩
  · exact .inl (h.k e)
  · exact .inr ⟨a, h1, e.dic _ _ h2, h3⟩
theorem Dv.any {N : Addr → Prop} {H : Hp} {v : V} {d : PyData} (h : Dv N H v d) : Dv (fun _ => True) H v d := by
  rcases h with h | h
  · exact .inl h.any
  · exact .inr h
theorem DgAll.length {N : Addr → Prop} {H : Hp} : ∀ {vs : List V} {ds : List PyData}, DgAll N H vs ds → vs.length = ds.length
  | _, _, .nil => rfl
  | _, _, .cons _ b => by rw [List.length_cons, List.length_cons, DgAll.length b]
theorem DgAll.get {N : Addr → Prop} {H : Hp} : ∀ {vs : List V} {ds : List PyData} {i : Nat} {v : V}, DgAll N H vs ds → vs[i]? = some v → ∃ d, ds[i]? = some d ∧ Dg N H v d
  | _, _, _, _, .nil, e => by simp at e
  | _, _, 0, _, .cons a _, e => by
    simp at e
    subst e
    exact ⟨_, rfl, a⟩
  | _, _, i + 1, v, .cons _ b, e => by
    obtain ⟨d, h1, h2⟩ := DgAll.get (i := i) (v := v) b (by simpa using e)
    exact ⟨d, by simpa using h1, h2⟩
theorem DgAll.append {N : Addr → Prop} {H : Hp} : ∀ {vs ws : List V} {ds es : List PyData}, DgAll N H vs ds → DgAll N H ws es → DgAll N H (vs ++ ws) (ds ++ es)
  | _, _, _, _, .nil, h => h
  | _, _, _, _, .cons a b, h => .cons a (DgAll.append b h)
theorem DgAll.take {N : Addr → Prop} {H : Hp} : ∀ (n : Nat) {vs : List V} {ds : List PyData}, DgAll N H vs ds → DgAll N H (vs.take n) (ds.take n)
  | 0, _, _, _ => .nil
  | _ + 1, _, _, .nil => .nil
  | n + 1, _, _, .cons a b => .cons a (DgAll.take n b)
theorem DgAll.drop {N : Addr → Prop} {H : Hp} : ∀ (n : Nat) {vs : List V} {ds : List PyData}, DgAll N H vs ds → DgAll N H (vs.drop n) (ds.drop n)
  | 0, _, _, h => h
  | _ + 1, _, _, .nil => .nil
  | n + 1, _, _, .cons a b => DgAll.drop n b
/-! ### types -/
def tyD : PyData → String
  | .none => "NoneType"
  | .bool _ => "bool"
  | .int _ => "int"
  | .str _ => "str"
  | .list _ => "list"
  | .tuple _ => "tuple"
  | .dict _ => "dict"
theorem Dv.ty {N : Addr → Prop} {K : PySem.W.Frag} {H : Hp} {v : V} {d : PyData} (h : Dv N H v d) : TyX K H v (.type (tyD d)) := by
  rcases h with h | ⟨a, rfl, h2, rfl⟩
  · cases h with
    | non => exact .base .non
    | bl b => exact .base (.bl b)
    | int i => exact .base (.int i)
    | str x => exact .base (.str x)
    | lst _ a _ => exact .base (.lst a)
    | tup a _ => exact .base (.tup a)
  · exact .base (.dK h2)
def isT : PyData → Bool
  | .tuple _ => true
  | _ => false
def isIB : PyData → Bool
  | .int _ => true
  | .bool _ => true
  | _ => false
def isB : PyData → Bool
  | .bool _ => true
  | _ => false
def isI : PyData → Bool
  | .int _ => true
  | _ => false
theorem kit_tup (K : PySem.W.Frag) (d : PyData) : PySem.W.kitOne K (.type (tyD d)) (.type "tuple") = some (isT d) := by
  cases d with
  | none => exact kit_ty (show kitB "NoneType" "tuple" = some false by decide +kernel)
  | bool _ => exact kit_ty (show kitB "bool" "tuple" = some false by decide +kernel)
  | int _ => exact kit_ty (show kitB "int" "tuple" = some false by decide +kernel)
  | str _ => exact kit_ty (show kitB "str" "tuple" = some false by decide +kernel)
  | list _ => exact kit_ty (show kitB "list" "tuple" = some false by decide +kernel)
  | tuple _ => exact kit_ty (show kitB "tuple" "tuple" = some true by decide +kernel)
  | dict _ => exact kit_ty (show kitB "dict" "tuple" = some false by decide +kernel)
theorem kit_int (K : PySem.W.Frag) (d : PyData) : PySem.W.kitOne K (.type (tyD d)) (.type "int") = some (isIB d) := by
  cases d with
  | none => exact kit_ty (show kitB "NoneType" "int" = some false by decide +kernel)
  | bool _ => exact kit_ty (show kitB "bool" "int" = some true by decide +kernel)
  | int _ => exact kit_ty (show kitB "int" "int" = some true by decide +kernel)
  | str _ => exact kit_ty (show kitB "str" "int" = some false by decide +kernel)
  | list _ => exact kit_ty (show kitB "list" "int" = some false by decide +kernel)
  | tuple _ => exact kit_ty (show kitB "tuple" "int" = some false by decide +kernel)
  | dict _ => exact kit_ty (show kitB "dict" "int" = some false by decide +kernel)
theorem kit_bool (K : PySem.W.Frag) (d : PyData) : PySem.W.kitOne K (.type (tyD d)) (.type "bool") = some (isB d) := by
  cases d with
  | none => exact kit_ty (show kitB "NoneType" "bool" = some false by decide +kernel)
  | bool _ => exact kit_ty (show kitB "bool" "bool" = some true by decide +kernel)
  | int _ => exact kit_ty (show kitB "int" "bool" = some false by decide +kernel)
  | str _ => exact kit_ty (show kitB "str" "bool" = some false by decide +kernel)
  | list _ => exact kit_ty (show kitB "list" "bool" = some false by decide +kernel)
  | tuple _ => exact kit_ty (show kitB "tuple" "bool" = some false by decide +kernel)
  | dict _ => exact kit_ty (show kitB "dict" "bool" = some false by decide +kernel)
theorem Dv.tuple {N : Addr → Prop} {H : Hp} {v : V} {d : PyData} (h : Dv N H v d) (e : isT d = true) : ∃ a xs ds, v = .ref a ∧ d = .tuple ds ∧ H a = some (.tup xs) ∧ DgAll N H xs ds := by
  rcases h with h | ⟨a, rfl, h2, rfl⟩
  · cases h with
    | tup a b => exact ⟨_, _, _, rfl, rfl, a, b⟩
    | non => cases e
    | bl _ => cases e
    | int _ => cases e
    | str _ => cases e
    | lst _ _ _ => cases e
  · cases e
theorem Dv.int {N : Addr → Prop} {H : Hp} {v : V} {d : PyData} (h : Dv N H v d) (e : isI d = true) : ∃ i, v = .int i ∧ d = .int i := by
  rcases h with h | ⟨a, rfl, h2, rfl⟩
  · cases h with
    | int i => exact ⟨i, rfl, rfl⟩
    | non => cases e
    | bl _ => cases e
    | tup _ _ => cases e
    | str _ => cases e
    | lst _ _ _ => cases e
  · cases e
/-! ### repr -/
structure ShV (d : PyData) : Prop where
  ok : Sh d ∨ d = .dict []
def rReprV (N : Addr → Prop) : List V → Hp → VK → Prop := fun xs H Q => ∃ v d, xs = [v] ∧ Dv N H v d ∧ ShV d ∧ Q (.str d.shown) H
theorem call_reprV {X : Cx} (N : Addr → Prop) {k : Nat} (hg : Bare X.A) (hr : Room k X.A) : CallR X (.builtin "repr") (rReprV N) := by
  intro pins s σ H xs us Q I r h
  obtain ⟨v, d, rfl, hd, sh, q⟩ := h
  rcases hd with hd | ⟨a, rfl, h2, rfl⟩
  · rcases sh.ok with s1 | e
    · exact call_reprD hg hr pins s σ H [v] us Q I r ⟨v, d, rfl, Dg.toDp d v hd, s1, q⟩
    · subst e
      cases hd
  · obtain ⟨u, rfl, ru⟩ := r.one
    cases (show u = Value.ref a from ru)
    have ok : ObjOk X.prog X.w H s.heap a (.dK []) := I.hok a _ h2
    obtain ⟨_, ns, vs, kv, o, es, ep, g1, g2, g3, g4, g5⟩ := ok
    have hu := hr.un
    have vs0 : vs = [] := by cases kv; rfl
    subst vs0
    have es0 : es.toList = [] := by
      have z := g5.1
      cases h : es.toList with
      | nil => rfl
      | cons x l =>
        rw [h] at z
        cases z
    have rd : Reads s.heap (.ref a) (.dict []) (a :: [] ++ []) := .dict g1 g2.1 g3 (by rw [es0]; exact .nil) (by rw [es0]; exact .nil)
    have nsm : sysModules ≠ a := fun z => by
      rw [z, beq_self_eq_true] at ns
      cases ns
    refine repr_of_reads' rd (by decide) (fun _ => by simpa using nsm) hg (by show X.A.units + (1 + 1) < cLine; omega) (fun _ _ z => z) (fun h' u tk hk => ⟨.str _, H, I.kept (t' := tk) hk, ⟨_, rfl⟩, q⟩) (by decide +kernel)
end NA
namespace NA
open PySem PySem.Spec PyProof.Rows L2
/-! ### what is wrong with a machine, over data -/
def strp (p n : Nat) : Nat := n / p ^ val p n
theorem strp_yes {p n : Nat} (hp : 2 ≤ p) (hn : 0 < n) (h : n % p = 0) : strp p n = strp p (n / p) := by
  unfold strp
  rw [val_yes hp hn h, Nat.pow_succ, Nat.mul_comm, Nat.div_div_eq_div_mul]
theorem strp_no {p n : Nat} (h : n % p ≠ 0) : strp p n = n := by
  unfold strp
  rw [val_no h, Nat.pow_zero, Nat.div_one]
theorem strp_pos {p n : Nat} (hp : 2 ≤ p) (hn : 0 < n) : 0 < strp p n := by
  have d := (pow_dvd_val hp (val p n) n hn).mpr (Nat.le_refl _)
  exact Nat.div_pos (Nat.le_of_dvd hn d) (Nat.pow_pos (by omega))
theorem strp_le (p n : Nat) : strp p n ≤ n := Nat.div_le_self _ _
def strA (l : List Nat) (n : Nat) : Nat := l.foldl (fun r p => strp p r) n
theorem strA_next {l : List Nat} {n i p : Nat} (h : l[i]? = some p) : strA (l.take (i + 1)) n = strp p (strA (l.take i) n) := by
  unfold strA
  rw [List.take_add_one, h, List.foldl_append]
  rfl
def isSz : PyData → Bool
  | .int n => decide (2 ≤ n) && decide (n ≤ 10 ^ 30) && (strA PRn n.toNat == 1)
  | _ => false
def isBl (m : Nat) : PyData → Bool
  | .int n => decide (0 ≤ n) && decide (n < (m : Int))
  | _ => false
def isWr (m : Nat) : PyData → Bool
  | .tuple [.int a, .int b] => isBl m (.int a) && isBl m (.int b) && !decide (a = b)
  | _ => false
def leP : PyData → PyData → Bool
  | .tuple [.int a, .int b], .tuple [.int c, .int d] => if a = c then (if b = d then true else decide (b ≤ d)) else decide (a ≤ c)
  | _, _ => false
def bd (f : Nat → Bool) (n : Nat) : List Nat := (List.range n).filter f
theorem bd_zero (f : Nat → Bool) : bd f 0 = [] := rfl
theorem bd_succ (f : Nat → Bool) (n : Nat) : bd f (n + 1) = bd f n ++ (if f n = true then [n] else []) := by
  unfold bd
  rw [List.range_succ, List.filter_append, List.filter_cons, List.filter_nil]
theorem bd_none {f : Nat → Bool} {n : Nat} (h : bd f n = []) : ∀ i, i < n → f i = false := fun i hi => by
  cases e : f i with
  | false => rfl
  | true =>
    have : i ∈ bd f n := List.mem_filter.mpr ⟨List.mem_range.mpr hi, e⟩
    rw [h] at this
    cases this
theorem bd_first {f : Nat → Bool} {i : Nat} (h : bd f i = []) (e : f i = true) : ∀ n, i < n → ∃ l, bd f n = i :: l := by
  intro n hn
  induction n with
  | zero => omega
  | succ n ih =>
    rw [bd_succ]
    by_cases z : i = n
    · subst z
      rw [h, if_pos e]
      exact ⟨[], rfl⟩
    · obtain ⟨l, hl⟩ := ih (by omega)
      rw [hl]
      exact ⟨_, rfl⟩
theorem bd_lt {f : Nat → Bool} {n i : Nat} (h : i ∈ bd f n) : i < n := List.mem_range.mp (List.mem_filter.mp h).1
theorem bd_len (f : Nat → Bool) (n : Nat) : (bd f n).length ≤ n := by
  have := List.length_filter_le f (List.range n)
  rwa [List.length_range] at this
def szBad (S : List PyData) (i : Nat) : Bool := !isSz (S.getD i .none)
def wrBad (m : Nat) (W : List PyData) (i : Nat) : Bool := !isWr m (W.getD i .none)
def orBad (W : List PyData) (k : Nat) : Bool := leP (W.getD (k + 1) .none) (W.getD k .none)
def eT (x : Str) (i : Nat) : PyData := .tuple [.str x, .int i]
def merr3 (W : List PyData) : PyData := match bd (orBad W) (W.length - 1) with
  | k :: _ => eT "order" (k + 1)
  | [] => .none
def merrW (m : Nat) (W : List PyData) : PyData := match bd (wrBad m W) W.length with
  | i :: _ => eT "wire" i
  | [] => merr3 W
def merr2 (S W : List PyData) : PyData := match bd (szBad S) S.length with
  | i :: _ => eT "size" i
  | [] => merrW S.length W
def formD : PyData → Option (List PyData × List PyData)
  | .tuple [.tuple S, .tuple W] => if 1 ≤ S.length ∧ S.length ≤ 6 then some (S, W) else none
  | _ => none
def merr (d : PyData) : PyData := match formD d with
  | some (S, W) => merr2 S W
  | none => .str "form"
theorem formD_some {d : PyData} {S W : List PyData} (h : formD d = some (S, W)) : d = .tuple [.tuple S, .tuple W] ∧ 1 ≤ S.length ∧ S.length ≤ 6 := by
  unfold formD at h
  split at h
  · split at h
    · rename_i S' W' z
      cases h
      exact ⟨rfl, z⟩
    · cases h
  · cases h
theorem get_getD {l : List PyData} {i : Nat} {d : PyData} (h : l[i]? = some d) : l.getD i .none = d := by
  rw [List.getD_eq_getElem?_getD, h]
  rfl
theorem merr_form {d : PyData} (h : formD d = none) : merr d = .str "form" := by unfold merr; rw [h]
theorem merr_some {d : PyData} {S W : List PyData} (h : formD d = some (S, W)) : merr d = merr2 S W := by unfold merr; rw [h]
theorem merr2_size {S W : List PyData} {i : Nat} {l : List Nat} (h : bd (szBad S) S.length = i :: l) : merr2 S W = eT "size" i := by unfold merr2; rw [h]
theorem merr2_ok {S W : List PyData} (h : bd (szBad S) S.length = []) : merr2 S W = merrW S.length W := by unfold merr2; rw [h]
theorem merrW_wire {m : Nat} {W : List PyData} {i : Nat} {l : List Nat} (h : bd (wrBad m W) W.length = i :: l) : merrW m W = eT "wire" i := by unfold merrW; rw [h]
theorem merrW_ok {m : Nat} {W : List PyData} (h : bd (wrBad m W) W.length = []) : merrW m W = merr3 W := by unfold merrW; rw [h]
theorem merr3_ord {W : List PyData} {k : Nat} {l : List Nat} (h : bd (orBad W) (W.length - 1) = k :: l) : merr3 W = eT "order" (k + 1) := by unfold merr3; rw [h]
theorem merr3_ok {W : List PyData} (h : bd (orBad W) (W.length - 1) = []) : merr3 W = .none := by unfold merr3; rw [h]
theorem bd_all {f : PyData → Bool} {l : List PyData} (h : bd (fun i => !f (l.getD i .none)) l.length = []) : ∀ x ∈ l, f x = true := fun x hx => by
  obtain ⟨i, hi, rfl⟩ := List.getElem_of_mem hx
  have z := bd_none h i hi
  rw [get_getD (List.getElem?_eq_getElem hi)] at z
  simpa using z
/-- all but the order -/
structure Almost (d : PyData) (S W : List PyData) : Prop where
  eq : d = .tuple [.tuple S, .tuple W]
  one : 1 ≤ S.length
  six : S.length ≤ 6
  sz : ∀ x ∈ S, isSz x = true
  wr : ∀ x ∈ W, isWr S.length x = true
theorem isWr_shape {m : Nat} {d : PyData} (h : isWr m d = true) : ∃ a b : Nat, d = .tuple [.int a, .int b] ∧ a < m ∧ b < m := by
  unfold isWr at h
  split at h
  · rename_i a b
    simp only [isBl, Bool.and_eq_true, decide_eq_true_eq] at h
    exact ⟨a.toNat, b.toNat, by rw [Int.toNat_of_nonneg h.1.1.1, Int.toNat_of_nonneg h.1.2.1], by omega, by omega⟩
  · cases h
def wn (d : PyData) : Nat := match d with
  | .tuple [.int a, .int b] => 6 * a.toNat + b.toNat
  | _ => 0
theorem wn_lt {d e : PyData} (hd : isWr 6 d = true) (he : isWr 6 e = true) (h : leP e d = false) : wn d < wn e := by
  obtain ⟨a, b, rfl, a1, b1⟩ := isWr_shape hd
  obtain ⟨c, f, rfl, c1, f1⟩ := isWr_shape he
  simp only [leP] at h
  simp only [wn, Int.toNat_natCast]
  split at h
  · split at h
    · cases h
    · have := of_decide_eq_false h
      omega
  · have := of_decide_eq_false h
    omega
theorem isWr_mono {m : Nat} (hm : m ≤ 6) {d : PyData} (h : isWr m d = true) : isWr 6 d = true := by
  unfold isWr at h ⊢
  split at h
  · simp only [isBl, Bool.and_eq_true, decide_eq_true_eq] at h ⊢
    exact ⟨⟨⟨h.1.1.1, by omega⟩, ⟨h.1.2.1, by omega⟩⟩, h.2⟩
  · cases h
theorem asc_of {W : List PyData} (h6 : ∀ x ∈ W, isWr 6 x = true) (ho : ∀ k, k < W.length - 1 → orBad W k = false) : W.length ≤ 36 := by
  have step : ∀ n, n < W.length → n ≤ wn (W.getD n .none) := by
    intro n
    induction n with
    | zero => intro _; exact Nat.zero_le _
    | succ n ih =>
      intro hn
      have a := ih (by omega)
      have m1 := get_getD (List.getElem?_eq_getElem (show n < W.length by omega))
      have m2 := get_getD (List.getElem?_eq_getElem hn)
      have z := ho n (by omega)
      unfold orBad at z
      rw [m1] at a
      rw [m1, m2] at z
      rw [m2]
      have := wn_lt (h6 _ (List.getElem_mem (by omega))) (h6 _ (List.getElem_mem hn)) z
      omega
  by_cases e : W.length = 0
  · omega
  · have hn : W.length - 1 < W.length := by omega
    have s := step _ hn
    rw [get_getD (List.getElem?_eq_getElem hn)] at s
    obtain ⟨a, b, z, a1, b1⟩ := isWr_shape (h6 _ (List.getElem_mem hn))
    rw [z] at s
    simp only [wn, Int.toNat_natCast] at s
    omega
theorem merr_almost {d : PyData} (h : merr d = .none ∨ ∃ k, merr d = eT "order" k) : ∃ S W, Almost d S W ∧ (merr d = .none → W.length ≤ 36) := by
  cases hf : formD d with
  | none =>
    rw [merr_form hf] at h
    rcases h with h | ⟨k, h⟩ <;> cases h
  | some SW =>
    obtain ⟨S, W⟩ := SW
    obtain ⟨e, o, x⟩ := formD_some hf
    rw [merr_some hf] at h ⊢
    cases hs : bd (szBad S) S.length with
    | cons i l =>
      rw [merr2_size hs] at h
      rcases h with h | ⟨k, h⟩
      · cases h
      · exact absurd (by injection h with h; injection h with h _; injection h : ("size" : Str) = "order") (by decide +kernel)
    | nil =>
      rw [merr2_ok hs] at h ⊢
      cases hw : bd (wrBad S.length W) W.length with
      | cons i l =>
        rw [merrW_wire hw] at h
        rcases h with h | ⟨k, h⟩
        · cases h
        · exact absurd (by injection h with h; injection h with h _; injection h : ("wire" : Str) = "order") (by decide +kernel)
      | nil =>
        rw [merrW_ok hw]
        have wr : ∀ y ∈ W, isWr S.length y = true := bd_all hw
        refine ⟨S, W, ⟨e, o, x, bd_all hs, wr⟩, fun hn => ?_⟩
        cases ho : bd (orBad W) (W.length - 1) with
        | cons k l =>
          rw [merr3_ord ho] at hn
          cases hn
        | nil => exact asc_of (fun y hy => isWr_mono x (wr y hy)) (bd_none ho)
/-! ### how great such data is -/
def okG (c dp : Nat) (d : PyData) : Bool := okD d && decide (cost d ≤ c) && decide (d.depth ≤ dp)
theorem okG_iff {c dp : Nat} {d : PyData} : okG c dp d = true ↔ okD d = true ∧ cost d ≤ c ∧ d.depth ≤ dp := by
  unfold okG
  simp only [Bool.and_eq_true, decide_eq_true_eq, and_assoc]
theorem okG_mono {c dp c' dp' : Nat} {d : PyData} (h : okG c dp d = true) (a : c ≤ c') (b : dp ≤ dp') : okG c' dp' d = true := by
  rw [okG_iff] at h ⊢
  exact ⟨h.1, by omega, by omega⟩
theorem okG_all {c dp : Nat} : ∀ {l : List PyData}, (∀ x ∈ l, okG c dp x = true) → okAll l = true ∧ costAll l ≤ (c + 2) * l.length ∧ PyData.depthAll l ≤ dp
  | [], _ => ⟨rfl, Nat.le_refl _, Nat.zero_le _⟩
  | x :: l, h => by
    obtain ⟨a, b, e⟩ := okG_all fun y hy => h y (List.mem_cons_of_mem _ hy)
    obtain ⟨a1, b1, e1⟩ := okG_iff.mp (h x List.mem_cons_self)
    refine ⟨by simp only [okAll, a, a1, Bool.and_self], ?_, ?_⟩
    · simp only [costAll, List.length_cons, Nat.mul_succ]
      omega
    · simp only [PyData.depthAll]
      omega
theorem okG_tup {c dp c' dp' : Nat} {l : List PyData} (h : ∀ x ∈ l, okG c dp x = true) (a : (c + 2) * l.length + 3 ≤ c') (b : dp + 1 ≤ dp') : okG c' dp' (.tuple l) = true := by
  obtain ⟨h1, h2, h3⟩ := okG_all h
  refine okG_iff.mpr ⟨by simpa only [okD] using h1, ?_, ?_⟩
  · simp only [cost]
    omega
  · simp only [PyData.depth]
    omega
theorem okG_lst {c dp c' dp' : Nat} {l : List PyData} (h : ∀ x ∈ l, okG c dp x = true) (a : (c + 2) * l.length + 3 ≤ c') (b : dp + 1 ≤ dp') : okG c' dp' (.list l) = true := by
  obtain ⟨h1, h2, h3⟩ := okG_all h
  refine okG_iff.mpr ⟨by simpa only [okD] using h1, ?_, ?_⟩
  · simp only [cost]
    omega
  · simp only [PyData.depth]
    omega
theorem okG_sh {c dp : Nat} {d : PyData} (h : okG c dp d = true) (a : c ≤ 16000000) (b : dp ≤ 60) : ShV d := by
  obtain ⟨h1, h2, h3⟩ := okG_iff.mp h
  exact ⟨.inl ⟨h1, by omega, by omega⟩⟩
/-- things in the place of a size or a wire -/
def okI (d : PyData) : Bool := okG 10000 3 d
theorem isSz_ok {d : PyData} (h : isSz d = true) : okI d = true := by
  unfold isSz at h
  split at h
  · rename_i n
    simp only [Bool.and_eq_true, decide_eq_true_eq] at h
    refine okG_iff.mpr ⟨?_, by simp only [cost]; decide, by simp only [PyData.depth]; decide⟩
    simp only [okD]
    refine decide_eq_true (small_log ?_)
    have a := h.1.1
    have b := h.1.2
    have : n.natAbs ≤ 10 ^ 30 := by omega
    exact Nat.lt_of_le_of_lt this (by decide)
  · cases h
theorem isWr_ok {m : Nat} (hm : m ≤ 6) {d : PyData} (h : isWr m d = true) : okI d = true := by
  obtain ⟨a, b, rfl, a1, b1⟩ := isWr_shape h
  have s : ∀ k : Nat, k < 6 → okG 2000 1 (.int (k : Int)) = true := fun k hk => by
    refine okG_iff.mpr ⟨?_, by simp only [cost]; decide, by simp only [PyData.depth]; decide⟩
    simp only [okD]
    refine decide_eq_true (small_log ?_)
    rw [Int.natAbs_natCast]
    exact Nat.lt_trans hk (by decide)
  refine okG_tup (c := 2000) (dp := 1) (fun x hx => ?_) (by show (2000 + 2) * 2 + 3 ≤ 10000; decide) (by decide)
  rcases List.mem_cons.mp hx with e | hx
  · rw [e]
    exact s a (by omega)
  · rw [List.mem_singleton.mp hx]
    exact s b (by omega)
theorem ShV.len {l : List PyData} (h : ShV (.tuple l)) : 2 * l.length ≤ 16000000 := by
  rcases h.ok with h | h
  · have z := h.cost
    simp only [cost] at z
    have : ∀ l : List PyData, 2 * l.length ≤ costAll l := by
      intro l
      induction l with
      | nil => exact Nat.le_refl _
      | cons x l ih =>
        simp only [costAll, List.length_cons]
        omega
    have := this l
    omega
  · cases h
theorem ShV.sub {l : List PyData} (h : ShV (.tuple l)) {x : PyData} (hx : x ∈ l) : ShV x := by
  rcases h.ok with h | h
  · have z1 := h.ok
    have z2 := h.cost
    have z3 := h.depth
    simp only [okD] at z1
    simp only [cost] at z2
    simp only [PyData.depth] at z3
    have : ∀ l : List PyData, okAll l = true → x ∈ l → okD x = true ∧ cost x ≤ costAll l ∧ x.depth ≤ PyData.depthAll l := by
      intro l
      induction l with
      | nil => intro _ m; cases m
      | cons y l ih =>
        intro o m
        simp only [okAll, Bool.and_eq_true] at o
        simp only [costAll, PyData.depthAll]
        rcases List.mem_cons.mp m with e | m
        · subst e
          exact ⟨o.1, by omega, by omega⟩
        · obtain ⟨a, b, c⟩ := ih o.2 m
          exact ⟨a, by omega, by omega⟩
    obtain ⟨a, b, c⟩ := this l z1 hx
    exact ⟨.inl ⟨a, by omega, by omega⟩⟩
  · cases h
theorem pi_enumTK {X : Cx} (K : PySem.W.Frag) (hK : X.K = K) {e : Expr} {ta : TA} {p pos tpos : Pos} {elts : List Expr} {kk : Nat} (hg : Gl X "enumerate") (hm : X.mg "enumerate" = none) (ha : PA X [e] ta) (hs : starEach [e] X.env = [(false, eval e X.env)] := by rfl) :
    PI X (.Tuple elts kk tpos) (.Call (.Name "enumerate" p) [e] [] pos) (iEnumT K ta) := hK ▸ pi_enumT hg hm ha hs
theorem op_leTK {X : Cx} (K : PySem.W.Frag) (hK : X.K = K) (hu : X.A.units < cLine) : OpR X (compareOp CmpOp.LtE) (rLeT K) := hK ▸ op_leT hu
theorem pg_tupK {X : Cx} (K : PySem.W.Frag) (hK : X.K = K) {pos : Pos} {es : List Expr} {k : Nat} {t : TGs} {n : Nat} (hc : X.calm = true) (h : PGs X es t) (h1 : (assignEach es X.env).length = n := by rfl) (h2 : List.findIdx? (fun x => x.fst) (assignEach es X.env) = none := by rfl) :
    PG X (.Tuple es k pos) (gTup K n t) := hK ▸ pg_tup hc h h1 h2
theorem keepN {H : Hp} {a c : Addr} {o o' : HO} (h : H a = some o) (n : H c = none) : (upd H c o') a = some o := by
  rw [upd_ne (ne_of_none h n)]
  exact h
/-! ### promises -/
theorem room_lt {k : Nat} {A : Around} (hr : Room k A) : A.units < cLine := by
  have := hr.units
  omega
abbrev An : Addr → Prop := fun _ => True
def Np (p q : Addr) : Addr → Prop := fun a => a ≠ p ∧ a ≠ q
def spB (f : PyData → Bool) : Sp := fun vs H Q _ => ∃ (v : V) (d : PyData), vs = [v] ∧ Dv An H v d ∧ ShV d ∧ ∀ H', Same H H' → Q (.bl (f d)) H'
def isInt0 : PyData → Bool
  | .int _ => true
  | _ => false
def isPr : PyData → Bool
  | .tuple [_, _] => true
  | _ => false
def spBelow : Sp := fun vs H Q _ => ∃ (v : V) (d : PyData) (m : Nat), vs = [v, .int m] ∧ Dv An H v d ∧ ∀ H', Same H H' → Q (.bl (isBl m d)) H'
def spWireB : Sp := fun vs H Q _ => ∃ (v : V) (d : PyData) (m : Nat), vs = [v, .int m] ∧ Dv An H v d ∧ ShV d ∧ ∀ H', Same H H' → Q (.bl (isWr m d)) H'
def spMerr : Sp := fun vs H Q _ => ∃ (v : V) (d : PyData), vs = [v] ∧ Dv An H v d ∧ ShV d ∧ ∀ (u : V) (H' : Hp), Im H' u (merr d) → Same H H' → Q u H'
def spOddS : Sp := fun vs H Q _ => ∃ (p q : Addr), vs = [.ref p] ∧ Pt H p q ∧ ∀ (v : V) (d : PyData) (H' : Hp), Dg (Np p q) H' v d → okI d = true → Pt H' p q → Kp p q H H' → Q v H'
def spOddW : Sp := fun vs H Q _ => ∃ (p q : Addr) (m : Nat), vs = [.ref p, .int m] ∧ m ≤ 6 ∧ Pt H p q ∧ ∀ (v : V) (d : PyData) (H' : Hp), Dg (Np p q) H' v d → okI d = true → Pt H' p q → Kp p q H H' → Q v H'
def loB : PyData → Bool
  | .tuple [.tuple _, .tuple W] => decide (W.length ≤ 100)
  | _ => true
theorem lo_ok {S W : List PyData} (h : loB (.tuple [.tuple S, .tuple W]) = true) : W.length ≤ 100 := of_decide_eq_true h
theorem lo_no {S : List PyData} (h : ∀ x ∈ S, isT x = false) : loB (.tuple S) = true := by
  unfold loB
  split
  · rename_i e
    injection e with e
    have := h _ (e ▸ List.mem_cons_self)
    cases this
  · rfl
theorem sz_isT {d : PyData} (h : isSz d = true) : isT d = false := by cases d <;> first | rfl | cases h
def Fit (d : PyData) : Prop := ShV d ∧ loB d = true
def spSpoilt : Sp := fun vs H Q _ => ∃ (p q : Addr) (v : V) (d : PyData) (S W : List PyData), vs = [.ref p, v] ∧ Pt H p q ∧ Dg (Np p q) H v d ∧ Almost d S W ∧ W.length ≤ 36 ∧
  ∀ (v : V) (d : PyData) (H' : Hp), Dv (Np p q) H' v d → Fit d → Pt H' p q → Kp p q H H' → Q v H'
end NA
namespace NA
open PySem PySem.Spec PyProof.Rows L2
/-! ### zip of two or three, lists or tuples as they come -/
inductive Sk
  | l
  | t
def SqS (K : PySem.W.Frag) (k : Sk) (H : Hp) (a : Addr) (xs : List V) : Prop := match k with
  | .l => SqL K H a xs
  | .t => SqT K H a xs
def ItS (k : Sk) (h : Heap) (it a : Addr) (i : Nat) : Prop := match k with
  | .l => h.IsListIter it a i
  | .t => h.IsTupleIter it a i
def OfS (k : Sk) (h : Heap) (a : Addr) (its : Array Value) : Prop := match k with
  | .l => h.IsList a its
  | .t => h.IsTuple a its
def itO (k : Sk) (a : Addr) : Obj := match k with
  | .l => { cls := .type "list_iterator", data := .fields #[.ref a, .int 0 0] }
  | .t => { cls := .type "tuple_iterator", data := .fields #[.ref a, .int 0 0] }
theorem SqS.of_l {K : PySem.W.Frag} {H : Hp} {a : Addr} {xs : List V} (h : H a = some (.lst xs)) : SqS K .l H a xs := SqL.of h
theorem SqS.of_t {K : PySem.W.Frag} {H : Hp} {a : Addr} {xs : List V} (h : H a = some (.tup xs)) : SqS K .t H a xs := SqT.of h
theorem srcDraws {prog : Program} {w : World} {A : Around} (k : Sk) (hA : A.handled = none) (it a : Addr) (ne : a ≠ it) (its : Array Value) :
    Draws prog w A it [it, a] its.size (fun i v => its[i]? = some v) (fun i h => ItS k h it a i ∧ OfS k h a its) := by
  cases k with
  | l => exact Draws.list hA it a ne its
  | t => exact Draws.tuple hA it a ne its
theorem src_of {X : Cx} {pins : List (Addr × Obj)} {σ : L2.St} {H : Hp} {s : Shared} {k : Sk} {a : Addr} {xs : List V} (I : Inv X pins σ H s) (h : SqS X.K k H a xs) : ∃ its : List Value, Vals xs its ∧ OfS k s.heap a its.toArray := by
  cases k with
  | l =>
    obtain ⟨its, rv, tp, _⟩ := I.list h
    exact ⟨its, rv, tp.isList⟩
  | t =>
    obtain ⟨its, rv, tp, _⟩ := I.tuple h
    exact ⟨its, rv, tp⟩
theorem src_inj {X : Cx} {pins : List (Addr × Obj)} {σ : L2.St} {H : Hp} {s : Shared} {k : Sk} {a : Addr} {xs ys : List V} (I : Inv X pins σ H s) (h : SqS X.K k H a xs) (h2 : SqS X.K k H a ys) : xs = ys := by
  cases k with
  | l => exact I.list_inj h h2
  | t => exact I.tuple_inj h h2
theorem OfS.lt {k : Sk} {h : Heap} {a : Addr} {its : Array Value} (e : OfS k h a its) : a < h.objs.size := by
  cases k with
  | l => obtain ⟨o, h, _⟩ := e; exact Heap.lt_size h
  | t => obtain ⟨o, h, _⟩ := e; exact Heap.lt_size h
theorem OfS.at {k : Sk} {h h' : Heap} {a : Addr} {its : Array Value} (e : OfS k h a its) (f : ∀ o, h.get? a = some o → h'.get? a = some o) : OfS k h' a its := by
  cases k with
  | l => exact Heap.IsList.at e f
  | t => exact Heap.IsTuple.at e f
theorem ItS.at {k : Sk} {h h' : Heap} {it a : Addr} {i : Nat} (e : ItS k h it a i) (f : ∀ o, h.get? it = some o → h'.get? it = some o) : ItS k h' it a i := by
  cases k with
  | l => exact Heap.IsListIter.at e f
  | t => exact Heap.IsTupleIter.at e f
theorem ItS.obj {k : Sk} {h : Heap} {it a : Addr} {i : Nat} (e : ItS k h it a i) : ∃ o, h.get? it = some o ∧ ∀ v : Option Value, o.data ≠ .cell v := by
  cases k with
  | l =>
    obtain ⟨o, a, _, c⟩ := e
    exact ⟨o, a, fun v q => by rw [c] at q; cases q⟩
  | t =>
    obtain ⟨o, a, _, c⟩ := e
    exact ⟨o, a, fun v q => by rw [c] at q; cases q⟩
theorem itO_is (k : Sk) {h : Heap} {it a : Addr} (e : h.get? it = some (itO k a)) : ItS k h it a 0 := by
  cases k with
  | l => exact ⟨_, e, rfl, rfl⟩
  | t => exact ⟨_, e, rfl, rfl⟩
theorem begins (k : Sk) (a : Addr) (its : Array Value) : Begins (.ref a) (itO k a) (fun h => OfS k h a its) := by
  cases k with
  | l => exact ⟨fun prog w A E s Q h q => wpAny_pyIter_list h q, fun h h' e f => OfS.at (k := .l) e fun o q => f _ o q, rfl⟩
  | t => exact ⟨fun prog w A E s Q h q => wpAny_pyIter_tuple h q, fun h h' e f => OfS.at (k := .t) e fun o q => f _ o q, rfl⟩
def ItzG (K : PySem.W.Frag) (k1 : Sk) (a : Addr) (k2 : Sk) (b : Addr) : It :=
  ⟨fun i H => ∃ (xs ys : List V) (x y : V), SqS K k1 H a xs ∧ SqS K k2 H b ys ∧ xs[i]? = some x ∧ ys[i]? = some y,
   fun i H v H' => ∃ T x y, v = .ref T ∧ H T = none ∧ H' = upd H T (.tup [x, y]) ∧ (∀ xs, SqS K k1 H a xs → xs[i]? = some x) ∧ ∀ ys, SqS K k2 H b ys → ys[i]? = some y,
   fun i H => ∃ xs ys : List V, SqS K k1 H a xs ∧ SqS K k2 H b ys ∧ i = min xs.length ys.length⟩
theorem ge5 {n c : Nat} (e : c = n + 4 ∨ c = n + 2 ∨ c = n + 3 ∨ c = n ∨ c = n + 1) : n ≤ c := by omega
theorem lt5 {n m c : Nat} (h : n + 4 < m) (e : c = n + 4 ∨ c = n + 2 ∨ c = n + 3 ∨ c = n ∨ c = n + 1) : c < m := by omega
theorem nn {a b : Nat} (h : a < b ∨ b < a) : a ≠ b := by omega
theorem nm2 {x a b : Nat} (h1 : x ≠ a) (h2 : x ≠ b) : ¬ x ∈ [a, b] := by
  intro h
  rcases List.mem_cons.mp h with e | h
  · exact h1 e
  · exact h2 (List.mem_singleton.mp h)
theorem sep2 {n a b : Nat} (la : a < n) (lb : b < n) : ZipSep2 (n + 4) (n + 2) (n + 3) n (n + 1) [n, a] [n + 1, b] :=
  ⟨(show (n + 2 : Nat) ≠ n + 4 by omega), (show (n + 3 : Nat) ≠ n + 4 by omega), (show (n + 2 : Nat) ≠ n + 3 by omega), (show (n + 2 : Nat) ≠ n by omega), List.mem_cons_self, nm2 (by omega) (by omega), nm2 (by omega) (by omega),
   (show (n + 2 : Nat) ≠ n + 1 by omega), List.mem_cons_self, nm2 (by omega) (by omega), nm2 (by omega) (by omega), nm2 (by omega) (by omega), nm2 (by omega) (by omega)⟩
theorem turn_zipG {P : Program} {w : World} {K : PySem.W.Frag} {elts : List Expr} {kk : Nat} {tpos : Pos} (k1 : Sk) (a : Nat) (k2 : Sk) (b n : Nat) (la : a < n) (lb : b < n) :
    Turn P w K (.Tuple elts kk tpos) (ItzG K k1 a k2 b) [n + 4, n + 2, n + 3, n, n + 1] (n + 4) (fun i h => IsZip h (n + 4) (n + 2) (n + 3) .none ∧ IsTupOf2 h (n + 2) (.ref n) (.ref (n + 1)) ∧ (∃ x y, IsTupOf2 h (n + 3) x y) ∧ ItS k1 h n a i ∧ ItS k2 h (n + 1) b i) where
  mem := by simp
  obj := fun i h st c hc => by
    obtain ⟨s1, s2, ⟨x, y, s3⟩, s4, s5⟩ := st
    rcases (show c = n + 4 ∨ c = n + 2 ∨ c = n + 3 ∨ c = n ∨ c = n + 1 by simpa using hc) with e | e | e | e | e <;> subst e
    · exact ⟨_, s1, fun v q => nomatch q⟩
    · exact ⟨_, s2, fun v q => nomatch q⟩
    · exact ⟨_, s3, fun v q => nomatch q⟩
    · exact s4.obj
    · exact s5.obj
  keep := fun i h h' st k => by
    obtain ⟨s1, s2, ⟨x, y, s3⟩, s4, s5⟩ := st
    exact ⟨k _ (by simp) _ s1, k _ (by simp) _ s2, ⟨x, y, k _ (by simp) _ s3⟩, s4.at fun o q => k _ (by simp) o q, s5.at fun o q => k _ (by simp) o q⟩
  item := by
    intro X hP hw hK hc i pins s σ H E I hf st hg
    subst hP hw hK
    obtain ⟨s1, s2, ⟨p0, p1, s3⟩, s4, s5⟩ := st
    obtain ⟨xs, ys, x, y, hx, hy, ex, ey⟩ := hg
    obtain ⟨its, rv, o1⟩ := src_of I hx
    obtain ⟨jts, rw2, o2⟩ := src_of I hy
    obtain ⟨u, hu, ru⟩ := rv.get ex
    obtain ⟨v, hv, rv2⟩ := rw2.get ey
    have lz : n + 4 < s.heap.objs.size := Heap.lt_size s1
    have sep := sep2 la lb
    have D1 := srcDraws (prog := X.prog) (w := X.w) (A := X.A.in1) k1 (I.ok.hd hc) n a (nn (by omega)) its.toArray
    have D2 := srcDraws (prog := X.prog) (w := X.w) (A := X.A.in1) k2 (I.ok.hd hc) (n + 1) b (nn (by omega)) jts.toArray
    refine wpAny_pyNext_zipD2_item sep D1 D2 s1 s2 s3 ⟨s4, o1⟩ ⟨s5, o2⟩ (by have := (List.getElem?_eq_some_iff.mp hu).1; simpa using this) (by have := (List.getElem?_eq_some_iff.mp hv).1; simpa using this) fun y1 y2 h' tk q1 q2 z1 z2 z3 z4 hT hsz hk => ?_
    have e1 : y1 = u := Option.some.inj (q1.symm.trans (by simpa using hu))
    have e2 : y2 = v := Option.some.inj (q2.symm.trans (by simpa using hv))
    subst e1 e2
    refine ⟨_, rfl, wpAny_letOwnedTupleGo_zip (s := { s with heap := h', toks := tk }) z1 fun h'' hz'' sb => ?_⟩
    have sb' : ∀ c o, c ≠ n + 4 → h'.get? c = some o → h''.get? c = some o := fun c o hc q => (sb.2 c hc).trans q
    have hT2 : h''.get? s.heap.objs.size = some { cls := .type "tuple", data := .seq #[y1, y2] } := sb' _ _ (nn (by omega)) hT
    have new : ObjOk X.prog X.w (upd H s.heap.objs.size (.tup [x, y])) h'' s.heap.objs.size (.tup [x, y]) :=
      ⟨by show 2 ≤ sizeLine; decide, [y1, y2], .cons ru (.cons rv2 .nil), ⟨_, hT2, rfl, _, rfl⟩⟩
    have I1 : Inv X pins σ (upd H s.heap.objs.size (.tup [x, y])) { s with heap := h'', toks := tk } :=
      I.turnedNew (ch := [n + 4, n + 2, n + 3, n, n + 1]) (fun c ob hc q => by
        have hc' : c ≠ n + 4 ∧ c ≠ n + 2 ∧ c ≠ n + 3 ∧ c ≠ n ∧ c ≠ n + 1 := by simpa using hc
        exact sb' _ _ hc'.1 (hk c ob hc'.1 hc'.2.2.1 hc'.2.2.2.1 hc'.2.2.2.2 q)) hf (Nat.le_refl _) new
    refine ⟨.ref s.heap.objs.size, _, I1, rfl, ⟨_, x, y, rfl, I.hok.fresh (Nat.le_refl _), rfl, fun zs hz => by rw [src_inj I hz hx]; exact ex, fun zs hz => by rw [src_inj I hz hy]; exact ey⟩, ⟨hz'', sb' _ _ (nn (by omega)) (hk _ _ (nn (by omega)) (nn (by omega)) (nn (by omega)) (nn (by omega)) s2), ⟨_, _, sb' _ _ (nn (by omega)) z2⟩, z3.1.at fun o q => sb' _ _ (nn (by omega)) q, z4.1.at fun o q => sb' _ _ (nn (by omega)) q⟩, fun c hc => ?_⟩
    have lt : c < s.heap.objs.size := lt5 lz (by simpa using hc)
    rw [upd_ne (Nat.ne_of_lt lt)]
    exact (hf c hc).1
  done := by
    intro X hP hw hK hc i pins s σ H E I hf st hg
    subst hP hw hK
    obtain ⟨s1, s2, ⟨p0, p1, s3⟩, s4, s5⟩ := st
    obtain ⟨xs, ys, hx, hy, ei⟩ := hg
    obtain ⟨its, rv, o1⟩ := src_of I hx
    obtain ⟨jts, rw2, o2⟩ := src_of I hy
    have l1 := rv.length
    have l2 := rw2.length
    have sep := sep2 la lb
    have D1 := srcDraws (prog := X.prog) (w := X.w) (A := X.A.in1) k1 (I.ok.hd hc) n a (nn (by omega)) its.toArray
    have D2 := srcDraws (prog := X.prog) (w := X.w) (A := X.A.in1) k2 (I.ok.hd hc) (n + 1) b (nn (by omega)) jts.toArray
    refine wpAny_pyNext_zipD2_end sep D1 D2 s1 s2 s3 ⟨s4, o1⟩ ⟨s5, o2⟩ (by simp; omega) (by simp; omega) (by simp; omega) fun h' tk hk => ⟨rfl, ?_⟩
    exact I.turnedL (ch := [n + 4, n + 2, n + 3, n, n + 1]) (fun c o hc q => by
      have hc' : c ≠ n + 4 ∧ c ≠ n + 2 ∧ c ≠ n + 3 ∧ c ≠ n ∧ c ≠ n + 1 := by simpa using hc
      exact hk c o hc'.1 hc'.2.2.1 hc'.2.2.2.1 hc'.2.2.2.2 q) hf
  self := fun A i s Q E st h => wpAny_pyIter_zip st.1 h
def iZipG (K : PySem.W.Frag) (k1 k2 : Sk) (ta : TA) : TI := fun σ H R => ta σ H fun vs H1 => ∃ a b xs ys, vs = [.ref a, .ref b] ∧ SqS K k1 H1 a xs ∧ SqS K k2 H1 b ys ∧ R (ItzG K k1 a k2 b) H1
theorem zipG_call {prog : Program} {w : World} {A : Around} {E : Value → Shared → Prop} {s : Shared} {k1 k2 : Sk} {a b : Addr} {its jts : Array Value} {Q : Value → Shared → Prop} (h1 : OfS k1 s.heap a its) (h2 : OfS k2 s.heap b jts)
    (h : ∀ h', IsZip h' (s.heap.objs.size + 4) (s.heap.objs.size + 2) (s.heap.objs.size + 3) .none → IsTupOf2 h' (s.heap.objs.size + 2) (.ref s.heap.objs.size) (.ref (s.heap.objs.size + 1)) → IsTupOf2 h' (s.heap.objs.size + 3) .none .none →
      ItS k1 h' s.heap.objs.size a 0 → ItS k2 h' (s.heap.objs.size + 1) b 0 → (∀ c o, s.heap.get? c = some o → h'.get? c = some o) → Q (.ref (s.heap.objs.size + 4)) { s with heap := h' }) :
    wpAny (model prog w) A (call (.type "zip") [.ref a, .ref b]) Q E s := by
  refine callType_new F.called_zip (by decide) (F.typeCall_zip_2 _ _) (F.newCall_zip_2 _ _) (fun obj => F.args_object_init_3 obj _ _) F.entry_zip_new (meets_zip_newB2 (begins k1 a its) (begins k2 b jts)) ⟨⟨h1, h2⟩, ?_⟩
  have f1 : (itO k1 a).isFreed = false := by cases k1 <;> rfl
  have f2 : (itO k2 b).isFreed = false := by cases k2 <;> rfl
  have z1 : (s.heap.push (itO k1 a)).objs.size = s.heap.objs.size + 1 := Heap.size_push ..
  have z2 : ((s.heap.push (itO k1 a)).push (itO k2 b)).objs.size = s.heap.objs.size + 2 := by rw [Heap.size_push, z1]
  have z3 : (gzT2 s.heap (itO k1 a) (itO k2 b)).objs.size = s.heap.objs.size + 3 := by rw [gzT2, Heap.size_push, z2]
  have z4 : (gzO2 s.heap (itO k1 a) (itO k2 b)).objs.size = s.heap.objs.size + 4 := by rw [gzO2, Heap.size_push, z3]
  have g1 : (s.heap.push (itO k1 a)).get? s.heap.objs.size = some (itO k1 a) := Heap.get?_push_size s.heap f1
  have g2 : ((s.heap.push (itO k1 a)).push (itO k2 b)).get? (s.heap.objs.size + 1) = some (itO k2 b) := by
    have z := Heap.get?_push_size (s.heap.push (itO k1 a)) f2
    rwa [z1] at z
  have g3 : IsTupOf2 (gzT2 s.heap (itO k1 a) (itO k2 b)) (s.heap.objs.size + 2) (.ref s.heap.objs.size) (.ref (s.heap.objs.size + 1)) := by
    have z := Heap.get?_push_size ((s.heap.push (itO k1 a)).push (itO k2 b)) (o := { cls := .type "tuple", data := .seq #[.ref s.heap.objs.size, .ref (s.heap.push (itO k1 a)).objs.size] }) rfl
    rw [z2, z1] at z
    show (Heap.push _ { cls := .type "tuple", data := .seq #[.ref s.heap.objs.size, .ref (s.heap.push (itO k1 a)).objs.size] }).get? _ = _
    rw [z1]
    exact z
  have g4 : IsTupOf2 (gzO2 s.heap (itO k1 a) (itO k2 b)) (s.heap.objs.size + 3) .none .none := by
    have z := Heap.get?_push_size (gzT2 s.heap (itO k1 a) (itO k2 b)) (o := { cls := .type "tuple", data := .seq #[.none, .none] }) rfl
    rwa [z3] at z
  have g5 : IsZip (gzZ2 s.heap (itO k1 a) (itO k2 b)) (s.heap.objs.size + 4) (s.heap.objs.size + 2) (s.heap.objs.size + 3) .none := by
    have z := Heap.get?_push_size (gzO2 s.heap (itO k1 a) (itO k2 b)) (o := { cls := .type "zip", data := .fields #[.none, .bool false, .bool false, .ref ((s.heap.push (itO k1 a)).push (itO k2 b)).objs.size, .ref (gzT2 s.heap (itO k1 a) (itO k2 b)).objs.size] }) rfl
    show (Heap.push _ { cls := .type "zip", data := .fields #[.none, .bool false, .bool false, .ref ((s.heap.push (itO k1 a)).push (itO k2 b)).objs.size, .ref (gzT2 s.heap (itO k1 a) (itO k2 b)).objs.size] }).get? _ = _
    rw [z4, z2, z3] at z
    rw [z2, z3]
    exact z
  show _ ∧ _
  rw [z4]
  exact ⟨⟨_, g5, rfl⟩, h _ g5 (Heap.get?_push_of_some _ (Heap.get?_push_of_some _ g3)) (Heap.get?_push_of_some _ g4)
    (itO_is k1 (Heap.get?_push_of_some _ (Heap.get?_push_of_some _ (Heap.get?_push_of_some _ (Heap.get?_push_of_some _ g1)))))
    (itO_is k2 (Heap.get?_push_of_some _ (Heap.get?_push_of_some _ (Heap.get?_push_of_some _ g2))))
    fun c o q => Heap.get?_push_of_some _ (Heap.get?_push_of_some _ (Heap.get?_push_of_some _ (Heap.get?_push_of_some _ (Heap.get?_push_of_some _ q))))⟩
theorem pi_zipG {X : Cx} (K : PySem.W.Frag) (hK : X.K = K) (k1 k2 : Sk) {e e2 : Expr} {ta : TA} {p pos tpos : Pos} {elts : List Expr} {kk : Nat} (hg : Gl X "zip") (hm : X.mg "zip" = none) (ha : PA X [e, e2] ta) (hs : starEach [e, e2] X.env = (false, eval e X.env) :: starEach [e2] X.env := by rfl) (hs2 : ((backTo pos (starEach [e2] X.env)).any fun x => x.fst) = false := by rfl) :
    PI X (.Tuple elts kk tpos) (.Call (.Name "zip" p) [e, e2] [] pos) (iZipG K k1 k2 ta) := by
  subst hK
  refine ⟨fun pins s σ H R I h => ?_⟩
  refine Call_ (ld_blt I hg hm boot_zip (PyProof.Rows.callWith_type1 (thn (ha.run pos pins s σ H _ I h) fun us s1 ⟨vs, H1, I1, r1, q1⟩ => ?_) hs hs2))
  obtain ⟨a, b, xs, ys, ex, hx, hy, q⟩ := q1
  subst ex
  obtain ⟨u, v, rfl, ru, rv⟩ := vals2 r1
  cases (show u = Value.ref a from ru)
  cases (show v = Value.ref b from rv)
  obtain ⟨its, _, o1⟩ := src_of I1 hx
  obtain ⟨jts, _, o2⟩ := src_of I1 hy
  refine zipG_call o1 o2 fun h' z1 z2 z3 z4 z5 kept => wpAny_pyIter_zip z1 ?_
  have I2 := I1.kept (t' := s1.toks) kept
  refine ⟨s1.heap.objs.size + 4, [s1.heap.objs.size + 4, s1.heap.objs.size + 2, s1.heap.objs.size + 3, s1.heap.objs.size, s1.heap.objs.size + 1], _, _, H1, rfl, I2, turn_zipG k1 a k2 b s1.heap.objs.size o1.lt o2.lt, ⟨z1, z2, ⟨_, _, z3⟩, z4, z5⟩, fun c hc => ?_, q⟩
  have le : s1.heap.objs.size ≤ c := ge5 (by simpa using hc)
  exact I1.fpOk le (I1.hok.fresh le)
theorem walk_zipG {K : PySem.W.Frag} {k1 k2 : Sk} {a b : Addr} {xs ys : List V} {n : Nat} (hn : n = min xs.length ys.length) : Walk (ItzG K k1 a k2 b) n (fun H => SqS K k1 H a xs ∧ SqS K k2 H b ys) (YPair (fun i => xs[i]?) (fun i => ys[i]?)) := by
  refine ⟨fun i H hi q => ⟨xs, ys, xs[i]'(by omega), ys[i]'(by omega), q.1, q.2, by simp, by simp⟩, fun H q => ⟨xs, ys, q.1, q.2, hn⟩, fun i H v H' _ q y => ?_⟩
  obtain ⟨T, x, z, y1, y2, y3, y4, y5⟩ := y
  exact ⟨T, x, z, y1, y2, y3, y4 xs q.1, y5 ys q.2⟩
end NA
namespace NA
open PySem PySem.Spec PyProof.Rows L2
/-! ### zip of three -/
def ItzG3 (K : PySem.W.Frag) (k1 : Sk) (a : Addr) (k2 : Sk) (b : Addr) (k3 : Sk) (c : Addr) : It :=
  ⟨fun i H => ∃ (xs ys zs : List V) (x y z : V), SqS K k1 H a xs ∧ SqS K k2 H b ys ∧ SqS K k3 H c zs ∧ xs[i]? = some x ∧ ys[i]? = some y ∧ zs[i]? = some z,
   fun i H v H' => ∃ T x y z, v = .ref T ∧ H T = none ∧ H' = upd H T (.tup [x, y, z]) ∧ (∀ xs, SqS K k1 H a xs → xs[i]? = some x) ∧ (∀ ys, SqS K k2 H b ys → ys[i]? = some y) ∧ ∀ zs, SqS K k3 H c zs → zs[i]? = some z,
   fun i H => ∃ xs ys zs : List V, SqS K k1 H a xs ∧ SqS K k2 H b ys ∧ SqS K k3 H c zs ∧ i = min (min xs.length ys.length) zs.length⟩
theorem sep3 {n a b c : Nat} (la : a < n) (lb : b < n) (lc : c < n) : ZipSep3 (n + 5) (n + 3) (n + 4) n (n + 1) (n + 2) [n, a] [n + 1, b] [n + 2, c] :=
  ⟨nn (by omega), nn (by omega), nn (by omega), nn (by omega), List.mem_cons_self, nm2 (by omega) (by omega), nm2 (by omega) (by omega),
   nn (by omega), List.mem_cons_self, nm2 (by omega) (by omega), nm2 (by omega) (by omega), nn (by omega), List.mem_cons_self, nm2 (by omega) (by omega), nm2 (by omega) (by omega),
   nm2 (by omega) (by omega), nm2 (by omega) (by omega), nm2 (by omega) (by omega), nm2 (by omega) (by omega), nm2 (by omega) (by omega), nm2 (by omega) (by omega)⟩
theorem lt6 {n m c : Nat} (h : n + 5 < m) (e : c = n + 5 ∨ c = n + 3 ∨ c = n + 4 ∨ c = n ∨ c = n + 1 ∨ c = n + 2) : c < m := by omega
theorem ge6 {n c : Nat} (e : c = n + 5 ∨ c = n + 3 ∨ c = n + 4 ∨ c = n ∨ c = n + 1 ∨ c = n + 2) : n ≤ c := by omega
theorem turn_zipG3 {P : Program} {w : World} {K : PySem.W.Frag} {elts : List Expr} {kk : Nat} {tpos : Pos} (k1 : Sk) (a : Nat) (k2 : Sk) (b : Nat) (k3 : Sk) (c n : Nat) (la : a < n) (lb : b < n) (lc : c < n) :
    Turn P w K (.Tuple elts kk tpos) (ItzG3 K k1 a k2 b k3 c) [n + 5, n + 3, n + 4, n, n + 1, n + 2] (n + 5) (fun i h => IsZip h (n + 5) (n + 3) (n + 4) .none ∧ IsTupOf3 h (n + 3) (.ref n) (.ref (n + 1)) (.ref (n + 2)) ∧ (∃ x y z, IsTupOf3 h (n + 4) x y z) ∧ ItS k1 h n a i ∧ ItS k2 h (n + 1) b i ∧ ItS k3 h (n + 2) c i) where
  mem := by simp
  obj := fun i h st d hd => by
    obtain ⟨s1, s2, ⟨x, y, z, s3⟩, s4, s5, s6⟩ := st
    rcases (show d = n + 5 ∨ d = n + 3 ∨ d = n + 4 ∨ d = n ∨ d = n + 1 ∨ d = n + 2 by simpa using hd) with e | e | e | e | e | e <;> subst e
    · exact ⟨_, s1, fun v q => nomatch q⟩
    · exact ⟨_, s2, fun v q => nomatch q⟩
    · exact ⟨_, s3, fun v q => nomatch q⟩
    · exact s4.obj
    · exact s5.obj
    · exact s6.obj
  keep := fun i h h' st k => by
    obtain ⟨s1, s2, ⟨x, y, z, s3⟩, s4, s5, s6⟩ := st
    exact ⟨k _ (by simp) _ s1, k _ (by simp) _ s2, ⟨x, y, z, k _ (by simp) _ s3⟩, s4.at fun o q => k _ (by simp) o q, s5.at fun o q => k _ (by simp) o q, s6.at fun o q => k _ (by simp) o q⟩
  item := by
    intro X hP hw hK hc i pins s σ H E I hf st hg
    subst hP hw hK
    obtain ⟨s1, s2, ⟨p0, p1, p2, s3⟩, s4, s5, s6⟩ := st
    obtain ⟨xs, ys, zs, x, y, z, hx, hy, hz, ex, ey, ez⟩ := hg
    obtain ⟨its, rv, o1⟩ := src_of I hx
    obtain ⟨jts, rw2, o2⟩ := src_of I hy
    obtain ⟨kts, rw3, o3⟩ := src_of I hz
    obtain ⟨u, hu, ru⟩ := rv.get ex
    obtain ⟨v, hv, rv2⟩ := rw2.get ey
    obtain ⟨w3, hw3, rv3⟩ := rw3.get ez
    have lz : n + 5 < s.heap.objs.size := Heap.lt_size s1
    have sep := sep3 la lb lc
    have D1 := srcDraws (prog := X.prog) (w := X.w) (A := X.A.in1) k1 (I.ok.hd hc) n a (nn (by omega)) its.toArray
    have D2 := srcDraws (prog := X.prog) (w := X.w) (A := X.A.in1) k2 (I.ok.hd hc) (n + 1) b (nn (by omega)) jts.toArray
    have D3 := srcDraws (prog := X.prog) (w := X.w) (A := X.A.in1) k3 (I.ok.hd hc) (n + 2) c (nn (by omega)) kts.toArray
    refine wpAny_pyNext_zipD3_item sep D1 D2 D3 s1 s2 s3 ⟨s4, o1⟩ ⟨s5, o2⟩ ⟨s6, o3⟩ (by have := (List.getElem?_eq_some_iff.mp hu).1; simpa using this) (by have := (List.getElem?_eq_some_iff.mp hv).1; simpa using this) (by have := (List.getElem?_eq_some_iff.mp hw3).1; simpa using this) fun y1 y2 y3 h' tk q1 q2 q3 z1 z2 z3 z4 z5 hT hsz hk => ?_
    have e1 : y1 = u := Option.some.inj (q1.symm.trans (by simpa using hu))
    have e2 : y2 = v := Option.some.inj (q2.symm.trans (by simpa using hv))
    have e3 : y3 = w3 := Option.some.inj (q3.symm.trans (by simpa using hw3))
    subst e1 e2 e3
    refine ⟨_, rfl, wpAny_letOwnedTupleGo_zip (s := { s with heap := h', toks := tk }) z1 fun h'' hz'' sb => ?_⟩
    have sb' : ∀ d o, d ≠ n + 5 → h'.get? d = some o → h''.get? d = some o := fun d o hd q => (sb.2 d hd).trans q
    have hT2 : h''.get? s.heap.objs.size = some { cls := .type "tuple", data := .seq #[y1, y2, y3] } := sb' _ _ (nn (by omega)) hT
    have new : ObjOk X.prog X.w (upd H s.heap.objs.size (.tup [x, y, z])) h'' s.heap.objs.size (.tup [x, y, z]) :=
      ⟨by show 3 ≤ sizeLine; decide, [y1, y2, y3], .cons ru (.cons rv2 (.cons rv3 .nil)), ⟨_, hT2, rfl, _, rfl⟩⟩
    have I1 : Inv X pins σ (upd H s.heap.objs.size (.tup [x, y, z])) { s with heap := h'', toks := tk } :=
      I.turnedNew (ch := [n + 5, n + 3, n + 4, n, n + 1, n + 2]) (fun d ob hd q => by
        have hd' : d ≠ n + 5 ∧ d ≠ n + 3 ∧ d ≠ n + 4 ∧ d ≠ n ∧ d ≠ n + 1 ∧ d ≠ n + 2 := by simpa using hd
        exact sb' _ _ hd'.1 (hk d ob hd'.1 hd'.2.2.1 hd'.2.2.2.1 hd'.2.2.2.2.1 hd'.2.2.2.2.2 q)) hf (Nat.le_refl _) new
    refine ⟨.ref s.heap.objs.size, _, I1, rfl, ⟨_, x, y, z, rfl, I.hok.fresh (Nat.le_refl _), rfl, fun ws hw => by rw [src_inj I hw hx]; exact ex, fun ws hw => by rw [src_inj I hw hy]; exact ey, fun ws hw => by rw [src_inj I hw hz]; exact ez⟩,
      ⟨hz'', sb' _ _ (nn (by omega)) (hk _ _ (nn (by omega)) (nn (by omega)) (nn (by omega)) (nn (by omega)) (nn (by omega)) s2), ⟨_, _, _, sb' _ _ (nn (by omega)) z2⟩, z3.1.at fun o q => sb' _ _ (nn (by omega)) q, z4.1.at fun o q => sb' _ _ (nn (by omega)) q, z5.1.at fun o q => sb' _ _ (nn (by omega)) q⟩, fun d hd => ?_⟩
    have lt : d < s.heap.objs.size := lt6 lz (by simpa using hd)
    rw [upd_ne (Nat.ne_of_lt lt)]
    exact (hf d hd).1
  done := by
    intro X hP hw hK hc i pins s σ H E I hf st hg
    subst hP hw hK
    obtain ⟨s1, s2, ⟨p0, p1, p2, s3⟩, s4, s5, s6⟩ := st
    obtain ⟨xs, ys, zs, hx, hy, hz, ei⟩ := hg
    obtain ⟨its, rv, o1⟩ := src_of I hx
    obtain ⟨jts, rw2, o2⟩ := src_of I hy
    obtain ⟨kts, rw3, o3⟩ := src_of I hz
    have l1 := rv.length
    have l2 := rw2.length
    have l3 := rw3.length
    have sep := sep3 la lb lc
    have D1 := srcDraws (prog := X.prog) (w := X.w) (A := X.A.in1) k1 (I.ok.hd hc) n a (nn (by omega)) its.toArray
    have D2 := srcDraws (prog := X.prog) (w := X.w) (A := X.A.in1) k2 (I.ok.hd hc) (n + 1) b (nn (by omega)) jts.toArray
    have D3 := srcDraws (prog := X.prog) (w := X.w) (A := X.A.in1) k3 (I.ok.hd hc) (n + 2) c (nn (by omega)) kts.toArray
    refine wpAny_pyNext_zipD3_end sep D1 D2 D3 s1 s2 s3 ⟨s4, o1⟩ ⟨s5, o2⟩ ⟨s6, o3⟩ (by simp; omega) (by simp; omega) (by simp; omega) (by simp; omega) fun h' tk hk => ⟨rfl, ?_⟩
    exact I.turnedL (ch := [n + 5, n + 3, n + 4, n, n + 1, n + 2]) (fun d o hd q => by
      have hd' : d ≠ n + 5 ∧ d ≠ n + 3 ∧ d ≠ n + 4 ∧ d ≠ n ∧ d ≠ n + 1 ∧ d ≠ n + 2 := by simpa using hd
      exact hk d o hd'.1 hd'.2.2.1 hd'.2.2.2.1 hd'.2.2.2.2.1 hd'.2.2.2.2.2 q) hf
  self := fun A i s Q E st h => wpAny_pyIter_zip st.1 h
def iZipG3 (K : PySem.W.Frag) (k1 k2 k3 : Sk) (ta : TA) : TI := fun σ H R => ta σ H fun vs H1 => ∃ a b c xs ys zs, vs = [.ref a, .ref b, .ref c] ∧ SqS K k1 H1 a xs ∧ SqS K k2 H1 b ys ∧ SqS K k3 H1 c zs ∧ R (ItzG3 K k1 a k2 b k3 c) H1
theorem zipG3_call {prog : Program} {w : World} {A : Around} {E : Value → Shared → Prop} {s : Shared} {k1 k2 k3 : Sk} {a b c : Addr} {its jts kts : Array Value} {Q : Value → Shared → Prop} (h1 : OfS k1 s.heap a its) (h2 : OfS k2 s.heap b jts) (h3 : OfS k3 s.heap c kts)
    (h : ∀ h', IsZip h' (s.heap.objs.size + 5) (s.heap.objs.size + 3) (s.heap.objs.size + 4) .none → IsTupOf3 h' (s.heap.objs.size + 3) (.ref s.heap.objs.size) (.ref (s.heap.objs.size + 1)) (.ref (s.heap.objs.size + 2)) → IsTupOf3 h' (s.heap.objs.size + 4) .none .none .none →
      ItS k1 h' s.heap.objs.size a 0 → ItS k2 h' (s.heap.objs.size + 1) b 0 → ItS k3 h' (s.heap.objs.size + 2) c 0 → (∀ c o, s.heap.get? c = some o → h'.get? c = some o) → Q (.ref (s.heap.objs.size + 5)) { s with heap := h' }) :
    wpAny (model prog w) A (call (.type "zip") [.ref a, .ref b, .ref c]) Q E s := by
  refine callType_new F.called_zip (by decide) (F.typeCall_zip_3 _ _ _) (F.newCall_zip_3 _ _ _) (fun obj => F.args_object_init_4 obj _ _ _) F.entry_zip_new (meets_zip_newB3 (begins k1 a its) (begins k2 b jts) (begins k3 c kts)) ⟨⟨h1, h2, h3⟩, ?_⟩
  have f1 : (itO k1 a).isFreed = false := by cases k1 <;> rfl
  have f2 : (itO k2 b).isFreed = false := by cases k2 <;> rfl
  have f3 : (itO k3 c).isFreed = false := by cases k3 <;> rfl
  have z1 : (s.heap.push (itO k1 a)).objs.size = s.heap.objs.size + 1 := Heap.size_push ..
  have z2 : ((s.heap.push (itO k1 a)).push (itO k2 b)).objs.size = s.heap.objs.size + 2 := by rw [Heap.size_push, z1]
  have z3 : (((s.heap.push (itO k1 a)).push (itO k2 b)).push (itO k3 c)).objs.size = s.heap.objs.size + 3 := by rw [Heap.size_push, z2]
  have z4 : (gzT3 s.heap (itO k1 a) (itO k2 b) (itO k3 c)).objs.size = s.heap.objs.size + 4 := by rw [gzT3, Heap.size_push, z3]
  have z5 : (gzO3 s.heap (itO k1 a) (itO k2 b) (itO k3 c)).objs.size = s.heap.objs.size + 5 := by rw [gzO3, Heap.size_push, z4]
  have g1 : (s.heap.push (itO k1 a)).get? s.heap.objs.size = some (itO k1 a) := Heap.get?_push_size s.heap f1
  have g2 : ((s.heap.push (itO k1 a)).push (itO k2 b)).get? (s.heap.objs.size + 1) = some (itO k2 b) := by
    have z := Heap.get?_push_size (s.heap.push (itO k1 a)) f2
    rwa [z1] at z
  have g2' : (((s.heap.push (itO k1 a)).push (itO k2 b)).push (itO k3 c)).get? (s.heap.objs.size + 2) = some (itO k3 c) := by
    have z := Heap.get?_push_size ((s.heap.push (itO k1 a)).push (itO k2 b)) f3
    rwa [z2] at z
  have g3 : IsTupOf3 (gzT3 s.heap (itO k1 a) (itO k2 b) (itO k3 c)) (s.heap.objs.size + 3) (.ref s.heap.objs.size) (.ref (s.heap.objs.size + 1)) (.ref (s.heap.objs.size + 2)) := by
    have z := Heap.get?_push_size (((s.heap.push (itO k1 a)).push (itO k2 b)).push (itO k3 c)) (o := { cls := .type "tuple", data := .seq #[.ref s.heap.objs.size, .ref (s.heap.push (itO k1 a)).objs.size, .ref ((s.heap.push (itO k1 a)).push (itO k2 b)).objs.size] }) rfl
    rw [z3, z2, z1] at z
    show (Heap.push _ { cls := .type "tuple", data := .seq #[.ref s.heap.objs.size, .ref (s.heap.push (itO k1 a)).objs.size, .ref ((s.heap.push (itO k1 a)).push (itO k2 b)).objs.size] }).get? _ = _
    rw [z2, z1]
    exact z
  have g4 : IsTupOf3 (gzO3 s.heap (itO k1 a) (itO k2 b) (itO k3 c)) (s.heap.objs.size + 4) .none .none .none := by
    have z := Heap.get?_push_size (gzT3 s.heap (itO k1 a) (itO k2 b) (itO k3 c)) (o := { cls := .type "tuple", data := .seq #[.none, .none, .none] }) rfl
    rwa [z4] at z
  have g5 : IsZip (gzZ3 s.heap (itO k1 a) (itO k2 b) (itO k3 c)) (s.heap.objs.size + 5) (s.heap.objs.size + 3) (s.heap.objs.size + 4) .none := by
    have z := Heap.get?_push_size (gzO3 s.heap (itO k1 a) (itO k2 b) (itO k3 c)) (o := { cls := .type "zip", data := .fields #[.none, .bool false, .bool false, .ref (((s.heap.push (itO k1 a)).push (itO k2 b)).push (itO k3 c)).objs.size, .ref (gzT3 s.heap (itO k1 a) (itO k2 b) (itO k3 c)).objs.size] }) rfl
    show (Heap.push _ { cls := .type "zip", data := .fields #[.none, .bool false, .bool false, .ref (((s.heap.push (itO k1 a)).push (itO k2 b)).push (itO k3 c)).objs.size, .ref (gzT3 s.heap (itO k1 a) (itO k2 b) (itO k3 c)).objs.size] }).get? _ = _
    rw [z5, z3, z4] at z
    rw [z3, z4]
    exact z
  show _ ∧ _
  rw [z5]
  exact ⟨⟨_, g5, rfl⟩, h _ g5 (Heap.get?_push_of_some _ (Heap.get?_push_of_some _ g3)) (Heap.get?_push_of_some _ g4)
    (itO_is k1 (Heap.get?_push_of_some _ (Heap.get?_push_of_some _ (Heap.get?_push_of_some _ (Heap.get?_push_of_some _ (Heap.get?_push_of_some _ g1))))))
    (itO_is k2 (Heap.get?_push_of_some _ (Heap.get?_push_of_some _ (Heap.get?_push_of_some _ (Heap.get?_push_of_some _ g2)))))
    (itO_is k3 (Heap.get?_push_of_some _ (Heap.get?_push_of_some _ (Heap.get?_push_of_some _ g2'))))
    fun c o q => Heap.get?_push_of_some _ (Heap.get?_push_of_some _ (Heap.get?_push_of_some _ (Heap.get?_push_of_some _ (Heap.get?_push_of_some _ (Heap.get?_push_of_some _ q)))))⟩
theorem vals3 {x y z : V} {us : List Value} (h : Vals [x, y, z] us) : ∃ u v w, us = [u, v, w] ∧ RelV x u ∧ RelV y v ∧ RelV z w := by
  cases h with
  | cons a h =>
    cases h with
    | cons b h =>
      cases h with
      | cons c h =>
        cases h
        exact ⟨_, _, _, rfl, a, b, c⟩
theorem pi_zipG3 {X : Cx} (K : PySem.W.Frag) (hK : X.K = K) (k1 k2 k3 : Sk) {e e2 e3 : Expr} {ta : TA} {p pos tpos : Pos} {elts : List Expr} {kk : Nat} (hg : Gl X "zip") (hm : X.mg "zip" = none) (ha : PA X [e, e2, e3] ta) (hs : starEach [e, e2, e3] X.env = (false, eval e X.env) :: starEach [e2, e3] X.env := by rfl) (hs2 : ((backTo pos (starEach [e2, e3] X.env)).any fun x => x.fst) = false := by rfl) :
    PI X (.Tuple elts kk tpos) (.Call (.Name "zip" p) [e, e2, e3] [] pos) (iZipG3 K k1 k2 k3 ta) := by
  subst hK
  refine ⟨fun pins s σ H R I h => ?_⟩
  refine Call_ (ld_blt I hg hm boot_zip (PyProof.Rows.callWith_type1 (thn (ha.run pos pins s σ H _ I h) fun us s1 ⟨vs, H1, I1, r1, q1⟩ => ?_) hs hs2))
  obtain ⟨a, b, c, xs, ys, zs, ex, hx, hy, hz, q⟩ := q1
  subst ex
  obtain ⟨u, v, w3, rfl, ru, rv, rw3⟩ := vals3 r1
  cases (show u = Value.ref a from ru)
  cases (show v = Value.ref b from rv)
  cases (show w3 = Value.ref c from rw3)
  obtain ⟨its, _, o1⟩ := src_of I1 hx
  obtain ⟨jts, _, o2⟩ := src_of I1 hy
  obtain ⟨kts, _, o3⟩ := src_of I1 hz
  refine zipG3_call o1 o2 o3 fun h' z1 z2 z3 z4 z5 z6 kept => wpAny_pyIter_zip z1 ?_
  have I2 := I1.kept (t' := s1.toks) kept
  refine ⟨s1.heap.objs.size + 5, [s1.heap.objs.size + 5, s1.heap.objs.size + 3, s1.heap.objs.size + 4, s1.heap.objs.size, s1.heap.objs.size + 1, s1.heap.objs.size + 2], _, _, H1, rfl, I2, turn_zipG3 k1 a k2 b k3 c s1.heap.objs.size o1.lt o2.lt o3.lt, ⟨z1, z2, ⟨_, _, _, z3⟩, z4, z5, z6⟩, fun d hd => ?_, q⟩
  have le : s1.heap.objs.size ≤ d := ge6 (by simpa using hd)
  exact I1.fpOk le (I1.hok.fresh le)
def YTri (xs ys zs : Nat → Option V) : Nat → Hp → V → Hp → Prop := fun i H v H' => ∃ T x y z, v = .ref T ∧ H T = none ∧ H' = upd H T (.tup [x, y, z]) ∧ xs i = some x ∧ ys i = some y ∧ zs i = some z
theorem walk_zipG3 {K : PySem.W.Frag} {k1 k2 k3 : Sk} {a b c : Addr} {xs ys zs : List V} {n : Nat} (hn : n = min (min xs.length ys.length) zs.length) : Walk (ItzG3 K k1 a k2 b k3 c) n (fun H => SqS K k1 H a xs ∧ SqS K k2 H b ys ∧ SqS K k3 H c zs) (YTri (fun i => xs[i]?) (fun i => ys[i]?) (fun i => zs[i]?)) := by
  refine ⟨fun i H hi q => ⟨xs, ys, zs, xs[i]'(by omega), ys[i]'(by omega), zs[i]'(by omega), q.1, q.2.1, q.2.2, by simp, by simp, by simp⟩, fun H q => ⟨xs, ys, zs, q.1, q.2.1, q.2.2, hn⟩, fun i H v H' _ q y => ?_⟩
  obtain ⟨T, x, z, u, y1, y2, y3, y4, y5, y6⟩ := y
  exact ⟨T, x, z, u, y1, y2, y3, y4 xs q.1, y5 ys q.2.1, y6 zs q.2.2⟩
end NA
namespace NA
open PySem PySem.Spec PyProof.Rows L2
/-! ### deeds, programs, contents: data and promises of what draws them -/
theorem ix_anyK {X : Cx} (K : PySem.W.Frag) (hK : X.K = K) : IxR X (fun x y H Q => rIxL K x y H Q ∨ rIxT K x y H Q) := fun value slice pins s σ H x y v u Q I rx ry h e =>
  h.elim (fun h => ix_listK K hK value slice pins s σ H x y v u Q I rx ry h e) (fun h => ix_tupK K hK value slice pins s σ H x y v u Q I rx ry h e)
theorem cr_sumK {X : Cx} (K : PySem.W.Frag) (hK : X.K = K) (hc : X.calm = true) : CallR X (.builtin "sum") (rSum K) := hK ▸ cr_sum hc
theorem Cal.weak {P : Program} {w : World} {K : PySem.W.Frag} {mg : Str → Option Value} {base : Heap} {x : Str} {k : Nat} {sp sp' : Sp} (c : Cal P w K mg base k x sp) (f : ∀ vs H Q E, sp' vs H Q E → sp vs H Q E) : Cal P w K mg base k x sp' := by
  obtain ⟨a, fd, ps, F, r⟩ := c.ex
  exact ⟨a, fd, ps, ⟨fun vs H Q E h => F.len vs H Q E (f vs H Q E h), fun A outer s H args us vs Q E hr he hb hv h => F.run A outer s H args us vs Q E hr he hb hv (f vs H Q E h)⟩, r⟩
def spDipW : Sp := fun vs H Q _ => ∃ (p q : Addr) (n : Int), vs = [.ref p, .int n] ∧ Pt H p q ∧ 0 < n ∧ n.natAbs < 2 ^ 4000 ∧ ∀ (r : Int) (H' : Hp), 0 ≤ r → r < n → Pt H' p q → Kp p q H H' → Q (.int r) H'
theorem dip_of {vs : List V} {H : Hp} {Q : VK} {E : XK} (h : spDip vs H Q E) : spDipW vs H Q E := by
  obtain ⟨p, q, n, e, hP, n0, n1, k⟩ := h
  exact ⟨p, q, n, e, hP, n0, Nat.lt_trans (show n.natAbs < 1073741824 by omega) (by decide), k⟩
def spPickA : Sp := fun vs H Q _ => ∃ (p q a : Addr) (xs : List V) (o : HO), vs = [.ref p, .ref a] ∧ Pt H p q ∧ H a = some o ∧ ((o = .lst xs ∧ a ≠ p ∧ a ≠ q) ∨ o = .tup xs) ∧ xs ≠ [] ∧ xs.length < 1000 ∧
  ∀ (v : V) (H' : Hp), v ∈ xs → Pt H' p q → Kp p q H H' → Q v H'
theorem pick_of {vs : List V} {H : Hp} {Q : VK} {E : XK} (h : spPick vs H Q E) : spPickA vs H Q E := by
  obtain ⟨p, q, a, xs, e, hP, ha, n1, n2, ne, lt, k⟩ := h
  exact ⟨p, q, a, xs, _, e, hP, ha, .inl ⟨rfl, n1, n2⟩, ne, lt, k⟩
def dD (d : Nat × Nat × Int) : PyData := .tuple [.int d.1, .int d.2.1, .int d.2.2]
def pD (l : List (Nat × Nat × Int)) : PyData := .tuple (l.map dD)
/-- a deed of a machine -/
structure DOk (ss : List Int) (ws : List (Nat × Nat)) (d : Nat × Nat × Int) : Prop where
  wire : (d.1, d.2.1) ∈ ws
  most : d.2.2.natAbs ≤ 10 ^ 60
  step : ∃ a b : Nat, ss[d.1]? = some (a : Int) ∧ ss[d.2.1]? = some (b : Int) ∧ ((stp a b : Nat) : Int) ∣ d.2.2
/-- contents of sizes -/
structure COk (ss hs : List Int) : Prop where
  len : hs.length = ss.length
  low : ∀ (i : Nat) (h s : Int), hs[i]? = some h → ss[i]? = some s → 0 ≤ h ∧ h < s
def spDeed : Sp := fun vs H Q _ => ∃ (p q : Addr) (v : V) (ss : List Int) (ws : List (Nat × Nat)), vs = [.ref p, v] ∧ Pt H p q ∧ Im H v (mD ss ws) ∧ MOk ss ws ∧ ws ≠ [] ∧
  ∀ (u : V) (d : Nat × Nat × Int) (H' : Hp), Im H' u (dD d) → DOk ss ws d → Pt H' p q → Kp p q H H' → Q u H'
def spProgram : Sp := fun vs H Q _ => ∃ (p q : Addr) (v : V) (ss : List Int) (ws : List (Nat × Nat)) (m : Nat), vs = [.ref p, v, .int m] ∧ Pt H p q ∧ Im H v (mD ss ws) ∧ MOk ss ws ∧ m ≤ 900 ∧
  ∀ (u : V) (l : List (Nat × Nat × Int)) (H' : Hp), Im H' u (pD l) → (∀ d ∈ l, DOk ss ws d) → l.length ≤ m → Pt H' p q → Kp p q H H' → Q u H'
def spContents : Sp := fun vs H Q _ => ∃ (p q : Addr) (v : V) (ss : List Int), vs = [.ref p, v] ∧ Pt H p q ∧ Im H v (sD ss) ∧ (∀ s ∈ ss, SizeOk s) ∧ ss.length ≤ 900 ∧
  ∀ (u : V) (hs : List Int) (H' : Hp), Im H' u (sD hs) → COk ss hs → Pt H' p q → Kp p q H H' → Q u H'
theorem SizeOk.nat {s : Int} (h : SizeOk s) : ∃ m : Nat, s = (m : Int) ∧ 2 ≤ m ∧ m ≤ 10 ^ 30 := by
  obtain ⟨m, e, a, b, _⟩ := h
  exact ⟨m, e, a, b⟩
theorem stp_le {a b : Nat} (hb : 0 < b) : 0 < stp a b ∧ stp a b ≤ b := ⟨stp_pos hb, Nat.div_le_self _ _⟩
/-- the law's own deed by deed, of any integers -/
def addI (ns : List Int) (d : Nat × Nat × Int) : List Int := ns.set d.2.1 (ns.getD d.2.1 0 + d.2.2 * ns.getD d.1 0)
def farI (l : List (Nat × Nat × Int)) (ns : List Int) : List Int := l.foldl addI ns
def remI (ns ss : List Int) : List Int := List.zipWith (fun n s => n % s) ns ss
def runI (ss : List Int) (l : List (Nat × Nat × Int)) (ns : List Int) : List Int := remI (farI l ns) ss
theorem addI_len (ns : List Int) (d : Nat × Nat × Int) : (addI ns d).length = ns.length := List.length_set ..
theorem farI_next {l : List (Nat × Nat × Int)} {ns : List Int} {i : Nat} {d : Nat × Nat × Int} (h : l[i]? = some d) : farI (l.take (i + 1)) ns = addI (farI (l.take i) ns) d := by
  unfold farI
  rw [List.take_add_one, h, List.foldl_append]
  rfl
def mostI (B : Nat) (ns : List Int) : Prop := ∀ n ∈ ns, n.natAbs < 2 ^ B
theorem getD_most {B : Nat} {ns : List Int} (h : mostI B ns) (i : Nat) : (ns.getD i 0).natAbs < 2 ^ B := by
  rw [List.getD_eq_getElem?_getD]
  cases e : ns[i]? with
  | none => exact Nat.pow_pos (by decide)
  | some x => exact h x (List.mem_of_getElem? e)
theorem addI_most {B : Nat} {ns : List Int} {d : Nat × Nat × Int} (h : mostI B ns) (hd : d.2.2.natAbs < 2 ^ 200) : mostI (B + 201) (addI ns d) := by
  intro n hn
  have up : 2 ^ B ≤ 2 ^ (B + 200) := Nat.pow_le_pow_right (by decide) (by omega)
  have e2 : 2 ^ (B + 201) = 2 ^ (B + 200) + 2 ^ (B + 200) := by rw [show B + 201 = B + 200 + 1 by omega, Nat.pow_succ]; omega
  rcases List.mem_or_eq_of_mem_set hn with m | e
  · have := h n m
    omega
  · have a := getD_most h d.2.1
    have b := getD_most h d.1
    have c : (d.2.2 * ns.getD d.1 0).natAbs < 2 ^ (B + 200) := by
      rw [Int.natAbs_mul, Nat.pow_add, Nat.mul_comm]
      exact Nat.mul_lt_mul'' b hd
    rw [e]
    have := Int.natAbs_add_le (ns.getD d.2.1 0) (d.2.2 * ns.getD d.1 0)
    omega
def spRunI (K : PySem.W.Frag) : Sp := fun vs H Q _ => ∃ (v u : V) (a : Addr) (ss ns : List Int) (l : List (Nat × Nat × Int)), vs = [v, u, .ref a] ∧ Im H v (sD ss) ∧ Im H u (pD l) ∧ (SqL K H a (ns.map V.int) ∨ SqT K H a (ns.map V.int)) ∧
  ns.length = ss.length ∧ ss.length ≤ 100 ∧ (∀ s ∈ ss, SizeOk s) ∧ (∀ d ∈ l, d.1 < ss.length ∧ d.2.1 < ss.length ∧ d.2.2.natAbs ≤ 10 ^ 60) ∧ l.length ≤ 1000 ∧ mostI 5000 ns ∧
  ∀ (y : V) (H' : Hp), Im H' y (sD (runI ss l ns)) → Same H H' → Q y H'
end NA
namespace NA
open PySem PySem.Spec PyProof.Rows L2
/-! ### tables: data and promises -/
def tD (t : List (List Int)) : PyData := .tuple (t.map sD)
def dot (row hs : List Int) : Int := (List.zipWith (fun e h => e * h) row hs).sum
def ledI (ss : List Int) (t : List (List Int)) (hs : List Int) : List Int := List.zipWith (fun row s => dot row hs % s) t ss
def colI (one : List (List Int)) (j : Nat) : List Int := one.map fun r => r.getD j 0
def bothI (ss : List Int) (one other : List (List Int)) : List (List Int) := List.zipWith (fun row s => (List.range ss.length).map fun j => dot row (colI one j) % s) other ss
def stillI (n : Nat) : List (List Int) := (List.range n).map fun i => (List.range n).map fun j => if i = j then 1 else 0
/-- as many rows as sizes, each as long, entries not too great -/
structure TSh (n : Nat) (t : List (List Int)) : Prop where
  len : t.length = n
  row : ∀ r ∈ t, r.length = n
  most : ∀ r ∈ t, mostI 300 r
/-- a table of sizes -/
structure TOk (ss : List Int) (t : List (List Int)) : Prop where
  len : t.length = ss.length
  row : ∀ r ∈ t, r.length = ss.length
  low : ∀ (i j : Nat) (r : List Int) (e s : Int), t[i]? = some r → r[j]? = some e → ss[i]? = some s → 0 ≤ e ∧ e < s
  step : ∀ (i j : Nat) (r : List Int) (e : Int), t[i]? = some r → r[j]? = some e → i ≠ j → ∃ a b : Nat, ss[j]? = some (a : Int) ∧ ss[i]? = some (b : Int) ∧ ((stp a b : Nat) : Int) ∣ e
theorem Im.row {H : Hp} {vs : List V} {t : List (List Int)} {i : Nat} {r : List Int} (h : ImAll H vs (t.map sD)) (e : t[i]? = some r) : ∃ a, vs[i]? = some (.ref a) ∧ H a = some (.tup (r.map V.int)) := by
  obtain ⟨v, h1, h2⟩ := h.get (i := i) (d := sD r) (by rw [List.getElem?_map, e]; rfl)
  obtain ⟨a, xs, rfl, ha, ix⟩ := h2.tuple
  have := ix.ints
  subst this
  exact ⟨a, h1, ha⟩
def spLed : Sp := fun vs H Q _ => ∃ (x y z : V) (ss : List Int) (t : List (List Int)) (hs : List Int), vs = [x, y, z] ∧ Im H x (sD ss) ∧ Im H y (tD t) ∧ Im H z (sD hs) ∧ (∀ s ∈ ss, SizeOk s) ∧ ss.length ≤ 100 ∧ TSh ss.length t ∧ hs.length = ss.length ∧ mostI 300 hs ∧
  ∀ (u : V) (H' : Hp), Im H' u (sD (ledI ss t hs)) → Same H H' → Q u H'
def spBoth : Sp := fun vs H Q _ => ∃ (x y z : V) (ss : List Int) (one other : List (List Int)), vs = [x, y, z] ∧ Im H x (sD ss) ∧ Im H y (tD one) ∧ Im H z (tD other) ∧ (∀ s ∈ ss, SizeOk s) ∧ ss.length ≤ 100 ∧ TSh ss.length one ∧ TSh ss.length other ∧
  ∀ (u : V) (H' : Hp), Im H' u (tD (bothI ss one other)) → Same H H' → Q u H'
def spStill : Sp := fun vs H Q _ => ∃ (x : V) (ss : List Int), vs = [x] ∧ Im H x (sD ss) ∧ ss.length ≤ 100 ∧ ∀ (u : V) (H' : Hp), Im H' u (tD (stillI ss.length)) → Same H H' → Q u H'
def spTable : Sp := fun vs H Q _ => ∃ (p q : Addr) (v : V) (ss : List Int), vs = [.ref p, v] ∧ Pt H p q ∧ Im H v (sD ss) ∧ (∀ s ∈ ss, SizeOk s) ∧ ss.length ≤ 100 ∧
  ∀ (u : V) (t : List (List Int)) (H' : Hp), Im H' u (tD t) → TOk ss t → Pt H' p q → Kp p q H H' → Q u H'
theorem mul_wide {a b : Int} {A B : Nat} (ha : a.natAbs < 2 ^ A) (hb : b.natAbs < 2 ^ B) (h : A + B + 2 ≤ 900000) : CMulW a b :=
  wide_mul (a := A + 1) (b := B + 1) (Nat.lt_of_lt_of_le ha (Nat.pow_le_pow_right (by decide) (by omega))) (Nat.lt_of_lt_of_le hb (Nat.pow_le_pow_right (by decide) (by omega))) (by omega) (by omega) (by omega)
/-! rows that are lists yet -/
structure Rws (p q R : Addr) (H : Hp) (rs : List Addr) (t : List (List Int)) : Prop where
  top : H R = some (.lst (rs.map V.ref))
  len : rs.length = t.length
  row : ∀ (i : Nat) (a : Addr), rs[i]? = some a → ∃ r, t[i]? = some r ∧ H a = some (.lst (r.map V.int))
  nd : rs.Nodup
  off : ∀ a ∈ rs, a ≠ R ∧ a ≠ p ∧ a ≠ q
theorem Rws.kp {p q R : Addr} {H H' : Hp} {rs : List Addr} {t : List (List Int)} (h : Rws p q R H rs t) (nR : R ≠ p ∧ R ≠ q) (k : Kp p q H H') : Rws p q R H' rs t :=
  ⟨k _ _ nR.1 nR.2 h.top, h.len, fun i a e => by
    obtain ⟨r, h1, h2⟩ := h.row i a e
    have o := h.off a (List.mem_of_getElem? e)
    exact ⟨r, h1, k _ _ o.2.1 o.2.2 h2⟩, h.nd, h.off⟩
theorem Rws.same {p q R : Addr} {H H' : Hp} {rs : List Addr} {t : List (List Int)} (h : Rws p q R H rs t) (k : Same H H') : Rws p q R H' rs t :=
  ⟨k _ _ h.top, h.len, fun i a e => by
    obtain ⟨r, h1, h2⟩ := h.row i a e
    exact ⟨r, h1, k _ _ h2⟩, h.nd, h.off⟩
theorem Rws.set {p q R : Addr} {H : Hp} {rs : List Addr} {t : List (List Int)} (h : Rws p q R H rs t) {i : Nat} {a : Addr} (e : rs[i]? = some a) (r : List Int) : Rws p q R (upd H a (.lst (r.map V.int))) rs (t.set i r) := by
  have o := h.off a (List.mem_of_getElem? e)
  refine ⟨?_, by rw [List.length_set]; exact h.len, fun j b eb => ?_, h.nd, h.off⟩
  · rw [upd_ne (Ne.symm o.1)]
    exact h.top
  · have li : i < t.length := by rw [← h.len]; exact (List.getElem?_eq_some_iff.mp e).1
    by_cases ij : i = j
    · subst ij
      rw [e] at eb
      cases eb
      exact ⟨r, by rw [List.getElem?_set_self li], upd_same⟩
    · obtain ⟨r', h1, h2⟩ := h.row j b eb
      refine ⟨r', by rw [List.getElem?_set_ne ij]; exact h1, ?_⟩
      have nb : b ≠ a := fun z => by
        subst z
        obtain ⟨l1, g1⟩ := List.getElem?_eq_some_iff.mp e
        obtain ⟨l2, g2⟩ := List.getElem?_eq_some_iff.mp eb
        rcases Nat.lt_or_gt_of_ne ij with lt | lt
        · exact (List.pairwise_iff_getElem.mp h.nd i j l1 l2 lt) (g1.trans g2.symm)
        · exact (List.pairwise_iff_getElem.mp h.nd j i l2 l1 lt) (g2.trans g1.symm)
      rw [upd_ne nb]
      exact h2
theorem Rws.put {p q R a : Addr} {H : Hp} {rs : List Addr} {t : List (List Int)} {r : List Int} (h : Rws p q R H rs t) (nR : R ≠ p ∧ R ≠ q) (ha : H a = some (.lst (r.map V.int))) (n1 : a ∉ rs) (n2 : a ≠ R ∧ a ≠ p ∧ a ≠ q) : Rws p q R (upd H R (.lst (rs.map V.ref ++ [.ref a]))) (rs ++ [a]) (t ++ [r]) := by
  refine ⟨by rw [upd_same, List.map_append]; rfl, by rw [List.length_append, List.length_append, h.len]; rfl, fun i b eb => ?_, ?_, fun b hb => ?_⟩
  · by_cases e : i < rs.length
    · rw [List.getElem?_append_left e] at eb
      obtain ⟨r', h1, h2⟩ := h.row i b eb
      have o := h.off b (List.mem_of_getElem? eb)
      exact ⟨r', by rw [List.getElem?_append_left (by rw [← h.len]; exact e)]; exact h1, by rw [upd_ne o.1]; exact h2⟩
    · rw [List.getElem?_append_right (by omega)] at eb
      have z : i - rs.length = 0 := by
        have := (List.getElem?_eq_some_iff.mp eb).1
        rw [List.length_singleton] at this
        omega
      rw [z] at eb
      cases eb
      refine ⟨r, by rw [List.getElem?_append_right (by have := h.len; omega), ← h.len, z]; rfl, by rw [upd_ne n2.1]; exact ha⟩
  · refine List.nodup_append.mpr ⟨h.nd, List.pairwise_singleton _ a, fun x hx y hy e => ?_⟩
    rw [List.mem_singleton.mp hy] at e
    exact n1 (e ▸ hx)
  · rcases List.mem_append.mp hb with hb | hb
    · exact h.off b hb
    · rw [List.mem_singleton.mp hb]
      exact n2
theorem stp_dvd (a b : Nat) : stp a b ∣ b := Nat.div_dvd_of_dvd (Nat.gcd_dvd_left b a)
theorem TOk.still {ss : List Int} (ok : ∀ s ∈ ss, SizeOk s) : TOk ss (stillI ss.length) := by
  have g : ∀ (i j : Nat) (r : List Int) (e : Int), (stillI ss.length)[i]? = some r → r[j]? = some e → i < ss.length ∧ j < ss.length ∧ e = if i = j then 1 else 0 := fun i j r e h1 h2 => by
    unfold stillI at h1
    rw [List.getElem?_map] at h1
    have li : i < ss.length := Nat.lt_of_not_le fun z => by
      rw [List.getElem?_eq_none (by rw [List.length_range]; exact z)] at h1
      cases h1
    rw [List.getElem?_eq_getElem (by rw [List.length_range]; exact li), List.getElem_range] at h1
    cases h1
    rw [List.getElem?_map] at h2
    have lj : j < ss.length := Nat.lt_of_not_le fun z => by
      rw [List.getElem?_eq_none (by rw [List.length_range]; exact z)] at h2
      cases h2
    rw [List.getElem?_eq_getElem (by rw [List.length_range]; exact lj), List.getElem_range] at h2
    cases h2
    exact ⟨li, lj, rfl⟩
  refine ⟨by unfold stillI; rw [List.length_map, List.length_range], fun r hr => ?_, fun i j r e s h1 h2 h3 => ?_, fun i j r e h1 h2 n => ?_⟩
  · obtain ⟨i, _, rfl⟩ := List.mem_map.mp hr
    rw [List.length_map, List.length_range]
  · obtain ⟨li, lj, rfl⟩ := g i j r e h1 h2
    obtain ⟨m, rfl, m2, _⟩ := (ok s (List.mem_of_getElem? h3)).nat
    split <;> omega
  · obtain ⟨li, lj, rfl⟩ := g i j r e h1 h2
    rw [if_neg n]
    obtain ⟨m, em, _⟩ := (ok ss[j] (List.getElem_mem lj)).nat
    obtain ⟨k, ek, _⟩ := (ok ss[i] (List.getElem_mem li)).nat
    exact ⟨m, k, by rw [List.getElem?_eq_getElem lj, em], by rw [List.getElem?_eq_getElem li, ek], Int.dvd_zero _⟩
theorem TOk.set {ss : List Int} {t : List (List Int)} (h : TOk ss t) {i j : Nat} {r : List Int} {e : Int} (hi : t[i]? = some r) (low : ∀ s, ss[i]? = some s → 0 ≤ e ∧ e < s) (st : i ≠ j → ∃ a b : Nat, ss[j]? = some (a : Int) ∧ ss[i]? = some (b : Int) ∧ ((stp a b : Nat) : Int) ∣ e) : TOk ss (t.set i (r.set j e)) := by
  have li : i < t.length := (List.getElem?_eq_some_iff.mp hi).1
  have g : ∀ (k l : Nat) (r' : List Int) (e' : Int), (t.set i (r.set j e))[k]? = some r' → r'[l]? = some e' → (k = i ∧ l = j ∧ e' = e) ∨ ∃ r'', t[k]? = some r'' ∧ r''[l]? = some e' := fun k l r' e' h1 h2 => by
    by_cases ik : i = k
    · subst ik
      rw [List.getElem?_set_self li] at h1
      cases h1
      by_cases jl : j = l
      · subst jl
        have lj : j < r.length := Nat.lt_of_not_le fun z => by
          rw [List.getElem?_eq_none (by rw [List.length_set]; exact z)] at h2
          cases h2
        rw [List.getElem?_set_self lj] at h2
        cases h2
        exact .inl ⟨rfl, rfl, rfl⟩
      · rw [List.getElem?_set_ne jl] at h2
        exact .inr ⟨r, hi, h2⟩
    · rw [List.getElem?_set_ne ik] at h1
      exact .inr ⟨r', h1, h2⟩
  refine ⟨by rw [List.length_set]; exact h.len, fun r' hr => ?_, fun k l r' e' s h1 h2 h3 => ?_, fun k l r' e' h1 h2 n => ?_⟩
  · rcases List.mem_or_eq_of_mem_set hr with m | m
    · exact h.row r' m
    · rw [m, List.length_set]
      exact h.row r (List.mem_of_getElem? hi)
  · rcases g k l r' e' h1 h2 with ⟨rfl, rfl, rfl⟩ | ⟨r'', a, b⟩
    · exact low s h3
    · exact h.low k l r'' e' s a b h3
  · rcases g k l r' e' h1 h2 with ⟨rfl, rfl, rfl⟩ | ⟨r'', a, b⟩
    · exact st n
    · exact h.step k l r'' e' a b n
end NA
namespace NA
/-! ### the mathematics of deeds -/
theorem mod_eq {a b s : Int} : a % s = b % s ↔ s ∣ a - b := by
  rw [Int.emod_eq_emod_iff_emod_sub_eq_zero, Int.dvd_iff_emod_eq_zero]
theorem stp_hit {a b : Nat} {c : Int} (h : ((stp a b : Nat) : Int) ∣ c) : (b : Int) ∣ c * (a : Int) := by
  obtain ⟨k, rfl⟩ := h
  have e : b ∣ stp a b * a := by
    unfold stp
    obtain ⟨t, ht⟩ := Nat.gcd_dvd_right b a
    refine ⟨t, ?_⟩
    have d := Nat.div_mul_cancel (Nat.gcd_dvd_left b a)
    calc b / Nat.gcd b a * a = b / Nat.gcd b a * (Nat.gcd b a * t) := by rw [← ht]
      _ = b / Nat.gcd b a * Nat.gcd b a * t := by rw [Nat.mul_assoc]
      _ = b * t := by rw [d]
  have e2 : (b : Int) ∣ ((stp a b : Nat) : Int) * (a : Int) := by
    rw [← Int.natCast_mul]
    exact Int.natCast_dvd_natCast.mpr e
  rw [Int.mul_assoc, Int.mul_comm k, ← Int.mul_assoc]
  exact Int.dvd_trans e2 (Int.dvd_mul_right _ _)
/-- alike modulo the sizes -/
structure Cg (ss ns ms : List Int) : Prop where
  l1 : ns.length = ss.length
  l2 : ms.length = ss.length
  alike : ∀ (i : Nat) (s : Int), ss[i]? = some s → s ∣ ns.getD i 0 - ms.getD i 0
theorem Cg.refl {ss ns : List Int} (h : ns.length = ss.length) : Cg ss ns ns := ⟨h, h, fun i s _ => by rw [Int.sub_self]; exact Int.dvd_zero _⟩
theorem Cg.symm {ss ns ms : List Int} (h : Cg ss ns ms) : Cg ss ms ns := ⟨h.l2, h.l1, fun i s e => by
  have := h.alike i s e
  rw [← Int.neg_sub]
  exact Int.dvd_neg.mpr this⟩
theorem Cg.trans {ss ns ms ks : List Int} (h : Cg ss ns ms) (g : Cg ss ms ks) : Cg ss ns ks := ⟨h.l1, g.l2, fun i s e => by
  have a := h.alike i s e
  have b := g.alike i s e
  have := Int.dvd_add a b
  rwa [show ns.getD i 0 - ms.getD i 0 + (ms.getD i 0 - ks.getD i 0) = ns.getD i 0 - ks.getD i 0 by omega] at this⟩
theorem getD_set {ns : List Int} {i j : Nat} {x : Int} (h : i < ns.length) : (ns.set i x).getD j 0 = if i = j then x else ns.getD j 0 := by
  rw [List.getD_eq_getElem?_getD, List.getD_eq_getElem?_getD]
  by_cases e : i = j
  · subst e
    rw [List.getElem?_set_self h, if_pos rfl]
    rfl
  · rw [List.getElem?_set_ne e, if_neg e]
/-- a deed with its places among the sizes -/
structure DIn (ss : List Int) (d : Nat × Nat × Int) : Prop where
  lj : d.1 < ss.length
  li : d.2.1 < ss.length
  ne : d.1 ≠ d.2.1
  hit : ∀ a b : Int, ss[d.1]? = some a → ss[d.2.1]? = some b → b ∣ d.2.2 * a
theorem DOk.din {ss : List Int} {ws : List (Nat × Nat)} {d : Nat × Nat × Int} (h : DOk ss ws d) (ok : MOk ss ws) : DIn ss d := by
  obtain ⟨a, b, c⟩ := ok.wires.low _ h.wire
  obtain ⟨x, y, hx, hy, st⟩ := h.step
  refine ⟨a, b, c, fun p q hp hq => ?_⟩
  rw [hx] at hp
  rw [hy] at hq
  cases hp
  cases hq
  exact stp_hit st
theorem addI_getD {ns : List Int} {d : Nat × Nat × Int} (h : d.2.1 < ns.length) (j : Nat) : (addI ns d).getD j 0 = if d.2.1 = j then ns.getD d.2.1 0 + d.2.2 * ns.getD d.1 0 else ns.getD j 0 := getD_set h
theorem get_some {ss : List Int} {i : Nat} (h : i < ss.length) : ∃ s, ss[i]? = some s := ⟨ss[i], List.getElem?_eq_getElem h⟩
theorem Cg.add {ss ns ms : List Int} {d : Nat × Nat × Int} (h : Cg ss ns ms) (hd : DIn ss d) : Cg ss (addI ns d) (addI ms d) := by
  refine ⟨by rw [addI_len, h.l1], by rw [addI_len, h.l2], fun k s e => ?_⟩
  rw [addI_getD (by rw [h.l1]; exact hd.li), addI_getD (by rw [h.l2]; exact hd.li)]
  by_cases z : d.2.1 = k
  · subst z
    rw [if_pos rfl, if_pos rfl]
    obtain ⟨a, ha⟩ := get_some hd.lj
    obtain ⟨t, ht⟩ := h.alike d.1 a ha
    have e1 := h.alike _ s e
    have e2 : s ∣ d.2.2 * (ns.getD d.1 0 - ms.getD d.1 0) := by
      rw [ht, ← Int.mul_assoc]
      exact Int.dvd_trans (hd.hit a s ha e) (Int.dvd_mul_right _ _)
    have := Int.dvd_add e1 e2
    rwa [show ns.getD d.2.1 0 - ms.getD d.2.1 0 + d.2.2 * (ns.getD d.1 0 - ms.getD d.1 0) = ns.getD d.2.1 0 + d.2.2 * ns.getD d.1 0 - (ms.getD d.2.1 0 + d.2.2 * ms.getD d.1 0) by rw [Int.mul_sub]; omega] at this
  · rw [if_neg z, if_neg z]
    exact h.alike k s e
theorem Cg.far {ss : List Int} {l : List (Nat × Nat × Int)} (hl : ∀ d ∈ l, DIn ss d) : ∀ {ns ms : List Int}, Cg ss ns ms → Cg ss (farI l ns) (farI l ms) := by
  induction l with
  | nil => exact fun h => h
  | cons d l ih => exact fun h => ih (fun x hx => hl x (List.mem_cons_of_mem _ hx)) (h.add (hl d List.mem_cons_self))
theorem remI_getD {ns ss : List Int} {i : Nat} {s : Int} (h : ns.length = ss.length) (e : ss[i]? = some s) : (remI ns ss).getD i 0 = ns.getD i 0 % s := by
  have li := (List.getElem?_eq_some_iff.mp e).1
  have z : ns[i]? = some (ns.getD i 0) := by
    rw [List.getD_eq_getElem?_getD, List.getElem?_eq_getElem (by omega)]
    rfl
  rw [List.getD_eq_getElem?_getD]
  unfold remI
  rw [List.getElem?_zipWith, z, e]
  rfl
theorem remI_length {ns ss : List Int} (h : ns.length = ss.length) : (remI ns ss).length = ss.length := by
  unfold remI
  rw [List.length_zipWith]
  omega
theorem ext_getD {ns ms : List Int} (h : ns.length = ms.length) (e : ∀ i, i < ns.length → ns.getD i 0 = ms.getD i 0) : ns = ms := by
  refine List.ext_getElem h fun i h1 h2 => ?_
  have := e i h1
  rwa [List.getD_eq_getElem?_getD, List.getD_eq_getElem?_getD, List.getElem?_eq_getElem h1, List.getElem?_eq_getElem h2] at this
theorem Cg.rem {ss ns ms : List Int} (h : Cg ss ns ms) : remI ns ss = remI ms ss := by
  refine ext_getD (by rw [remI_length h.l1, remI_length h.l2]) fun i hi => ?_
  rw [remI_length h.l1] at hi
  obtain ⟨s, hs⟩ := get_some hi
  rw [remI_getD h.l1 hs, remI_getD h.l2 hs]
  exact mod_eq.mpr (h.alike i s hs)
theorem cg_rem {ss ns : List Int} (h : ns.length = ss.length) : Cg ss (remI ns ss) ns := ⟨remI_length h, h, fun i s e => by
  rw [remI_getD h e, Int.emod_def]
  exact ⟨-(ns.getD i 0 / s), by rw [Int.mul_neg]; omega⟩⟩
theorem rem_of {ss hs : List Int} (h : COk ss hs) : remI hs ss = hs := by
  refine ext_getD (by rw [remI_length h.len, h.len]) fun i hi => ?_
  rw [remI_length h.len] at hi
  obtain ⟨s, es⟩ := get_some hi
  rw [remI_getD h.len es]
  obtain ⟨x, ex⟩ := get_some (show i < hs.length by rw [h.len]; exact hi)
  obtain ⟨a, b⟩ := h.low i x s ex es
  rw [List.getD_eq_getElem?_getD, ex]
  exact Int.emod_eq_of_lt a b
theorem rem_cok {ss ns : List Int} (ok : ∀ s ∈ ss, SizeOk s) (h : ns.length = ss.length) : COk ss (remI ns ss) := by
  refine ⟨remI_length h, fun i x s ex es => ?_⟩
  have := remI_getD h es
  rw [List.getD_eq_getElem?_getD, ex] at this
  obtain ⟨m, rfl, m2, _⟩ := (ok s (List.mem_of_getElem? es)).nat
  have e : x = ns.getD i 0 % (m : Int) := this
  rw [e]
  exact ⟨Int.emod_nonneg _ (by omega), Int.emod_lt_of_pos _ (by omega)⟩
/-- deed by deed, each register modulo its size -/
def doneI (ss hs : List Int) (d : Nat × Nat × Int) : List Int := remI (addI hs d) ss
def runP (ss : List Int) (l : List (Nat × Nat × Int)) (hs : List Int) : List Int := l.foldl (doneI ss) hs
theorem runP_cg {ss : List Int} {l : List (Nat × Nat × Int)} (hl : ∀ d ∈ l, DIn ss d) : ∀ {hs ns : List Int}, Cg ss hs ns → Cg ss (runP ss l hs) (farI l ns) := by
  induction l with
  | nil => exact fun h => h
  | cons d l ih =>
    intro hs ns h
    have a := h.add (hl d List.mem_cons_self)
    exact ih (fun x hx => hl x (List.mem_cons_of_mem _ hx)) ((cg_rem a.l1).trans a)
theorem runP_cok {ss : List Int} (ok : ∀ s ∈ ss, SizeOk s) {l : List (Nat × Nat × Int)} : ∀ {hs : List Int}, COk ss hs → COk ss (runP ss l hs) := by
  induction l with
  | nil => exact fun h => h
  | cons d l ih => exact fun h => ih (rem_cok ok (by rw [addI_len, h.len]))
/-- what deeds do one by one is what they do in the whole -/
theorem runP_eq {ss : List Int} (ok : ∀ s ∈ ss, SizeOk s) {l : List (Nat × Nat × Int)} (hl : ∀ d ∈ l, DIn ss d) {hs ns : List Int} (h : COk ss hs) (g : Cg ss hs ns) : runP ss l hs = runI ss l ns := by
  have a := runP_cg hl g
  have b := rem_of (runP_cok (l := l) ok h)
  rw [← b]
  exact a.rem
/-- backward -/
def backI (l : List (Nat × Nat × Int)) : List (Nat × Nat × Int) := (l.map fun d => (d.1, d.2.1, -d.2.2)).reverse
theorem DIn.neg {ss : List Int} {d : Nat × Nat × Int} (h : DIn ss d) : DIn ss (d.1, d.2.1, -d.2.2) := ⟨h.lj, h.li, h.ne, fun a b ha hb => by
  rw [Int.neg_mul]
  exact Int.dvd_neg.mpr (h.hit a b ha hb)⟩
theorem add_back {ns : List Int} {d : Nat × Nat × Int} (hj : d.2.1 < ns.length) (ne : d.1 ≠ d.2.1) : addI (addI ns d) (d.1, d.2.1, -d.2.2) = ns := by
  refine ext_getD (by rw [addI_len, addI_len]) fun k hk => ?_
  rw [addI_getD (by rw [addI_len]; exact hj)]
  by_cases e : d.2.1 = k
  · rw [if_pos e, addI_getD hj, addI_getD hj, if_pos rfl, if_neg (Ne.symm ne), ← e, Int.neg_mul]
    dsimp only
    omega
  · rw [if_neg e, addI_getD hj, if_neg e]
theorem far_app (l m : List (Nat × Nat × Int)) (ns : List Int) : farI (l ++ m) ns = farI m (farI l ns) := List.foldl_append
theorem far_back {ss : List Int} {l : List (Nat × Nat × Int)} (hl : ∀ d ∈ l, DIn ss d) : ∀ {ns : List Int}, ns.length = ss.length → farI (backI l) (farI l ns) = ns := by
  induction l with
  | nil => exact fun _ => rfl
  | cons d l ih =>
    intro ns h
    have a := ih (fun x hx => hl x (List.mem_cons_of_mem _ hx)) (ns := addI ns d) (by rw [addI_len, h])
    have dd := hl d List.mem_cons_self
    have e : backI (d :: l) = backI l ++ [(d.1, d.2.1, -d.2.2)] := by
      unfold backI
      rw [List.map_cons, List.reverse_cons]
    rw [e, far_app]
    show addI (farI (backI l) (farI l (addI ns d))) _ = ns
    rw [a]
    exact add_back (by rw [h]; exact dd.li) dd.ne
theorem back_din {ss : List Int} {l : List (Nat × Nat × Int)} (hl : ∀ d ∈ l, DIn ss d) : ∀ d ∈ backI l, DIn ss d := fun d hd => by
  unfold backI at hd
  obtain ⟨x, hx, rfl⟩ := List.mem_map.mp (List.mem_reverse.mp hd)
  exact (hl x hx).neg
theorem runP_back {ss : List Int} (ok : ∀ s ∈ ss, SizeOk s) {l : List (Nat × Nat × Int)} (hl : ∀ d ∈ l, DIn ss d) {hs : List Int} (h : COk ss hs) : runP ss (backI l) (runP ss l hs) = hs := by
  have a := runP_cg hl (Cg.refl h.len)
  rw [runP_eq ok (back_din hl) (runP_cok ok h) a]
  unfold runI
  rw [far_back hl h.len, rem_of h]
/-- sums -/
def sumI (ns ms : List Int) : List Int := List.zipWith (fun a b => a + b) ns ms
theorem sumI_len {ns ms : List Int} {n : Nat} (h : ns.length = n) (g : ms.length = n) : (sumI ns ms).length = n := by
  unfold sumI
  rw [List.length_zipWith]
  omega
theorem sumI_getD {ns ms : List Int} (h : ns.length = ms.length) (i : Nat) : (sumI ns ms).getD i 0 = ns.getD i 0 + ms.getD i 0 := by
  rw [List.getD_eq_getElem?_getD, List.getD_eq_getElem?_getD, List.getD_eq_getElem?_getD]
  unfold sumI
  rw [List.getElem?_zipWith]
  by_cases e : i < ns.length
  · rw [List.getElem?_eq_getElem e, List.getElem?_eq_getElem (by omega)]
    rfl
  · rw [List.getElem?_eq_none (by omega), List.getElem?_eq_none (by omega)]
    rfl
theorem add_sum {ns ms : List Int} {d : Nat × Nat × Int} (h : ns.length = ms.length) (hi : d.2.1 < ns.length) : addI (sumI ns ms) d = sumI (addI ns d) (addI ms d) := by
  have l1 : (sumI ns ms).length = ns.length := sumI_len rfl h.symm
  refine ext_getD (by rw [addI_len, l1, sumI_len (addI_len ns d) (by rw [addI_len, h])]) fun k hk => ?_
  rw [addI_getD (by omega), sumI_getD (ns := addI ns d) (ms := addI ms d) (by rw [addI_len, addI_len, h]), addI_getD hi, addI_getD (ns := ms) (by omega), sumI_getD h, sumI_getD h, sumI_getD h, Int.mul_add]
  split <;> omega
theorem far_sum {l : List (Nat × Nat × Int)} : ∀ {ns ms : List Int}, ns.length = ms.length → (∀ d ∈ l, d.2.1 < ns.length) → farI l (sumI ns ms) = sumI (farI l ns) (farI l ms) := by
  induction l with
  | nil => exact fun _ _ => rfl
  | cons d l ih =>
    intro ns ms h hl
    show farI l (addI (sumI ns ms) d) = sumI (farI l (addI ns d)) (farI l (addI ms d))
    rw [add_sum h (hl d List.mem_cons_self)]
    exact ih (by rw [addI_len, addI_len, h]) fun x hx => by rw [addI_len]; exact hl x (List.mem_cons_of_mem _ hx)
end NA
namespace NA
/-! ### sums -/
def sumF : Nat → (Nat → Int) → Int
  | 0, _ => 0
  | n + 1, F => F 0 + sumF n fun k => F (k + 1)
theorem sumF_congr : ∀ {n : Nat} {F G : Nat → Int}, (∀ k, k < n → F k = G k) → sumF n F = sumF n G
  | 0, _, _, _ => rfl
  | n + 1, F, G, h => by
    show F 0 + _ = G 0 + _
    rw [h 0 (by omega), sumF_congr fun k hk => h (k + 1) (by omega)]
theorem sumF_add : ∀ (n : Nat) (F G : Nat → Int), sumF n (fun k => F k + G k) = sumF n F + sumF n G
  | 0, _, _ => rfl
  | n + 1, F, G => by
    show F 0 + G 0 + sumF n (fun k => F (k + 1) + G (k + 1)) = F 0 + sumF n _ + (G 0 + sumF n _)
    rw [sumF_add n]
    omega
theorem sumF_mul (c : Int) : ∀ (n : Nat) (F : Nat → Int), sumF n (fun k => c * F k) = c * sumF n F
  | 0, _ => by show (0 : Int) = c * 0; rw [Int.mul_zero]
  | n + 1, F => by
    show c * F 0 + sumF n (fun k => c * F (k + 1)) = c * (F 0 + sumF n _)
    rw [sumF_mul c n, Int.mul_add]
theorem sumF_zero : ∀ (n : Nat), sumF n (fun _ => 0) = 0
  | 0 => rfl
  | n + 1 => by
    show (0 : Int) + sumF n (fun _ => 0) = 0
    rw [sumF_zero n]
    rfl
theorem sumF_swap : ∀ (n m : Nat) (F : Nat → Nat → Int), sumF n (fun j => sumF m fun k => F j k) = sumF m (fun k => sumF n fun j => F j k)
  | 0, m, F => (sumF_zero m).symm
  | n + 1, m, F => by
    show sumF m (fun k => F 0 k) + sumF n (fun j => sumF m fun k => F (j + 1) k) = sumF m (fun k => F 0 k + sumF n fun j => F (j + 1) k)
    rw [sumF_add, sumF_swap n]
theorem sumF_dvd {s : Int} : ∀ {n : Nat} {F : Nat → Int}, (∀ k, k < n → s ∣ F k) → s ∣ sumF n F
  | 0, _, _ => Int.dvd_zero _
  | n + 1, F, h => Int.dvd_add (h 0 (by omega)) (sumF_dvd fun k hk => h (k + 1) (by omega))
theorem sumF_alike {s : Int} {n : Nat} {F G : Nat → Int} (h : ∀ k, k < n → s ∣ F k - G k) : s ∣ sumF n F - sumF n G := by
  have := sumF_dvd h
  rw [show sumF n (fun k => F k - G k) = sumF n F - sumF n G from ?_] at this
  · exact this
  · have e := sumF_add n (fun k => F k - G k) G
    rw [show (fun k => F k - G k + G k) = F from funext fun k => by omega] at e
    omega
theorem sumF_one (n i : Nat) (F : Nat → Int) (h : i < n) : sumF n (fun k => (if i = k then 1 else 0) * F k) = F i := by
  induction n generalizing i F with
  | zero => omega
  | succ n ih =>
    show (if i = 0 then 1 else 0) * F 0 + sumF n (fun k => (if i = k + 1 then 1 else 0) * F (k + 1)) = F i
    cases i with
    | zero =>
      rw [if_pos rfl, sumF_congr (G := fun _ => 0) fun k _ => by rw [if_neg (by omega), Int.zero_mul], sumF_zero]
      omega
    | succ i =>
      rw [if_neg (by omega), sumF_congr (G := fun k => (if i = k then 1 else 0) * F (k + 1)) fun k _ => by
        by_cases e : i = k
        · rw [if_pos e, if_pos (by omega)]
        · rw [if_neg e, if_neg (by omega)], ih i (fun k => F (k + 1)) (by omega)]
      omega
theorem dot_sum : ∀ {row hs : List Int} {n : Nat}, row.length = n → hs.length = n → dot row hs = sumF n fun k => row.getD k 0 * hs.getD k 0
  | [], [], _, e, _ => by subst e; rfl
  | r :: row, h :: hs, n + 1, e1, e2 => by
    have a := dot_sum (row := row) (hs := hs) (n := n) (by simpa using e1) (by simpa using e2)
    unfold dot at a ⊢
    rw [List.zipWith_cons_cons, List.sum_cons, a]
    rfl
  | [], _ :: _, _, e1, e2 => by rw [← e1] at e2; cases e2
  | _ :: _, [], _, e1, e2 => by rw [← e1] at e2; cases e2
  | _ :: _, _ :: _, 0, e1, _ => by cases e1
/-! ### tables by their entries -/
def en (t : List (List Int)) (i j : Nat) : Int := (t.getD i []).getD j 0
theorem en_of {t : List (List Int)} {i : Nat} {r : List Int} (h : t[i]? = some r) (j : Nat) : en t i j = r.getD j 0 := by
  unfold en
  have e : t.getD i [] = r := by
    rw [List.getD_eq_getElem?_getD, h]
    rfl
  rw [e]
/-- of the right form -/
structure Sq (n : Nat) (t : List (List Int)) : Prop where
  len : t.length = n
  row : ∀ r ∈ t, r.length = n
theorem TOk.sq {ss : List Int} {t : List (List Int)} (h : TOk ss t) : Sq ss.length t := ⟨h.len, h.row⟩
theorem Sq.get {n : Nat} {t : List (List Int)} (h : Sq n t) {i : Nat} (hi : i < n) : ∃ r, t[i]? = some r ∧ r.length = n := by
  have hi' : i < t.length := by rw [h.len]; exact hi
  exact ⟨t[i], List.getElem?_eq_getElem hi', h.row _ (List.getElem_mem hi')⟩
theorem sq_ext {n : Nat} {t u : List (List Int)} (a : Sq n t) (b : Sq n u) (e : ∀ i j, i < n → j < n → en t i j = en u i j) : t = u := by
  refine List.ext_getElem (by rw [a.len, b.len]) fun i h1 h2 => ?_
  have hi : i < n := by rw [← a.len]; exact h1
  refine ext_getD (by rw [a.row _ (List.getElem_mem h1), b.row _ (List.getElem_mem h2)]) fun j hj => ?_
  have := e i j hi (by rw [← a.row _ (List.getElem_mem h1)]; exact hj)
  rwa [en_of (List.getElem?_eq_getElem h1), en_of (List.getElem?_eq_getElem h2)] at this
theorem led_getD {ss : List Int} {t : List (List Int)} {hs : List Int} (q : Sq ss.length t) (lh : hs.length = ss.length) {i : Nat} {s : Int} (e : ss[i]? = some s) : (ledI ss t hs).getD i 0 = (sumF ss.length fun j => en t i j * hs.getD j 0) % s := by
  have hi := (List.getElem?_eq_some_iff.mp e).1
  obtain ⟨r, hr, rl⟩ := q.get hi
  rw [List.getD_eq_getElem?_getD]
  unfold ledI
  rw [List.getElem?_zipWith, hr, e]
  show dot r hs % s = _
  rw [dot_sum rl lh]
  congr 1
  exact sumF_congr fun j _ => by rw [en_of hr]
theorem led_len {ss : List Int} {t : List (List Int)} {hs : List Int} (q : Sq ss.length t) : (ledI ss t hs).length = ss.length := by
  unfold ledI
  rw [List.length_zipWith, q.len, Nat.min_self]
theorem both_get {ss : List Int} {one other : List (List Int)} {i : Nat} {r : List Int} {s : Int} (hr : other[i]? = some r) (e : ss[i]? = some s) : (bothI ss one other)[i]? = some ((List.range ss.length).map fun j => dot r (colI one j) % s) := by
  unfold bothI
  rw [List.getElem?_zipWith, hr, e]
theorem both_sq {ss : List Int} {one other : List (List Int)} (q : Sq ss.length other) : Sq ss.length (bothI ss one other) := by
  have l : (bothI ss one other).length = ss.length := by
    unfold bothI
    rw [List.length_zipWith, q.len, Nat.min_self]
  refine ⟨l, fun r hr => ?_⟩
  obtain ⟨i, hi, rfl⟩ := List.getElem_of_mem hr
  obtain ⟨s, es⟩ := get_some (show i < ss.length by omega)
  obtain ⟨r0, hr0, _⟩ := q.get (show i < ss.length by omega)
  have := both_get (one := one) hr0 es
  rw [List.getElem?_eq_getElem hi] at this
  rw [Option.some.inj this, List.length_map, List.length_range]
theorem both_en {ss : List Int} {one other : List (List Int)} (q1 : Sq ss.length one) (q2 : Sq ss.length other) {i j : Nat} {s : Int} (e : ss[i]? = some s) (hj : j < ss.length) : en (bothI ss one other) i j = (sumF ss.length fun k => en other i k * en one k j) % s := by
  have hi := (List.getElem?_eq_some_iff.mp e).1
  obtain ⟨r, hr, rl⟩ := q2.get hi
  rw [en_of (both_get hr e), List.getD_eq_getElem?_getD, List.getElem?_map, List.getElem?_eq_getElem (by rw [List.length_range]; exact hj), List.getElem_range]
  show dot r (colI one j) % s = _
  rw [dot_sum (n := ss.length) rl (by unfold colI; rw [List.length_map, q1.len])]
  congr 1
  refine sumF_congr fun k hk => ?_
  obtain ⟨r1, hr1, _⟩ := q1.get hk
  rw [en_of hr, en_of hr1]
  congr 1
  rw [List.getD_eq_getElem?_getD]
  unfold colI
  rw [List.getElem?_map, hr1]
  rfl
/-- entries that give what they must -/
def Hit (ss : List Int) (t : List (List Int)) : Prop := ∀ (i j : Nat) (s r : Int), ss[i]? = some s → ss[j]? = some r → s ∣ en t i j * r
theorem TOk.hit {ss : List Int} {t : List (List Int)} (h : TOk ss t) : Hit ss t := by
  intro i j s r hs hr
  by_cases e : i = j
  · subst e
    rw [hs] at hr
    cases hr
    exact Int.dvd_mul_left _ _
  · obtain ⟨row, hrow, rl⟩ := h.sq.get (List.getElem?_eq_some_iff.mp hs).1
    have hj := (List.getElem?_eq_some_iff.mp hr).1
    have ej : row[j]? = some (row.getD j 0) := by
      rw [List.getD_eq_getElem?_getD, List.getElem?_eq_getElem (by omega)]
      rfl
    obtain ⟨a, b, ha, hb, st⟩ := h.step i j row _ hrow ej e
    rw [hr] at ha
    rw [hs] at hb
    cases ha
    cases hb
    rw [en_of hrow]
    exact stp_hit st
/-- the sums over rests are alike the sums over what left them -/
theorem hit_sum {ss : List Int} {t : List (List Int)} (h : Hit ss t) {i : Nat} {s : Int} (e : ss[i]? = some s) {F G : Nat → Int} (fg : ∀ (k : Nat) (r : Int), ss[k]? = some r → r ∣ F k - G k) : s ∣ (sumF ss.length fun k => en t i k * F k) - sumF ss.length fun k => en t i k * G k := by
  refine sumF_alike fun k hk => ?_
  obtain ⟨r, hr⟩ := get_some hk
  obtain ⟨x, hx⟩ := fg k r hr
  rw [← Int.mul_sub, hx, ← Int.mul_assoc]
  exact Int.dvd_trans (h i k s r e hr) (Int.dvd_mul_right _ _)
theorem mod_sub (a s : Int) : s ∣ a % s - a := by
  rw [Int.emod_def]
  exact ⟨-(a / s), by rw [Int.mul_neg]; omega⟩
theorem dvd_sub_comm {a b s : Int} (h : s ∣ a - b) : s ∣ b - a := by
  rw [← Int.neg_sub]
  exact Int.dvd_neg.mpr h
theorem mod_congr {a b s : Int} (h : s ∣ a - b) : a % s = b % s := mod_eq.mpr h
/-- one table behind another leads as the one and then the other -/
theorem led_both {ss : List Int} {one other : List (List Int)} {hs : List Int} (q1 : Sq ss.length one) (q2 : Sq ss.length other) (h2 : Hit ss other) (lh : hs.length = ss.length) : ledI ss (bothI ss one other) hs = ledI ss other (ledI ss one hs) := by
  refine ext_getD (by rw [led_len (both_sq q2), led_len q2]) fun i hi => ?_
  rw [led_len (both_sq q2)] at hi
  obtain ⟨s, es⟩ := get_some hi
  rw [led_getD (both_sq q2) lh es, led_getD q2 (led_len q1) es]
  refine mod_congr ?_
  -- both are alike the double sum
  have a : s ∣ (sumF ss.length fun j => en (bothI ss one other) i j * hs.getD j 0) - sumF ss.length fun j => (sumF ss.length fun k => en other i k * en one k j) * hs.getD j 0 := by
    refine sumF_alike fun j hj => ?_
    rw [both_en q1 q2 es hj, ← Int.sub_mul]
    exact Int.dvd_trans (mod_sub _ _) (Int.dvd_mul_right _ _)
  have b : s ∣ (sumF ss.length fun k => en other i k * (ledI ss one hs).getD k 0) - sumF ss.length fun k => en other i k * sumF ss.length fun j => en one k j * hs.getD j 0 :=
    hit_sum h2 es fun k r hr => by
      rw [led_getD q1 lh hr]
      exact mod_sub _ _
  have c : (sumF ss.length fun j => (sumF ss.length fun k => en other i k * en one k j) * hs.getD j 0) = sumF ss.length fun k => en other i k * sumF ss.length fun j => en one k j * hs.getD j 0 := by
    rw [sumF_congr (G := fun j => sumF ss.length fun k => en other i k * (en one k j * hs.getD j 0)) fun j _ => by
      rw [Int.mul_comm, ← sumF_mul]
      exact sumF_congr fun k _ => by rw [Int.mul_comm, Int.mul_assoc], sumF_swap]
    exact sumF_congr fun k _ => sumF_mul _ _ _
  rw [c] at a
  have := Int.dvd_add a (dvd_sub_comm b)
  rwa [show ∀ x y z : Int, x - y + (y - z) = x - z from fun x y z => by omega] at this
theorem both_hit {ss : List Int} {one other : List (List Int)} (q1 : Sq ss.length one) (q2 : Sq ss.length other) (h1 : Hit ss one) (h2 : Hit ss other) : Hit ss (bothI ss one other) := by
  intro i j s r hs hr
  have hj := (List.getElem?_eq_some_iff.mp hr).1
  rw [both_en q1 q2 hs hj]
  have a : s ∣ (sumF ss.length fun k => en other i k * en one k j) * r := by
    rw [Int.mul_comm, ← sumF_mul]
    refine sumF_dvd fun k hk => ?_
    obtain ⟨x, hx⟩ := get_some hk
    obtain ⟨y, hy⟩ := h1 k j x r hx hr
    have e : r * (en other i k * en one k j) = en other i k * x * y := by
      rw [Int.mul_comm, Int.mul_assoc, hy, Int.mul_assoc]
    rw [e]
    exact Int.dvd_trans (h2 i k s x hs hx) (Int.dvd_mul_right _ _)
  have b : s ∣ ((sumF ss.length fun k => en other i k * en one k j) % s - sumF ss.length fun k => en other i k * en one k j) * r := Int.dvd_trans (mod_sub _ _) (Int.dvd_mul_right _ _)
  rw [Int.sub_mul] at b
  have := Int.dvd_add b a
  rwa [show ∀ x y : Int, x - y + y = x from fun x y => by omega] at this
theorem both_assoc {ss : List Int} {one other third : List (List Int)} (q1 : Sq ss.length one) (q2 : Sq ss.length other) (q3 : Sq ss.length third) (h3 : Hit ss third) : bothI ss (bothI ss one other) third = bothI ss one (bothI ss other third) := by
  refine sq_ext (both_sq q3) (both_sq (both_sq q3)) fun i j hi hj => ?_
  obtain ⟨s, es⟩ := get_some hi
  rw [both_en (both_sq q2) q3 es hj, both_en q1 (both_sq q3) es hj]
  refine mod_congr ?_
  have a : s ∣ (sumF ss.length fun k => en third i k * en (bothI ss one other) k j) - sumF ss.length fun k => en third i k * sumF ss.length fun l => en other k l * en one l j :=
    hit_sum h3 es fun k r hr => by
      rw [both_en q1 q2 hr hj]
      exact mod_sub _ _
  have b : s ∣ (sumF ss.length fun l => en (bothI ss other third) i l * en one l j) - sumF ss.length fun l => (sumF ss.length fun k => en third i k * en other k l) * en one l j := by
    refine sumF_alike fun l hl => ?_
    rw [both_en q2 q3 es hl, ← Int.sub_mul]
    exact Int.dvd_trans (mod_sub _ _) (Int.dvd_mul_right _ _)
  have c : (sumF ss.length fun l => (sumF ss.length fun k => en third i k * en other k l) * en one l j) = sumF ss.length fun k => en third i k * sumF ss.length fun l => en other k l * en one l j := by
    rw [sumF_congr (G := fun l => sumF ss.length fun k => en third i k * (en other k l * en one l j)) fun l _ => by
      rw [Int.mul_comm, ← sumF_mul]
      exact sumF_congr fun k _ => by rw [Int.mul_comm, Int.mul_assoc], sumF_swap]
    exact sumF_congr fun k _ => sumF_mul _ _ _
  rw [c] at b
  have := Int.dvd_add a (dvd_sub_comm b)
  rwa [show ∀ x y z : Int, x - y + (y - z) = x - z from fun x y z => by omega] at this
theorem still_sq (n : Nat) : Sq n (stillI n) := ⟨by unfold stillI; rw [List.length_map, List.length_range], fun r hr => by
  unfold stillI at hr
  obtain ⟨i, _, rfl⟩ := List.mem_map.mp hr
  rw [List.length_map, List.length_range]⟩
theorem still_en {n i j : Nat} (hi : i < n) (hj : j < n) : en (stillI n) i j = if i = j then 1 else 0 := by
  have e : (stillI n)[i]? = some ((List.range n).map fun j => if i = j then 1 else 0) := by
    unfold stillI
    rw [List.getElem?_map, List.getElem?_eq_getElem (by rw [List.length_range]; exact hi), List.getElem_range]
    rfl
  rw [en_of e, List.getD_eq_getElem?_getD, List.getElem?_map, List.getElem?_eq_getElem (by rw [List.length_range]; exact hj), List.getElem_range]
  rfl
theorem led_still {ss hs : List Int} (h : COk ss hs) : ledI ss (stillI ss.length) hs = hs := by
  refine ext_getD (by rw [led_len (still_sq _), h.len]) fun i hi => ?_
  rw [led_len (still_sq _)] at hi
  obtain ⟨s, es⟩ := get_some hi
  rw [led_getD (still_sq _) h.len es, sumF_congr (G := fun j => (if i = j then 1 else 0) * hs.getD j 0) fun j hj => by rw [still_en hi hj], sumF_one _ _ _ hi]
  obtain ⟨x, ex⟩ := get_some (show i < hs.length by rw [h.len]; exact hi)
  obtain ⟨a, b⟩ := h.low i x s ex es
  rw [List.getD_eq_getElem?_getD, ex]
  exact Int.emod_eq_of_lt a b
/-- entries from 0 below the size of their row -/
def Low (ss : List Int) (t : List (List Int)) : Prop := ∀ (i j : Nat) (s : Int), ss[i]? = some s → j < ss.length → 0 ≤ en t i j ∧ en t i j < s
theorem TOk.lowE {ss : List Int} {t : List (List Int)} (h : TOk ss t) : Low ss t := by
  intro i j s hs hj
  obtain ⟨row, hrow, rl⟩ := h.sq.get (List.getElem?_eq_some_iff.mp hs).1
  have ej : row[j]? = some (row.getD j 0) := by
    rw [List.getD_eq_getElem?_getD, List.getElem?_eq_getElem (by omega)]
    rfl
  rw [en_of hrow]
  exact h.low i j row _ s hrow ej hs
theorem both_low {ss : List Int} {one other : List (List Int)} (ok : ∀ s ∈ ss, SizeOk s) (q1 : Sq ss.length one) (q2 : Sq ss.length other) : Low ss (bothI ss one other) := by
  intro i j s hs hj
  rw [both_en q1 q2 hs hj]
  obtain ⟨m, rfl, m2, _⟩ := (ok s (List.mem_of_getElem? hs)).nat
  exact ⟨Int.emod_nonneg _ (by omega), Int.emod_lt_of_pos _ (by omega)⟩
theorem both_still {ss : List Int} {t : List (List Int)} (q : Sq ss.length t) (l : Low ss t) : bothI ss t (stillI ss.length) = t := by
  refine sq_ext (both_sq (still_sq _)) q fun i j hi hj => ?_
  obtain ⟨s, es⟩ := get_some hi
  rw [both_en q (still_sq _) es hj, sumF_congr (G := fun k => (if i = k then 1 else 0) * en t k j) fun k hk => by rw [still_en hi hk], sumF_one _ _ _ hi]
  obtain ⟨a, b⟩ := l i j s es hj
  exact Int.emod_eq_of_lt a b
theorem still_both {ss : List Int} {t : List (List Int)} (q : Sq ss.length t) (l : Low ss t) : bothI ss (stillI ss.length) t = t := by
  refine sq_ext (both_sq q) q fun i j hi hj => ?_
  obtain ⟨s, es⟩ := get_some hi
  rw [both_en (still_sq _) q es hj, sumF_congr (G := fun k => (if j = k then 1 else 0) * en t i k) fun k hk => by
    rw [still_en hk hj, Int.mul_comm]
    by_cases e : k = j
    · rw [if_pos e, if_pos e.symm]
    · rw [if_neg e, if_neg (Ne.symm e)], sumF_one _ _ _ hj]
  obtain ⟨a, b⟩ := l i j s es hj
  exact Int.emod_eq_of_lt a b
/-- the table of a deed -/
def deedI (ss : List Int) (d : Nat × Nat × Int) : List (List Int) := (stillI ss.length).set d.2.1 (((stillI ss.length).getD d.2.1 []).set d.1 (d.2.2 % ss.getD d.2.1 1))
theorem still_row {n i : Nat} (hi : i < n) : (stillI n).getD i [] = (List.range n).map fun j => if i = j then 1 else 0 := by
  rw [List.getD_eq_getElem?_getD]
  unfold stillI
  rw [List.getElem?_map, List.getElem?_eq_getElem (by rw [List.length_range]; exact hi), List.getElem_range]
  rfl
theorem deed_sq {ss : List Int} {d : Nat × Nat × Int} (h : DIn ss d) : Sq ss.length (deedI ss d) := by
  have q := still_sq ss.length
  refine ⟨by unfold deedI; rw [List.length_set, q.len], fun r hr => ?_⟩
  unfold deedI at hr
  rcases List.mem_or_eq_of_mem_set hr with m | m
  · exact q.row r m
  · rw [m, List.length_set, still_row h.li, List.length_map, List.length_range]
theorem deed_en {ss : List Int} {d : Nat × Nat × Int} (h : DIn ss d) {i j : Nat} {s : Int} (es : ss[i]? = some s) (hj : j < ss.length) : en (deedI ss d) i j = if i = d.2.1 ∧ j = d.1 then d.2.2 % s else if i = j then 1 else 0 := by
  have hi := (List.getElem?_eq_some_iff.mp es).1
  by_cases e : d.2.1 = i
  · subst e
    have a : (deedI ss d)[d.2.1]? = some (((stillI ss.length).getD d.2.1 []).set d.1 (d.2.2 % ss.getD d.2.1 1)) := by
      unfold deedI
      rw [List.getElem?_set_self (by rw [(still_sq _).len]; exact hi)]
    rw [en_of a, getD_set (by rw [still_row hi, List.length_map, List.length_range]; exact h.lj)]
    have b : ss.getD d.2.1 1 = s := by
      rw [List.getD_eq_getElem?_getD, es]
      rfl
    rw [b]
    by_cases z : d.1 = j
    · rw [if_pos z, if_pos ⟨rfl, z.symm⟩]
    · rw [if_neg z, if_neg (fun q => z q.2.symm)]
      exact still_en hi hj
  · rw [if_neg (fun q => e q.1.symm)]
    have a : (deedI ss d)[i]? = (stillI ss.length)[i]? := by
      unfold deedI
      rw [List.getElem?_set_ne e]
    obtain ⟨r, hr, _⟩ := (still_sq ss.length).get hi
    rw [hr] at a
    rw [en_of a, ← en_of hr]
    exact still_en hi hj
/-- it leads as the deed does -/
theorem led_deed {ss hs : List Int} {d : Nat × Nat × Int} (h : DIn ss d) (c : COk ss hs) : ledI ss (deedI ss d) hs = doneI ss hs d := by
  unfold doneI
  refine ext_getD (by rw [led_len (deed_sq h), remI_length (by rw [addI_len, c.len])]) fun i hi => ?_
  rw [led_len (deed_sq h)] at hi
  obtain ⟨s, es⟩ := get_some hi
  rw [led_getD (deed_sq h) c.len es, remI_getD (by rw [addI_len, c.len]) es, addI_getD (by rw [c.len]; exact h.li)]
  refine mod_congr ?_
  by_cases e : d.2.1 = i
  · subst e
    rw [if_pos rfl]
    have f : ∀ j, j < ss.length → en (deedI ss d) d.2.1 j * hs.getD j 0 = (if d.2.1 = j then 1 else 0) * hs.getD j 0 + (if d.1 = j then 1 else 0) * (d.2.2 % s * hs.getD j 0) := fun j hj => by
      rw [deed_en h es hj]
      by_cases z : j = d.1
      · subst z
        rw [if_pos ⟨rfl, rfl⟩, if_neg (Ne.symm h.ne), if_pos rfl]
        omega
      · rw [if_neg (fun q => z q.2), if_neg (c := d.1 = j) (Ne.symm z)]
        omega
    rw [sumF_congr f, sumF_add, sumF_one _ _ (fun j => hs.getD j 0) h.li, sumF_one _ _ (fun j => d.2.2 % s * hs.getD j 0) h.lj]
    rw [show ∀ x y z : Int, x + y - (x + z) = y - z from fun x y z => by omega, ← Int.sub_mul]
    exact Int.dvd_trans (mod_sub _ _) (Int.dvd_mul_right _ _)
  · rw [if_neg e, sumF_congr (G := fun j => (if i = j then 1 else 0) * hs.getD j 0) fun j hj => by rw [deed_en h es hj, if_neg (fun q => e q.1.symm)], sumF_one _ _ _ hi, Int.sub_self]
    exact Int.dvd_zero _
theorem deed_hit {ss : List Int} {d : Nat × Nat × Int} (h : DIn ss d) : Hit ss (deedI ss d) := by
  intro i j s r hs hr
  rw [deed_en h hs (List.getElem?_eq_some_iff.mp hr).1]
  by_cases e : i = d.2.1 ∧ j = d.1
  · rw [if_pos e]
    obtain ⟨rfl, rfl⟩ := e
    have a := h.hit r s hr hs
    have b : s ∣ (d.2.2 % s - d.2.2) * r := Int.dvd_trans (mod_sub _ _) (Int.dvd_mul_right _ _)
    rw [Int.sub_mul] at b
    have := Int.dvd_add b a
    rwa [show ∀ x y : Int, x - y + y = x from fun x y => by omega] at this
  · rw [if_neg e]
    by_cases z : i = j
    · subst z
      rw [hs] at hr
      cases hr
      exact Int.dvd_mul_left _ _
    · rw [if_neg z, Int.zero_mul]
      exact Int.dvd_zero _
theorem still_hit (ss : List Int) : Hit ss (stillI ss.length) := by
  intro i j s r hs hr
  rw [still_en (List.getElem?_eq_some_iff.mp hs).1 (List.getElem?_eq_some_iff.mp hr).1]
  by_cases z : i = j
  · subst z
    rw [hs] at hr
    cases hr
    exact Int.dvd_mul_left _ _
  · rw [if_neg z, Int.zero_mul]
    exact Int.dvd_zero _
/-- the table of a program, deed by deed -/
def tabI (ss : List Int) (l : List (Nat × Nat × Int)) : List (List Int) := l.foldl (fun t d => bothI ss t (deedI ss d)) (stillI ss.length)
theorem tab_from {ss : List Int} {l : List (Nat × Nat × Int)} (hl : ∀ d ∈ l, DIn ss d) : ∀ {t : List (List Int)}, Sq ss.length t → Hit ss t → Sq ss.length (l.foldl (fun t d => bothI ss t (deedI ss d)) t) ∧ Hit ss (l.foldl (fun t d => bothI ss t (deedI ss d)) t) ∧ ∀ hs, COk ss hs → (∀ s ∈ ss, SizeOk s) → ledI ss (l.foldl (fun t d => bothI ss t (deedI ss d)) t) hs = runP ss l (ledI ss t hs) := by
  induction l with
  | nil => exact fun q h => ⟨q, h, fun _ _ _ => rfl⟩
  | cons d l ih =>
    intro t q h
    have dd := hl d List.mem_cons_self
    obtain ⟨a, b, c⟩ := ih (fun x hx => hl x (List.mem_cons_of_mem _ hx)) (t := bothI ss t (deedI ss d)) (both_sq (deed_sq dd)) (both_hit q (deed_sq dd) h (deed_hit dd))
    refine ⟨a, b, fun hs ch ok => ?_⟩
    have lc : COk ss (ledI ss t hs) := by
      refine ⟨led_len q, fun i x s ex es => ?_⟩
      have := led_getD q ch.len es
      rw [List.getD_eq_getElem?_getD, ex] at this
      obtain ⟨m, rfl, m2, _⟩ := (ok s (List.mem_of_getElem? es)).nat
      have e : x = (sumF ss.length fun j => en t i j * hs.getD j 0) % (m : Int) := this
      rw [e]
      exact ⟨Int.emod_nonneg _ (by omega), Int.emod_lt_of_pos _ (by omega)⟩
    show ledI ss (l.foldl (fun t d => bothI ss t (deedI ss d)) (bothI ss t (deedI ss d))) hs = runP ss l (doneI ss (ledI ss t hs) d)
    rw [c hs ch ok, led_both q (deed_sq dd) (deed_hit dd) ch.len, led_deed dd lc]
/-- the table of a program leads as the program does -/
theorem led_tab {ss : List Int} {l : List (Nat × Nat × Int)} (ok : ∀ s ∈ ss, SizeOk s) (hl : ∀ d ∈ l, DIn ss d) {hs : List Int} (h : COk ss hs) : ledI ss (tabI ss l) hs = runP ss l hs := by
  obtain ⟨_, _, c⟩ := tab_from hl (still_sq ss.length) (still_hit ss)
  unfold tabI
  rw [c hs h ok, led_still h]
end NA
namespace PySem
open Sem (wp)
open PyProof.Rows
open AutoSeq1 (wpAny_loadPart')
/-! ### t[::-1], t a tuple -/
section
variable {prog : Program} {w : World} {A : Around} {E : Value → Shared → Prop} {s : Shared}
theorem fields_ {sl : Addr} {o : Obj} {a b c : Value} {Q : Value × Value × Value → Shared → Prop} (ho : s.heap.get? sl = some o) (hd : o.data = .fields #[a, b, c]) (q : Q (a, b, c) s) : wpAny (model prog w) A (Builtin.Slice.sliceFields (.ref sl)) Q E s := by
  unfold Builtin.Slice.sliceFields
  obtain ⟨hp, gg, dr, tk, os⟩ := s
  obtain ⟨oc, od, odt, osl⟩ := o
  cases (show odt = _ from hd)
  wp_walk using wpAny_loadPart' ho
  exact q
theorem applied_rev {sl : Addr} {u : Tok} {n : Nat} {Q : Int × Int × Nat → Shared → Prop} (h : s.heap.IsSliceOf sl .none .none (.int (-1) u)) (q : Q ((n : Int) - 1, -1, n) s) :
    wpAny (model prog w) A (Builtin.Slice.sliceApplied (.ref sl) (pure (n : Int))) Q E s := by
  obtain ⟨o, ho, hc, hd⟩ := h
  unfold Builtin.Slice.sliceApplied
  refine wpAny_bind (fields_ ho hd ?_)
  dsimp only
  refine wpAny_bind (slicePart_int ?_)
  dsimp only [Option.getD]
  rw [if_neg (by decide)]
  refine wpAny_bind (slicePart_none (wpAny_bind (slicePart_none ?_)))
  refine wpAny_bind (wpAny_pure ?_)
  have e : Builtin.Slice.slicePlaces ((n : Int) - 1) (-1) (-1) = n := by
    unfold Builtin.Slice.slicePlaces
    rw [if_neg (by decide)]
    by_cases h : (n : Int) - 1 > -1
    · rw [if_pos h, show - (-1 : Int) = 1 from rfl, Int.ediv_one]
      omega
    · rw [if_neg h]
      omega
  have e2 : Builtin.Slice.sliceAdjust none none (-1) (n : Int) = ((n : Int) - 1, -1) := by
    unfold Builtin.Slice.sliceAdjust
    rfl
  rw [e2]
  dsimp only
  rw [e]
  exact wpAny_pure q
theorem fm_map {α β : Type} {f : α → Option β} {g : α → β} : ∀ (l : List α), (∀ k ∈ l, f k = some (g k)) → List.filterMap f l = l.map g
  | [], _ => rfl
  | x :: l, h => by
    rw [List.filterMap_cons, h x List.mem_cons_self, List.map_cons, fm_map l fun k hk => h k (List.mem_cons_of_mem _ hk)]
theorem rev_pick (items : Array Value) : (List.filterMap (fun k : Nat => items[((items.size : Int) - 1 + (k : Int) * -1).toNat]?) (List.range items.size)) = items.toList.reverse := by
  rw [fm_map (g := fun k => (items[items.size - 1 - k]?).getD .none)]
  · refine List.ext_getElem? fun i => ?_
    rw [List.getElem?_map]
    by_cases h : i < items.size
    · rw [List.getElem?_eq_getElem (by rw [List.length_range]; exact h), List.getElem_range, List.getElem?_reverse (by simpa using h), Array.getElem?_toList, Array.length_toList]
      show some ((items[items.size - 1 - i]?).getD .none) = _
      rw [Array.getElem?_eq_getElem (show items.size - 1 - i < items.size by omega)]
      rfl
    · rw [List.getElem?_eq_none (by rw [List.length_range]; omega), List.getElem?_eq_none (by simp; omega)]
      rfl
  · intro k hk
    have := List.mem_range.mp hk
    have z : ((items.size : Int) - 1 + (k : Int) * -1).toNat = items.size - 1 - k := by omega
    rw [z, Array.getElem?_eq_getElem (show items.size - 1 - k < items.size by omega)]
    rfl
theorem tuple_rev_meets (t sl : Addr) (items : Array Value) (u : Tok) (hl : items.size ≤ sizeLine) : Meets (Builtin.«tuple.__getitem__» ⟨[.ref t, .ref sl], []⟩)
    (fun _ R s => (IsTup s.heap t items ∧ s.heap.IsSliceOf sl .none .none (.int (-1) u)) ∧ R (.ok (.ret (.ref s.heap.objs.size))) { s with heap := s.heap.push { cls := .type "tuple", data := .seq items.toList.reverse.toArray } }) :=
  .of_wp fun prog w A R s h => by
    obtain ⟨⟨T, hs⟩, h⟩ := h
    have S := hs
    obtain ⟨o2, ho2, hc2, hd2⟩ := hs
    obtain ⟨oc, od, odt, osl⟩ := o2
    cases (show oc = _ from hc2)
    cases (show odt = _ from hd2)
    obtain ⟨hp, gg, dr, tk, os⟩ := s
    wp_walk using tupleItemsOf_ T, applied_rev S, wpAny_loadPart' ho2
    rw [rev_pick, if_neg (by simp; exact hl)]
    wp_walk
    exact ⟨_, rfl, h⟩
theorem getItem_tuple_rev {t sl : Addr} {items : Array Value} {u : Tok} {Q : Value → Shared → Prop} (T : IsTup s.heap t items) (hs : s.heap.IsSliceOf sl .none .none (.int (-1) u)) (hl : items.size ≤ sizeLine)
    (q : Q (.ref s.heap.objs.size) { s with heap := s.heap.push { cls := .type "tuple", data := .seq items.toList.reverse.toArray } }) : wpAny (model prog w) A (getItem (.ref t) (.ref sl)) Q E s := by
  have T2 := T
  obtain ⟨o, ho, hc, n, hd⟩ := T2
  exact getItem_meets (T := "tuple") ⟨o, ho, hc⟩ (by decide) slot_tuple_getitem entry_tuple_getitem (args_tuple_getitem _ _) (tuple_rev_meets t sl items u hl) ⟨⟨T, hs⟩, q⟩
end
end PySem
namespace NA
open PySem PySem.Spec PyProof.Rows L2
def tRevT (K : PySem.W.Frag) (te : TE) : TE := fun σ H Q => te σ H fun x H1 => ∃ a xs, x = .ref a ∧ SqT K H1 a xs ∧ ∀ p, H1 p = none → Q (.ref p) (upd H1 p (.tup xs.reverse))
theorem vals_app {xs ys : List V} {us vs : List Value} (a : Vals xs us) (b : Vals ys vs) : Vals (xs ++ ys) (us ++ vs) := by
  induction a with
  | nil => exact b
  | cons h _ ih => exact .cons h ih
theorem vals_rev {xs : List V} {us : List Value} (a : Vals xs us) : Vals xs.reverse us.reverse := by
  induction a with
  | nil => exact .nil
  | cons h _ ih =>
    rw [List.reverse_cons, List.reverse_cons]
    exact vals_app ih (.cons h .nil)
theorem pe_revT {X : Cx} (K : PySem.W.Frag) (hK : X.K = K) {e st : Expr} {te : TE} {pos p2 : Pos} (he : PE X e te) (hst : PE X st (tC (.int (-1)))) (hl : ∀ o r : Value, letTemporaryGo e o r = pure () := by intro _ _; rfl) : PE X (.Subscript e (.Slice none none (some st) p2) pos) (tRevT K te) := by
  subst hK
  refine ⟨fun pins s σ H Q I h => ?_⟩
  rw [arm_eval_Subscript]
  refine wpAny_bind (thn (he.run pins s σ H _ I h) fun v s1 ⟨x, H1, I1, rx, q1⟩ => ?_)
  obtain ⟨a, xs, rfl, ha, q⟩ := q1
  cases (show v = Value.ref a from rx)
  refine wpAny_bind (wpAny_holding (wpAny_Slice ?_))
  refine (show wpAny _ _ (pure Value.none) _ _ _ from wpAny_pure ?_)
  refine (show wpAny _ _ (pure Value.none) _ _ _ from wpAny_pure ?_)
  refine (show wpAny _ _ (eval st X.env) _ _ _ from thn (hst.run pins s1 σ H1 (fun y H2 => y = .int (-1) ∧ H2 = H1) I1 ⟨rfl, rfl⟩) fun u s2 ⟨y, H2, I2, ry, ey, eh⟩ => ?_)
  subst ey eh
  obtain ⟨t, rfl⟩ := (show ∃ t, u = Value.int (-1) t from ry)
  refine wpAny_bind (wpAny_standAt ?_)
  obtain ⟨its, rv, tp, hz⟩ := I2.tuple ha
  have T1 : IsTup s2.heap a its.toArray := tp
  have k1 : ∀ b o, s2.heap.get? b = some o → (s2.heap.push { cls := .type "slice", data := .fields #[.none, .none, .int (-1) t] }).get? b = some o := fun b o q => Heap.get?_push_of_some _ q
  have I3 := I2.kept (t' := s2.toks) k1
  obtain ⟨o, ho, hc, n, hd⟩ := T1
  have T3 : IsTup (s2.heap.push { cls := .type "slice", data := .fields #[.none, .none, .int (-1) t] }) a its.toArray := ⟨o, k1 _ _ ho, hc, n, hd⟩
  have hs : (s2.heap.push { cls := .type "slice", data := .fields #[.none, .none, .int (-1) t] }).IsSliceOf s2.heap.objs.size .none .none (.int (-1) t) := ⟨_, Heap.get?_push_size _ rfl, rfl, rfl⟩
  have lx := rv.length
  have hn : H2 (s2.heap.push { cls := .type "slice", data := .fields #[.none, .none, .int (-1) t] }).objs.size = none := I3.hok.fresh (Nat.le_refl _)
  have new : ObjOk X.prog X.w (upd H2 (s2.heap.push { cls := .type "slice", data := .fields #[.none, .none, .int (-1) t] }).objs.size (.tup xs.reverse)) ((s2.heap.push { cls := .type "slice", data := .fields #[.none, .none, .int (-1) t] }).push { cls := .type "tuple", data := .seq its.toArray.toList.reverse.toArray }) (s2.heap.push { cls := .type "slice", data := .fields #[.none, .none, .int (-1) t] }).objs.size (.tup xs.reverse) :=
    ⟨by rw [List.length_reverse]; exact hz, its.reverse, vals_rev rv, ⟨_, Heap.get?_push_size _ rfl, rfl, _, rfl⟩⟩
  have I4 := I3.turnedNew (t' := s2.toks) (ch := []) (h' := (s2.heap.push { cls := .type "slice", data := .fields #[.none, .none, .int (-1) t] }).push { cls := .type "tuple", data := .seq its.toArray.toList.reverse.toArray }) (fun b o _ q => Heap.get?_push_of_some _ q) (fun b hb => nomatch hb) (Nat.le_refl _) new
  exact tail_of_ItemOn (value := e) (slice := .Slice none none (some st) p2) (ops := [.ref a, .ref s2.heap.objs.size]) ⟨"tuple", "tuple.__getitem__", slot_tuple_getitem.1, ⟨o, k1 _ _ ho, hc⟩, getItem_tuple_rev T3 hs (by rw [List.size_toArray]; omega) ⟨V.ref (s2.heap.push { cls := .type "slice", data := .fields #[.none, .none, .int (-1) t] }).objs.size, _, I4, rfl, q _ hn⟩⟩ rfl (fun r => hl _ _)
theorem pe_m1 {X : Cx} {a : Expr} {pos : Pos} (ha : PE X a (tC (.int 1))) : PE X (.UnaryOp .USub a pos) (tC (.int (-1))) :=
  ⟨fun pins s σ H Q I h => (pe_un un_neg ha).run pins s σ H Q I ⟨1, rfl, h⟩⟩
end NA
namespace PySem
open Sem (wp)
open PyProof.Rows
open AutoSeq1 (wpAny_loadPart')
theorem tuple_mul1 (l : Addr) (items : Array Value) (n : Nat) (dd : Option Addr) (sl : Array (Option Value)) (u : Tok) : Meets (Builtin.«tuple.__mul__» ⟨[.ref l, .int 1 u], []⟩)
    (fun _ R s => s.heap.get? l = some { cls := .type "tuple", dict := dd, data := .seq items n, slots := sl } ∧ R (.ok (.ret (.ref l))) s) :=
  .of_wp fun prog w A R s h => by
    obtain ⟨ho, h⟩ := h
    have T : IsTup s.heap l items := ⟨_, ho, rfl, n, rfl⟩
    obtain ⟨hp, gg, dr, tk, os⟩ := s
    wp_walk using tupleItemsOf_ T, wpAny_loadPart' ho
    exact ⟨_, rfl, h⟩
end PySem
namespace NA
open PySem PySem.Spec PyProof.Rows L2
/-- t * k for k from 1 on: t itself, or a new tuple -/
def rRepA (K : PySem.W.Frag) : R2 := fun x y H Q => ∃ l k xs, x = .ref l ∧ y = .int k ∧ SqT K H l xs ∧ xs ≠ [] ∧ 1 ≤ k ∧ k ≤ 1000 ∧ xs.length ≤ 1000 ∧ (k = 1 → Q (.ref l) H) ∧ (k ≠ 1 → ∀ p, H p = none → Q (.ref p) (upd H p (.tup (List.replicate k.toNat xs).flatten)))
theorem op_repA {X : Cx} (K : PySem.W.Frag) (hK : X.K = K) : OpR X (binaryOp .Mult) (rRepA K) := by
  subst hK
  intro pins s σ H x y v u Q I rx ry h
  obtain ⟨l, k, xs, rfl, rfl, hT, ne, k1, k2, l2, q1, q2⟩ := h
  by_cases e : k = 1
  · subst e
    cases (show v = Value.ref l from rx)
    obtain ⟨t, rfl⟩ := (show ∃ t, u = Value.int 1 t from ry)
    obtain ⟨its, rv, tp, hz⟩ := I.tuple hT
    obtain ⟨o, ho, hc, n, hd⟩ := tp
    obtain ⟨oc, dd, odt, sl⟩ := o
    cases (show oc = _ from hc)
    cases (show odt = _ from hd)
    refine wpAny_binaryOp_repeat_ref (T := "tuple") (U := "int") (by decide) ⟨_, ho, rfl⟩ (fun s' => typeIs_int s' 1 t) noFill_tuple_mul F.fills_int_mul F.slot_int_rmul repeat_tuple F.slot_int_index.lookup ?_
    refine call_meets F.slot_int_rmul (typeIs_int s 1 t) F.entry_int_rmul (F.args_int_rmul_2 _ _) (int_rmul_tuple 1 t l its.toArray n dd sl) ⟨ho, rfl, ⟨_, ho, rfl⟩, ?_⟩
    exact call_meets F.slot_tuple_mul ⟨_, ho, rfl⟩ F.entry_tuple_mul (F.args_tuple_mul_2 _ _) (tuple_mul1 l its.toArray n dd sl t) ⟨ho, .ref l, H, I, rfl, q1 rfl⟩
  · exact op_repT pins s σ H (.ref l) (.int k) v u Q I rx ry ⟨l, k, xs, rfl, rfl, hT, ne, by omega, k2, l2, q2 e⟩
theorem rep_any {K : PySem.W.Frag} {l : Addr} {k : Int} {xs : List V} {H : Hp} {Q : VK} (h : H l = some (.tup xs)) (ne : xs ≠ []) (k1 : 1 ≤ k) (k2 : k ≤ 1000) (l2 : xs.length ≤ 1000) (q : ∀ c H', Same H H' → H' c = some (.tup (List.replicate k.toNat xs).flatten) → Q (.ref c) H') : rRepA K (.ref l) (.int k) H Q :=
  ⟨l, k, xs, rfl, rfl, SqT.of h, ne, k1, k2, l2, fun e => q l H (Same.refl H) (by
    subst e
    rw [h]
    simp), fun _ p n => q p _ (Same.new (Same.refl H) n) upd_same⟩
end NA
namespace NA
theorem take_get2 {α : Type} {l : List α} {i : Nat} {x : α} (h : l[i]? = some x) : l.take (i + 1) = l.take i ++ [x] := by
  rw [List.take_add_one, h]
  rfl
/-! ### sums and multiples of contents, deeds put together -/
def mulI (ns : List Int) (c : Int) : List Int := ns.map fun n => n * c
theorem mulI_getD (ns : List Int) (c : Int) (i : Nat) : (mulI ns c).getD i 0 = ns.getD i 0 * c := by
  unfold mulI
  rw [List.getD_eq_getElem?_getD, List.getD_eq_getElem?_getD, List.getElem?_map]
  cases ns[i]? with
  | none => show (0 : Int) = 0 * c; rw [Int.zero_mul]
  | some x => rfl
theorem mulI_len (ns : List Int) (c : Int) : (mulI ns c).length = ns.length := List.length_map ..
theorem add_mulI {ns : List Int} {d : Nat × Nat × Int} {c : Int} (hi : d.2.1 < ns.length) : addI (mulI ns c) d = mulI (addI ns d) c := by
  refine ext_getD (by rw [addI_len, mulI_len, mulI_len, addI_len]) fun k hk => ?_
  rw [addI_getD (by rw [mulI_len]; exact hi), mulI_getD, mulI_getD, mulI_getD, mulI_getD, addI_getD hi]
  by_cases e : d.2.1 = k
  · rw [if_pos e, if_pos e, Int.add_mul, Int.mul_assoc]
  · rw [if_neg e, if_neg e]
theorem far_mul {l : List (Nat × Nat × Int)} {c : Int} : ∀ {ns : List Int}, (∀ d ∈ l, d.2.1 < ns.length) → farI l (mulI ns c) = mulI (farI l ns) c := by
  induction l with
  | nil => exact fun _ => rfl
  | cons d l ih =>
    intro ns hl
    show farI l (addI (mulI ns c) d) = mulI (farI l (addI ns d)) c
    rw [add_mulI (hl d List.mem_cons_self)]
    exact ih fun x hx => by rw [addI_len]; exact hl x (List.mem_cons_of_mem _ hx)
theorem cg_sum {ss ns ms ks ls : List Int} (a : Cg ss ns ks) (b : Cg ss ms ls) : Cg ss (sumI ns ms) (sumI ks ls) := by
  refine ⟨sumI_len a.l1 b.l1, sumI_len a.l2 b.l2, fun i s e => ?_⟩
  rw [sumI_getD (by rw [a.l1, b.l1]), sumI_getD (by rw [a.l2, b.l2])]
  have := Int.dvd_add (a.alike i s e) (b.alike i s e)
  rwa [show ∀ x y z u : Int, x - y + (z - u) = x + z - (y + u) from fun x y z u => by omega] at this
theorem cg_mul {ss ns ms : List Int} (a : Cg ss ns ms) (c : Int) : Cg ss (mulI ns c) (mulI ms c) := by
  refine ⟨by rw [mulI_len, a.l1], by rw [mulI_len, a.l2], fun i s e => ?_⟩
  rw [mulI_getD, mulI_getD, ← Int.sub_mul]
  exact Int.dvd_trans (a.alike i s e) (Int.dvd_mul_right _ _)
/-- of a sum the sum -/
theorem runP_sum {ss : List Int} (ok : ∀ s ∈ ss, SizeOk s) {l : List (Nat × Nat × Int)} (hl : ∀ d ∈ l, DIn ss d) {a b : List Int} (ha : COk ss a) (hb : COk ss b) : runP ss l (remI (sumI a b) ss) = remI (sumI (runP ss l a) (runP ss l b)) ss := by
  have ls := sumI_len ha.len hb.len
  rw [runP_eq ok hl (rem_cok ok ls) (cg_rem ls)]
  unfold runI
  rw [far_sum (by rw [ha.len, hb.len]) fun d hd => by rw [ha.len]; exact (hl d hd).li]
  exact (cg_sum (runP_cg hl (Cg.refl ha.len)) (runP_cg hl (Cg.refl hb.len))).symm.rem
/-- of a multiple the multiple -/
theorem runP_mul {ss : List Int} (ok : ∀ s ∈ ss, SizeOk s) {l : List (Nat × Nat × Int)} (hl : ∀ d ∈ l, DIn ss d) {a : List Int} (ha : COk ss a) (c : Int) : runP ss l (remI (mulI a c) ss) = remI (mulI (runP ss l a) c) ss := by
  have ls : (mulI a c).length = ss.length := by rw [mulI_len, ha.len]
  rw [runP_eq ok hl (rem_cok ok ls) (cg_rem ls)]
  unfold runI
  rw [far_mul fun d hd => by rw [ha.len]; exact (hl d hd).li]
  exact (cg_mul (runP_cg hl (Cg.refl ha.len)) c).symm.rem
/-- of noughts noughts -/
theorem runP_zero {ss : List Int} (ok : ∀ s ∈ ss, SizeOk s) {l : List (Nat × Nat × Int)} (hl : ∀ d ∈ l, DIn ss d) : runP ss l (List.replicate ss.length 0) = List.replicate ss.length 0 := by
  have z : COk ss (List.replicate ss.length 0) := ⟨List.length_replicate .., fun i h s e1 e2 => by
    have li := (List.getElem?_eq_some_iff.mp e2).1
    rw [List.getElem?_replicate, if_pos li] at e1
    cases e1
    obtain ⟨m, rfl, m2, _⟩ := (ok s (List.mem_of_getElem? e2)).nat
    omega⟩
  have e : remI (mulI (List.replicate ss.length 0) 0) ss = List.replicate ss.length 0 := by
    have : mulI (List.replicate ss.length 0) 0 = List.replicate ss.length 0 := by
      unfold mulI
      rw [List.map_replicate]
      rfl
    rw [this]
    exact rem_of z
  have h := runP_mul ok hl z 0
  rw [e] at h
  rw [h]
  refine ext_getD ?_ fun i hi => ?_
  · rw [remI_length (by rw [mulI_len, (runP_cok ok z).len]), List.length_replicate]
  · rw [remI_length (by rw [mulI_len, (runP_cok ok z).len])] at hi
    obtain ⟨s, es⟩ := get_some hi
    rw [remI_getD (by rw [mulI_len, (runP_cok ok z).len]) es, mulI_getD, Int.mul_zero, Int.zero_emod, List.getD_eq_getElem?_getD, List.getElem?_replicate, if_pos hi]
    rfl
/-- only the rest of the factor counts -/
theorem done_more {ss hs : List Int} {j i : Nat} {c k s : Int} (h : DIn ss (j, i, c)) (ch : COk ss hs) (es : ss[i]? = some s) : doneI ss hs (j, i, c + k * s) = doneI ss hs (j, i, c) := by
  unfold doneI
  refine Cg.rem ⟨by rw [addI_len, ch.len], by rw [addI_len, ch.len], fun t r e => ?_⟩
  rw [addI_getD (by rw [ch.len]; exact h.li), addI_getD (by rw [ch.len]; exact h.li)]
  by_cases z : i = t
  · subst z
    rw [es] at e
    cases e
    rw [if_pos rfl, if_pos rfl]
    refine ⟨k * hs.getD j 0, ?_⟩
    show hs.getD i 0 + (c + k * s) * hs.getD j 0 - (hs.getD i 0 + c * hs.getD j 0) = s * (k * hs.getD j 0)
    rw [Int.add_mul, show s * (k * hs.getD j 0) = k * s * hs.getD j 0 by rw [Int.mul_comm k s, Int.mul_assoc]]
    omega
  · rw [if_neg z, if_neg z, Int.sub_self]
    exact Int.dvd_zero _
/-- two deeds on one wire do what one with the sum does -/
theorem run_two {ss hs : List Int} (ok : ∀ s ∈ ss, SizeOk s) {j i : Nat} {c e : Int} (h1 : DIn ss (j, i, c)) (h2 : DIn ss (j, i, e)) (ch : COk ss hs) : runP ss [(j, i, c), (j, i, e)] hs = doneI ss hs (j, i, c + e) := by
  rw [runP_eq ok (fun d hd => by
    rcases List.mem_cons.mp hd with z | hd
    · rw [z]; exact h1
    · rw [List.mem_singleton.mp hd]; exact h2) ch (Cg.refl ch.len)]
  unfold runI doneI
  congr 1
  show addI (addI hs (j, i, c)) (j, i, e) = _
  have li : i < hs.length := by rw [ch.len]; exact h1.li
  refine ext_getD (by rw [addI_len, addI_len, addI_len]) fun k hk => ?_
  rw [addI_getD (by rw [addI_len]; exact li), addI_getD li, addI_getD li, addI_getD li, addI_getD li]
  have ne : i ≠ j := Ne.symm h1.ne
  by_cases z : i = k
  · rw [if_pos z, if_pos rfl, if_neg ne, if_pos z]
    show hs.getD i 0 + c * hs.getD j 0 + e * hs.getD j 0 = hs.getD i 0 + (c + e) * hs.getD j 0
    rw [Int.add_mul]
    omega
  · rw [if_neg z, if_neg z, if_neg z]
/-- deeds neither of which takes where the other gives change places -/
theorem run_swap {ss hs : List Int} (ok : ∀ s ∈ ss, SizeOk s) {d e : Nat × Nat × Int} (h1 : DIn ss d) (h2 : DIn ss e) (n1 : e.2.1 ≠ d.1) (n2 : e.1 ≠ d.2.1) (ch : COk ss hs) : runP ss [d, e] hs = runP ss [e, d] hs := by
  have two : ∀ {a b : Nat × Nat × Int}, DIn ss a → DIn ss b → ∀ x ∈ [a, b], DIn ss x := fun ha hb x hx => by
    rcases List.mem_cons.mp hx with z | hx
    · rw [z]; exact ha
    · rw [List.mem_singleton.mp hx]; exact hb
  rw [runP_eq ok (two h1 h2) ch (Cg.refl ch.len), runP_eq ok (two h2 h1) ch (Cg.refl ch.len)]
  unfold runI
  congr 1
  show addI (addI hs d) e = addI (addI hs e) d
  have l1 : d.2.1 < hs.length := by rw [ch.len]; exact h1.li
  have l2 : e.2.1 < hs.length := by rw [ch.len]; exact h2.li
  refine ext_getD (by rw [addI_len, addI_len, addI_len, addI_len]) fun k hk => ?_
  rw [addI_getD (by rw [addI_len]; exact l2), addI_getD (ns := addI hs e) (by rw [addI_len]; exact l1), addI_getD l1, addI_getD l1, addI_getD l1, addI_getD l2, addI_getD l2, addI_getD l2]
  rw [if_neg (c := d.2.1 = e.1) (Ne.symm n2), if_neg (c := e.2.1 = d.1) n1]
  by_cases a : d.2.1 = k <;> by_cases b : e.2.1 = k
  · have z : d.2.1 = e.2.1 := a.trans b.symm
    rw [if_pos b, if_pos a, if_pos z, if_pos z.symm, z]
    omega
  · have z : ¬ d.2.1 = e.2.1 := fun q => b (q ▸ a)
    rw [if_neg b, if_pos a, if_pos a, if_neg (fun q => z q.symm)]
  · have z : ¬ d.2.1 = e.2.1 := fun q => a (q ▸ b)
    rw [if_pos b, if_neg z, if_neg a, if_pos b]
  · rw [if_neg b, if_neg a, if_neg a, if_neg b]
end NA
namespace NA
/-! ### good tables, powers -/
structure GT (ss : List Int) (t : List (List Int)) : Prop where
  sq : Sq ss.length t
  low : Low ss t
  hit : Hit ss t
theorem TOk.gt {ss : List Int} {t : List (List Int)} (h : TOk ss t) : GT ss t := ⟨h.sq, h.lowE, h.hit⟩
theorem GT.still {ss : List Int} (ok : ∀ s ∈ ss, SizeOk s) : GT ss (stillI ss.length) := (TOk.still ok).gt
theorem GT.both {ss : List Int} {one other : List (List Int)} (ok : ∀ s ∈ ss, SizeOk s) (a : GT ss one) (b : GT ss other) : GT ss (bothI ss one other) := ⟨both_sq b.sq, both_low ok a.sq b.sq, both_hit a.sq b.sq a.hit b.hit⟩
theorem GT.deed {ss : List Int} (ok : ∀ s ∈ ss, SizeOk s) {d : Nat × Nat × Int} (h : DIn ss d) : GT ss (deedI ss d) := by
  refine ⟨deed_sq h, fun i j s hs hj => ?_, deed_hit h⟩
  rw [deed_en h hs hj]
  obtain ⟨m, rfl, m2, _⟩ := (ok s (List.mem_of_getElem? hs)).nat
  split
  · exact ⟨Int.emod_nonneg _ (by omega), Int.emod_lt_of_pos _ (by omega)⟩
  · split <;> omega
theorem GT.led {ss : List Int} {t : List (List Int)} {hs : List Int} (ok : ∀ s ∈ ss, SizeOk s) (h : GT ss t) (c : COk ss hs) : COk ss (ledI ss t hs) := by
  refine ⟨led_len h.sq, fun i x s ex es => ?_⟩
  have := led_getD h.sq c.len es
  rw [List.getD_eq_getElem?_getD, ex] at this
  obtain ⟨m, rfl, m2, _⟩ := (ok s (List.mem_of_getElem? es)).nat
  have e : x = (sumF ss.length fun j => en t i j * hs.getD j 0) % (m : Int) := this
  rw [e]
  exact ⟨Int.emod_nonneg _ (by omega), Int.emod_lt_of_pos _ (by omega)⟩
theorem GT.sh {ss : List Int} {t : List (List Int)} (ok : ∀ s ∈ ss, SizeOk s) (h : GT ss t) : TSh ss.length t := by
  refine ⟨h.sq.len, h.sq.row, fun r hr n hn => ?_⟩
  obtain ⟨i, hi, rfl⟩ := List.getElem_of_mem hr
  obtain ⟨j, hj, rfl⟩ := List.getElem_of_mem hn
  have li : i < ss.length := by rw [← h.sq.len]; exact hi
  have lj : j < ss.length := by rw [← h.sq.row _ (List.getElem_mem hi)]; exact hj
  obtain ⟨s, es⟩ := get_some li
  have e : en t i j = t[i][j] := by
    rw [en_of (List.getElem?_eq_getElem hi), List.getD_eq_getElem?_getD, List.getElem?_eq_getElem hj]
    rfl
  obtain ⟨a, b⟩ := h.low i j s es lj
  obtain ⟨m, rfl, _, m30⟩ := (ok s (List.mem_of_getElem? es)).nat
  rw [e] at a b
  exact Nat.lt_of_le_of_lt (show t[i][j].natAbs ≤ 10 ^ 30 by omega) (by decide)
def powI (ss : List Int) (t : List (List Int)) : Nat → List (List Int)
  | 0 => stillI ss.length
  | k + 1 => bothI ss (powI ss t k) t
section
variable {ss : List Int} {t : List (List Int)}
theorem powI_gt (ok : ∀ s ∈ ss, SizeOk s) (h : GT ss t) : ∀ k, GT ss (powI ss t k)
  | 0 => GT.still ok
  | k + 1 => GT.both ok (powI_gt ok h k) h
theorem powI_add (ok : ∀ s ∈ ss, SizeOk s) (h : GT ss t) (a : Nat) : ∀ b, bothI ss (powI ss t a) (powI ss t b) = powI ss t (a + b)
  | 0 => both_still (powI_gt ok h a).sq (powI_gt ok h a).low
  | b + 1 => by
    show bothI ss (powI ss t a) (bothI ss (powI ss t b) t) = bothI ss (powI ss t (a + b)) t
    rw [← both_assoc (powI_gt ok h a).sq (powI_gt ok h b).sq h.sq h.hit, powI_add ok h a b]
theorem powI_one (ok : ∀ s ∈ ss, SizeOk s) (h : GT ss t) : powI ss t 1 = t := still_both h.sq h.low
theorem powI_mul (ok : ∀ s ∈ ss, SizeOk s) (h : GT ss t) (k : Nat) : ∀ m, powI ss (powI ss t k) m = powI ss t (k * m)
  | 0 => by rw [Nat.mul_zero]; rfl
  | m + 1 => by
    show bothI ss (powI ss (powI ss t k) m) (powI ss t k) = _
    rw [powI_mul ok h k m, powI_add ok h, Nat.mul_succ]
theorem powI_two (ok : ∀ s ∈ ss, SizeOk s) (h : GT ss t) (m : Nat) : powI ss (bothI ss t t) m = powI ss t (2 * m) := by
  have e : bothI ss t t = powI ss t 2 := by
    show bothI ss t t = bothI ss (powI ss t 1) t
    rw [powI_one ok h]
  rw [e, powI_mul ok h]
theorem powI_succ' (ok : ∀ s ∈ ss, SizeOk s) (h : GT ss t) (k : Nat) : bothI ss t (powI ss t k) = powI ss t (k + 1) := by
  have := powI_add ok h 1 k
  rw [powI_one ok h] at this
  rw [this, Nat.add_comm]
theorem led_pow (ok : ∀ s ∈ ss, SizeOk s) (h : GT ss t) (k : Nat) {hs : List Int} (c : COk ss hs) : ledI ss (powI ss t (k + 1)) hs = ledI ss t (ledI ss (powI ss t k) hs) := led_both (powI_gt ok h k).sq h.sq h.hit c.len
/-- one deed more in front of the table -/
theorem tabI_gt (ok : ∀ s ∈ ss, SizeOk s) {l : List (Nat × Nat × Int)} (hl : ∀ d ∈ l, DIn ss d) : GT ss (tabI ss l) := by
  unfold tabI
  have : ∀ (l : List (Nat × Nat × Int)), (∀ d ∈ l, DIn ss d) → ∀ t, GT ss t → GT ss (l.foldl (fun t d => bothI ss t (deedI ss d)) t) := by
    intro l
    induction l with
    | nil => exact fun _ t h => h
    | cons d l ih => exact fun hl t h => ih (fun x hx => hl x (List.mem_cons_of_mem _ hx)) _ (GT.both ok h (GT.deed ok (hl d List.mem_cons_self)))
  exact this l hl _ (GT.still ok)
theorem tab_from2 (ok : ∀ s ∈ ss, SizeOk s) : ∀ {l : List (Nat × Nat × Int)}, (∀ d ∈ l, DIn ss d) → ∀ {t : List (List Int)}, GT ss t → l.foldl (fun t d => bothI ss t (deedI ss d)) t = bothI ss t (tabI ss l)
  | [], _, t, h => (both_still h.sq h.low).symm
  | d :: l, hl, t, h => by
    have dd := GT.deed ok (hl d List.mem_cons_self)
    have hl' : ∀ x ∈ l, DIn ss x := fun x hx => hl x (List.mem_cons_of_mem _ hx)
    have gt := tabI_gt ok hl'
    show l.foldl (fun t d => bothI ss t (deedI ss d)) (bothI ss t (deedI ss d)) = bothI ss t (l.foldl (fun t d => bothI ss t (deedI ss d)) (bothI ss (stillI ss.length) (deedI ss d)))
    rw [tab_from2 ok hl' (GT.both ok h dd), tab_from2 ok hl' (GT.both ok (GT.still ok) dd), still_both dd.sq dd.low, both_assoc h.sq dd.sq gt.sq gt.hit]
/-- the table of two programs one behind the other -/
theorem tab_app (ok : ∀ s ∈ ss, SizeOk s) {l m : List (Nat × Nat × Int)} (hl : ∀ d ∈ l, DIn ss d) (hm : ∀ d ∈ m, DIn ss d) : tabI ss (l ++ m) = bothI ss (tabI ss l) (tabI ss m) := by
  have e : tabI ss (l ++ m) = m.foldl (fun t d => bothI ss t (deedI ss d)) (tabI ss l) := List.foldl_append
  rw [e, tab_from2 ok hm (tabI_gt ok hl)]
end
end NA
namespace NA
open PySem PySem.Spec PyProof.Rows L2
/-! ### the program's functions: small facts, levels -/
theorem Cal.up {P : Program} {w : World} {K : PySem.W.Frag} {mg : Str → Option Value} {base : Heap} {x : Str} {k j : Nat} {sp : Sp} (h : k ≤ j) (c : Cal P w K mg base k x sp) : Cal P w K mg base j x sp := by
  obtain ⟨a, fd, ps, F, r⟩ := c.ex
  exact ⟨a, fd, ps, ⟨F.len, fun A outer s H args us vs Q E hr he hb hv h' => F.run A outer s H args us vs Q E (hr.mono h) he hb hv h'⟩, r⟩
theorem CalK.up {P : Program} {w : World} {K : PySem.W.Frag} {mg : Str → Option Value} {base : Heap} {x : Str} {k j : Nat} {sp : Sp} {ks : List Str} {gV : List V → List V → List V} (h : k ≤ j) (c : CalK P w K mg base k x sp ks gV) : CalK P w K mg base j x sp ks gV := by
  obtain ⟨a, fd, ps, g, F, r⟩ := c.ex
  exact ⟨a, fd, ps, g, ⟨F.len, fun A outer s H args us vs Q E hr he hb hv h' => F.run A outer s H args us vs Q E (hr.mono h) he hb hv h'⟩, r⟩
theorem doneI_set {ss hs : List Int} (ok : ∀ s ∈ ss, SizeOk s) (h : COk ss hs) {d : Nat × Nat × Int} {s : Int} (e : ss[d.2.1]? = some s) : doneI ss hs d = hs.set d.2.1 ((hs.getD d.2.1 0 + d.2.2 * hs.getD d.1 0) % s) := by
  have li := (List.getElem?_eq_some_iff.mp e).1
  have l1 : (addI hs d).length = ss.length := by rw [addI_len, h.len]
  unfold doneI
  refine ext_getD (by rw [remI_length l1, List.length_set, h.len]) fun i hi => ?_
  rw [remI_length l1] at hi
  obtain ⟨t, et⟩ := get_some hi
  rw [remI_getD l1 et, addI_getD (by rw [h.len]; exact li), getD_set (by rw [h.len]; exact li)]
  by_cases z : d.2.1 = i
  · subst z
    rw [if_pos rfl, if_pos rfl]
    rw [e] at et
    cases et
    rfl
  · rw [if_neg z, if_neg z]
    obtain ⟨x, ex⟩ := get_some (show i < hs.length by rw [h.len]; exact hi)
    obtain ⟨a, b⟩ := h.low i x t ex et
    rw [List.getD_eq_getElem?_getD, ex]
    exact Int.emod_eq_of_lt a b
theorem runP_next {ss : List Int} {l : List (Nat × Nat × Int)} {hs : List Int} {i : Nat} {d : Nat × Nat × Int} (h : l[i]? = some d) : runP ss (l.take (i + 1)) hs = doneI ss (runP ss (l.take i) hs) d := by
  unfold runP
  rw [List.take_add_one, h, List.foldl_append]
  rfl
theorem COk.most {ss hs : List Int} (ok : ∀ s ∈ ss, SizeOk s) (h : COk ss hs) (i : Nat) : (hs.getD i 0).natAbs < 2 ^ 110 := by
  rw [List.getD_eq_getElem?_getD]
  cases e : hs[i]? with
  | none => exact Nat.pow_pos (by decide)
  | some x =>
    have li := (List.getElem?_eq_some_iff.mp e).1
    obtain ⟨s, es⟩ := get_some (show i < ss.length by rw [← h.len]; exact li)
    obtain ⟨a, b⟩ := h.low i x s e es
    obtain ⟨m, rfl, _, d⟩ := (ok s (List.mem_of_getElem? es)).nat
    exact Nat.lt_of_le_of_lt (show x.natAbs ≤ 10 ^ 30 by omega) (by decide)
end NA
namespace NA
open PySem PySem.Spec PyProof.Rows L2
/-! ### a range kept in a name -/
theorem cr_rangeV1 {X : Cx} : CallR X (.type "range") (fun vs H Q => ∃ j, vs = [V.int j] ∧ ∀ p, H p = none → Q (.ref p) (upd H p (.rng 0 j))) := by
  intro pins s σ H vs us Q I r h
  obtain ⟨j, rfl, q⟩ := h
  obtain ⟨u, rfl, rv⟩ := r.one
  obtain ⟨t, rfl⟩ := (show ∃ t, u = Value.int j t from rv)
  refine call_range_1 ⟨.ref s.heap.objs.size, upd H s.heap.objs.size (.rng 0 j), I.laid (t' := s.toks + 1 + 1) (fun b o e => Heap.get?_push_of_some _ e) (Nat.le_refl _) ?_, rfl, q _ (I.hok.fresh (Nat.le_refl _))⟩
  exact ⟨s.toks, t, s.toks + 1, Heap.get?_push_size _ rfl⟩
def iRngV (te : TE) : TI := fun σ H R => te σ H fun v H1 => ∃ (a : Addr) (lo hi : Int), v = .ref a ∧ H1 a = some (.rng lo hi) ∧ (-(2 ^ 62) ≤ lo ∧ lo < 2 ^ 62 ∧ -(2 ^ 62) ≤ hi ∧ hi < 2 ^ 62) ∧ R (Itr lo (hi - lo).toNat) H1
theorem pi_rngVK {X : Cx} (K : PySem.W.Frag) (hK : X.K = K) {tg e : Expr} {te : TE} (he : PE X e te) : PI X tg e (iRngV te) := by
  refine ⟨fun pins s σ H R I h => ?_⟩
  refine thn (he.run pins s σ H _ I h) fun v s1 ⟨x, H1, I1, r1, q1⟩ => ?_
  obtain ⟨a, lo, hi, e, ha, ⟨b1, b2, b3, b4⟩, q⟩ := q1
  subst e
  cases r1
  obtain ⟨t, u, v, hr⟩ := I1.hok a _ ha
  refine wpAny_pyIter_range (show IsRange s1.heap a lo hi 1 t u v from hr) (small_one b1 b2 b3 b4) ?_
  refine ⟨s1.heap.objs.size, [s1.heap.objs.size], _, _, H1, rfl, I1.kept (t' := s1.toks) fun b o e => Heap.get?_push_of_some _ e, turn_range _ lo (hi - lo).toNat, ?_, fun b hb => ?_, q⟩
  · have e1 : lo + ((0 : Nat) : Int) * 1 = lo := by simp
    have e2 : (((hi - lo).toNat : Nat) : Int) - ((0 : Nat) : Int) = Builtin.Range.rangeSize lo hi 1 := by rw [rangeSize_one]; split <;> omega
    show IsRangeIter _ _ (lo + ((0 : Nat) : Int) * 1) ((((hi - lo).toNat : Nat) : Int) - ((0 : Nat) : Int)) 1
    rw [e1, e2]
    exact Heap.get?_push_size _ rfl
  · have e : b = s1.heap.objs.size := by simpa using hb
    subst e
    exact I1.fpOk (Nat.le_refl _) (I1.hok.fresh (Nat.le_refl _))
end NA
namespace NA
open PySem PySem.Spec PyProof.Rows L2
/-! ### max of a tuple of ints -/
section
variable {prog : Program} {w : World} {A : Around} {E : Value → Shared → Prop} {s : Shared} {l : Addr}
theorem max_intTup {xs : Array (Int × Tok)} {Q : Value → Shared → Prop} (hh : A.handled = none) (hl : s.heap.IsTuple l (intItems xs)) (hne : 0 < xs.size)
    (h : ∀ v h' tk, (intItems xs)[argBest (fun i j => decide (numAt xs i > numAt xs j)) (xs.size - 1)]? = some v → (∀ b o, s.heap.get? b = some o → h'.get? b = some o) → Q v { s with heap := h', toks := tk }) :
    wpAny (model prog w) A (call (.builtin "max") [.ref l]) Q E s := by
  have hlt : l < s.heap.objs.size := by obtain ⟨_, e, _⟩ := hl; exact Heap.lt_size e
  refine call_max_walk (wpAny_pyIter_tuple hl ?_)
  refine ⟨_, [_, l], [_], _, _, _, _, rfl, Walks.tuple (A := A.in1) hh _ l (Nat.ne_of_lt hlt) (intItems xs), ⟨⟨_, Heap.get?_push_size _ rfl, rfl, rfl⟩, hl.push _⟩, fun b hb => ?_, by simpa [intItems] using hne, CmpOf.ints_gt (numAt xs) (fun _ _ => intItems_at), fun v h' tk hP hk => ?_⟩
  · show b < (s.heap.push _).objs.size
    rw [Heap.size_push]
    rcases List.mem_cons.mp hb with rfl | hb
    · exact Nat.lt_succ_self _
    · rw [List.mem_singleton.mp hb]
      exact Nat.lt_succ_of_lt hlt
  · refine h v h' tk (by simpa [intItems] using hP) fun b o e => hk b o (fun hm => ?_) (Heap.get?_push_of_some _ e)
    rw [List.mem_singleton.mp hm] at e
    exact absurd (Heap.lt_size e) (Nat.lt_irrefl _)
theorem max_rawT {its : List Value} {ns : List Int} {Q : Value → Shared → Prop} (hh : A.handled = none) (hl : s.heap.IsTuple l its.toArray) (hi : IntsAre its ns) (hne : 0 < ns.length)
    (h : ∀ h' tk M t', (∀ b o, s.heap.get? b = some o → h'.get? b = some o) → M ∈ ns → (∀ a, a ∈ ns → a ≤ M) → Q (.int M t') { s with heap := h', toks := tk }) : wpAny (model prog w) A (call (.builtin "max") [.ref l]) Q E s := by
  obtain ⟨xs, e⟩ := hi.allInts.items
  have hn : numsOf (intItems xs).toList = ns := by rw [← e]; exact hi.numsOf
  rw [nums_intItems] at hn
  subst hn
  rw [e] at hl
  have hsz : 0 < xs.size := by simpa using hne
  refine max_intTup hh hl hsz fun v h' tk hv hk => ?_
  obtain ⟨t, rfl⟩ := intItems_at hv
  obtain ⟨h1, h2⟩ := argBest_gt (numAt xs) (xs.size - 1)
  refine h h' tk _ t hk ?_ fun a ha => ?_
  · rw [numAt_eq]; exact PySem.getD_mem (by rw [List.length_map, Array.length_toList]; omega)
  · obtain ⟨j, hj, rfl⟩ := mem_getD ha
    rw [List.length_map, Array.length_toList] at hj
    rw [← numAt_eq]; exact h2 j (by omega)
end
def rMaxT (K : PySem.W.Frag) : List V → Hp → VK → Prop := fun vs H Q => ∃ (a : Addr) (ns : List Int), vs = [V.ref a] ∧ SqT K H a (ns.map V.int) ∧ 0 < ns.length ∧ ∀ m, m ∈ ns → (∀ y, y ∈ ns → y ≤ m) → Q (.int m) H
theorem cr_maxTK {X : Cx} (K : PySem.W.Frag) (hK : X.K = K) (hc : X.calm = true) : CallR X (.builtin "max") (rMaxT K) := by
  subst hK
  intro pins s σ H vs us Q I r h
  obtain ⟨a, ns, rfl, hs, hne, q⟩ := h
  obtain ⟨its, rv, hl⟩ := src_of (k := .t) I hs
  rw [Vals.ref1 r]
  exact max_rawT (I.ok.hd hc) hl rv.ints hne fun h' tk m t' hk h1 h2 => ⟨.int _, H, I.kept hk, ⟨_, rfl⟩, q m h1 h2⟩
end NA
namespace NA
open PySem PySem.Spec PyProof.Rows L2
/-! ### all contents of a small machine -/
def exI (s : Int) (found : List (List Int)) : List (List Int) := found.flatMap fun h => (List.range s.toNat).map fun i : Nat => h ++ [(i : Int)]
def everyI (ss : List Int) : List (List Int) := ss.foldl (fun found s => exI s found) [[]]
def prodN (ss : List Int) : Nat := ss.foldl (fun a s => a * s.toNat) 1
theorem every_next {ss : List Int} {i : Nat} {s : Int} (h : ss[i]? = some s) : everyI (ss.take (i + 1)) = exI s (everyI (ss.take i)) := by
  unfold everyI
  rw [List.take_add_one, h, List.foldl_append]
  rfl
theorem prod_next {ss : List Int} {i : Nat} {s : Int} (h : ss[i]? = some s) : prodN (ss.take (i + 1)) = prodN (ss.take i) * s.toNat := by
  unfold prodN
  rw [List.take_add_one, h, List.foldl_append]
  rfl
theorem prod_snoc (ss : List Int) (s : Int) : prodN (ss ++ [s]) = prodN ss * s.toNat := by
  unfold prodN
  rw [List.foldl_append]
  rfl
theorem ex_len (s : Int) (f : List (List Int)) : (exI s f).length = f.length * s.toNat := by
  unfold exI
  rw [List.length_flatMap]
  have : ∀ l : List (List Int), (l.map fun h => ((List.range s.toNat).map fun i : Nat => h ++ [(i : Int)]).length).sum = l.length * s.toNat := by
    intro l
    induction l with
    | nil => rw [List.map_nil, List.length_nil, Nat.zero_mul]; rfl
    | cons h l ih =>
      rw [List.map_cons, List.sum_cons, ih, List.length_map, List.length_range, List.length_cons, Nat.succ_mul, Nat.add_comm]
  exact this f
structure EvOk (ss : List Int) (f : List (List Int)) : Prop where
  cok : ∀ h ∈ f, COk ss h
  nd : f.Nodup
  len : f.length = prodN ss
theorem every_ok (ss : List Int) (ok : ∀ s ∈ ss, SizeOk s) : ∀ i, i ≤ ss.length → EvOk (ss.take i) (everyI (ss.take i)) := by
  intro i
  induction i with
  | zero =>
    intro _
    refine ⟨fun h hh => ?_, List.pairwise_singleton _ _, rfl⟩
    rw [List.take_zero] at hh ⊢
    rw [List.mem_singleton.mp hh]
    exact ⟨rfl, fun i h s e _ => by simp at e⟩
  | succ i ih =>
    intro hi
    have e := ih (by omega)
    obtain ⟨s, hs⟩ := get_some (ss := ss) (show i < ss.length by omega)
    rw [every_next hs]
    refine ⟨fun h hh => ?_, ?_, by rw [ex_len, e.len, prod_next hs]⟩
    · obtain ⟨g, hg, hx⟩ := List.mem_flatMap.mp hh
      obtain ⟨x, hx', rfl⟩ := List.mem_map.mp hx
      have cg := e.cok g hg
      have lx := List.mem_range.mp hx'
      have lt : (ss.take i).length = i := by rw [List.length_take]; omega
      refine ⟨by rw [List.length_append, cg.len, lt, List.length_take, List.length_singleton]; omega, fun k y t hy ht => ?_⟩
      by_cases z : k < i
      · rw [List.getElem?_append_left (by rw [cg.len, lt]; exact z)] at hy
        refine cg.low k y t hy ?_
        rw [List.getElem?_take_of_lt z]
        rwa [List.getElem?_take_of_lt (by omega)] at ht
      · have lk : k < i + 1 := by
          have := (List.getElem?_eq_some_iff.mp ht).1
          rw [List.length_take] at this
          omega
        have ek : k = i := by omega
        subst ek
        rw [List.getElem?_append_right (by rw [cg.len, lt]; exact Nat.le_refl _), cg.len, lt, Nat.sub_self] at hy
        cases Option.some.inj hy
        rw [List.getElem?_take_of_lt (by omega), hs] at ht
        cases Option.some.inj ht
        omega
    · unfold exI
      refine List.pairwise_flatMap.mpr ⟨fun h _ => ?_, ?_⟩
      · rw [List.pairwise_map]
        refine List.Pairwise.imp (fun {a b} (z : a < b) q => ?_) List.pairwise_lt_range
        have q' := List.append_cancel_left q
        have q'' : (a : Int) = b := List.head_eq_of_cons_eq q'
        omega
      · refine List.Pairwise.imp_of_mem (fun {a b} ha hb z x hx y hy q => z ?_) e.nd
        obtain ⟨i1, _, rfl⟩ := List.mem_map.mp hx
        obtain ⟨i2, _, rfl⟩ := List.mem_map.mp hy
        exact (List.append_inj q (by rw [(e.cok a ha).len, (e.cok b hb).len])).1
theorem every_full (ss : List Int) (ok : ∀ s ∈ ss, SizeOk s) : EvOk ss (everyI ss) := by
  have := every_ok ss ok ss.length (Nat.le_refl _)
  rwa [List.take_length] at this
theorem prod_pos {ss : List Int} (ok : ∀ s ∈ ss, SizeOk s) : ∀ i, i ≤ ss.length → 0 < prodN (ss.take i) := by
  intro i
  induction i with
  | zero => intro _; exact Nat.one_pos
  | succ i ih =>
    intro hi
    obtain ⟨s, hs⟩ := get_some (ss := ss) (show i < ss.length by omega)
    rw [prod_next hs]
    obtain ⟨m, rfl, m2, _⟩ := (ok s (List.mem_of_getElem? hs)).nat
    exact Nat.mul_pos (ih (by omega)) (by omega)
theorem prod_le {ss : List Int} (ok : ∀ s ∈ ss, SizeOk s) : ∀ k i, i + k ≤ ss.length → prodN (ss.take i) ≤ prodN (ss.take (i + k)) := by
  intro k
  induction k with
  | zero => intro i _; exact Nat.le_refl _
  | succ k ih =>
    intro i hi
    obtain ⟨s, hs⟩ := get_some (ss := ss) (show i + k < ss.length by omega)
    rw [show i + (k + 1) = i + k + 1 by omega, prod_next hs]
    obtain ⟨m, rfl, m2, _⟩ := (ok s (List.mem_of_getElem? hs)).nat
    exact Nat.le_trans (ih i (by omega)) (Nat.le_mul_of_pos_right _ (by omega))
def spEvery : Sp := fun vs H Q _ => ∃ (x : V) (ss : List Int), vs = [x] ∧ Im H x (sD ss) ∧ (∀ s ∈ ss, SizeOk s) ∧ prodN ss ≤ 1000 ∧
  ∀ (a : Addr) (us : List V) (H' : Hp), H a = none → H' a = some (.lst us) → ImAll H' us ((everyI ss).map sD) → Same H H' → Q (.ref a) H'
def spSmall : Sp := fun vs H Q _ => ∃ (p q : Addr) (m : Nat), vs = [.ref p, .int (m : Int)] ∧ Pt H p q ∧ 2 ≤ m ∧ m ≤ 1000 ∧
  ∀ (v : V) (ss : List Int) (ws : List (Nat × Nat)) (H' : Hp), Im H' v (mD ss ws) → MOk ss ws → prodN ss ≤ m → Pt H' p q → Kp p q H H' → Q v H'
theorem pow_prod {ss : List Int} (ok : ∀ s ∈ ss, SizeOk s) : ∀ k, k ≤ ss.length → 2 ^ k ≤ prodN (ss.take k) := by
  intro k
  induction k with
  | zero => intro _; exact Nat.le_refl _
  | succ k ih =>
    intro hk
    obtain ⟨s', hs'⟩ := get_some (ss := ss) (show k < ss.length by omega)
    rw [prod_next hs', Nat.pow_succ]
    obtain ⟨m', rfl, m2', _⟩ := (ok s' (List.mem_of_getElem? hs')).nat
    exact Nat.mul_le_mul (ih (by omega)) (by omega)
theorem op_catAK {X : Cx} (K : PySem.W.Frag) (hK : X.K = K) : OpR X (binaryOp .Add) (rCatA K) := hK ▸ op_catA
end NA
namespace NA
open PySem PySem.Spec PyProof.Rows L2
/-! ### unlike tables have unlike texts -/
abbrev sg (t : Str) : List Nat := t.cps.toList
theorem sg_app (a b : Str) : sg (a ++ b) = sg a ++ sg b := by
  show (a.cps ++ b.cps).toList = _
  rw [Array.toList_append]
def dig (c : Nat) : Bool := decide (48 ≤ c ∧ c ≤ 57)
def runsGo : List Nat → List Nat → List (List Nat)
  | cur, [] => if cur = [] then [] else [cur.reverse]
  | cur, c :: cs => if dig c = true then runsGo (c :: cur) cs else (if cur = [] then [] else [cur.reverse]) ++ runsGo [] cs
theorem runs_dig : ∀ (d cur rest : List Nat), (∀ c ∈ d, dig c = true) → runsGo cur (d ++ rest) = runsGo (d.reverse ++ cur) rest
  | [], _, _, _ => rfl
  | c :: d, cur, rest, h => by
    show runsGo cur (c :: (d ++ rest)) = _
    rw [runsGo, if_pos (h c List.mem_cons_self), runs_dig d _ _ fun x hx => h x (List.mem_cons_of_mem _ hx), List.reverse_cons, List.append_assoc]
    rfl
theorem runs_no {c : Nat} (h : dig c = false) (rest : List Nat) : runsGo [] (c :: rest) = runsGo [] rest := by
  rw [runsGo, if_neg (by rw [h]; decide), if_pos rfl, List.nil_append]
/-- whatever sign but a digit follows: these runs of digits, then what is behind -/
def Gives (t : Str) (e : List (List Nat)) : Prop := ∀ (c : Nat) (rest : List Nat), dig c = false → runsGo [] (sg t ++ c :: rest) = e ++ runsGo [] rest
theorem gives_int {n : Int} (h : 0 ≤ n) : Gives (PyData.int n).shown [sg (PyData.int n).shown] := by
  intro c rest hc
  have dg : ∀ x ∈ sg (PyData.int n).shown, dig x = true := fun x hx => by
    obtain ⟨m, rfl⟩ : ∃ m : Nat, n = (m : Int) := ⟨n.toNat, by omega⟩
    rw [PyData.shown_int] at hx
    have e : (toString (m : Int) : String) = Nat.repr m := rfl
    rw [e] at hx
    have hx' : x ∈ (Str.ofString (Nat.repr m)).cps.toList := hx
    rw [signs_ofString] at hx'
    obtain ⟨ch, hch, rfl⟩ := List.mem_map.mp hx'
    rw [Nat.toList_repr] at hch
    have := digit_range (Nat.isDigit_of_mem_toDigits (by decide) (by decide) hch)
    exact decide_eq_true this
  have ne : sg (PyData.int n).shown ≠ [] := fun z => by
    obtain ⟨m, rfl⟩ : ∃ m : Nat, n = (m : Int) := ⟨n.toNat, by omega⟩
    rw [PyData.shown_int] at z
    have z' : (Str.ofString (Nat.repr m)).cps.toList = [] := z
    rw [signs_ofString, Nat.toList_repr, List.map_eq_nil_iff] at z'
    exact Nat.toDigits_ne_nil z'
  rw [runs_dig _ _ _ dg, List.append_nil, runsGo, if_neg (by rw [hc]; decide), if_neg (fun z => ne (List.reverse_eq_nil_iff.mp z)), List.reverse_reverse]
theorem gives_join : ∀ (ts : List Str) (es : List (List (List Nat))), ts ≠ [] → Paired (fun t e => Gives t e) ts es → Gives (Str.join ", " ts) es.flatten
  | [t], [e], _, h => by
    cases h with
    | cons a b =>
      intro c rest hc
      have := a c rest hc
      rw [show Str.join ", " [t] = t from rfl, this]
      simp
  | t :: t2 :: ts, e :: e2 :: es, _, h => by
    cases h with
    | cons a b =>
      intro c rest hc
      have ih := gives_join (t2 :: ts) (e2 :: es) (List.cons_ne_nil _ _) b c rest hc
      have j : Str.join ", " (t :: t2 :: ts) = t ++ ", " ++ Str.join ", " (t2 :: ts) := rfl
      have cm : sg (", " : Str) = [44, 32] := by decide
      rw [j, sg_app, sg_app, cm, List.append_assoc, List.append_assoc]
      show runsGo [] (sg t ++ (44 :: (32 :: (sg (Str.join ", " (t2 :: ts)) ++ c :: rest)))) = _
      rw [a 44 _ (by decide), runs_no (by decide), ih]
      simp [List.append_assoc]
  | [], _, h, _ => absurd rfl h
  | [_], [], _, h => by cases h
  | [_], _ :: _ :: _, _, h => by cases h with | cons a b => cases b
  | _ :: _ :: _, [], _, h => by cases h
  | _ :: _ :: _, [_], _, h => by cases h with | cons a b => cases b
theorem gives_tuple {ts : List Str} {es : List (List (List Nat))} (ne : ts ≠ []) (h : Paired (fun t e => Gives t e) ts es) : Gives (tupleText ts) es.flatten := by
  intro c rest hc
  have j := gives_join ts es ne h
  have p : sg ("(" : Str) = [40] := by decide
  unfold tupleText
  rw [sg_app, sg_app, p, List.append_assoc, List.append_assoc]
  show runsGo [] (40 :: (sg (Str.join ", " ts) ++ (sg _ ++ c :: rest))) = _
  rw [runs_no (by decide)]
  by_cases l : (ts.length == 1) = true
  · rw [if_pos l]
    have q : sg ((",)" : String) : Str) = [44, 41] := by decide
    rw [q]
    show runsGo [] (sg (Str.join ", " ts) ++ 44 :: (41 :: (c :: rest))) = _
    rw [j 44 _ (by decide), runs_no (by decide), runs_no hc]
  · rw [if_neg l]
    have q : sg ((")" : String) : Str) = [41] := by decide
    rw [q]
    show runsGo [] (sg (Str.join ", " ts) ++ 41 :: (c :: rest)) = _
    rw [j 41 _ (by decide), runs_no hc]
def rowSg (r : List Int) : List (List Nat) := r.map fun n => sg (PyData.int n).shown
theorem shownAll_map {α : Type} (f : α → PyData) : ∀ l : List α, PyData.shownAll (l.map f) = l.map fun x => (f x).shown
  | [] => rfl
  | x :: l => by
    rw [List.map_cons, List.map_cons, ← shownAll_map f l]
    rfl
theorem gives_row {r : List Int} (ne : r ≠ []) (h : ∀ n ∈ r, 0 ≤ n) : Gives (sD r).shown (rowSg r) := by
  have p : Paired (fun t e => Gives t e) (r.map fun n => (PyData.int n).shown) (r.map fun n => [sg (PyData.int n).shown]) := by
    clear ne
    induction r with
    | nil => exact .nil
    | cons n r ih => exact .cons (gives_int (h n List.mem_cons_self)) (ih fun x hx => h x (List.mem_cons_of_mem _ hx))
  have g := gives_tuple (by simpa using ne) p
  have e1 : (sD r).shown = tupleText (r.map fun n => (PyData.int n).shown) := by
    unfold sD
    rw [← shownAll_map PyData.int]
    simp only [PyData.shown]
  have e2 : ∀ l : List Int, (l.map fun n => [sg (PyData.int n).shown]).flatten = rowSg l := by
    intro l
    induction l with
    | nil => rfl
    | cons n l ih =>
      rw [List.map_cons, List.flatten_cons, ih]
      rfl
  rw [e1, ← e2]
  exact g
theorem gives_tab {t : List (List Int)} (ne : t ≠ []) (h : ∀ r ∈ t, r ≠ [] ∧ ∀ n ∈ r, 0 ≤ n) : Gives (tD t).shown (t.map rowSg).flatten := by
  have p : Paired (fun t e => Gives t e) (t.map fun r => (sD r).shown) (t.map rowSg) := by
    clear ne
    induction t with
    | nil => exact .nil
    | cons r t ih =>
      obtain ⟨a, b⟩ := h r List.mem_cons_self
      exact .cons (gives_row a b) (ih fun x hx => h x (List.mem_cons_of_mem _ hx))
  have g := gives_tuple (by simpa using ne) p
  have e1 : (tD t).shown = tupleText (t.map fun r => (sD r).shown) := by
    unfold tD
    rw [← shownAll_map sD]
    simp only [PyData.shown]
  rw [e1]
  exact g
theorem sg_int_inj {a b : Int} (ha : 0 ≤ a) (hb : 0 ≤ b) (h : sg (PyData.int a).shown = sg (PyData.int b).shown) : a = b := by
  obtain ⟨m, rfl⟩ : ∃ m : Nat, a = (m : Int) := ⟨a.toNat, by omega⟩
  obtain ⟨k, rfl⟩ : ∃ m : Nat, b = (m : Int) := ⟨b.toNat, by omega⟩
  rw [PyData.shown_int, PyData.shown_int] at h
  have h' : (Str.ofString (Nat.repr m)).cps.toList = (Str.ofString (Nat.repr k)).cps.toList := h
  rw [signs_ofString, signs_ofString] at h'
  have inj : ∀ {x y : List Char}, x.map Char.toNat = y.map Char.toNat → x = y := by
    intro x
    induction x with
    | nil => intro y e; cases y with | nil => rfl | cons _ _ => cases e
    | cons c x ih =>
      intro y e
      cases y with
      | nil => cases e
      | cons d y =>
        rw [List.map_cons, List.map_cons, List.cons.injEq] at e
        rw [ih e.2, Char.ext (UInt32.toNat_inj.mp e.1)]
  have e := inj h'
  have : Nat.repr m = Nat.repr k := String.ext e
  rw [Nat.repr_injective this]
theorem rowSg_inj {r q : List Int} (hr : ∀ n ∈ r, 0 ≤ n) (hq : ∀ n ∈ q, 0 ≤ n) (h : rowSg r = rowSg q) : r = q := by
  induction r generalizing q with
  | nil => cases q with | nil => rfl | cons _ _ => cases h
  | cons n r ih =>
    cases q with
    | nil => cases h
    | cons m q =>
      have h' : sg (PyData.int n).shown :: rowSg r = sg (PyData.int m).shown :: rowSg q := h
      rw [List.cons.injEq] at h'
      rw [sg_int_inj (hr n List.mem_cons_self) (hq m List.mem_cons_self) h'.1, ih (fun x hx => hr x (List.mem_cons_of_mem _ hx)) (fun x hx => hq x (List.mem_cons_of_mem _ hx)) h'.2]
theorem tab_inj {t u : List (List Int)} {n : Nat} (n0 : 0 < n) (lt : t.length = n) (lu : u.length = n) (ht : ∀ r ∈ t, r.length = n ∧ ∀ x ∈ r, 0 ≤ x) (hu : ∀ r ∈ u, r.length = n ∧ ∀ x ∈ r, 0 ≤ x) (h : (tD t).shown = (tD u).shown) : t = u := by
  have nr : ∀ {v : List (List Int)}, (∀ r ∈ v, r.length = n ∧ ∀ x ∈ r, 0 ≤ x) → ∀ r ∈ v, r ≠ [] ∧ ∀ x ∈ r, 0 ≤ x := fun hv r hr => ⟨List.length_pos_iff.mp (by rw [(hv r hr).1]; exact n0), (hv r hr).2⟩
  have g1 := gives_tab (List.length_pos_iff.mp (by omega)) (nr ht) 32 [] (by decide)
  have g2 := gives_tab (List.length_pos_iff.mp (by omega)) (nr hu) 32 [] (by decide)
  rw [h, g2] at g1
  have e := List.append_cancel_right g1
  clear g1 g2 h
  have : ∀ (t u : List (List Int)), t.length = u.length → (∀ r ∈ t, r.length = n ∧ ∀ x ∈ r, 0 ≤ x) → (∀ r ∈ u, r.length = n ∧ ∀ x ∈ r, 0 ≤ x) → (u.map rowSg).flatten = (t.map rowSg).flatten → t = u := by
    intro t
    induction t with
    | nil => intro u l _ _ _; exact (List.eq_nil_of_length_eq_zero l.symm).symm
    | cons r t ih =>
      intro u l a b c
      cases u with
      | nil => cases l
      | cons q u =>
        rw [List.map_cons, List.map_cons, List.flatten_cons, List.flatten_cons] at c
        have ra := a r List.mem_cons_self
        have qa := b q List.mem_cons_self
        obtain ⟨c1, c2⟩ := List.append_inj c (by unfold rowSg; rw [List.length_map, List.length_map, ra.1, qa.1])
        rw [rowSg_inj qa.2 ra.2 c1, ih u (by simpa using l) (fun x hx => a x (List.mem_cons_of_mem _ hx)) (fun x hx => b x (List.mem_cons_of_mem _ hx)) c2]
  exact this t u (by omega) ht hu e
end NA
namespace NA
open PySem PySem.Spec PyProof.Rows L2

/-! ### repr of a machine beside a value that may be an empty dict -/
mutual
def flatT : PyData → Bool
  | .int _ => true
  | .tuple xs => flatTAll xs
  | _ => false
def flatTAll : List PyData → Bool
  | [] => true
  | x :: xs => flatT x && flatTAll xs
end
mutual
theorem reads_flat {h : Heap} : ∀ (d : PyData) {v : Value} {as : List Addr}, Reads h v d as → flatT d = true → as = []
  | .int _, _, _, r, _ => by cases r; rfl
  | .tuple xs, _, _, r, f => by
    cases r with
    | tuple _ _ _ ra => exact readsAll_flat xs ra (by simpa [flatT] using f)
  | .none, _, _, _, f => by simp [flatT] at f
  | .bool _, _, _, _, f => by simp [flatT] at f
  | .str _, _, _, _, f => by simp [flatT] at f
  | .list _, _, _, _, f => by simp [flatT] at f
  | .dict _, _, _, _, f => by simp [flatT] at f
theorem readsAll_flat {h : Heap} : ∀ (ds : List PyData) {vs : List Value} {as : List Addr}, ReadsAll h vs ds as → flatTAll ds = true → as = []
  | [], _, _, r, _ => by cases r; rfl
  | d :: ds, _, _, r, f => by
    simp only [flatTAll, Bool.and_eq_true] at f
    cases r with
    | cons a b => rw [reads_flat d a f.1, readsAll_flat ds b f.2]; rfl
end
theorem flat_ints : ∀ ns : List Int, flatTAll (ns.map PyData.int) = true
  | [] => rfl
  | _ :: ns => by simp only [List.map_cons, flatTAll, flatT, flat_ints ns, Bool.and_self]
theorem flat_wires : ∀ ws : List (Nat × Nat), flatTAll (ws.map wD) = true
  | [] => rfl
  | _ :: ws => by simp only [List.map_cons, flatTAll, flatT, wD, flat_wires ws, Bool.and_self]
theorem flat_mach (ss : List Int) (ws : List (Nat × Nat)) : flatT (mD ss ws) = true := by
  simp only [mD, sD, flatT, flatTAll, flat_wires, Bool.and_true, Bool.and_eq_true]
  exact flat_ints ss
section
variable {X : Cx} {es : List Expr} {t : TA} {pos : Pos}
def tLstN (t : TA) : TE := fun σ H Q => t σ H fun xs H1 => xs.length ≤ sizeLine ∧ ∀ p, H1 p = none → p ≠ sysModules → Q (.ref p) (upd H1 p (.lst xs))
theorem pe_lstN (h : PA X es t) : PE X (.List es pos) (tLstN t) := by
  refine ⟨fun pins s σ H Q I hq => ?_⟩
  refine wpAny_List_spliced (thn (h.run pos pins s σ H _ I hq) fun us s1 ⟨xs, H1, I1, r, z, q⟩ => ⟨by rw [← r.length]; exact z, ?_⟩)
  have hf : H1 s1.heap.objs.size = none := I1.hok.fresh (Nat.le_refl _)
  refine ⟨.ref s1.heap.objs.size, upd H1 s1.heap.objs.size (.lst xs), I1.laid (t' := s1.toks) (fun b u e => Heap.get?_push_of_some _ e) (Nat.le_refl _) ?_, rfl, q _ hf (Nat.ne_of_gt I1.big)⟩
  exact ⟨z, us, 0, r, Heap.get?_push_size _ rfl⟩
/-- the machine, and the value -/
def rReprN : List V → Hp → VK → Prop := fun xs H Q => ∃ (l : Addr) (x y : V) (d e : PyData), xs = [.ref l] ∧ l ≠ sysModules ∧ H l = some (.lst [x, y]) ∧ Dg An H x d ∧ flatT d = true ∧ Dv An H y e ∧ (Sh (.list [d, e]) ∨ (e = .dict [] ∧ Sh d ∧ cost d ≤ 4000000 ∧ d.depth ≤ 50)) ∧ Q (.str (PyData.list [d, e]).shown) H
theorem call_reprN {k : Nat} (hg : Bare X.A) (hr : Room k X.A) : CallR X (.builtin "repr") rReprN := by
  intro pins s σ H xs us Q I r h
  obtain ⟨l, x, y, d, e, rfl, nl, hl, hx, fl, hy, sh, q⟩ := h
  rcases hy with hy | ⟨a, rfl, h2, rfl⟩
  · rcases sh with sh | ⟨rfl, _⟩
    · exact call_reprD hg hr pins s σ H [.ref l] us Q I r ⟨.ref l, _, rfl, .lst (SqL.of hl) (.cons (Dg.toDp d x hx) (.cons (Dg.toDp e y hy) .nil)), sh, q⟩
    · cases hy
  · obtain ⟨u, rfl, ru⟩ := r.one
    cases (show u = Value.ref l from ru)
    have sh' : Sh d ∧ cost d ≤ 4000000 ∧ d.depth ≤ 50 := by
      rcases sh with sh | ⟨_, sh⟩
      · have := sh.ok
        simp [okD, okAll] at this
      · exact sh
    obtain ⟨sd, cd, dd⟩ := sh'
    have ok : ObjOk X.prog X.w H s.heap a (.dK []) := I.hok a _ h2
    obtain ⟨_, ns, vs, kv, o, es, ep, g1, g2, g3, g4, g5⟩ := ok
    have hu := hr.un
    have vs0 : vs = [] := by cases kv; rfl
    subst vs0
    have es0 : es.toList = [] := by
      have z := g5.1
      cases h : es.toList with
      | nil => rfl
      | cons x l =>
        rw [h] at z
        cases z
    have rd : Reads s.heap (.ref a) (.dict []) (a :: [] ++ []) := .dict g1 g2.1 g3 (by rw [es0]; exact .nil) (by rw [es0]; exact .nil)
    have nsm : sysModules ≠ a := fun z => by
      rw [z, beq_self_eq_true] at ns
      cases ns
    obtain ⟨its, rv, ⟨o2, n, ho, hc, _, hd⟩, _⟩ := I.list (SqL.of hl)
    obtain ⟨ux, uy, hits, rx, ry⟩ : ∃ ux uy, its = [ux, uy] ∧ RelV x ux ∧ RelV (.ref a) uy := by
      cases rv with
      | cons r1 r2 =>
        cases r2 with
        | cons r3 r4 =>
          cases r4
          exact ⟨_, _, rfl, r1, r3⟩
    subst hits
    cases (show uy = Value.ref a from ry)
    obtain ⟨as, rdx⟩ := Dp.reads I d x ux (Dg.toDp d x hx) rx
    have as0 := reads_flat d rdx fl
    subst as0
    have rl : Reads s.heap (.ref l) (.list [d, .dict []]) (l :: ([] ++ ((a :: [] ++ []) ++ []))) := .list ho hc hd (.cons rdx (.cons rd .nil))
    obtain ⟨f1, f2, f3⟩ := okD_facts d sd.ok
    have len := listText_len_le (PyData.shownAll [d, .dict []])
    refine repr_of_reads' rl (by simp [PyData.showable, PyData.showableAll, f1, PyData.showableKv]) (fun _ => ?_) hg ?_ (fun _ _ z => z) (fun h' u tk hk => ⟨.str _, H, I.kept (t' := tk) hk, ⟨_, rfl⟩, q⟩) ?_
    · intro hm
      simp at hm
      rcases hm with z | z
      · exact nl z.symm
      · exact nsm z
    · simp only [PyData.depth, PyData.depthAll, PyData.depthKv]
      omega
    · have e2 : (PyData.shown (.dict [])).length ≤ 10 := by decide +kernel
      have sz : 16000000 ≤ sizeLine := by decide
      simp only [PyData.shown]
      simp only [PyData.shownAll, List.map_cons, List.map_nil, List.sum_cons, List.sum_nil, List.length_cons, List.length_nil] at len ⊢
      omega
def rNotInE (K : PySem.W.Frag) : R2 := fun x y H Q => ∃ d xs, Dp K H x d ∧ Dp K H y (.tuple xs) ∧ SeqAt.shaped (.tuple xs) = true ∧ SeqAt.shaped d = true ∧ (∀ z ∈ xs, SeqAt.noMix z d = true) ∧ Q (.bl (!decide (countIn d xs ≠ 0))) H
theorem op_notInE (K : PySem.W.Frag) (hK : X.K = K) (hu : X.A.units + 65 < cLine) : OpR X (compareOp .NotIn) (rNotInE K) := by
  subst hK
  intro pins s σ H x y v u Q I rx ry h
  obtain ⟨d, xs, h1, h2, h3, h4, h5, q⟩ := h
  obtain ⟨as, r1⟩ := Dp.reads I d x v h1 rx
  obtain ⟨bs, r2⟩ := Dp.reads I _ y u h2 ry
  exact notIn_tuple_dataH r2 r1 h3 h4 hu h5 ⟨.bl _, H, I, rfl, q⟩
theorem room65K {k : Nat} {A : Around} (hr : Room k A) : A.units + 65 < cLine := by
  have := hr.un
  omega
end
end NA
set_option maxHeartbeats 4000000
namespace NA
open PySem PySem.Spec PyProof.Rows L2
/-! ### a tuple times 1 is the tuple -/
theorem tuple_mulOne (l : Addr) (items : Array Value) (n : Nat) (dd : Option Addr) (sl : Array (Option Value)) (u : Tok) :
    Meets (Builtin.«tuple.__mul__» ⟨[.ref l, .int 1 u], []⟩) (fun _ R s => s.heap.get? l = some { cls := .type "tuple", dict := dd, data := .seq items n, slots := sl } ∧
      R (.ok (.ret (Value.ref l))) s) :=
  .of_wp fun prog w A R s h => by
    obtain ⟨hp, g, d, tk, os⟩ := s
    obtain ⟨hl, h⟩ := h
    have f1 := AutoSeq1.idx_int
    wp_walk using wpAny_loadPart' hl
    exact ⟨_, rfl, h⟩
def rRepN (K : PySem.W.Frag) : R2 := fun x y H Q => ∃ l k xs, x = .ref l ∧ y = .int k ∧ SqT K H l xs ∧ H l = some (.tup xs) ∧ xs ≠ [] ∧ 1 ≤ k ∧ k ≤ 1000 ∧ xs.length ≤ 1000 ∧ ∀ p H', Same H H' → H' p = some (.tup (List.replicate k.toNat xs).flatten) → Q (.ref p) H'
theorem op_repN {X : Cx} (K : PySem.W.Frag) (hK : X.K = K) : OpR X (binaryOp .Mult) (rRepN K) := by
  subst hK
  intro pins s σ H x y v u Q I rx ry h
  obtain ⟨l, k, xs, rfl, rfl, hT, hT2, hne, h1, h2, hz, q⟩ := h
  by_cases k1 : k = 1
  · subst k1
    cases rx
    obtain ⟨t, rfl⟩ := ry
    obtain ⟨its, r, ⟨⟨cls, dd, data, sl⟩, ho, hc, n, hd⟩, hs⟩ := I.tuple hT
    simp only at hc hd
    subst hc hd
    refine wpAny_binaryOp_repeat_ref (T := "tuple") (U := "int") (by decide) ⟨_, ho, rfl⟩ (fun s' => typeIs_int s' 1 t) noFill_tuple_mul F.fills_int_mul F.slot_int_rmul repeat_tuple F.slot_int_index.lookup
      (call_meets F.slot_int_rmul (typeIs_int s 1 t) F.entry_int_rmul (F.args_int_rmul_2 _ _) (int_rmul_tuple 1 t l its.toArray n dd sl)
        ⟨ho, rfl, ⟨_, ho, rfl⟩, call_meets F.slot_tuple_mul ⟨_, ho, rfl⟩ F.entry_tuple_mul (F.args_tuple_mul_2 _ _) (tuple_mulOne l its.toArray n dd sl t) ⟨ho, ?_⟩⟩)
    refine ⟨.ref l, H, I, rfl, q l H (Same.refl H) ?_⟩
    rw [hT2, show (1 : Int).toNat = 1 from rfl, List.replicate_one, List.flatten_cons, List.flatten_nil, List.append_nil]
  · exact op_repT pins s σ H _ _ v u Q I rx ry ⟨l, k, xs, rfl, rfl, hT, hne, by omega, h2, hz, fun p np => q p _ (Same.new (Same.refl H) np) upd_same⟩
end NA
namespace NA
open PySem PySem.Spec PyProof.Rows L2

/-! ### data with lists and empty dicts at any depth; N: where lists may stand -/
mutual
inductive De (N : Addr → Prop) (H : Hp) : V → PyData → Prop
  | non : De N H .non .none
  | bl (b : Bool) : De N H (.bl b) (.bool b)
  | int (i : Int) : De N H (.int i) (.int i)
  | str (x : Str) : De N H (.str x) (.str x)
  | lst {a : Addr} {xs : List V} {ds : List PyData} (n : N a) (h : H a = some (.lst xs)) (t : DeAll N H xs ds) : De N H (.ref a) (.list ds)
  | tup {a : Addr} {xs : List V} {ds : List PyData} (h : H a = some (.tup xs)) (t : DeAll N H xs ds) : De N H (.ref a) (.tuple ds)
  | dic {a : Addr} (h : H a = some (.dK [])) : De N H (.ref a) (.dict [])
inductive DeAll (N : Addr → Prop) (H : Hp) : List V → List PyData → Prop
  | nil : DeAll N H [] []
  | cons {v : V} {vs : List V} {d : PyData} {ds : List PyData} (h : De N H v d) (t : DeAll N H vs ds) : DeAll N H (v :: vs) (d :: ds)
end
mutual
theorem De.wider {N M : Addr → Prop} {H J : Hp} (ks : Ks N H J) (wd : ∀ a, N a → M a) {v : V} : ∀ {d : PyData}, De N H v d → De M J v d
  | _, .non => .non
  | _, .bl b => .bl b
  | _, .int i => .int i
  | _, .str x => .str x
  | _, .lst n h t => .lst (wd _ n) (ks.lst _ _ n h) (DeAll.wider ks wd t)
  | _, .tup h t => .tup (ks.tup _ _ h) (DeAll.wider ks wd t)
  | _, .dic h => .dic (ks.dic _ _ h)
theorem DeAll.wider {N M : Addr → Prop} {H J : Hp} (ks : Ks N H J) (wd : ∀ a, N a → M a) {vs : List V} : ∀ {ds : List PyData}, DeAll N H vs ds → DeAll M J vs ds
  | _, .nil => .nil
  | _, .cons h t => .cons (De.wider ks wd h) (DeAll.wider ks wd t)
end
theorem De.k {N : Addr → Prop} {H J : Hp} {v : V} {d : PyData} (h : De N H v d) (ks : Ks N H J) : De N J v d := h.wider ks fun _ n => n
theorem DeAll.k {N : Addr → Prop} {H J : Hp} {v : List V} {d : List PyData} (h : DeAll N H v d) (ks : Ks N H J) : DeAll N J v d := h.wider ks fun _ n => n
theorem De.s {N : Addr → Prop} {H J : Hp} {v : V} {d : PyData} (h : De N H v d) (e : Same H J) : De N J v d := h.k (Ks.same e)
theorem DeAll.s {N : Addr → Prop} {H J : Hp} {v : List V} {d : List PyData} (h : DeAll N H v d) (e : Same H J) : DeAll N J v d := h.k (Ks.same e)
mutual
theorem De.of_dg {N : Addr → Prop} {H : Hp} {v : V} : ∀ {d : PyData}, Dg N H v d → De N H v d
  | _, .non => .non
  | _, .bl b => .bl b
  | _, .int i => .int i
  | _, .str x => .str x
  | _, .lst n h t => .lst n h (DeAll.of_dg t)
  | _, .tup h t => .tup h (DeAll.of_dg t)
theorem DeAll.of_dg {N : Addr → Prop} {H : Hp} {vs : List V} : ∀ {ds : List PyData}, DgAll N H vs ds → DeAll N H vs ds
  | _, .nil => .nil
  | _, .cons h t => .cons (De.of_dg h) (DeAll.of_dg t)
end
theorem De.of_im {N : Addr → Prop} {H : Hp} {v : V} {d : PyData} (h : Im H v d) : De N H v d := .of_dg h.dg
theorem DeAll.length {N : Addr → Prop} {H : Hp} {vs : List V} {ds : List PyData} (h : DeAll N H vs ds) : vs.length = ds.length := by
  induction vs generalizing ds with
  | nil => cases h; rfl
  | cons v vs ih =>
    cases h with
    | cons _ t => rw [List.length_cons, List.length_cons, ih t]
theorem DeAll.get {N : Addr → Prop} {H : Hp} {vs : List V} {ds : List PyData} {i : Nat} {v : V} (h : DeAll N H vs ds) (e : vs[i]? = some v) : ∃ d, ds[i]? = some d ∧ De N H v d := by
  induction vs generalizing ds i with
  | nil => simp at e
  | cons w vs ih =>
    cases h with
    | cons g t =>
      cases i with
      | zero =>
        simp at e
        subst e
        exact ⟨_, rfl, g⟩
      | succ i =>
        obtain ⟨d, q1, q2⟩ := ih t (by simpa using e)
        exact ⟨d, by simpa using q1, q2⟩
theorem DeAll.idx {N : Addr → Prop} {H : Hp} {vs : List V} {ds : List PyData} {i : Nat} {d : PyData} (h : DeAll N H vs ds) (e : ds[i]? = some d) : ∃ v, vs[i]? = some v ∧ De N H v d := by
  have lt := (List.getElem?_eq_some_iff.mp e).1
  obtain ⟨d', q1, q2⟩ := h.get (i := i) (List.getElem?_eq_getElem (by rw [h.length]; exact lt))
  rw [e] at q1
  cases q1
  exact ⟨_, List.getElem?_eq_getElem _, q2⟩
theorem DeAll.append {N : Addr → Prop} {H : Hp} {vs ws : List V} {ds es : List PyData} (h : DeAll N H vs ds) (g : DeAll N H ws es) : DeAll N H (vs ++ ws) (ds ++ es) := by
  induction vs generalizing ds with
  | nil => cases h; exact g
  | cons v vs ih =>
    cases h with
    | cons a t => exact .cons a (ih t)
theorem DeAll.take {N : Addr → Prop} {H : Hp} {vs : List V} {ds : List PyData} (h : DeAll N H vs ds) (n : Nat) : DeAll N H (vs.take n) (ds.take n) := by
  induction vs generalizing ds n with
  | nil => cases h; simpa using DeAll.nil
  | cons v vs ih =>
    cases h with
    | cons a t =>
      cases n with
      | zero => exact .nil
      | succ n => exact .cons a (ih t n)
theorem DeAll.drop {N : Addr → Prop} {H : Hp} {vs : List V} {ds : List PyData} (h : DeAll N H vs ds) (n : Nat) : DeAll N H (vs.drop n) (ds.drop n) := by
  induction vs generalizing ds n with
  | nil => cases h; simpa using DeAll.nil
  | cons v vs ih =>
    cases h with
    | cons a t =>
      cases n with
      | zero => exact .cons a t
      | succ n => exact ih t n
theorem De.ty {N : Addr → Prop} {K : PySem.W.Frag} {H : Hp} {v : V} {d : PyData} (h : De N H v d) : TyX K H v (.type (tyD d)) := by
  cases h with
  | non => exact .base .non
  | bl b => exact .base (.bl b)
  | int i => exact .base (.int i)
  | str x => exact .base (.str x)
  | lst _ h _ => exact .base (.lst h)
  | tup h _ => exact .base (.tup h)
  | dic h => exact .base (.dK h)
theorem De.tuple {N : Addr → Prop} {H : Hp} {v : V} {d : PyData} (h : De N H v d) (e : isT d = true) : ∃ a xs ds, v = .ref a ∧ d = .tuple ds ∧ H a = some (.tup xs) ∧ DeAll N H xs ds := by
  cases h with
  | tup a b => exact ⟨_, _, _, rfl, rfl, a, b⟩
  | _ => cases e
theorem De.int_of {N : Addr → Prop} {H : Hp} {v : V} {d : PyData} (h : De N H v d) (e : isI d = true) : ∃ i, v = .int i ∧ d = .int i := by
  cases h with
  | int i => exact ⟨i, rfl, rfl⟩
  | _ => cases e
/-! ### read, shown -/
theorem reads_dic {X : Cx} {pins : List (Addr × Obj)} {σ : L2.St} {H : Hp} {s : Shared} (I : Inv X pins σ H s) {a : Addr} (h : H a = some (.dK [])) : Reads s.heap (.ref a) (.dict []) (a :: ([] ++ [])) ∧ sysModules ≠ a := by
  obtain ⟨_, ns, vs, kv, o, es, ep, g1, g2, g3, g4, g5⟩ := (show ObjOk X.prog X.w H s.heap a (.dK []) from I.hok a _ h)
  cases kv
  have z := g5.1
  have e0 : es.toList = [] := by
    generalize es.toList = l at z
    cases l with
    | nil => rfl
    | cons _ _ => cases z
  exact ⟨.dict g1 g2.1 g3 (by rw [e0]; exact .nil) (by rw [e0]; exact .nil), fun q => by simp [q] at ns⟩
mutual
theorem De.reads {X : Cx} {pins : List (Addr × Obj)} {σ : L2.St} {H : Hp} {s : Shared} {N : Addr → Prop} (I : Inv X pins σ H s) (ns : ∀ a, N a → a ≠ sysModules) {v : V} {u : Value} : ∀ {d : PyData}, De N H v d → RelV v u → ∃ as, Reads s.heap u d as ∧ sysModules ∉ as
  | _, .non, r => by
    cases r
    exact ⟨_, .none, by simp⟩
  | _, .bl b, r => by
    cases r
    exact ⟨_, .bool b, by simp⟩
  | _, .int i, r => by
    obtain ⟨t, rfl⟩ := r
    exact ⟨_, .int i t, by simp⟩
  | _, .str x, r => by
    obtain ⟨t, rfl⟩ := r
    exact ⟨_, .str x t, by simp⟩
  | _, .dic h, r => by
    cases r
    obtain ⟨q1, q2⟩ := reads_dic I h
    exact ⟨_, q1, by simpa using q2⟩
  | _, .tup h t, r => by
    cases r
    obtain ⟨its, rv, ⟨o, ho, hc, n, hd⟩, _⟩ := I.tuple (SqT.of h)
    obtain ⟨as, q1, q2⟩ := DeAll.reads I ns t rv
    exact ⟨as, .tuple ho hc hd q1, q2⟩
  | _, .lst n h t, r => by
    cases r
    obtain ⟨its, rv, ⟨o, m, ho, hc, _, hd⟩, _⟩ := I.list (SqL.of h)
    obtain ⟨as, q1, q2⟩ := DeAll.reads I ns t rv
    refine ⟨_, .list ho hc hd q1, fun z => ?_⟩
    rcases List.mem_cons.mp z with z | z
    · exact ns _ n z.symm
    · exact q2 z
theorem DeAll.reads {X : Cx} {pins : List (Addr × Obj)} {σ : L2.St} {H : Hp} {s : Shared} {N : Addr → Prop} (I : Inv X pins σ H s) (ns : ∀ a, N a → a ≠ sysModules) {vs : List V} {us : List Value} : ∀ {ds : List PyData}, DeAll N H vs ds → Vals vs us → ∃ as, ReadsAll s.heap us ds as ∧ sysModules ∉ as
  | _, .nil, r => by
    cases r
    exact ⟨_, .nil, by simp⟩
  | _, .cons h t, r => by
    cases r with
    | cons r1 r2 =>
      obtain ⟨as, q1, q2⟩ := De.reads I ns h r1
      obtain ⟨bs, q3, q4⟩ := DeAll.reads I ns t r2
      refine ⟨_, .cons q1 q3, fun z => ?_⟩
      rcases List.mem_append.mp z with z | z
      · exact q2 z
      · exact q4 z
end
/-! ### how long what is shown may be -/
mutual
def okE : PyData → Bool
  | .none => true
  | .bool _ => true
  | .int i => decide (i.natAbs.log2 < 1920)
  | .str x => strSmall x
  | .list xs => okEAll xs
  | .tuple xs => okEAll xs
  | .dict kvs => kvs.isEmpty
def okEAll : List PyData → Bool
  | [] => true
  | x :: xs => okE x && okEAll xs
def wtE : PyData → Nat
  | .none => 4
  | .bool _ => 5
  | .int _ => 1921
  | .str x => 10 * x.length + 2
  | .list xs => wtEAll xs + 3
  | .tuple xs => wtEAll xs + 3
  | .dict _ => 2
def wtEAll : List PyData → Nat
  | [] => 0
  | x :: xs => wtE x + 2 + wtEAll xs
end
mutual
theorem okE_facts : ∀ d : PyData, okE d = true → d.showable = true ∧ d.shown.length ≤ wtE d
  | .none, _ => ⟨rfl, by decide +kernel⟩
  | .bool true, _ => ⟨rfl, by decide +kernel⟩
  | .bool false, _ => ⟨rfl, by decide +kernel⟩
  | .int i, h => by
    have z := okD_facts (.int i) (by simpa [okE, okD] using h)
    exact ⟨z.1, by simpa only [NA.cost, wtE] using z.2.2⟩
  | .str x, h => by
    have z := okD_facts (.str x) (by simpa [okE, okD] using h)
    exact ⟨z.1, by simpa only [NA.cost, wtE] using z.2.2⟩
  | .list xs, h => by
    obtain ⟨a, c⟩ := okEAll_facts xs (by simpa [okE] using h)
    have := listText_len_le (PyData.shownAll xs)
    refine ⟨by simpa [PyData.showable] using a, ?_⟩
    simp only [PyData.shown, wtE]
    omega
  | .tuple xs, h => by
    obtain ⟨a, c⟩ := okEAll_facts xs (by simpa [okE] using h)
    have := tupleText_len_le (PyData.shownAll xs)
    refine ⟨by simpa [PyData.showable] using a, ?_⟩
    simp only [PyData.shown, wtE]
    omega
  | .dict [], _ => ⟨by simp [PyData.showable, PyData.showableKv], by decide +kernel⟩
  | .dict (_ :: _), h => by simp [okE] at h
theorem okEAll_facts : ∀ xs : List PyData, okEAll xs = true → PyData.showableAll xs = true ∧ ((PyData.shownAll xs).map (·.length)).sum + 2 * (PyData.shownAll xs).length ≤ wtEAll xs
  | [], _ => ⟨rfl, Nat.le_refl _⟩
  | x :: xs, h => by
    simp only [okEAll, Bool.and_eq_true] at h
    obtain ⟨a, b⟩ := okE_facts x h.1
    obtain ⟨c, e⟩ := okEAll_facts xs h.2
    refine ⟨by simp only [PyData.showableAll, a, c, Bool.and_self], ?_⟩
    simp only [PyData.shownAll, wtEAll, List.map_cons, List.sum_cons, List.length_cons]
    omega
end
structure ShE (d : PyData) : Prop where
  ok : okE d = true
  wt : wtE d ≤ 16000000
  depth : d.depth ≤ 60
/-- in a scale: how heavy, how deep -/
def okEG (c dp : Nat) (d : PyData) : Bool := okE d && decide (wtE d ≤ c) && decide (d.depth ≤ dp)
theorem okEG_iff {c dp : Nat} {d : PyData} : okEG c dp d = true ↔ okE d = true ∧ wtE d ≤ c ∧ d.depth ≤ dp := by
  unfold okEG
  simp only [Bool.and_eq_true, decide_eq_true_eq, and_assoc]
theorem okEG_mono {c dp c' dp' : Nat} {d : PyData} (h : okEG c dp d = true) (a : c ≤ c') (b : dp ≤ dp') : okEG c' dp' d = true := by
  obtain ⟨x, y, z⟩ := okEG_iff.mp h
  exact okEG_iff.mpr ⟨x, by omega, by omega⟩
theorem okEG_all {c dp : Nat} {l : List PyData} (h : ∀ x ∈ l, okEG c dp x = true) : okEAll l = true ∧ wtEAll l ≤ (c + 2) * l.length ∧ PyData.depthAll l ≤ dp := by
  induction l with
  | nil => exact ⟨rfl, Nat.le_refl _, Nat.zero_le _⟩
  | cons x l ih =>
    obtain ⟨a, b, e⟩ := ih fun y hy => h y (List.mem_cons_of_mem _ hy)
    obtain ⟨a1, b1, e1⟩ := okEG_iff.mp (h x List.mem_cons_self)
    refine ⟨by simp only [okEAll, a, a1, Bool.and_self], ?_, ?_⟩
    · simp only [wtEAll, List.length_cons, Nat.mul_succ]
      omega
    · simp only [PyData.depthAll]
      omega
theorem okEG_tup {c dp c' dp' : Nat} {l : List PyData} (h : ∀ x ∈ l, okEG c dp x = true) (a : (c + 2) * l.length + 3 ≤ c') (b : dp + 1 ≤ dp') : okEG c' dp' (.tuple l) = true := by
  obtain ⟨h1, h2, h3⟩ := okEG_all h
  refine okEG_iff.mpr ⟨by simpa only [okE] using h1, ?_, ?_⟩
  · simp only [wtE]
    omega
  · simp only [PyData.depth]
    omega
theorem okEG_lst {c dp c' dp' : Nat} {l : List PyData} (h : ∀ x ∈ l, okEG c dp x = true) (a : (c + 2) * l.length + 3 ≤ c') (b : dp + 1 ≤ dp') : okEG c' dp' (.list l) = true := by
  obtain ⟨h1, h2, h3⟩ := okEG_all h
  refine okEG_iff.mpr ⟨by simpa only [okE] using h1, ?_, ?_⟩
  · simp only [wtE]
    omega
  · simp only [PyData.depth]
    omega
theorem okEG_sh {c dp : Nat} {d : PyData} (h : okEG c dp d = true) (a : c ≤ 16000000) (b : dp ≤ 60) : ShE d := by
  obtain ⟨h1, h2, h3⟩ := okEG_iff.mp h
  exact ⟨h1, by omega, by omega⟩
theorem okEG_int {n : Int} (h : n.natAbs ≤ 10 ^ 62) : okEG 1921 0 (.int n) = true := okEG_iff.mpr ⟨by simp only [okE]; exact decide_eq_true (small_log (Nat.lt_of_le_of_lt h (by decide))), by simp only [wtE]; decide, by simp only [PyData.depth]; decide⟩
/-- what is neither in the pot nor sys.modules -/
def Nq (p q : Addr) : Addr → Prop := fun a => a ≠ p ∧ a ≠ q ∧ a ≠ sysModules
theorem Ks.kq {p q : Addr} {H H' : Hp} (e : Kp p q H H') (P : Pt H p q) : Ks (Nq p q) H H' := by
  have z := Ks.kp e P
  exact ⟨z.tup, fun b xs n h => z.lst b xs ⟨n.1, n.2.1⟩ h, z.dic⟩
/-- repr of a list that was just made -/
def rReprE : List V → Hp → VK → Prop := fun xs H Q => ∃ (l : Addr) (vs : List V) (ds : List PyData) (N : Addr → Prop), xs = [.ref l] ∧ l ≠ sysModules ∧ H l = some (.lst vs) ∧ DeAll N H vs ds ∧ (∀ a, N a → a ≠ sysModules) ∧ ShE (.list ds) ∧ Q (.str (PyData.list ds).shown) H
theorem call_reprE {X : Cx} {k : Nat} (hg : Bare X.A) (hr : Room k X.A) : CallR X (.builtin "repr") rReprE := by
  intro pins s σ H xs us Q I r h
  obtain ⟨l, vs, ds, N, rfl, nl, hl, hd, ns, sh, q⟩ := h
  obtain ⟨u, rfl, ru⟩ := r.one
  cases (show u = Value.ref l from ru)
  obtain ⟨its, rv, ⟨o, n, ho, hc, _, hdt⟩, _⟩ := I.list (SqL.of hl)
  obtain ⟨as, q1, q2⟩ := DeAll.reads I ns hd rv
  obtain ⟨f1, f2⟩ := okE_facts _ sh.ok
  have hu := hr.un
  have dp := sh.depth
  refine repr_of_reads' (.list ho hc hdt q1) f1 (fun _ z => ?_) hg (by omega) (fun _ _ z => z) (fun h' u tk hk => ⟨.str _, H, I.kept (t' := tk) hk, ⟨_, rfl⟩, q⟩) (Nat.le_trans f2 (Nat.le_trans sh.wt (by decide)))
  rcases List.mem_cons.mp z with z | z
  · exact nl z.symm
  · exact q2 z
end NA
set_option maxHeartbeats 4000000
namespace NA
open PySem PySem.Spec PyProof.Rows L2

/-! ### {(a, b): v for target in iter}: a dict whose keys are tuples -/
theorem dictSetT {X : Cx} {pins : List (Addr × Obj)} {σ : L2.St} {H : Hp} {s : Shared} {E : Value → Shared → Prop} {D b : Addr} {kvs : List (List Key × V)} {k : List Key} {v : V} {u r : Value} {Q : Unit → Shared → Prop} (hu : X.A.units + 1 < cLine) (I : Inv X pins σ H s)
    (eD : H D = some (.dT kvs)) (eb : H b = some (.tup (k.map kV))) (small : kvs.length < sizeLine) (ru : RelV (.ref b) u) (rr : RelV v r) (done : ∀ s', Inv X pins σ (upd H D (.dT (putK kvs k v))) s' → Q () s') :
    wpAny (model X.prog X.w) X.A (dictSet D u r) Q E s := by
  cases (show u = Value.ref b from ru)
  obtain ⟨z, ns, xs, rel, dd⟩ := dt_of I.hok eD
  refine wpAny_dictSet_heap (hsz := by rw [← Paired.length rel]; exact z) (show X.A.units < cLine by omega) (key_of I.hok eb) dd fun h2 d2 sb => done _ ?_
  obtain ⟨o, es, ep, q1, q2, q3, q4, _, q5⟩ := d2
  have longer := length_putK kvs k v
  refine d_write I (by rw [eD]; trivial) sb ⟨o, q1⟩ ⟨by omega, ns, _, (rel.put k eb rr).keeps fun c ys ec => ?_, o, es, ep, q1, q2, q3, q4, q5⟩
  exact (upd_ne (ne_of ec eD (by intro w; cases w))).trans ec
/-- how such a dict is read -/
def tDcT (wi : TI) (g : TG) (tt : TT) (tk tv : TE) (vs : List Nat) : TE := fun σ H Q => wi σ H fun J H1 => ∀ D, H1 D = none → ∃ W : Nat → Nat → Hp → Prop, (∃ m, W 0 m (upd H1 D (.dT []))) ∧ ∀ i m H2, W i m H2 →
  (J.stop i H2 ∧ Q (.ref D) H2) ∨ (J.go i H2 ∧ ∃ Nx : Hp → Prop, (∀ H', Nx H' → ∃ m', m' < m ∧ W (i + 1) m' H') ∧ ∀ x H', J.yld i H2 x H' → g x (wipe σ vs) H' fun σ2 H3 => wipe σ2 vs = wipe σ vs ∧ tt σ2 H3 fun c H4 =>
    if c = true then tk σ2 H4 fun y H5 => tv σ2 H5 fun z H6 => ∃ (kvs : List (List Key × V)) (k : List Key) (b : Addr), y = .ref b ∧ H6 b = some (.tup (k.map kV)) ∧ H6 D = some (.dT kvs) ∧ kvs.length < sizeLine ∧ Nx (upd H6 D (.dT (putK kvs k z))) else Nx H4)
section
variable {X : Cx} {kx vx tg iter : Expr} {ifs : List Expr} {scope : Scope} {own : List (Str × Nat)} {pos : Pos} {wi : TI} {g : TG} {tt : TT} {tk tv : TE}
theorem pe_dcT (calm : X.calm = true) (nd : X.N.Nodup) (pi : PI X tg iter wi) (bk : BlkOk X.N X.env.scope scope own) (hu : X.A.units + 1 < cLine)
    (G : ∀ (s0 : Shared) (H0 : Hp) (C0 : Addr) (c0 : List (Str × Addr)) (p0 : List Addr), PG (X.blk s0 H0 scope (compEnvC scope c0 C0 X.env) p0) tg g)
    (U : ∀ (s0 : Shared) (H0 : Hp) (C0 : Addr) (c0 : List (Str × Addr)) (p0 : List Addr), PTs (X.blk s0 H0 scope (compEnvC scope c0 C0 X.env) p0) ifs tt)
    (A1 : ∀ (s0 : Shared) (H0 : Hp) (C0 : Addr) (c0 : List (Str × Addr)) (p0 : List Addr), PE (X.blk s0 H0 scope (compEnvC scope c0 C0 X.env) p0) kx tk)
    (A2 : ∀ (s0 : Shared) (H0 : Hp) (C0 : Addr) (c0 : List (Str × Addr)) (p0 : List Addr), PE (X.blk s0 H0 scope (compEnvC scope c0 C0 X.env) p0) vx tv)
    (plain : ∀ x, foldedSetIterable iter X.env x = pure x := by intro _; rfl) : PE X (.DictComp kx vx [⟨tg, iter, ifs, 0⟩] scope pos) (tDcT wi g tt tk tv (own.map (·.2))) := by
  refine ⟨fun pins s σ H Q I h => ?_⟩
  rw [arm_eval_DictComp]
  have cap : ∀ y ∈ scope.names, y.2 = .free → ∃ c, X.env.cells.lookup y.1 = some c := fun y m e => (bk.free y m e).elim (fun z => I.ok.has _ (.inl z)) (fun z => I.ok.has _ (.inr z))
  refine wpAny_comprehension_free (use := none) rfl plain (closure_ok cap) bk.kind (fun y m e => by rw [bk.uniq y m, e]) (thn (pi.run pins s σ H _ I h) fun _ s1 r1 => thn r1 fun _ s2 r2 => ?_)
  obtain ⟨ia, fp, tn, J, H2, rfl, I2, T, begun, fr, q⟩ := r2
  refine wpAny_newObj_type (newEnv_comp ?_)
  obtain ⟨W, ⟨m0, w0⟩, turn⟩ := q s2.heap.objs.size (I2.hok.fresh (Nat.le_refl _))
  have low : ∀ b ∈ fp, b < s2.heap.objs.size := fun b m => (T.obj _ _ begun b m).elim fun o z => Heap.lt_size z.1
  have J3 : Inv X pins σ (upd H2 s2.heap.objs.size (.dT [])) { s2 with heap := s2.heap.push { cls := .type "dict", data := .dict #[] } } :=
    I2.laid (t' := s2.toks) (fun _ _ z => Heap.get?_push_of_some _ z) (Nat.le_refl _) (dt_empty s2.heap I2.big)
  have own3 : ∀ b ∈ fp, FpOk X pins (upd H2 s2.heap.objs.size (.dT [])) b ∧ b < (s2.heap.push { cls := .type "dict", data := .dict #[] }).objs.size := fun b m =>
    ⟨⟨(upd_ne (Nat.ne_of_lt (low b m))).trans (fr b m).1, (fr b m).2⟩, by rw [Heap.size_push]; exact Nat.lt_succ_of_lt (low b m)⟩
  have begun3 : tn 0 (s2.heap.push { cls := .type "dict", data := .dict #[] }) := T.keep _ _ _ begun fun _ _ _ z => Heap.get?_push_of_some _ z
  generalize s2.heap.objs.size = D at w0 turn J3 own3 ⊢
  obtain ⟨s3, e3⟩ : ∃ x : Shared, x = { s2 with heap := s2.heap.push { cls := .type "dict", data := .dict #[] } } := ⟨_, rfl⟩
  have hp3 : s3.heap = s2.heap.push { cls := .type "dict", data := .dict #[] } := by rw [e3]
  rw [← e3] at J3
  rw [← hp3] at own3 begun3
  generalize upd H2 D (.dT []) = H3 at w0 J3 own3
  have B := block_start J3 bk nd own3
  have gP := G s3 H3 s3.heap.objs.size (cellsFrom (s3.heap.objs.size + 1) scope.names (cloFrom X.env.cells scope.names [])) fp
  have gU := U s3 H3 s3.heap.objs.size (cellsFrom (s3.heap.objs.size + 1) scope.names (cloFrom X.env.cells scope.names [])) fp
  have gK := A1 s3 H3 s3.heap.objs.size (cellsFrom (s3.heap.objs.size + 1) scope.names (cloFrom X.env.cells scope.names [])) fp
  have gV := A2 s3 H3 s3.heap.objs.size (cellsFrom (s3.heap.objs.size + 1) scope.names (cloFrom X.env.cells scope.names [])) fp
  rw [← e3]
  change codeAny _ _ (.compStart _ 0 (.ref ia) (.ref D) (compEnvC scope (cellsFrom (s3.heap.objs.size + 1) scope.names (cloFrom X.env.cells scope.names [])) s3.heap.objs.size X.env)) (compPost _ _ _ none _ (.ref D) s3.heap.objs.size) _
  obtain ⟨ce, ec⟩ : ∃ x : Env, x = compEnvC scope (cellsFrom (s3.heap.objs.size + 1) scope.names (cloFrom X.env.cells scope.names [])) s3.heap.objs.size X.env := ⟨_, rfl⟩
  have at3 : ce.locals = s3.heap.objs.size := by rw [ec]; rfl
  rw [← ec] at B gP gU gK gV ⊢
  have begun4 : tn 0 (pushCells (s3.heap.push { cls := .type "dict", data := .dict #[] }) scope.names) := T.keep _ _ _ begun3 fun _ _ _ z => pushCells_keeps _ _ _ _ (Heap.get?_push_of_some _ z)
  have bare3 : ∀ b ∈ fp, H3 b = none := fun b m => (own3 b m).1.1
  obtain ⟨s4, e4⟩ : ∃ x : Shared, x = { s3 with heap := pushCells (s3.heap.push { cls := .type "dict", data := .dict #[] }) scope.names } := ⟨_, rfl⟩
  have hp4 : s4.heap = pushCells (s3.heap.push { cls := .type "dict", data := .dict #[] }) scope.names := by rw [e4]
  rw [← e4] at B ⊢
  rw [← hp4] at begun4
  -- what the iterator owns, seen from the block
  have seen : ∀ {τ : L2.St} {K' : Hp} {z : Shared}, Inv (X.blk s3 H3 scope ce fp) [] τ K' z → (∀ b ∈ fp, K' b = none) → ∀ b ∈ fp, FpOk (X.blk s3 H3 scope ce fp) [] K' b := fun {τ K' z} i' n' b m =>
    ⟨n' b m, (i'.ok.exf b m).1, i'.ok.exfs b m, .inl m, fun x c e => (i'.ok.exf b m).2 x c e, fun w hw => absurd (show w ∈ ([] : List (Addr × Obj)) ++ [] from hw) (by simp)⟩
  have loop : codeAny (model X.prog X.w) X.A (.compLoop (.DictComp kx vx [⟨tg, iter, ifs, 0⟩] scope pos) 0 (.ref ia) (.ref D) ce) (compPost (model X.prog X.w) X.A X.xe none (EP X pins σ Q) (.ref D) s3.heap.objs.size) s4 := by
    refine compLoop_anyD (fun n z => ∃ i K', Inv (X.blk s3 H3 scope ce fp) [] (wipe σ (own.map (·.2))) K' z ∧ tn i z.heap ∧ (∀ b ∈ fp, K' b = none) ∧ W i n K') (fun n s5 hs5 => ?_) m0 ⟨0, H3, B, begun4, bare3, w0⟩
    obtain ⟨i, K5, I5, n5, bare5, w5⟩ := hs5
    rcases turn i n K5 w5 with ⟨halt, done⟩ | ⟨go, Nx, drop, body⟩
    · refine thnF (T.done (X.blk s3 H3 scope ce fp) rfl rfl rfl calm i [] s5 _ K5 (fun _ _ => False) I5 (seen I5 bare5) n5 halt) fun r s6 ⟨er, I6⟩ => ?_
      subst er
      have I7 : Inv X pins σ K5 s6 := J3.call' (ch := fp) I6.os I6.base I6.hok I6.bare fun b m => let z := (own3 b m).1.2; ⟨z.2.2.1, z.1, z.2.2.2.1, z.2.2.2.2⟩
      have open3 : K5 s3.heap.objs.size = none := at3 ▸ (show K5 ce.locals = none from I6.free)
      obtain ⟨m, names, _⟩ := I6.loc
      have names' : s6.heap.Ns s3.heap.objs.size m := at3 ▸ (show s6.heap.Ns ce.locals m from names)
      obtain ⟨p0, p1, p2, p3, p4, p5⟩ := J3.fpOk (H' := K5) (Nat.le_refl _) open3
      exact ⟨m, names', fun h8 sb => ⟨.ref D, K5, I7.turned (t' := s6.toks) (fun b o ne z => (sb.2 b ne).trans z) p0 p1 p3 p4 p5, rfl, done⟩⟩
    · refine thnF (T.item (X.blk s3 H3 scope ce fp) rfl rfl rfl calm i [] s5 _ K5 (fun _ _ => False) I5 (seen I5 bare5) n5 go) fun r s6 ⟨u, er, next⟩ => ?_
      subst er
      refine thnF next fun _ s7 ⟨x, K7, I7, rx, hy, n7, bare7⟩ => ?_
      refine thnF (gP.run _ s7 _ K7 x u _ (I7.pinned (seen I7 bare7) (T.obj _ _ n7)) rx (body x K7 hy)) fun _ s8 ⟨σ8, K8, I8, same8, test⟩ => ?_
      refine thnF (gU.run _ s8 σ8 K8 _ I8 test) fun c s9 ⟨K9, I9, rest⟩ => ?_
      have closing : ∀ {z : Shared} {K' : Hp}, Inv (X.blk s3 H3 scope ce fp) ([] ++ pinsAt fp s7.heap) σ8 K' z → Nx K' → ∃ m, m < n ∧ ∃ i K', Inv (X.blk s3 H3 scope ce fp) [] (wipe σ (own.map (·.2))) K' z ∧ tn i z.heap ∧ (∀ b ∈ fp, K' b = none) ∧ W i m K' := fun {z K'} i' nx => by
        obtain ⟨m, less, w'⟩ := drop K' nx
        have stay : ∀ b ∈ fp, ∀ o, s7.heap.get? b = some o → z.heap.get? b = some o ∧ K' b = none := fun b mb o eo => by
          have y := i'.pin (b, o) (List.mem_append_right _ (List.mem_append_right _ (mem_pinsAt mb eo)))
          exact ⟨y.1, y.2.1⟩
        refine ⟨m, less, i + 1, K', (i'.unpinned (pins := [])).weak (by rw [← same8, wipe_length]) (fun j v ej => ?_), T.keep _ _ _ n7 fun b mb o eo => (stay b mb o eo).1, fun b mb => ?_, w'⟩
        · exact (wipe_some (same8 ▸ ej)).1
        · exact (T.obj _ _ n7 b mb).elim fun o y => (stay b mb o y.1).2
      cases c with
      | false =>
        rw [if_neg (by decide)] at rest ⊢
        exact closing I9 rest
      | true =>
        rw [if_pos rfl] at rest ⊢
        refine thnF (gK.run _ s9 σ8 K9 _ I9 rest) fun _ s10 ⟨y1, K10, I10, r10, vals⟩ => ?_
        refine thnF (gV.run _ s10 σ8 K10 _ I10 vals) fun _ s11 ⟨y2, K11, I11, r11, kvs, k, b, ey, eb, eD, room, nx⟩ => ?_
        subst ey
        exact dictSetT (X := X.blk s3 H3 scope ce fp) hu I11 eD eb room r10 r11 fun s12 I12 => closing I12 nx
  exact codeAny_compStart_dict loop (T.self X.A 0 _ _ _ begun4 loop)
/-- over a tuple that stays -/
theorem dcT_tup {K : PySem.W.Frag} {a D : Addr} {xs : List V} {vs : List Nat} {σ : L2.St} {H1 : Hp} {Qd : Hp → Prop} (Pv : Nat → Hp → Prop) (first : Pv 0 (upd H1 D (.dT []))) (there : ∀ i H, i ≤ xs.length → Pv i H → SqT K H a xs)
    (each : ∀ i x H, xs[i]? = some x → Pv i H → g x (wipe σ vs) H fun σ2 H3 => wipe σ2 vs = wipe σ vs ∧ tt σ2 H3 fun c H4 => if c = true then tk σ2 H4 fun y H5 => tv σ2 H5 fun z H6 =>
      ∃ (kvs : List (List Key × V)) (k : List Key) (b : Addr), y = .ref b ∧ H6 b = some (.tup (k.map kV)) ∧ H6 D = some (.dT kvs) ∧ kvs.length < sizeLine ∧ Pv (i + 1) (upd H6 D (.dT (putK kvs k z))) else Pv (i + 1) H4) (last : ∀ H, Pv xs.length H → Qd H) :
    ∃ W : Nat → Nat → Hp → Prop, (∃ m, W 0 m (upd H1 D (.dT []))) ∧ ∀ i m H2, W i m H2 → ((Itt K a).stop i H2 ∧ Qd H2) ∨ ((Itt K a).go i H2 ∧ ∃ Nx : Hp → Prop, (∀ H', Nx H' → ∃ m', m' < m ∧ W (i + 1) m' H') ∧ ∀ x H', (Itt K a).yld i H2 x H' →
      g x (wipe σ vs) H' fun σ2 H3 => wipe σ2 vs = wipe σ vs ∧ tt σ2 H3 fun c H4 => if c = true then tk σ2 H4 fun y H5 => tv σ2 H5 fun z H6 =>
        ∃ (kvs : List (List Key × V)) (k : List Key) (b : Addr), y = .ref b ∧ H6 b = some (.tup (k.map kV)) ∧ H6 D = some (.dT kvs) ∧ kvs.length < sizeLine ∧ Nx (upd H6 D (.dT (putK kvs k z))) else Nx H4) := by
  refine ⟨fun i m H => m + i = xs.length ∧ Pv i H, ⟨xs.length, rfl, first⟩, fun i m H2 ⟨mi, p⟩ => ?_⟩
  have sq := there i H2 (by omega) p
  match m, mi with
  | 0, mi =>
    have e : i = xs.length := by omega
    subst e
    exact .inl ⟨⟨xs, sq, Nat.le_refl _⟩, last H2 p⟩
  | m + 1, mi =>
    have lt : i < xs.length := by omega
    refine .inr ⟨⟨xs, xs[i], sq, List.getElem?_eq_getElem lt⟩, Pv (i + 1), fun H' p' => ⟨m, Nat.lt_succ_self m, by omega, p'⟩, fun x H' hy => ?_⟩
    obtain ⟨e, y⟩ := hy
    subst e
    exact each i x _ (y xs sq) p
end
end NA
set_option maxHeartbeats 4000000
namespace NA
open PySem PySem.Spec PyProof.Rows L2
/-! ### a tuple times 0; list(..) is no sys.modules -/
theorem tuple_mulNought (l : Addr) (items : Array Value) (n : Nat) (dd : Option Addr) (sl : Array (Option Value)) (u : Tok) (ne : items.isEmpty = false) :
    Meets (Builtin.«tuple.__mul__» ⟨[.ref l, .int 0 u], []⟩) (fun _ R s => s.heap.get? l = some { cls := .type "tuple", dict := dd, data := .seq items n, slots := sl } ∧
      R (.ok (.ret (Value.ref s.heap.objs.size))) { s with heap := s.heap.push { cls := Value.type "tuple", data := Data.seq #[] }, toks := s.toks }) :=
  .of_wp fun prog w A R s h => by
    obtain ⟨hp, g, d, tk, os⟩ := s
    obtain ⟨hl, h⟩ := h
    have f1 := AutoSeq1.idx_int
    wp_walk using wpAny_loadPart' hl
    exact ⟨_, rfl, h⟩
def rRepZ (K : PySem.W.Frag) : R2 := fun x y H Q => ∃ l k xs, x = .ref l ∧ y = .int k ∧ SqT K H l xs ∧ H l = some (.tup xs) ∧ xs ≠ [] ∧ 0 ≤ k ∧ k ≤ 1000 ∧ xs.length ≤ 1000 ∧ ∀ p H', Same H H' → H' p = some (.tup (List.replicate k.toNat xs).flatten) → Q (.ref p) H'
theorem op_repZ {X : Cx} (K : PySem.W.Frag) (hK : X.K = K) : OpR X (binaryOp .Mult) (rRepZ K) := by
  intro pins s σ H x y v u Q I rx ry h
  obtain ⟨l, k, xs, rfl, rfl, hT, hT2, hne, h1, h2, hz, q⟩ := h
  by_cases k1 : k = 0
  · subst k1
    cases rx
    obtain ⟨t, rfl⟩ := ry
    obtain ⟨its, r, ⟨⟨cls, dd, data, sl⟩, ho, hc, n, hd⟩, hs⟩ := I.tuple (hK ▸ hT)
    simp only at hc hd
    subst hc hd
    have some1 : its.toArray.isEmpty = false := by
      cases its with
      | nil => exact absurd (List.eq_nil_of_length_eq_zero r.length) hne
      | cons _ _ => rfl
    refine wpAny_binaryOp_repeat_ref (T := "tuple") (U := "int") (by decide) ⟨_, ho, rfl⟩ (fun s' => typeIs_int s' 0 t) noFill_tuple_mul F.fills_int_mul F.slot_int_rmul repeat_tuple F.slot_int_index.lookup
      (call_meets F.slot_int_rmul (typeIs_int s 0 t) F.entry_int_rmul (F.args_int_rmul_2 _ _) (int_rmul_tuple 0 t l its.toArray n dd sl)
        ⟨ho, rfl, ⟨_, ho, rfl⟩, call_meets F.slot_tuple_mul ⟨_, ho, rfl⟩ F.entry_tuple_mul (F.args_tuple_mul_2 _ _) (tuple_mulNought l its.toArray n dd sl t some1) ⟨ho, ?_⟩⟩)
    have fr : H s.heap.objs.size = none := I.hok.fresh (Nat.le_refl _)
    refine ⟨.ref s.heap.objs.size, _, I.laid (t' := s.toks) (o := .tup []) (fun b ob w => Heap.get?_push_of_some _ w) (Nat.le_refl _) ⟨Nat.zero_le _, [], .nil, IsTup.new _ _⟩, rfl, q _ _ (Same.new (Same.refl H) fr) ?_⟩
    rw [upd_same]
    rfl
  · exact op_repN K hK pins s σ H _ _ v u Q I rx ry ⟨l, k, xs, rfl, rfl, hT, hT2, hne, by omega, h2, hz, q⟩
theorem call_listN {X : Cx} (K : PySem.W.Frag) (hK : X.K = K) : CallR X (.type "list") (fun xs H Q => ∃ p ys, xs = [.ref p] ∧ SqT K H p ys ∧ ∀ l, H l = none → l ≠ sysModules → Q (.ref l) (upd H l (.lst ys))) := by
  subst hK
  intro pins s σ H xs us Q I r h
  obtain ⟨p, ys, rfl, hq, q⟩ := h
  obtain ⟨u, rfl, rx⟩ := r.one
  cases (show u = Value.ref p from rx)
  obtain ⟨its, rv, ⟨o, ho, hc, n, hd⟩, hz⟩ := I.tuple hq
  have same := rv.length
  exact call_list_seq p (.inr rfl) ho hc hd (fun h2 c2 kp e => ⟨.ref s.heap.objs.size, _, I.laid (t' := s.toks) kp (Nat.le_refl _) (show ObjOk X.prog X.w _ h2 _ (.lst ys) from ⟨hz, its, c2, rv, e⟩), rfl, q _ (I.hok.fresh (Nat.le_refl _)) (Nat.ne_of_gt I.big)⟩) (by rw [List.size_toArray]; omega)
end NA
set_option maxHeartbeats 4000000
namespace NA
open PySem PySem.Spec PyProof.Rows L2
/-! ### a text times a number from 2 on -/
def repS (a : Str) (n : Nat) : Str := ⟨(List.replicate n a.cps).foldl (· ++ ·) #[]⟩
theorem foldl_size (cs : Array Nat) : ∀ (n : Nat) (b : Array Nat), ((List.replicate n cs).foldl (· ++ ·) b).size = b.size + n * cs.size
  | 0, b => by simp
  | n + 1, b => by
    rw [List.replicate_succ, List.foldl_cons, foldl_size cs n, Array.size_append, Nat.succ_mul]
    omega
theorem repS_len (a : Str) (n : Nat) : (repS a n).length = n * a.length := by
  have := foldl_size a.cps n #[]
  show ((List.replicate n a.cps).foldl (· ++ ·) #[]).size = n * a.cps.size
  simpa using this
def rRepS : R2 := fun x y H Q => ∃ a k, x = .str a ∧ y = .int k ∧ 2 ≤ k ∧ k ≤ 2000 ∧ 0 < a.length ∧ a.length ≤ 100 ∧ Q (.str (repS a k.toNat)) H
theorem op_repS {X : Cx} : OpR X (binaryOp .Mult) rRepS := by
  intro pins s σ H x y v u Q I rx ry h
  obtain ⟨a, k, rfl, rfl, k2, k3, a1, a2, q⟩ := h
  obtain ⟨t, rfl⟩ := rx
  obtain ⟨t', rfl⟩ := ry
  have ln : a.length * k.toNat ≤ 100 * 2000 := Nat.mul_le_mul a2 (by omega)
  refine PySem.P.mul_str (by rw [decide_eq_false (by omega), decide_eq_false (by omega)]; rfl) (fun _ _ z => ?_) (fun _ _ => ?_) ?_
  · have m1 : (a.length : Int) * k ≤ 100 * 2000 := Int.mul_le_mul (by omega) k3 (by omega) (by decide)
    have := (Int.le_ediv_iff_mul_le (a := (a.length : Int)) (b := 2 ^ 63 - 1) (c := k) (by omega)).mpr (by omega)
    omega
  · show decide (_ > sizeLine) = false
    exact decide_eq_false (Nat.not_lt.mpr (Nat.le_trans ln (by decide)))
  · have e1 : ((k == 1) || (a.length == 0)) = false := by
      rw [beq_eq_false_iff_ne.mpr (by omega), beq_eq_false_iff_ne.mpr (by omega)]
      rfl
    rw [if_neg (by omega), e1, if_neg Bool.false_ne_true]
    refine ⟨?_, .str (repS a k.toNat), H, I.tok _, ⟨_, rfl⟩, q⟩
    show (repS a k.toNat).length ≤ sizeLine
    rw [repS_len, Nat.mul_comm]
    exact Nat.le_trans ln (by decide)
end NA
namespace NA
open PySem PySem.Spec PyProof.Rows L2
def topS (i : Nat) : Stmt := PySem.Challenge.pw_narrowadds_k05_deeds_and_programs_judged.main.body.getD i (.Pass ⟨0, 0, 0, 0⟩)
abbrev s_is_an_integer : Stmt := topS 4
abbrev s_step : Stmt := topS 6
abbrev s_deed_error : Stmt := topS 8
abbrev s_program_error : Stmt := topS 9
abbrev s_program_error_from : Stmt := topS 10
abbrev s_steps_of : Stmt := topS 11
abbrev s_deed_fault : Stmt := topS 12
abbrev s_read_figures : Stmt := topS 17
abbrev s_program_text : Stmt := topS 19
abbrev s_read_program : Stmt := topS 20
abbrev s_read_deed : Stmt := topS 21
abbrev s_read_factor : Stmt := topS 22
abbrev s_l_pot : Stmt := topS 24
abbrev s_l_dip : Stmt := topS 25
abbrev s_l_pick : Stmt := topS 26
abbrev s_l_primes : Stmt := topS 27
abbrev s_l_common : Stmt := topS 28
abbrev s_l_step : Stmt := topS 29
abbrev s_l_great : Stmt := topS 30
abbrev s_l_sizes : Stmt := topS 31
abbrev s_l_wires : Stmt := topS 32
abbrev s_l_machine : Stmt := topS 33
abbrev s_l_deed : Stmt := topS 34
abbrev s_l_program : Stmt := topS 35
abbrev s_l_run : Stmt := topS 36
abbrev s_l_due : Stmt := topS 37
abbrev s_l_due_program : Stmt := topS 38
abbrev s_l_odd : Stmt := topS 39
abbrev s_l_is_right : Stmt := topS 40
abbrev s_law : Stmt := topS 41
section
variable {P : Program} {w : World} {K : PySem.W.Frag} {mg : Str → Option Value} {base : Heap}

/-! ### _law_dip, for great sizes too -/
abbrev sc_l_dipN : List Str := ["pot", "size", "cell", "mixed"]
theorem sc_l_dip : FnScope sc_l_dipN ["pot", "size"] (defScope s_l_dip) := ⟨rfl, rfl, rfl, by decide +kernel, rfl, by decide +kernel, by decide +kernel⟩
theorem ok_dipW {f : Addr} {fd : FuncData} (D : DefAt K mg "_law_dip" s_l_dip ["pot", "size"] f fd) (T : Blt mg) : Cal P w K mg base 1 "_law_dip" spDipW := by
  refine cal_of D sc_l_dip (fun vs H Q E h => ?_) (fun cdv A outer s H vs Q E hr h => ?_)
  · obtain ⟨p, q, n, rfl, _⟩ := h
    rfl
  · obtain ⟨p, q, n, rfl, hP, n0, n1, k⟩ := h
    obtain ⟨cs, a, b, m, hp, hq, hc, a0, a1, b0, b1⟩ := hP
    have npq : p ≠ q := pq_ne hp hq
    refine ⟨_, (pss_cons (ps_if (pt_cmpR (op_neDK K rfl hr.units) (pe_ix (ix_listK K rfl) (pv 0) pe_int (fun _ _ => rfl)) (pe_lst pa_nil) (nomark _)) (pss_cons (ps_set (i := 2) sc_l_dip.nd rfl (.inl rfl) (pe_bm0 PySem.F.plainAttrs_list PySem.F.slot_list_pop PySem.F.type_list_pop mt_pop (pe_ix (ix_listK K rfl) (pv 0) pe_int (fun _ _ => rfl))))
      (pss_cons (ps_if (pt_cmpR op_ge (pv 2) (pv 1) (nomark _)) (pss_one (ps_expr (pe_bm PySem.F.plainAttrs_list PySem.F.slot_list_append PySem.F.type_list_append mt_append (pe_ix (ix_listK K rfl) (pv 0) pe_int (fun _ _ => rfl)) (pa_cons (pe_op op_fdivW (pv 2) (pv 1)) pa_nil)))) pss_nil)
      (pss_one (ps_ret (pe_op op_mod (pe_callTy call_int1 (by rfl) T.int (by decide +kernel) (pa_cons (pv 2) pa_nil)) (pv 1)))))) pss_nil)
      (pss_cons (ps_asg (pe_op op_add (pe_ix (ix_listK K rfl) (pv 0) pe_int (fun _ _ => rfl)) pe_int) (pg_sub (pv 0) pe_int set_list))
      (pss_cons (ps_set (i := 3) sc_l_dip.nd rfl (.inl rfl) (pe_op op_mod (pe_op op_add (pe_ix (ix_listK K rfl) (pv 0) pe_int (fun _ _ => rfl)) (pe_op op_mul (pe_ix (ix_listK K rfl) (pv 0) pe_int (fun _ _ => rfl)) pe_int)) pe_int))
      (pss_cons (ps_set (i := 3) sc_l_dip.nd rfl (.inl rfl) (pe_op op_mod (pe_op op_add (pe_op op_add (pe_op op_mul (pv 3) (pv 3)) (pe_op op_mul (pe_ix (ix_listK K rfl) (pv 0) pe_int (fun _ _ => rfl)) (pe_ix (ix_listK K rfl) (pv 0) pe_int (fun _ _ => rfl)))) pe_int) pe_int))
      (pss_one (ps_ret (pe_op op_mod (pe_op op_fdiv (pe_op op_mod (pe_op op_mul (pv 3) pe_int) pe_int) pe_int) (pv 1)))))))), ?_⟩
    refine ⟨_, rfl, p, _, 0, _, rfl, rfl, SqL.of hp, atI_nat (j := 0) rfl, Nat.zero_le _, fun l nl => ?_⟩
    have nlp : p ≠ l := ne_of_none hp nl
    have nlq : q ≠ l := ne_of_none hq nl
    have hp1 : (upd H l (.lst [])) p = some (.lst [.ref q, .int a, .int b, .int m]) := by rw [upd_ne nlp]; exact hp
    have hq1 : (upd H l (.lst [])) q = some (.lst (cs.map V.int)) := by rw [upd_ne nlq]; exact hq
    have kp1 : Kp p q H (upd H l (.lst [])) := (Kp.refl p q H).new nl
    refine ⟨.list (cs.map PyData.int), .list [], .lst (SqL.of hq1) (DpAll.ints K _ cs), .lst (SqL.of upd_same) .nil, shaped_ints cs, rfl, _, rfl, ?_⟩
    have keep : ∀ (H' H'' : Hp) (c : Addr) (o : HO), Kp p q H H' → (c = p ∨ c = q) → Kp p q H (upd H' c o) := fun H' _ c o e hcq b u n1 n2 z => by
      have nb : b ≠ c := fun e => by
        rcases hcq with h | h
        · exact n1 (e.trans h)
        · exact n2 (e.trans h)
      rw [upd_ne nb]
      exact e b u n1 n2 z
    cases cs with
    | nil =>
      refine iteF ?_
      refine ⟨_, rfl, p, _, 3, _, rfl, rfl, SqL.of hp1, atI_nat (j := 3) rfl, m, 1, rfl, rfl, _, rfl, p, _, 3, 3, rfl, rfl, hp1, rfl, ?_⟩
      have hp2 : (upd (upd H l (.lst [])) p (.lst [.ref q, .int a, .int b, .int (m + 1)])) p = some (.lst [.ref q, .int a, .int b, .int (m + 1)]) := upd_same
      have hq2 : (upd (upd H l (.lst [])) p (.lst [.ref q, .int a, .int b, .int (m + 1)])) q = some (.lst []) := by rw [upd_ne npq.symm]; exact hq1
      have kp2 : Kp p q H (upd (upd H l (.lst [])) p (.lst [.ref q, .int a, .int b, .int (m + 1)])) := keep _ H _ _ kp1 (.inl rfl)
      refine ⟨_, rfl, p, _, 1, _, rfl, rfl, SqL.of hp2, atI_nat (j := 1) rfl, _, rfl, p, _, 3, _, rfl, rfl, SqL.of hp2, atI_nat (j := 3) rfl, _, _, rfl, rfl, .inr ⟨by decide, by decide⟩, _, _, rfl, rfl, _, _, rfl, rfl, (by decide : (0 : Int) < 4294967291), ?_⟩
      have m1 := Int.emod_nonneg (a + (m + 1) * 2654435761) (show (4294967291 : Int) ≠ 0 by decide)
      have m2 := Int.emod_lt_of_pos (a + (m + 1) * 2654435761) (show (0 : Int) < 4294967291 by decide)
      refine ⟨_, rfl, _, rfl, _, _, rfl, rfl, .inl ⟨by omega, by omega⟩, _, rfl, p, _, 2, _, rfl, rfl, SqL.of hp2, atI_nat (j := 2) rfl, _, rfl, p, _, 3, _, rfl, rfl, SqL.of hp2, atI_nat (j := 3) rfl, _, _, rfl, rfl, .inl ⟨by omega, by omega⟩, _, _, rfl, rfl, _, _, rfl, rfl, _, _, rfl, rfl, (by decide : (0 : Int) < 4294967279), ?_⟩
      refine ⟨_, rfl, _, _, rfl, rfl, .inl ⟨Int.lt_of_lt_of_le (by decide) (Int.emod_nonneg _ (by decide)), Int.lt_trans (Int.emod_lt_of_pos _ (by decide)) (by decide)⟩, _, _, rfl, rfl, (by decide : (0 : Int) < 4294967231), _, _, rfl, rfl, ⟨by decide, by decide⟩, _, rfl, _, _, rfl, rfl, n0, ?_⟩
      refine k _ _ (Int.emod_nonneg _ (by omega)) (Int.emod_lt_of_pos _ n0) ⟨[], a, b, m + 1, hp2, hq2, by decide, a0, a1, b0, b1⟩ kp2
    | cons c0 cs0 =>
      refine iteT ?_
      generalize hcs : c0 :: cs0 = cs at *
      have ne : cs ≠ [] := by rw [← hcs]; exact List.cons_ne_nil _ _
      obtain ⟨ini, z, rfl⟩ : ∃ (ini : List Int) (z : Int), cs = ini ++ [z] := ⟨cs.dropLast, cs.getLast ne, (List.dropLast_concat_getLast ne).symm⟩
      have hq1' : (upd H l (.lst [])) q = some (.lst (ini.map V.int ++ [V.int z])) := by rw [hq1, List.map_append]; rfl
      have hlast : (ini.map V.int ++ [V.int z])[(ini.map V.int ++ [V.int z]).length - 1]? = some (V.int z) := by simp
      have hdrop : (ini.map V.int ++ [V.int z]).dropLast = ini.map V.int := by simp
      refine ⟨_, rfl, p, _, 0, _, rfl, rfl, SqL.of hp1, atI_nat (j := 0) rfl, .inl ⟨rfl, _, SqL.of hq1'⟩, q, _, _, rfl, rfl, hq1', hlast, ?_⟩
      rw [hdrop]
      have hp2 : (upd (upd H l (.lst [])) q (.lst (ini.map V.int))) p = some (.lst [.ref q, .int a, .int b, .int m]) := by rw [upd_ne npq]; exact hp1
      have hq2 : (upd (upd H l (.lst [])) q (.lst (ini.map V.int))) q = some (.lst (ini.map V.int)) := upd_same
      have kp2 : Kp p q H (upd (upd H l (.lst [])) q (.lst (ini.map V.int))) := keep _ H _ _ kp1 (.inr rfl)
      have li : ini.length + 1 ≤ 60 := by simpa using hc
      refine ⟨_, rfl, _, rfl, _, _, rfl, rfl, _, rfl, ?_⟩
      refine ite2 (fun _ => ?_) (fun _ => ?_)
      · refine ⟨_, rfl, p, _, 0, _, rfl, rfl, SqL.of hp2, atI_nat (j := 0) rfl, .inl ⟨rfl, _, SqL.of hq2⟩, _, rfl, _, rfl, _, _, rfl, rfl, wide_div (b := 4000) n0 n1 (by decide) (by decide), q, _, _, rfl, rfl, hq2, small1000 (by rw [List.length_map]; omega), ?_⟩
        have hp3 : ∀ o, (upd (upd (upd H l (.lst [])) q (.lst (ini.map V.int))) q o) p = some (.lst [.ref q, .int a, .int b, .int m]) := fun o => by rw [upd_ne npq]; exact hp2
        refine ⟨_, rfl, .inl ⟨_, rfl, _, rfl, _, _, rfl, rfl, n0, ?_⟩⟩
        refine k _ _ (Int.emod_nonneg _ (by omega)) (Int.emod_lt_of_pos _ n0) ⟨ini ++ [z / n], a, b, m, hp3 _, by rw [upd_same, List.map_append]; rfl, by rw [List.length_append, List.length_singleton]; omega, a0, a1, b0, b1⟩ (keep _ H _ _ kp2 (.inr rfl))
      · refine ⟨_, rfl, .inl ⟨_, rfl, _, rfl, _, _, rfl, rfl, n0, ?_⟩⟩
        refine k _ _ (Int.emod_nonneg _ (by omega)) (Int.emod_lt_of_pos _ n0) ⟨ini, a, b, m, hp2, hq2, by omega, a0, a1, b0, b1⟩ kp2

/-! ### _law_pick, lists and tuples -/
abbrev sc_l_pickN : List Str := ["pot", "items"]
theorem sc_l_pick : FnScope sc_l_pickN ["pot", "items"] (defScope s_l_pick) := ⟨rfl, rfl, rfl, by decide +kernel, rfl, by decide +kernel, by decide +kernel⟩
theorem ok_pickA {f : Addr} {fd : FuncData} (D : DefAt K mg "_law_pick" s_l_pick ["pot", "items"] f fd) (T : Blt mg) (c_l_dip : Cal P w K mg base 1 "_law_dip" spDip) : Cal P w K mg base 2 "_law_pick" spPickA := by
  refine cal_of D sc_l_pick (fun vs H Q E h => ?_) (fun cdv A outer s H vs Q E hr h => ?_)
  · obtain ⟨p, q, a, xs, o, rfl, _⟩ := h
    rfl
  · obtain ⟨p, q, a, xs, o, rfl, hP, ha, ho, ne, lt, k⟩ := h
    refine ⟨_, (pss_one (ps_ret (pe_ix (ix_anyK K rfl) (pv 1) (pe_c c_l_dip hr (by decide) rfl (pa_cons (pv 0) (pa_cons (pe_callB (call_lenK K rfl) (by rfl) T.len PySem.boot_len (pa_cons (pv 1) pa_nil)) pa_nil))) (fun _ _ => rfl)))), ?_⟩
    have l0 : 0 < xs.length := List.length_pos_iff.mpr ne
    have sq : SqL K H a xs ∨ SqT K H a xs := by
      rcases ho with ⟨e, _⟩ | e
      · exact .inl (SqL.of (e ▸ ha))
      · exact .inr (SqT.of (e ▸ ha))
    refine ⟨_, rfl, _, rfl, _, rfl, a, xs, rfl, sq, p, q, _, rfl, hP, by omega, by omega, fun r H' r0 r1 hP' hk => ?_⟩
    obtain ⟨j, rfl⟩ : ∃ j : Nat, r = (j : Int) := ⟨r.toNat, by omega⟩
    have hj : j < xs.length := by omega
    have kk := k _ _ (List.getElem_mem hj) hP' hk
    rcases ho with ⟨e, n1, n2⟩ | e
    · exact .inl ⟨a, xs, j, _, rfl, rfl, SqL.of (hk a _ n1 n2 (e ▸ ha)), atI_nat (List.getElem?_eq_getElem hj), kk⟩
    · exact .inr ⟨a, xs, j, _, rfl, rfl, SqT.of ((hk.tk hP) _ _ (e ▸ ha)), atI_nat (List.getElem?_eq_getElem hj), kk⟩

/-! ### _law_dip, _law_pick, _law_primes, _law_common -/
abbrev sc_l_primesN : List Str := []
theorem sc_l_primes : FnScope sc_l_primesN [] (defScope s_l_primes) := ⟨rfl, rfl, rfl, by decide +kernel, rfl, by decide +kernel, by decide +kernel⟩
theorem ok_primes {f : Addr} {fd : FuncData} (D : DefAt K mg "_law_primes" s_l_primes [] f fd) : Cal P w K mg base 1 "_law_primes" spPrimes := by
  refine cal_of D sc_l_primes (fun vs H Q E h => ?_) (fun cdv A outer s H vs Q E hr h => ?_)
  · obtain ⟨rfl, _⟩ := h
    rfl
  · obtain ⟨rfl, k⟩ := h
    refine ⟨_, (pss_one (ps_ret (pe_lst (pa_cons pe_int (pa_cons pe_int (pa_cons pe_int (pa_cons pe_int (pa_cons pe_int (pa_cons pe_int (pa_cons pe_int (pa_cons pe_int (pa_cons pe_int (pa_cons pe_int (pa_cons pe_int (pa_cons pe_int (pa_cons pe_int (pa_cons pe_int (pa_cons pe_int (pa_cons pe_int (pa_cons pe_int (pa_cons pe_int (pa_cons pe_int (pa_cons pe_int (pa_cons pe_int (pa_cons pe_int (pa_cons pe_int (pa_cons pe_int (pa_cons pe_int pa_nil)))))))))))))))))))))))))))), ?_⟩
    exact ⟨by show 25 ≤ sizeLine; decide, fun a na => k a na⟩
abbrev sc_l_commonN : List Str := ["one", "other"]
theorem sc_l_common : FnScope sc_l_commonN ["one", "other"] (defScope s_l_common) := ⟨rfl, rfl, rfl, by decide +kernel, rfl, by decide +kernel, by decide +kernel⟩
theorem ok_common {f : Addr} {fd : FuncData} (D : DefAt K mg "_law_common" s_l_common ["one", "other"] f fd) : Cal P w K mg base 1 "_law_common" spCommon := by
  refine cal_of D sc_l_common (fun vs H Q E h => ?_) (fun cdv A outer s H vs Q E hr h => ?_)
  · obtain ⟨a, b, rfl, _⟩ := h
    rfl
  · obtain ⟨a, b, rfl, hb, k⟩ := h
    refine ⟨_, (pss_cons (ps_while PassesOwn.never (pt_cmpR op_gt (pv 1) pe_int (nomark _)) (pss_one (ps_par (i := 0) (j := 1) rfl sc_l_common.nd rfl rfl (by decide) rfl rfl (pa_cons (pv 1) (pa_cons (pe_op op_mod (pv 0) (pv 1)) pa_nil)) (by rfl))))
      (pss_one (ps_ret (pv 0)))), ?_⟩
    refine ⟨fun m σ H' => ∃ x y : Nat, σ = [some (.int x), some (.int y)] ∧ Nat.gcd x y = Nat.gcd a b ∧ m = y ∧ H' = H, ⟨b, a, b, rfl, rfl, rfl, rfl⟩, ?_⟩
    rintro m σ H' ⟨x, y, rfl, hg, rfl, rfl⟩
    refine ⟨_, rfl, _, _, rfl, rfl, _, rfl, ?_⟩
    refine ite2 (fun hy => ?_) (fun hy => ?_)
    · have hy' : (0 : Int) < (m : Int) := of_decide_eq_true hy
      refine ⟨fun σ' H'' => ∃ x' y' : Nat, σ' = [some (.int x'), some (.int y')] ∧ Nat.gcd x' y' = Nat.gcd a b ∧ y' < m ∧ H'' = H', fun σ' H'' ⟨x', y', e1, e2, e3, e4⟩ => ⟨y', e3, x', y', e1, e2, rfl, e4⟩, ?_⟩
      refine ⟨_, rfl, _, rfl, _, rfl, _, _, rfl, rfl, hy', _, _, rfl, m, x % m, rfl, ?_, Nat.mod_lt _ (by omega), rfl⟩
      rw [Nat.gcd_comm, ← Nat.gcd_rec, Nat.gcd_comm, hg]
    · have hy' : ¬ (0 : Int) < (m : Int) := of_decide_eq_false (by simpa using hy)
      have m0 : m = 0 := by omega
      subst m0
      refine ⟨_, rfl, ?_⟩
      rw [Nat.gcd_zero_right] at hg
      rw [hg]
      exact k

/-! ### _law_great, _law_sizes, _law_wires, _law_machine -/
abbrev sc_l_greatN : List Str := ["pot", "some", "found", "turn", "prime"]
theorem sc_l_great : FnScope sc_l_greatN ["pot"] (defScope s_l_great) := ⟨rfl, rfl, rfl, by decide +kernel, rfl, by decide +kernel, by decide +kernel⟩
theorem ok_great {f : Addr} {fd : FuncData} (D : DefAt K mg "_law_great" s_l_great ["pot"] f fd) (T : Blt mg) (c_l_dip : Cal P w K mg base 1 "_law_dip" spDip) (c_l_pick : Cal P w K mg base 2 "_law_pick" spPick) (c_l_primes : Cal P w K mg base 1 "_law_primes" spPrimes) :
    Cal P w K mg base 3 "_law_great" spGreat := by
  refine cal_of D sc_l_great (fun vs H Q E h => ?_) (fun cdv A outer s H vs Q E hr h => ?_)
  · obtain ⟨p, q, rfl, _⟩ := h
    rfl
  · obtain ⟨p, q, rfl, hP, k⟩ := h
    refine ⟨_, (pss_cons (ps_set (i := 1) sc_l_great.nd rfl (.inl rfl) (pe_lst (pa_cons (pe_op op_pow pe_int pe_int) (pa_cons (pe_op op_pow pe_int pe_int) (pa_cons (pe_op op_pow pe_int pe_int) (pa_cons (pe_op op_pow pe_int pe_int) (pa_cons (pe_op op_pow pe_int pe_int) (pa_cons (pe_op op_pow pe_int pe_int) (pa_cons (pe_op op_pow (pe_op op_pow pe_int pe_int) pe_int) (pa_cons (pe_op op_pow pe_int pe_int) (pa_cons (pe_op op_pow pe_int pe_int) (pa_cons pe_int (pa_cons pe_int pa_nil)))))))))))))
      (pss_cons (ps_set (i := 2) sc_l_great.nd rfl (.inl rfl) (pe_c c_l_pick hr (by decide) rfl (pa_cons (pv 0) (pa_cons (pv 1) pa_nil))))
      (pss_cons (ps_for PassesOwn.never rfl (pi_range1 (by rfl) T.range (pa_cons (pe_c c_l_dip hr (by decide) rfl (pa_cons (pv 0) (pa_cons pe_int pa_nil))) pa_nil)) (pg_name (i := 3) sc_l_great.nd rfl (.inl rfl)) (pss_cons (ps_set (i := 4) sc_l_great.nd rfl (.inl rfl) (pe_c c_l_pick hr (by decide) rfl (pa_cons (pv 0) (pa_cons (pe_lst (pa_cons pe_int (pa_cons pe_int (pa_cons pe_int (pa_cons pe_int (pa_cons (pe_c c_l_pick hr (by decide) rfl (pa_cons (pv 0) (pa_cons (pe_c0 c_l_primes hr (by decide) rfl) pa_nil))) pa_nil)))))) pa_nil))))
      (pss_one (ps_set (i := 2) sc_l_great.nd rfl (.inl rfl) (pe_ifExp (pt_cmpR op_le (pe_op op_mulW (pv 2) (pv 4)) (pe_op op_pow pe_int pe_int) (nomark _)) (pe_op op_mulW (pv 2) (pv 4)) (pv 2))))))
      (pss_one (ps_ret (pe_callB (call_max2 rfl) (by rfl) T.max boot_max (pa_cons (pv 2) (pa_cons pe_int pa_nil)))))))), ?_⟩
    refine ⟨_, _, rfl, rfl, ⟨by decide, by decide, by decide⟩, _, _, rfl, rfl, ⟨by decide, by decide, by decide⟩, _, _, rfl, rfl, ⟨by decide, by decide, by decide⟩, _, _, rfl, rfl, ⟨by decide, by decide, by decide⟩, _, _, rfl, rfl, ⟨by decide, by decide, by decide⟩, _, _, rfl, rfl, ⟨by decide, by decide, by decide⟩,
      _, _, rfl, rfl, ⟨by decide, by decide, by decide⟩, _, _, rfl, rfl, ⟨by decide, by decide, by decide⟩, _, _, rfl, rfl, ⟨by decide, by decide, by decide⟩, _, _, rfl, rfl, ⟨by decide, by decide, by decide⟩, by show 11 ≤ sizeLine; decide, fun c nc => ?_⟩
    refine ⟨_, rfl, _, rfl, p, q, c, _, rfl, hP.new nc, upd_same, (hP.np nc).1, (hP.np nc).2, List.cons_ne_nil _ _, by show 11 < 1000; decide, fun v H2 hv P2 k2 => ?_⟩
    have kp2 : Kp p q H H2 := ((Kp.refl p q H).new nc).trans k2
    have ov : okV v = true := by
      have all : ∀ l : List V, l.all okV = true → v ∈ l → okV v = true := fun l h => List.all_eq_true.mp h v
      exact all _ (by decide +kernel) hv
    obtain ⟨m, rfl, m1, m2, m3⟩ := okV_of ov
    refine ⟨_, rfl, p, q, _, rfl, P2, by decide, by decide, fun r H3 r0 r1 P3 k3 => ⟨r, rfl, by omega, by omega, for_range (lo := 0) (n := r.toNat) (fun i σ H' => ∃ (x : Nat) (v3 v4 : Option V), σ = [some (.ref p), some (.ref c), some (.int x), v3, v4] ∧ 1 ≤ x ∧ x ≤ 10 ^ 30 ∧ Smo x ∧ Pt H' p q ∧ Kp p q H H')
      ⟨m, none, none, rfl, m1, m2, m3, P3, kp2.trans k3⟩ ?_ ?_⟩⟩
    · rintro i σ H' hi ⟨x, v3, v4, rfl, x1, x2, x3, P4, k4⟩
      refine ⟨_, rfl, _, rfl, rfl, fun a na => ⟨p, q, a, _, rfl, P4.new na, upd_same, (P4.np na).1, (P4.np na).2, by decide, by decide, fun v H5 hv P5 k5 => ⟨by show 5 ≤ sizeLine; decide, fun b nb => ?_⟩⟩⟩
      refine ⟨p, q, b, _, rfl, P5.new nb, upd_same, (P5.np nb).1, (P5.np nb).2, List.cons_ne_nil _ _, by show 5 < 1000; decide, fun u H6 hu P6 k6 => ?_⟩
      have k06 : Kp p q H H6 := ((((k4.new na).trans k5).new nb)).trans k6
      obtain ⟨pr, rfl, hpr⟩ : ∃ pr : Nat, u = .int pr ∧ pr ∈ PRn := by
        have fromPR : ∀ y : V, y ∈ PR.map V.int → ∃ pr : Nat, y = .int pr ∧ pr ∈ PRn := fun y hy => by
          obtain ⟨z, hz, rfl⟩ := List.mem_map.mp hy
          have e : PR = PRn.map (fun n : Nat => (n : Int)) := by decide +kernel
          rw [e] at hz
          obtain ⟨n, hn, rfl⟩ := List.mem_map.mp hz
          exact ⟨n, rfl, hn⟩
        rcases List.mem_cons.mp hu with e | hu
        · exact ⟨2, e, by decide⟩
        rcases List.mem_cons.mp hu with e | hu
        · exact ⟨2, e, by decide⟩
        rcases List.mem_cons.mp hu with e | hu
        · exact ⟨3, e, by decide⟩
        rcases List.mem_cons.mp hu with e | hu
        · exact ⟨5, e, by decide⟩
        rcases List.mem_cons.mp hu with e | hu
        · exact fromPR _ (e ▸ hv)
        · cases hu
      have wide : CMulW (x : Int) (pr : Int) := wide_mul (a := 100) (b := 10) (by
        have : (10 : Nat) ^ 30 < 2 ^ 100 := by decide
        omega) (by
        have := PRn_le hpr
        omega) (by decide) (by decide) (by decide)
      refine ⟨_, rfl, _, rfl, _, _, rfl, rfl, wide, _, _, rfl, rfl, ⟨by decide, by decide, by decide⟩, _, _, rfl, rfl, _, rfl, ?_⟩
      refine ite2 (fun le => ?_) (fun _ => ?_)
      · have le' : (x : Int) * (pr : Int) ≤ 10 ^ 30 := of_decide_eq_true le
        have le2 : x * pr ≤ 10 ^ 30 := by
          have z : ((x * pr : Nat) : Int) ≤ 10 ^ 30 := by rw [Int.natCast_mul]; exact le'
          omega
        refine ⟨_, rfl, _, rfl, _, _, rfl, rfl, wide, x * pr, some (.int (0 + (i : Int))), some (.int pr), ?_, ?_, le2, x3.mulr hpr, P6, k06⟩
        · rw [Int.natCast_mul]
          rfl
        · exact Nat.mul_pos x1 (Nat.lt_of_lt_of_le (by decide) (PRn_two hpr))
      · exact ⟨_, rfl, x, _, _, rfl, x1, x2, x3, P6, k06⟩
    · rintro σ H' ⟨x, v3, v4, rfl, x1, x2, x3, P4, k4⟩
      refine ⟨_, rfl, _, _, rfl, ?_⟩
      have so : SizeOk (if (2 : Int) > (x : Int) then 2 else (x : Int)) := by
        by_cases h2 : (2 : Int) > (x : Int)
        · rw [if_pos h2]
          exact ⟨2, rfl, by decide, by decide, smo_of (by decide +kernel)⟩
        · rw [if_neg h2]
          exact ⟨x, rfl, by omega, x2, x3⟩
      exact k _ _ so P4 k4
abbrev sc_l_sizesN : List Str := ["pot", "is_great", "few", "base", "turn"]
theorem sc_l_sizes : FnScope sc_l_sizesN ["pot", "is_great"] (defScope s_l_sizes) := ⟨rfl, rfl, rfl, by decide +kernel, rfl, by decide +kernel, by decide +kernel⟩
theorem ok_sizes {f : Addr} {fd : FuncData} (D : DefAt K mg "_law_sizes" s_l_sizes ["pot", "is_great"] f fd) (T : Blt mg) (c_l_dip : Cal P w K mg base 1 "_law_dip" spDip) (c_l_pick : Cal P w K mg base 2 "_law_pick" spPick) (c_l_great : Cal P w K mg base 3 "_law_great" spGreat) :
    Cal P w K mg base 4 "_law_sizes" spSizes := by
  refine cal_of D sc_l_sizes (fun vs H Q E h => ?_) (fun cdv A outer s H vs Q E hr h => ?_)
  · obtain ⟨p, q, g, rfl, _⟩ := h
    rfl
  · obtain ⟨p, q, g, rfl, hP, k⟩ := h
    refine ⟨_, (pss_cons (ps_set (i := 2) sc_l_sizes.nd rfl (.inr rfl) (pe_lst (pa_cons pe_int (pa_cons pe_int (pa_cons pe_int (pa_cons pe_int (pa_cons pe_int (pa_cons pe_int (pa_cons pe_int (pa_cons pe_int (pa_cons pe_int (pa_cons pe_int (pa_cons pe_int (pa_cons pe_int (pa_cons pe_int pa_nil)))))))))))))))
      (pss_cons (ps_set (i := 3) sc_l_sizes.nd rfl (.inr rfl) (pe_lc (own := [("turn", 4)]) rfl sc_l_sizes.nd (pi_range1 (by rfl) T.range (pa_cons pe_int pa_nil)) (blkOk_by (N := sc_l_sizesN) (sc := defScope s_l_sizes) (by decide +kernel)) (fun _ _ _ _ _ => (pg_name (i := 4) sc_l_sizes.nd rfl (by first | exact .inl rfl | exact .inr rfl))) (fun _ _ _ _ _ => pts_nil) (fun _ _ _ _ _ => (pe_ifExp (pt_val (pv 1)) (pe_c c_l_great hr (by decide) rfl (pa_cons (pv 0) pa_nil)) (pe_c c_l_pick hr (by decide) rfl (pa_cons (pv 0) (pa_cons (pv 2) pa_nil)))))))
      (pss_one (ps_ret (pe_callTy (call_tupleK K rfl) (by rfl) T.tuple (by decide +kernel) (pa_cons (pe_lc (own := [("turn", 4)]) rfl sc_l_sizes.nd (pi_range1 (by rfl) T.range (pa_cons (pe_op op_add pe_int (pe_c c_l_dip hr (by decide) rfl (pa_cons (pv 0) (pa_cons pe_int pa_nil)))) pa_nil)) (blkOk_by (N := sc_l_sizesN) (sc := defScope s_l_sizes) (by decide +kernel)) (fun _ _ _ _ _ => (pg_name (i := 4) sc_l_sizes.nd rfl (by first | exact .inl rfl | exact .inr rfl))) (fun _ _ _ _ _ => pts_nil) (fun _ _ _ _ _ => (pe_c c_l_pick hr (by decide) rfl (pa_cons (pv 0) (pa_cons (pv 3) pa_nil))))) pa_nil)))))), ?_⟩
    refine ⟨by show 13 ≤ sizeLine; decide, fun c nc => ?_⟩
    have P1 : Pt (upd H c (.lst fewV)) p q := hP.new nc
    have k1 : Kp p q H (upd H c (.lst fewV)) := (Kp.refl p q H).new nc
    obtain ⟨nc1, nc2⟩ := hP.np nc
    refine ⟨3, rfl, by decide, by decide, fun b nb => ?_⟩
    have nbH : H b = none := by
      by_cases e : b = c
      · rw [e, upd_same] at nb
        cases nb
      · rw [upd_ne e] at nb
        exact nb
    obtain ⟨nb1, nb2⟩ := hP.np nbH
    have ncb : c ≠ b := ne_of_none upd_same nb
    refine lc_range (lo := 0) (n := 3) (fun i H' => Pt H' p q ∧ Kp p q H H' ∧ H' c = some (.lst fewV) ∧ ∃ acc : List Int, H' b = some (.lst (acc.map V.int)) ∧ acc.length = i ∧ ∀ s ∈ acc, SizeOk s)
      ⟨P1.new nb, k1.new nb, by rw [upd_ne ncb]; exact upd_same, [], upd_same, rfl, fun s hs => by cases hs⟩ ?_ ?_
    · rintro i H' hi ⟨P2, k2, hc, acc, hb, hl, ok⟩
      have fin : ∀ (n : Int) (H3 : Hp), SizeOk n → Pt H3 p q → Kp p q H' H3 → ∃ acc' : List V, H3 b = some (.lst acc') ∧ acc'.length < sizeLine ∧ (Pt (upd H3 b (.lst (acc' ++ [V.int n]))) p q ∧ Kp p q H (upd H3 b (.lst (acc' ++ [V.int n]))) ∧ (upd H3 b (.lst (acc' ++ [V.int n]))) c = H' c ∧ ∃ acc : List Int, (upd H3 b (.lst (acc' ++ [V.int n]))) b = some (.lst (acc.map V.int)) ∧ acc.length = i + 1 ∧ ∀ s ∈ acc, SizeOk s) := fun n H3 hn P3 k3 => by
        refine ⟨acc.map V.int, k3 _ _ nb1 nb2 hb, small1000 (by rw [List.length_map]; omega), P3.put nb1 nb2, (k2.trans k3).put nbH, ?_, acc ++ [n], by rw [upd_same, List.map_append]; rfl, by rw [List.length_append, List.length_singleton, hl], fun s hs => ?_⟩
        · rw [upd_ne ncb, hc]
          exact k3 _ _ nc1 nc2 hc
        · rcases List.mem_append.mp hs with h | h
          · exact ok s h
          · rw [List.mem_singleton.mp h]
            exact hn
      refine ⟨rfl, ⟨_, rfl, _, rfl, ?_⟩⟩
      cases g with
      | true =>
        refine iteT ⟨_, rfl, p, q, rfl, P2, fun n H3 hn P3 k3 => ?_⟩
        obtain ⟨acc', a1, a2, a3, a4, a5, a6⟩ := fin n H3 hn P3 k3
        exact ⟨acc', a1, a2, a3, a4, a5.trans hc, a6⟩
      | false =>
        refine iteF ⟨_, rfl, _, rfl, p, q, c, _, rfl, P2, hc, nc1, nc2, List.cons_ne_nil _ _, by show 13 < 1000; decide, fun v H3 hv P3 k3 => ?_⟩
        have ov : okV v = true := by
          have all : ∀ l : List V, l.all okV = true → v ∈ l → okV v = true := fun l h => List.all_eq_true.mp h v
          exact all _ (by decide +kernel) hv
        have big : ∀ l : List V, l.all (fun v => match v with | .int i => decide (2 ≤ i) | _ => false) = true → v ∈ l → ∀ i, v = V.int i → 2 ≤ i := fun l h m i e => by
          have z := List.all_eq_true.mp h v m
          rw [e] at z
          exact of_decide_eq_true z
        obtain ⟨n, rfl, n1, n2, n3⟩ := okV_of ov
        have n4 := big _ (by decide +kernel) hv _ rfl
        obtain ⟨acc', a1, a2, a3, a4, a5, a6⟩ := fin n H3 ⟨n, rfl, by omega, n2, n3⟩ P3 k3
        exact ⟨acc', a1, a2, a3, a4, a5.trans hc, a6⟩
    · rintro H' ⟨P2, k2, hc, acc, hb, hl, ok⟩
      refine ⟨_, rfl, p, q, _, rfl, P2, by decide, by decide, fun r H3 r0 r1 P3 k3 => ⟨1, r, rfl, rfl, _, rfl, by omega, by omega, fun d nd => ?_⟩⟩
      have hb3 : H3 b = some (.lst (acc.map V.int)) := k3 _ _ nb1 nb2 hb
      obtain ⟨nd1, nd2⟩ := P3.np nd
      have nbd : b ≠ d := ne_of_none hb3 nd
      have ndH : H d = none := (k2.trans k3).fresh nd1 nd2 nd
      refine lc_range (lo := 0) (n := (1 + r).toNat) (fun i H' => Pt H' p q ∧ Kp p q H H' ∧ H' b = some (.lst (acc.map V.int)) ∧ ∃ ac : List Int, H' d = some (.lst (ac.map V.int)) ∧ ac.length = i ∧ ∀ s ∈ ac, SizeOk s)
        ⟨P3.new nd, (k2.trans k3).new nd, by rw [upd_ne nbd]; exact hb3, [], upd_same, rfl, fun s hs => by cases hs⟩ ?_ ?_
      · rintro i H4 hi ⟨P4, k4, hb4, ac, hd, hl4, ok4⟩
        refine ⟨rfl, ⟨_, rfl, _, rfl, p, q, b, _, rfl, P4, hb4, nb1, nb2, ?_, ?_, fun v H5 hv P5 k5 => ?_⟩⟩
        · intro z
          have z' := congrArg List.length z
          rw [List.length_map, hl] at z'
          cases z'
        · rw [List.length_map, hl]
          decide
        · obtain ⟨n, hn, rfl⟩ := List.mem_map.mp hv
          refine ⟨ac.map V.int, k5 _ _ nd1 nd2 hd, small1000 (by rw [List.length_map]; omega), P5.put nd1 nd2, (k4.trans k5).put ndH, ?_, ac ++ [n], by rw [upd_same, List.map_append]; rfl, by rw [List.length_append, List.length_singleton, hl4], fun s hs => ?_⟩
          · rw [upd_ne nbd]
            exact k5 _ _ nb1 nb2 hb4
          · rcases List.mem_append.mp hs with h | h
            · exact ok4 s h
            · rw [List.mem_singleton.mp h]
              exact ok n hn
      · rintro H4 ⟨P4, k4, hb4, ac, hd, hl4, ok4⟩
        refine ⟨d, _, rfl, .inl ⟨SqL.of hd, fun t nt => ?_⟩⟩
        refine k _ ac _ (.tup upd_same ?_) (by omega) (by omega) ok4 (P4.new nt) (k4.new nt)
        exact ImAll.of_ints _ ac

abbrev sc_l_wiresN : List Str := ["pot", "many", "chance", "found", "j", "i"]
theorem sc_l_wires : FnScope sc_l_wiresN ["pot", "many"] (defScope s_l_wires) := ⟨rfl, rfl, rfl, by decide +kernel, rfl, by decide +kernel, by decide +kernel⟩
theorem wlt_low {ws : List (Nat × Nat)} {j i : Nat} {acc : List (Nat × Nat)} (h1 : ws.Pairwise wlt) (h2 : ∀ w ∈ ws, w.1 < j) (h3 : acc.Pairwise wlt) (h4 : ∀ w ∈ acc, w.1 = j) : (ws ++ acc).Pairwise wlt :=
  List.pairwise_append.mpr ⟨h1, h3, fun a ha b hb => .inl (by rw [h4 b hb]; exact h2 a ha)⟩
theorem ok_wires {f : Addr} {fd : FuncData} (D : DefAt K mg "_law_wires" s_l_wires ["pot", "many"] f fd) (T : Blt mg) (c_l_dip : Cal P w K mg base 1 "_law_dip" spDip) (c_l_pick : Cal P w K mg base 2 "_law_pick" spPick) :
    Cal P w K mg base 3 "_law_wires" spWires := by
  refine cal_of D sc_l_wires (fun vs H Q E h => ?_) (fun cdv A outer s H vs Q E hr h => ?_)
  · obtain ⟨p, q, m, rfl, _⟩ := h
    rfl
  · obtain ⟨p, q, m, rfl, hm, hP, k⟩ := h
    refine ⟨_, (pss_cons (ps_asg (pe_tup (pa_cons (pe_c c_l_pick hr (by decide) rfl (pa_cons (pv 0) (pa_cons (pe_lst (pa_cons pe_int (pa_cons pe_int (pa_cons pe_int (pa_cons pe_int (pa_cons pe_int (pa_cons pe_int pa_nil))))))) pa_nil))) (pa_cons (pe_lst pa_nil) pa_nil))) (pg_tup rfl (pgs_cons (pg_name (i := 2) sc_l_wires.nd rfl (.inr rfl)) (pgs_cons (pg_name (i := 3) sc_l_wires.nd rfl (.inl rfl)) pgs_nil))))
      (pss_cons (ps_for PassesOwn.never rfl (pi_range1 (by rfl) T.range (pa_cons (pv 1) pa_nil)) (pg_name (i := 4) sc_l_wires.nd rfl (.inr rfl)) (pss_one (ps_expr (pe_bm PySem.F.plainAttrs_list PySem.F.slot_list_extend PySem.F.type_list_extend mt_extend (pv 3) (pa_cons (pe_lc (own := [("i", 5)]) rfl sc_l_wires.nd (pi_range1 (by rfl) T.range (pa_cons (pv 1) pa_nil)) (blkOk_by (N := sc_l_wiresN) (sc := defScope s_l_wires) (by decide +kernel)) (fun _ _ _ _ _ => (pg_name (i := 5) sc_l_wires.nd rfl (by first | exact .inl rfl | exact .inr rfl))) (fun _ _ _ _ _ => (pts_one (PW.pt (pw_and (pt_cmpR op_ne (pv 5) (pv 4) (nomark _)) (pw_and1 (pt_cmpR op_lt (pe_c c_l_dip hr (by decide) rfl (pa_cons (pv 0) (pa_cons pe_int pa_nil))) (pv 2) (nomark _))))))) (fun _ _ _ _ _ => (pe_tup (pa_cons (pv 4) (pa_cons (pv 5) pa_nil))))) pa_nil)))))
      (pss_one (ps_ret (pe_callTy (call_tupleK K rfl) (by rfl) T.tuple (by decide +kernel) (pa_cons (pv 3) pa_nil)))))), ?_⟩
    refine ⟨_, rfl, by show 6 ≤ sizeLine; decide, fun a na => ⟨p, q, a, _, rfl, hP.new na, upd_same, (hP.np na).1, (hP.np na).2, List.cons_ne_nil _ _, by show 6 < 1000; decide, fun v H1 hv P1 k1 => ?_⟩⟩
    have k01 : Kp p q H H1 := ((Kp.refl p q H).new na).trans k1
    obtain ⟨ch, rfl⟩ : ∃ ch : Int, v = .int ch := by
      have all : ∀ l : List V, l.all (fun v => match v with | .int _ => true | _ => false) = true → v ∈ l → ∃ ch : Int, v = .int ch := fun l h m => by
        have z := List.all_eq_true.mp h v m
        cases v with
        | int c => exact ⟨c, rfl⟩
        | _ => cases z
      exact all _ (by decide +kernel) hv
    refine ⟨Nat.zero_le _, fun fo nfo => ⟨by show 2 ≤ sizeLine; decide, fun t nt => ?_⟩⟩
    obtain ⟨nf1, nf2⟩ := P1.np nfo
    have nfoH : H fo = none := k01.fresh nf1 nf2 nfo
    have nft : fo ≠ t := ne_of_none upd_same nt
    refine ⟨t, _, rfl, .inl (.inl upd_same), rfl, _, _, rfl, _, _, rfl, rfl, ?_⟩
    refine ⟨_, rfl, m, rfl, by omega, by omega, for_range (lo := 0) (n := (m : Int).toNat) (fun j σ H' => ∃ (v4 v5 : Option V) (ws : List (Nat × Nat)) (rs : List V), σ = [some (.ref p), some (.int m), some (.int ch), some (.ref fo), v4, v5] ∧
        Pt H' p q ∧ Kp p q H H' ∧ H' fo = some (.lst rs) ∧ ImAll H' rs (ws.map wD) ∧ ws.length ≤ 6 * j ∧ WOk m ws ∧ ∀ w ∈ ws, w.1 < j)
      ⟨none, none, [], [], rfl, (P1.new nfo).new nt, (k01.new nfo).new nt, by rw [upd_ne nft]; exact upd_same, .nil, by decide, ⟨.nil, fun w hw => by cases hw⟩, fun w hw => by cases hw⟩ ?_ ?_⟩
    · rintro j σ H2 hj ⟨v4, v5, ws, rs, rfl, P2, k2, hf, im, hlen, wok, low⟩
      have hj' : j < m := by omega
      have hrs : rs.length = ws.length := by rw [im.length, List.length_map]
      refine ⟨_, rfl, .inl ⟨rfl, _, SqL.of hf⟩, _, rfl, m, rfl, by omega, by omega, fun d nd => ?_⟩
      obtain ⟨nd1, nd2⟩ := P2.np nd
      have nfd : fo ≠ d := ne_of_none hf nd
      have ndH : H d = none := k2.fresh nd1 nd2 nd
      refine lc_range (lo := 0) (n := (m : Int).toNat) (fun i H' => ∃ (ac : List (Nat × Nat)) (rc : List V), Pt H' p q ∧ Kp p q H H' ∧ H' fo = some (.lst rs) ∧ ImAll H' rs (ws.map wD) ∧ H' d = some (.lst rc) ∧ ImAll H' rc (ac.map wD) ∧ ac.length ≤ i ∧ WOk m ac ∧ (∀ w ∈ ac, w.1 = j ∧ w.2 < i))
        ⟨[], [], P2.new nd, k2.new nd, by rw [upd_ne nfd]; exact hf, im.k ((Tk.refl H2).new nd), upd_same, .nil, Nat.le_refl _, ⟨.nil, fun w hw => by cases hw⟩, fun w hw => by cases hw⟩ ?_ ?_
      · rintro i H3 hi ⟨ac, rc, P3, k3, hf3, im3, hd, imc, hac, wac, lac⟩
        have hi' : i < m := by omega
        have hrc : rc.length = ac.length := by rw [imc.length, List.length_map]
        refine ⟨rfl, ?_⟩
        refine ⟨_, rfl, _, rfl, rfl, _, rfl, ?_⟩
        refine ite2 (fun ne => ?_) (fun _ => ?_)
        · have nij : i ≠ j := fun e => by
            subst e
            have z : (!decide (V.int (0 + (i : Int)) = V.int (0 + (i : Int)))) = true := ne
            rw [decide_eq_true rfl] at z
            cases z
          refine ⟨_, rfl, p, q, _, rfl, P3, by decide, by decide, fun r H4 r0 r1 P4 k4 => ⟨_, rfl, _, _, rfl, rfl, _, rfl, ?_⟩⟩
          have hf4 : H4 fo = some (.lst rs) := k4 _ _ nf1 nf2 hf3
          have hd4 : H4 d = some (.lst rc) := k4 _ _ nd1 nd2 hd
          have tk4 : Tk H3 H4 := k4.tk P3
          refine ite2 (fun _ => ?_) (fun _ => ?_)
          · refine ⟨_, rfl, _, rfl, by show 2 ≤ sizeLine; decide, fun t2 nt2 => ?_⟩
            obtain ⟨nt21, nt22⟩ := P4.np nt2
            have nft2 : fo ≠ t2 := ne_of_none hf4 nt2
            have ndt2 : d ≠ t2 := ne_of_none hd4 nt2
            have hdn : (upd H4 t2 (.tup [V.int (0 + (j : Int)), V.int (0 + (i : Int))])) d = some (.lst rc) := by rw [upd_ne ndt2]; exact hd4
            have tk5 : Tk H4 (upd (upd H4 t2 (.tup [V.int (0 + (j : Int)), V.int (0 + (i : Int))])) d (.lst (rc ++ [V.ref t2]))) := ((Tk.refl H4).new nt2).put hdn
            refine ⟨rc, hdn, small1000 (by omega), ac ++ [(j, i)], rc ++ [V.ref t2], (P4.new nt2).put nd1 nd2, ((k3.trans k4).new nt2).put ndH, ?_, (im3.k tk4).k tk5, upd_same, ?_, by rw [List.length_append, List.length_singleton]; omega, ⟨?_, fun w hw => ?_⟩, fun w hw => ?_⟩
            · rw [upd_ne nfd, upd_ne nft2]
              exact hf4
            · rw [List.map_append]
              refine ((imc.k tk4).k tk5).append (.cons (.tup (xs := [V.int (0 + (j : Int)), V.int (0 + (i : Int))]) ?_ (.cons ?_ (.cons ?_ .nil))) .nil)
              · rw [upd_ne ndt2.symm, upd_same]
              · exact Im.int0 j
              · exact Im.int0 i
            · refine List.pairwise_append.mpr ⟨wac.asc, List.pairwise_singleton _ _, fun a ha b hb => ?_⟩
              rw [List.mem_singleton.mp hb]
              obtain ⟨z1, z2⟩ := lac a ha
              exact .inr ⟨z1, z2⟩
            · rcases List.mem_append.mp hw with h | h
              · exact wac.low w h
              · rw [List.mem_singleton.mp h]
                exact ⟨hj', hi', Ne.symm nij⟩
            · rcases List.mem_append.mp hw with h | h
              · obtain ⟨z1, z2⟩ := lac w h
                exact ⟨z1, by omega⟩
              · rw [List.mem_singleton.mp h]
                exact ⟨rfl, Nat.lt_succ_self _⟩
          · exact ⟨ac, rc, P4, k3.trans k4, hf4, im3.k tk4, hd4, imc.k tk4, by omega, wac, fun w hw => ⟨(lac w hw).1, Nat.lt_succ_of_lt (lac w hw).2⟩⟩
        · exact ⟨ac, rc, P3, k3, hf3, im3, hd, imc, by omega, wac, fun w hw => ⟨(lac w hw).1, Nat.lt_succ_of_lt (lac w hw).2⟩⟩
      · rintro H3 ⟨ac, rc, P3, k3, hf3, im3, hd, imc, hac, wac, lac⟩
        have hrc : rc.length = ac.length := by rw [imc.length, List.length_map]
        refine ⟨fo, d, rs, rc, rfl, rfl, hf3, hd, Nat.le_of_lt (small1000 (by omega)), ?_⟩
        have tk : Tk H3 (upd H3 fo (.lst (rs ++ rc))) := (Tk.refl H3).put hf3
        refine ⟨_, _, ws ++ ac, rs ++ rc, rfl, P3.put nf1 nf2, k3.put nfoH, upd_same, by rw [List.map_append]; exact (im3.k tk).append (imc.k tk), by rw [List.length_append]; omega, ⟨?_, fun w hw => ?_⟩, fun w hw => ?_⟩
        · exact wlt_low (i := 0) wok.asc low wac.asc fun w hw => (lac w hw).1
        · rcases List.mem_append.mp hw with h | h
          · exact wok.low w h
          · exact wac.low w h
        · rcases List.mem_append.mp hw with h | h
          · have := low w h
            omega
          · have := (lac w h).1
            omega
    · rintro σ H2 ⟨v4, v5, ws, rs, rfl, P2, k2, hf, im, hlen, wok, low⟩
      refine ⟨_, rfl, fo, rs, rfl, .inl ⟨SqL.of hf, fun t2 nt2 => ?_⟩⟩
      exact k _ ws _ (.tup upd_same (im.k ((Tk.refl H2).new nt2))) wok (P2.new nt2) (k2.new nt2)
abbrev sc_l_machineN : List Str := ["pot", "is_great", "sizes"]
theorem sc_l_machine : FnScope sc_l_machineN ["pot", "is_great"] (defScope s_l_machine) := ⟨rfl, rfl, rfl, by decide +kernel, rfl, by decide +kernel, by decide +kernel⟩
theorem ok_machine {f : Addr} {fd : FuncData} (D : DefAt K mg "_law_machine" s_l_machine ["pot", "is_great"] f fd) (T : Blt mg) (c_l_sizes : Cal P w K mg base 4 "_law_sizes" spSizes) (c_l_wires : Cal P w K mg base 3 "_law_wires" spWires) :
    Cal P w K mg base 5 "_law_machine" spMachine := by
  refine cal_of D sc_l_machine (fun vs H Q E h => ?_) (fun cdv A outer s H vs Q E hr h => ?_)
  · obtain ⟨p, q, g, rfl, _⟩ := h
    rfl
  · obtain ⟨p, q, g, rfl, hP, k⟩ := h
    refine ⟨_, (pss_cons (ps_set (i := 2) sc_l_machine.nd rfl (.inl rfl) (pe_c c_l_sizes hr (by decide) rfl (pa_cons (pv 0) (pa_cons (pv 1) pa_nil))))
      (pss_one (ps_ret (pe_tup (pa_cons (pv 2) (pa_cons (pe_c c_l_wires hr (by decide) rfl (pa_cons (pv 0) (pa_cons (pe_callB (call_lenK K rfl) (by rfl) T.len PySem.boot_len (pa_cons (pv 2) pa_nil)) pa_nil))) pa_nil)))))), ?_⟩
    refine ⟨_, rfl, _, rfl, p, q, g, rfl, hP, fun v ss H1 im l1 l6 ok P1 k1 => ?_⟩
    obtain ⟨a, xs, rfl, ha, ia⟩ := im.tuple
    have hx : xs.length = ss.length := by rw [ia.length, List.length_map]
    refine ⟨_, rfl, _, rfl, _, rfl, a, xs, rfl, .inr (SqT.of ha), p, q, ss.length, by rw [hx]; rfl, l6, P1, fun v ws H2 iw wok P2 k2 => ⟨by show 2 ≤ sizeLine; decide, fun t nt => ?_⟩⟩
    have tk : Tk H1 (upd H2 t (.tup [V.ref a, v])) := (k2.tk P1).new nt
    refine k _ ss ws _ (.tup upd_same (.cons (im.k tk) (.cons (iw.k ((Tk.refl H2).new nt)) .nil))) ⟨l1, l6, ok, wok⟩ (P2.new nt) ((k1.trans k2).new nt)

/-! ### _law_pot -/
abbrev sc_l_potN : List Str := ["script", "cell", "cells", "first", "last"]
theorem sc_l_pot : FnScope sc_l_potN ["script"] (defScope s_l_pot) := ⟨rfl, rfl, rfl, by decide +kernel, rfl, by decide +kernel, by decide +kernel⟩
theorem pot_le {xs : List V} (h : xs.length ≤ 63) : (cutV xs none (some 60)).length ≤ 60 := by
  unfold cutV
  rw [HT.sIx_none, show HT.sIx xs.length xs.length (some 60) = min 60 xs.length from HT.sIx_nat xs.length xs.length 60]
  rw [List.drop_zero, List.length_take]
  omega
theorem cut_ints (ns : List Int) (a b : Option Int) : ∃ ms : List Int, cutV (ns.map V.int) a b = ms.map V.int := by
  unfold cutV
  exact ⟨_, by rw [← List.map_drop, ← List.map_take]⟩
theorem ok_pot {f : Addr} {fd : FuncData} (D : DefAt K mg "_law_pot" s_l_pot ["script"] f fd) (T : Blt mg) : Cal P w K mg base 1 "_law_pot" (spPot K) := by
  refine cal_of D sc_l_pot (fun vs H Q E h => ?_) (fun cdv A outer s H vs Q E hr h => ?_)
  · obtain ⟨a, ns, rfl, _⟩ := h
    rfl
  · obtain ⟨a, ns, rfl, hS, len, k⟩ := h
    refine ⟨_, (pss_cons (ps_setLc (i := 2) (own := [("cell", 1)]) rfl sc_l_pot.nd rfl rfl (sw_true rfl rfl rfl (by decide +kernel)) (pi_listK K rfl (pe_slice (sl_listK K rfl) (pv 0) po_none (po_some pe_int))) (blkOk_by (N := sc_l_potN) (sc := defScope s_l_pot) (by decide +kernel)) (fun _ _ _ _ _ => (pg_name (i := 1) sc_l_pot.nd rfl (by first | exact .inl rfl | exact .inr rfl))) (fun _ _ _ _ _ => pts_nil) (fun _ _ _ _ _ => (pe_ifExp (pt_cmpR op_ge (pv 1) pe_int (nomark _)) (pe_op op_mul pe_int (pv 1)) (pe_op op_sub (pe_un un_neg pe_int) (pe_op op_mul pe_int (pv 1))))))
      (pss_cons (ps_par (i := 3) (j := 4) rfl sc_l_pot.nd rfl rfl (by decide) rfl rfl (pa_cons pe_int (pa_cons (pe_op op_add pe_int (pe_callB (call_lenK K rfl) (by rfl) T.len PySem.boot_len (pa_cons (pv 2) pa_nil))) pa_nil)) (by rfl))
      (pss_cons (ps_for PassesOwn.never rfl (pi_listK K rfl (pv 2)) (pg_name (i := 1) sc_l_pot.nd rfl (.inl rfl)) (pss_one (ps_par (i := 3) (j := 4) rfl sc_l_pot.nd rfl rfl (by decide) rfl rfl (pa_cons (pe_op op_mod (pe_callTy call_int1 (by rfl) T.int (by decide +kernel) (pa_cons (pe_op op_add (pe_op op_add (pe_op op_mul (pv 3) pe_int) (pv 1)) pe_int) pa_nil)) pe_int) (pa_cons (pe_op op_mod (pe_callTy call_int1 (by rfl) T.int (by decide +kernel) (pa_cons (pe_op op_add (pe_op op_add (pe_op op_mul (pv 4) pe_int) (pe_op op_mul pe_int (pv 1))) pe_int) pa_nil)) pe_int) pa_nil)) (by rfl))))
      (pss_one (ps_ret (pe_lst (pa_cons (pe_lc (own := [("cell", 1)]) rfl sc_l_pot.nd (pi_listK K rfl (pv 2)) (blkOk_by (N := sc_l_potN) (sc := defScope s_l_pot) (by decide +kernel)) (fun _ _ _ _ _ => (pg_name (i := 1) sc_l_pot.nd rfl (by first | exact .inl rfl | exact .inr rfl))) (fun _ _ _ _ _ => (pts_one (pt_cmpR op_gt (pv 1) (pe_op op_pow pe_int pe_int) (nomark _)))) (fun _ _ _ _ _ => (pv 1))) (pa_cons (pv 3) (pa_cons (pv 4) (pa_cons pe_int pa_nil)))))))))), ?_⟩
    obtain ⟨ms, em⟩ := cut_ints ns none (some 60)
    have ml : ms.length ≤ 60 := by
      have z := pot_le (xs := ns.map V.int) (by rw [List.length_map]; exact len)
      rw [em, List.length_map] at z
      exact z
    refine ⟨_, rfl, 60, rfl, a, ns.map V.int, rfl, hS, fun c nc => ?_⟩
    rw [em]
    refine ⟨c, rfl, ⟨_, SqL.of upd_same⟩, fun D nD => ?_⟩
    have ncD : c ≠ D := ne_of_none upd_same nD
    have nDH : H D = none := by
      rw [upd_ne (Ne.symm ncD)] at nD
      exact nD
    refine lc_list (K := K) (a := c) (xs := ms.map V.int) (fun i H' => Same H H' ∧ H' c = some (.lst (ms.map V.int)) ∧ ∃ cs : List Int, H' D = some (.lst (cs.map V.int)) ∧ cs.length = i) ⟨Same.new (Same.new (Same.refl H) nc) nD, by rw [upd_ne ncD]; exact upd_same, [], upd_same, rfl⟩ (fun i H' _ z => SqL.of z.2.1) ?_ ?_
    · rintro i x H' hx ⟨sm, hc, cs, hD, hl⟩
      obtain ⟨z, hz, rfl⟩ := map_get hx
      have il : i < ms.length := (List.getElem?_eq_some_iff.mp hz).1
      have next : ∀ y : Int, ∃ acc : List V, H' D = some (.lst acc) ∧ acc.length < sizeLine ∧ (Same H (upd H' D (.lst (acc ++ [V.int y]))) ∧ (upd H' D (.lst (acc ++ [V.int y]))) c = some (.lst (ms.map V.int)) ∧ ∃ cs : List Int, (upd H' D (.lst (acc ++ [V.int y]))) D = some (.lst (cs.map V.int)) ∧ cs.length = i + 1) := fun y =>
        ⟨cs.map V.int, hD, small1000 (by rw [List.length_map]; omega), Same.put sm nDH, by rw [upd_ne ncD]; exact hc, cs ++ [y], by rw [upd_same, List.map_append]; rfl, by rw [List.length_append, List.length_singleton, hl]⟩
      refine ⟨rfl, ⟨_, rfl, _, _, rfl, rfl, _, rfl, ?_⟩⟩
      refine ite2 (fun _ => ?_) (fun _ => ?_)
      · exact ⟨_, rfl, _, _, rfl, rfl, .inl ⟨by decide, by decide⟩, next _⟩
      · exact ⟨_, rfl, _, rfl, _, _, rfl, rfl, .inl ⟨by decide, by decide⟩, _, _, rfl, rfl, next _⟩
    rintro H1 ⟨sm, hc, cs, hD, hl⟩
    rw [List.length_map] at hl
    have cl : cs.length ≤ 60 := by omega
    refine ⟨_, rfl, D, _, rfl, .inl (SqL.of hD), _, _, rfl, rfl, _, _, rfl, ?_⟩
    refine ⟨_, rfl, D, rfl, ⟨_, SqL.of hD⟩, for_list (K := K) (a := D) (xs := cs.map V.int) (fun i σ H' => ∃ (v1 : Option V) (x y : Int), σ = [some (.ref a), v1, some (.ref D), some (.int x), some (.int y)] ∧ H' = H1 ∧ 0 ≤ x ∧ x < 4294967296 ∧ 0 ≤ y ∧ y < 4294967296)
      ⟨none, _, _, rfl, rfl, by decide, by decide, by rw [List.length_map]; omega, by rw [List.length_map]; omega⟩ (fun i σ H' _ z => by obtain ⟨_, _, _, _, e, _⟩ := z; rw [e]; exact SqL.of hD) ?_ ?_⟩
    · rintro i v σ H' hv ⟨v1, x, y, rfl, rfl, x0, x1, y0, y1⟩
      obtain ⟨z, hz, rfl⟩ := map_get hv
      refine ⟨_, rfl, _, _, rfl, rfl, .inl ⟨by omega, by omega⟩, _, rfl, _, _, rfl, rfl, _, _, rfl, rfl, .inl ⟨_, rfl, _, _, rfl, rfl, (by decide : (0 : Int) < 4294967291), ?_⟩⟩
      refine ⟨_, rfl, _, _, rfl, rfl, .inl ⟨by omega, by omega⟩, _, rfl, _, _, rfl, rfl, .inl ⟨by decide, by decide⟩, _, _, rfl, rfl, _, _, rfl, rfl, .inl ⟨_, rfl, _, _, rfl, rfl, (by decide : (0 : Int) < 4294967279), ?_⟩⟩
      refine ⟨_, _, rfl, some (V.int z), _, _, rfl, rfl, Int.emod_nonneg _ (by decide), Int.lt_trans (Int.emod_lt_of_pos _ (by decide)) (by decide), Int.emod_nonneg _ (by decide), Int.lt_trans (Int.emod_lt_of_pos _ (by decide)) (by decide)⟩
    · rintro σ H' ⟨v1, x, y, rfl, rfl, x0, x1, y0, y1⟩
      refine ⟨_, rfl, D, rfl, ⟨_, SqL.of hD⟩, fun q nq => ?_⟩
      have nDq : D ≠ q := ne_of_none hD nq
      have nqH : H q = none := Same.free sm nq
      refine lc_list (K := K) (a := D) (xs := cs.map V.int) (fun i H2 => Same H H2 ∧ H2 D = some (.lst (cs.map V.int)) ∧ ∃ gs : List Int, H2 q = some (.lst (gs.map V.int)) ∧ gs.length ≤ i) ⟨Same.new sm nq, by rw [upd_ne nDq]; exact hD, [], upd_same, Nat.le_refl _⟩ (fun i H2 _ z => SqL.of z.2.1) ?_ ?_
      · rintro i v H2 hv ⟨sm2, hD2, gs, hq, gl⟩
        obtain ⟨z, hz, rfl⟩ := map_get hv
        have il : i < cs.length := (List.getElem?_eq_some_iff.mp hz).1
        refine ⟨rfl, ⟨_, rfl, _, _, rfl, rfl, ⟨by decide, by decide, by decide⟩, _, _, rfl, rfl, _, rfl, ?_⟩⟩
        refine ite2 (fun _ => ?_) (fun _ => ?_)
        · exact ⟨_, rfl, gs.map V.int, hq, small1000 (by rw [List.length_map]; omega), Same.put sm2 nqH, by rw [upd_ne nDq]; exact hD2, gs ++ [z], by rw [upd_same, List.map_append]; rfl, by rw [List.length_append, List.length_singleton]; omega⟩
        · exact ⟨sm2, hD2, gs, hq, by omega⟩
      · rintro H2 ⟨sm2, hD2, gs, hq, gl⟩
        rw [List.length_map] at gl
        refine ⟨_, rfl, _, rfl, by show 4 ≤ sizeLine; decide, fun p np => ?_⟩
        have npq : q ≠ p := ne_of_none hq np
        exact k p q _ ⟨gs, x, y, 0, upd_same, by rw [upd_ne npq]; exact hq, by omega, x0, x1, y0, y1⟩ (Same.new sm2 np) (Same.free sm2 np) nqH

/-! ### the law's own dividing -/
abbrev sc_l_stepN : List Str := ["sizes", "j", "i"]
theorem sc_l_step : FnScope sc_l_stepN ["sizes", "j", "i"] (defScope s_l_step) := ⟨rfl, rfl, rfl, by decide +kernel, rfl, by decide +kernel, by decide +kernel⟩
theorem ok_lstep {f : Addr} {fd : FuncData} (D : DefAt K mg "_law_step" s_l_step ["sizes", "j", "i"] f fd) (c_l_common : Cal P w K mg base 1 "_law_common" spCommon) : Cal P w K mg base 2 "_law_step" spLStep := by
  refine cal_of D sc_l_step (fun vs H Q E h => ?_) (fun cdv A outer s H vs Q E hr h => ?_)
  · obtain ⟨v, ss, j, i, a, b, rfl, _⟩ := h
    rfl
  · obtain ⟨v, ss, j, i, x, y, rfl, im, hj, hi, y0, y1, k⟩ := h
    refine ⟨_, (pss_one (ps_ret (pe_op op_fdivW (pe_ix (ix_tupK K rfl) (pv 0) (pv 2) (fun _ _ => rfl)) (pe_c c_l_common hr (by decide) rfl (pa_cons (pe_ix (ix_tupK K rfl) (pv 0) (pv 1) (fun _ _ => rfl)) (pa_cons (pe_ix (ix_tupK K rfl) (pv 0) (pv 2) (fun _ _ => rfl)) pa_nil)))))), ?_⟩
    obtain ⟨b, ys, rfl, hb, ib⟩ := im.tuple
    have ey := ib.ints
    subst ey
    have hi' : (ss.map V.int)[i]? = some (V.int (y : Int)) := by rw [List.getElem?_map, hi]; rfl
    have hj' : (ss.map V.int)[j]? = some (V.int (x : Int)) := by rw [List.getElem?_map, hj]; rfl
    have gp : 0 < Nat.gcd y x := gcd_pos' y0
    have gl : Nat.gcd y x < 2 ^ 4000 := Nat.lt_of_le_of_lt (Nat.le_of_dvd y0 (Nat.gcd_dvd_left y x)) y1
    refine ⟨_, rfl, _, rfl, b, _, i, _, rfl, rfl, SqT.of hb, atI_nat hi', _, rfl, _, rfl, b, _, j, _, rfl, rfl, SqT.of hb, atI_nat hj', _, rfl, _, rfl, b, _, i, _, rfl, rfl, SqT.of hb, atI_nat hi', x, y, rfl, y1, ?_⟩
    rw [Nat.gcd_comm]
    exact ⟨_, _, rfl, rfl, wide_div (b := 4000) (by omega) (by simpa using gl) (by decide) (by decide), k⟩

/-! ### small facts -/
theorem SizeOk.bnd {s : Int} (h : SizeOk s) : 2 ≤ s ∧ s ≤ 10 ^ 30 := by
  obtain ⟨m, rfl, a, b⟩ := h.nat
  omega
theorem ixN_of {n j : Nat} (h : j < n) : ixN n (j : Int) = some j := by
  unfold ixN
  simp [h]
theorem remI_get {ns ss : List Int} {i : Nat} {n s : Int} (h1 : ns[i]? = some n) (h2 : ss[i]? = some s) : (remI ns ss)[i]? = some (n % s) := by
  unfold remI
  rw [List.getElem?_zipWith, h1, h2]
theorem remI_take {ns ss : List Int} {i : Nat} {n s : Int} (h1 : ns[i]? = some n) (h2 : ss[i]? = some s) : (remI ns ss).take (i + 1) = (remI ns ss).take i ++ [n % s] := by
  rw [List.take_add_one, remI_get h1 h2]
  rfl
theorem remI_len {ns ss : List Int} (h : ns.length = ss.length) : (remI ns ss).length = ss.length := by
  unfold remI
  rw [List.length_zipWith]
  omega
theorem map_int_get {ns : List Int} {i : Nat} {x : V} (h : (ns.map V.int)[i]? = some x) : ∃ n, ns[i]? = some n ∧ x = .int n := map_get h
theorem getD_get {ns : List Int} {i : Nat} (h : i < ns.length) : (ns.map V.int)[i]? = some (.int (ns.getD i 0)) := by
  rw [List.getElem?_map, List.getElem?_eq_getElem h, List.getD_eq_getElem?_getD, List.getElem?_eq_getElem h]
  rfl
theorem farI_len (l : List (Nat × Nat × Int)) (ns : List Int) : (farI l ns).length = ns.length := by
  unfold farI
  induction l generalizing ns with
  | nil => rfl
  | cons d l ih => exact (ih _).trans (addI_len ns d)
theorem farI_most {l : List (Nat × Nat × Int)} (hl : ∀ d ∈ l, d.2.2.natAbs < 2 ^ 200) {B : Nat} {ns : List Int} (h : mostI B ns) : mostI (B + 201 * l.length) (farI l ns) := by
  induction l generalizing ns B with
  | nil => exact h
  | cons d l ih =>
    have a := ih (fun x hx => hl x (List.mem_cons_of_mem _ hx)) (addI_most h (hl d List.mem_cons_self))
    rw [show B + 201 * (d :: l).length = B + 201 + 201 * l.length by rw [List.length_cons]; omega]
    exact a

/-! ### _law_contents, _law_deed, _law_program -/

/-! ### _law_deed, _law_program -/
abbrev sc_l_deedN : List Str := ["pot", "machine", "j", "i", "ask", "most"]
theorem sc_l_deed : FnScope sc_l_deedN ["pot", "machine"] (defScope s_l_deed) := ⟨rfl, rfl, rfl, by decide +kernel, rfl, by decide +kernel, by decide +kernel⟩
theorem ok_deed {f : Addr} {fd : FuncData} (D : DefAt K mg "_law_deed" s_l_deed ["pot", "machine"] f fd) (T : Blt mg) (c_l_dip : Cal P w K mg base 1 "_law_dip" spDip) (c_l_pick : Cal P w K mg base 2 "_law_pick" spPickA) (c_l_step : Cal P w K mg base 2 "_law_step" spLStep) : Cal P w K mg base 3 "_law_deed" spDeed := by
  refine cal_of D sc_l_deed (fun vs H Q E h => ?_) (fun cdv A outer s H vs Q E hr h => ?_)
  · obtain ⟨p, q, v, ss, ws, rfl, _⟩ := h
    rfl
  · obtain ⟨p, q, v, ss, ws, rfl, hP, im, ok, ne, k⟩ := h
    refine ⟨_, (pss_cons (ps_asg (pe_c c_l_pick hr (by decide) rfl (pa_cons (pv 0) (pa_cons (pe_ix (ix_tupK K rfl) (pv 1) pe_int (fun _ _ => rfl)) pa_nil))) (pg_tup rfl (pgs_cons (pg_name (i := 2) sc_l_deed.nd rfl (.inl rfl)) (pgs_cons (pg_name (i := 3) sc_l_deed.nd rfl (.inl rfl)) pgs_nil))))
      (pss_cons (ps_set (i := 4) sc_l_deed.nd rfl (.inl rfl) (pe_c c_l_step hr (by decide) rfl (pa_cons (pe_ix (ix_tupK K rfl) (pv 1) pe_int (fun _ _ => rfl)) (pa_cons (pv 2) (pa_cons (pv 3) pa_nil)))))
      (pss_cons (ps_set (i := 5) sc_l_deed.nd rfl (.inl rfl) (pe_op op_fdivW (pe_op op_pow pe_int pe_int) (pv 4)))
      (pss_one (ps_ret (pe_tup (pa_cons (pv 2) (pa_cons (pv 3) (pa_cons (pe_op op_mulW (pv 4) (pe_c c_l_pick hr (by decide) rfl (pa_cons (pv 0) (pa_cons (pe_lst (pa_cons pe_int (pa_cons pe_int (pa_cons (pe_un un_neg pe_int) (pa_cons pe_int (pa_cons (pe_un un_neg pe_int) (pa_cons (pe_op op_sub (pe_c c_l_dip hr (by decide) rfl (pa_cons (pv 0) (pa_cons pe_int pa_nil))) pe_int) (pa_cons (pv 5) (pa_cons (pe_un un_neg (pv 5)) (pa_cons (pe_op op_fdivW (pv 5) pe_int) (pa_cons (pe_op op_pow pe_int pe_int) pa_nil))))))))))) pa_nil)))) pa_nil))))))))), ?_⟩
    obtain ⟨a, xs, rfl, ha, ia⟩ := id im.tuple
    obtain ⟨b0, g0, im0⟩ := ia.get (i := 0) rfl
    obtain ⟨c0, g1, im1⟩ := ia.get (i := 1) rfl
    obtain ⟨c, ys, rfl, hc, ic⟩ := im1.tuple
    have ly : ys.length = ws.length := by rw [ic.length, List.length_map]
    have wl := ok.wires.len ok.six
    have wp := List.length_pos_iff.mpr ne
    refine ⟨_, rfl, _, rfl, a, _, 1, _, rfl, rfl, SqT.of ha, atI_nat (j := 1) g1, p, q, c, ys, _, rfl, hP, hc, .inr rfl, List.length_pos_iff.mp (by omega), by omega, fun v H1 hv P1 k1 => ?_⟩
    obtain ⟨wt, hw, imw⟩ : ∃ w ∈ ws, Im H1 v (wD w) := by
      obtain ⟨i, hi, rfl⟩ := List.getElem_of_mem hv
      obtain ⟨w, hw⟩ : ∃ w, ws[i]? = some w := ⟨ws[i]'(by omega), by simp⟩
      obtain ⟨v', e1, e2⟩ := ic.get (i := i) (d := wD w) (by rw [List.getElem?_map, hw]; rfl)
      rw [List.getElem?_eq_getElem hi] at e1
      cases e1
      exact ⟨w, List.mem_of_getElem? hw, e2.k (k1.tk hP)⟩
    obtain ⟨j, i⟩ := wt
    obtain ⟨lj, li, nji⟩ := ok.wires.low _ hw
    obtain ⟨e, zs, rfl, he, ie⟩ := imw.tuple
    have ez : zs = [.int (j : Int), .int (i : Int)] := by
      match zs, ie with
      | _, .cons (.int _) (.cons (.int _) .nil) => rfl
    subst ez
    refine ⟨e, _, rfl, SqT.of he, rfl, _, _, rfl, _, _, rfl, rfl, ?_⟩
    have okk : ∀ (n : Nat), n < ss.length → ∃ m : Nat, ss[n]? = some (m : Int) ∧ 0 < m ∧ m ≤ 10 ^ 30 := fun n hn => by
      obtain ⟨m, e, m2, m3, _⟩ := ok.size ss[n] (List.getElem_mem hn)
      exact ⟨m, by rw [List.getElem?_eq_getElem hn, e], by omega, m3⟩
    obtain ⟨x, hx, x0, xl⟩ := okk j lj
    obtain ⟨y, hy, y0, yl⟩ := okk i li
    have im' := im.k (k1.tk hP)
    have ha1 := (k1.tk hP) _ _ ha
    refine ⟨_, rfl, a, _, 0, _, rfl, rfl, SqT.of ha1, atI_nat (j := 0) g0, _, rfl, _, rfl, b0, ss, j, i, x, y, rfl, im0.k (k1.tk hP), hx, hy, y0, Nat.lt_of_le_of_lt yl (by decide), ?_⟩
    obtain ⟨s0, sl⟩ := stp_le (a := x) y0
    have sl30 : stp x y ≤ 10 ^ 30 := Nat.le_trans sl yl
    have hit : ((stp x y : Nat) : Int) ∣ ((stp x y : Nat) : Int) := ⟨1, by omega⟩
    generalize hst : stp x y = st at *
    have st4 : ((st : Nat) : Int).natAbs < 2 ^ 4000 := by
      rw [Int.natAbs_natCast]
      exact Nat.lt_of_le_of_lt sl30 (by decide)
    refine ⟨_, _, rfl, rfl, ⟨by decide, by decide, by decide⟩, _, rfl, _, _, rfl, rfl, wide_div (b := 4000) (by omega) st4 (by decide) (by decide), ?_⟩
    refine ⟨_, rfl, _, rfl, _, rfl, _, rfl, _, rfl, _, rfl, _, rfl, p, q, _, rfl, P1, by decide, by decide, fun r H2 r0 r1 P2 k2 => ⟨_, _, rfl, rfl, _, rfl, _, rfl, _, rfl, _, rfl, _, _, rfl, rfl, wide_div (b := 10) (by decide) (by decide) (by decide) (by decide), _, _, rfl, rfl, ⟨by decide, by decide, by decide⟩, by show 10 ≤ sizeLine; decide, fun l nl => ?_⟩⟩
    obtain ⟨nl1, nl2⟩ := P2.np nl
    refine ⟨p, q, l, _, _, rfl, P2.new nl, upd_same, .inl ⟨rfl, nl1, nl2⟩, List.cons_ne_nil _ _, by show 10 < 1000; decide, fun v H3 hv P3 k3 => ?_⟩
    obtain ⟨z, rfl, hz⟩ : ∃ z : Int, v = .int z ∧ (((st : Nat) : Int) * z).natAbs ≤ 10 ^ 60 := by
      have small : ∀ z : Int, z.natAbs ≤ 10 ^ 29 → (((st : Nat) : Int) * z).natAbs ≤ 10 ^ 60 := fun z hz => by
        rw [Int.natAbs_mul, Int.natAbs_natCast]
        exact Nat.le_trans (Nat.mul_le_mul sl30 hz) (by decide)
      have m0 : (0 : Int) ≤ 10 ^ 60 / (st : Int) := Int.ediv_nonneg (by decide) (by omega)
      have m1 : (st : Int) * (10 ^ 60 / (st : Int)) ≤ 10 ^ 60 := by
        have := Int.mul_ediv_self_le (x := 10 ^ 60) (k := (st : Int)) (by omega)
        exact this
      have ms : 0 ≤ (st : Int) * (10 ^ 60 / (st : Int)) := Int.mul_nonneg (by omega) m0
      rcases List.mem_cons.mp hv with e | hv
      · exact ⟨_, e, small _ (by decide)⟩
      rcases List.mem_cons.mp hv with e | hv
      · exact ⟨_, e, small _ (by decide)⟩
      rcases List.mem_cons.mp hv with e | hv
      · exact ⟨_, e, small _ (by decide)⟩
      rcases List.mem_cons.mp hv with e | hv
      · exact ⟨_, e, small _ (by decide)⟩
      rcases List.mem_cons.mp hv with e | hv
      · exact ⟨_, e, small _ (by decide)⟩
      rcases List.mem_cons.mp hv with e | hv
      · exact ⟨_, e, small _ (by show (r - 20).natAbs ≤ _; omega)⟩
      rcases List.mem_cons.mp hv with e | hv
      · refine ⟨_, e, ?_⟩
        show ((st : Int) * (10 ^ 60 / (st : Int))).natAbs ≤ _
        omega
      rcases List.mem_cons.mp hv with e | hv
      · refine ⟨_, e, ?_⟩
        show ((st : Int) * -(10 ^ 60 / (st : Int))).natAbs ≤ _
        rw [Int.mul_neg, Int.natAbs_neg]
        omega
      rcases List.mem_cons.mp hv with e | hv
      · refine ⟨_, e, ?_⟩
        show ((st : Int) * (10 ^ 60 / (st : Int) / 3)).natAbs ≤ _
        have a1 : (10 ^ 60 / (st : Int)) / 3 ≤ 10 ^ 60 / (st : Int) := by omega
        have a2 : 0 ≤ (10 ^ 60 / (st : Int)) / 3 := by omega
        have a3 := Int.mul_le_mul_of_nonneg_left a1 (show (0 : Int) ≤ (st : Int) by omega)
        have a4 := Int.mul_nonneg (show (0 : Int) ≤ (st : Int) by omega) a2
        omega
      · exact ⟨_, List.mem_singleton.mp hv, small _ (by decide)⟩
    have wide : CMulW (st : Int) z := by
      by_cases z0 : z.natAbs = 0
      · have : z = 0 := by omega
        subst this
        exact wide_mul (a := 4000) (b := 10) st4 (by decide) (by decide) (by decide) (by decide)
      · refine wide_mul (a := 4000) (b := 4000) st4 ?_ (by decide) (by decide) (by decide)
        rw [Int.natAbs_mul, Int.natAbs_natCast] at hz
        have := Nat.le_mul_of_pos_left z.natAbs (show 0 < st from s0)
        exact Nat.lt_of_le_of_lt (Nat.le_trans this hz) (by decide)
    refine ⟨_, _, rfl, rfl, wide, by show 3 ≤ sizeLine; decide, fun t nt => ?_⟩
    refine k _ (j, i, (st : Int) * z) _ (.tup upd_same (.cons (.int _) (.cons (.int _) (.cons (.int _) .nil)))) ⟨hw, hz, ⟨x, y, hx, hy, ?_⟩⟩ (P3.new nt) ((((k1.trans k2).new nl).trans k3).new nt)
    rw [hst]
    exact Int.dvd_mul_right _ _
abbrev sc_l_programN : List Str := ["pot", "machine", "most", "turn"]
theorem sc_l_program : FnScope sc_l_programN ["pot", "machine", "most"] (defScope s_l_program) := ⟨rfl, rfl, rfl, by decide +kernel, rfl, by decide +kernel, by decide +kernel⟩
theorem shaped_wires (ws : List (Nat × Nat)) : SeqAt.shaped (.tuple (ws.map wD)) = true := by
  have a : ∀ ws : List (Nat × Nat), PyData.canLayAll0 (ws.map wD) = true := by
    intro ws
    induction ws with
    | nil => rfl
    | cons w ws ih =>
      rw [List.map_cons]
      simp only [PyData.canLayAll0, wD, PyData.canLay0, ih, Bool.and_self]
  have b := depth_wires ws
  unfold SeqAt.shaped
  simp only [PyData.canLay0, PyData.depth, a, Bool.true_and]
  exact decide_eq_true (by omega)
theorem eqv_nilT (ws : List (Nat × Nat)) : PyData.eqv (.tuple (ws.map wD)) (.tuple []) = ws.isEmpty := by
  cases ws with
  | nil => rfl
  | cons n ns => rfl
theorem ok_program {f : Addr} {fd : FuncData} (D : DefAt K mg "_law_program" s_l_program ["pot", "machine", "most"] f fd) (T : Blt mg) (c_l_dip : Cal P w K mg base 1 "_law_dip" spDip) (c_l_deed : Cal P w K mg base 3 "_law_deed" spDeed) : Cal P w K mg base 4 "_law_program" spProgram := by
  refine cal_of D sc_l_program (fun vs H Q E h => ?_) (fun cdv A outer s H vs Q E hr h => ?_)
  · obtain ⟨p, q, v, ss, ws, m, rfl, _⟩ := h
    rfl
  · obtain ⟨p, q, v, ss, ws, m, rfl, hP, im, ok, m9, k⟩ := h
    refine ⟨_, (pss_cons (ps_if (pt_cmpR (op_eqDK K rfl hr.units) (pe_ix (ix_tupK K rfl) (pv 1) pe_int (fun _ _ => rfl)) (pe_tup pa_nil) (nomark _)) (pss_one (ps_ret (pe_tup pa_nil))) pss_nil)
      (pss_one (ps_ret (pe_callTy (call_tupleK K rfl) (by rfl) T.tuple (by decide +kernel) (pa_cons (pe_lc (own := [("turn", 3)]) rfl sc_l_program.nd (pi_range1 (by rfl) T.range (pa_cons (pe_c c_l_dip hr (by decide) rfl (pa_cons (pv 0) (pa_cons (pe_op op_add (pv 2) pe_int) pa_nil))) pa_nil)) (blkOk_by (N := sc_l_programN) (sc := defScope s_l_program) (by decide +kernel)) (fun _ _ _ _ _ => (pg_name (i := 3) sc_l_program.nd rfl (by first | exact .inl rfl | exact .inr rfl))) (fun _ _ _ _ _ => pts_nil) (fun _ _ _ _ _ => (pe_c c_l_deed hr (by decide) rfl (pa_cons (pv 0) (pa_cons (pv 1) pa_nil))))) pa_nil))))), ?_⟩
    obtain ⟨a, xs, rfl, ha, ia⟩ := id im.tuple
    obtain ⟨c0, g1, im1⟩ := ia.get (i := 1) rfl
    refine ⟨_, rfl, a, _, 1, _, rfl, rfl, SqT.of ha, atI_nat (j := 1) g1, by show 0 ≤ sizeLine; decide, fun t nt => ?_⟩
    refine ⟨.tuple (ws.map wD), .tuple [], (im1.k ((Tk.refl H).new nt)).dp, .tup (SqT.of upd_same) .nil, shaped_wires ws, rfl, _, rfl, ?_⟩
    rw [eqv_nilT]
    have P1 := hP.new (o := .tup []) nt
    have k1 := (Kp.refl p q H).new (o := .tup []) nt
    cases ws with
    | nil =>
      refine iteT ⟨by show 0 ≤ sizeLine; decide, fun u nu => ?_⟩
      exact k _ [] _ (.tup upd_same .nil) (fun d hd => by cases hd) (Nat.zero_le _) (P1.new nu) (k1.new nu)
    | cons w0 ws0 =>
      refine iteF ?_
      have ne : w0 :: ws0 ≠ [] := List.cons_ne_nil _ _
      generalize w0 :: ws0 = ws at *
      refine ⟨_, rfl, _, rfl, _, _, rfl, rfl, p, q, _, rfl, P1, by omega, by omega, fun r H2 r0 r1 P2 k2 => ⟨r, rfl, by omega, by omega, fun d nd => ?_⟩⟩
      obtain ⟨nd1, nd2⟩ := P2.np nd
      have ndH : H d = none := (k1.trans k2).fresh nd1 nd2 nd
      have im2 := (im.k ((Tk.refl H).new (o := .tup []) nt)).k (k2.tk P1)
      generalize hT : upd H t (.tup []) = HT at *
      refine lc_range (lo := 0) (n := r.toNat) (fun i H' => Pt H' p q ∧ Kp p q H2 H' ∧ ∃ (vs : List V) (ds : List (Nat × Nat × Int)), H' d = some (.lst vs) ∧ ImAll H' vs (ds.map dD) ∧ ds.length = i ∧ ∀ x ∈ ds, DOk ss ws x)
        ⟨P2.new nd, (Kp.refl p q H2).new nd, [], [], upd_same, .nil, rfl, fun x hx => by cases hx⟩ ?_ ?_
      · rintro i H3 hi ⟨P3, k3, vs, ds, hd, ia3, hl, ok3⟩
        have lv : vs.length = ds.length := by rw [ia3.length, List.length_map]
        refine ⟨rfl, _, rfl, _, rfl, p, q, _, ss, ws, rfl, P3, im2.k (k3.tk P2), ok, ne, fun u dd H4 imu dok P4 k4 => ?_⟩
        have hd4 : H4 d = some (.lst vs) := k4 _ _ nd1 nd2 hd
        have tk5 : Tk H4 (upd H4 d (.lst (vs ++ [u]))) := (Tk.refl H4).put hd4
        refine ⟨vs, hd4, small1000 (by omega), P4.put nd1 nd2, (k3.trans k4).put nd, vs ++ [u], ds ++ [dd], upd_same, ?_, by rw [List.length_append, List.length_singleton, hl], fun x hx => ?_⟩
        · rw [List.map_append]
          exact ((ia3.k (k4.tk P3)).k tk5).append (.cons (imu.k tk5) .nil)
        · rcases List.mem_append.mp hx with h | h
          · exact ok3 x h
          · rw [List.mem_singleton.mp h]
            exact dok
      · rintro H3 ⟨P3, k3, vs, ds, hd, ia3, hl, ok3⟩
        refine ⟨d, _, rfl, .inl ⟨SqL.of hd, fun u nu => ?_⟩⟩
        refine k _ ds _ (.tup upd_same (ia3.k ((Tk.refl H3).new nu))) ok3 (by omega) (P3.new nu) (((k1.trans k2).trans k3).new nu)
abbrev sc_stepN : List Str := ["machine", "j", "i", "sizes"]
theorem sc_step : FnScope sc_stepN ["machine", "j", "i"] (defScope s_step) := ⟨rfl, rfl, rfl, by decide +kernel, rfl, by decide +kernel, by decide +kernel⟩
theorem fn_step {f : Addr} {fd : FuncData} (D : DefAt K mg "step" s_step ["machine", "j", "i"] f fd) (T_gcd : mg "gcd" = some (.builtin "math.gcd")) : FnOk P w K mg base CX0 1 f fd ["machine", "j", "i"] spStep := by
  refine D.fn.ok sc_step (fun vs H Q E h => ?_) (fun cdv A outer s H vs Q E hr h => ?_)
  · obtain ⟨v, ss, d, j, i, a, b, rfl, _⟩ := h
    rfl
  · obtain ⟨v, ss, d, j, i, x, y, rfl, im, hj, hi, y0, y1, k⟩ := h
    refine ⟨_, (pss_cons (ps_set (i := 3) sc_step.nd rfl (.inl rfl) (pe_ix (ix_tupK K rfl) (pv 0) pe_int (fun _ _ => rfl)))
      (pss_one (ps_ret (pe_op op_fdivW (pe_ix (ix_tupK K rfl) (pv 3) (pv 2) (fun _ _ => rfl)) (pe_callBfun cr_gcd rfl T_gcd (pa_cons (pe_ix (ix_tupK K rfl) (pv 3) (pv 2) (fun _ _ => rfl)) (pa_cons (pe_ix (ix_tupK K rfl) (pv 3) (pv 1) (fun _ _ => rfl)) pa_nil))))))), ?_⟩
    obtain ⟨a, xs, rfl, ha, ia⟩ := im.tuple
    obtain ⟨v1, g1, im1⟩ := ia.get (i := 0) rfl
    obtain ⟨b, ys, rfl, hb, ib⟩ := im1.tuple
    have ey := ib.ints
    subst ey
    have hi' : (ss.map V.int)[i]? = some (V.int (y : Int)) := by rw [List.getElem?_map, hi]; rfl
    have hj' : (ss.map V.int)[j]? = some (V.int (x : Int)) := by rw [List.getElem?_map, hj]; rfl
    have gp : 0 < Nat.gcd y x := gcd_pos' y0
    have gl : Nat.gcd y x < 2 ^ 4000 := Nat.lt_of_le_of_lt (Nat.le_of_dvd y0 (Nat.gcd_dvd_left y x)) y1
    refine ⟨_, rfl, a, _, 0, _, rfl, rfl, SqT.of ha, atI_nat (j := 0) g1, ?_⟩
    refine ⟨_, rfl, _, rfl, b, _, i, _, rfl, rfl, SqT.of hb, atI_nat hi', _, rfl, _, rfl, b, _, i, _, rfl, rfl, SqT.of hb, atI_nat hi', _, rfl, _, rfl, b, _, j, _, rfl, rfl, SqT.of hb, atI_nat hj', _, _, rfl, ?_⟩
    exact ⟨_, _, rfl, rfl, wide_div (b := 4000) (by show (0 : Int) < ((Nat.gcd y x : Nat) : Int); omega) (by simpa using gl) (by decide) (by decide), k⟩
theorem k_step {f : Addr} {fd : FuncData} (F : Fun K "step" "step" s_step f fd) : KBinds K fd ["machine", "j", "i"] ["i", "j", "machine"] kg321 kg321 := by
  obtain ⟨oc, od, kV, doc, pm, an, cdv, ct, osl, rfl, lk, hcd⟩ := F.ex
  refine ⟨fun s us ws _ hl => ?_, kg321_rel⟩
  match us, ws, hl with
  | [], [a, b, c], _ => exact .of_eq rfl

/-! ### the program's kinds, over data with dicts -/
theorem tyI : ClsV (V.ty "int") (.type "int") := .ty _
theorem tyB : ClsV (V.ty "bool") (.type "bool") := .ty _
theorem tyT : ClsV (V.ty "tuple") (.type "tuple") := .ty _
theorem isI_eq (d : PyData) : (isIB d && !isB d) = isI d := by cases d <;> rfl
def spIntE : Sp := fun vs H Q _ => ∃ (v : V) (d : PyData) (N : Addr → Prop), vs = [v] ∧ De N H v d ∧ Q (.bl (isI d)) H
abbrev sc_is_an_integerN : List Str := ["value"]
theorem sc_is_an_integer : FnScope sc_is_an_integerN ["value"] (defScope s_is_an_integer) := ⟨rfl, rfl, rfl, by decide +kernel, rfl, by decide +kernel, by decide +kernel⟩
theorem ok_isintE {f : Addr} {fd : FuncData} (D : DefAt K mg "is_an_integer" s_is_an_integer ["value"] f fd) (T : Blt mg) : Cal P w K mg base 1 "is_an_integer" spIntE := by
  refine cal_of D sc_is_an_integer (fun vs H Q E h => ?_) (fun cdv A outer s H vs Q E hr h => ?_)
  · obtain ⟨v, d, N, rfl, _⟩ := h
    rfl
  · obtain ⟨v, d, N, rfl, hd, k⟩ := h
    refine ⟨_, (pss_one (ps_ret (pe_and (pe_callB (call_isiK' K rfl) (by rfl) T.isinstance (by decide +kernel) (pa_cons (pv 0) (pa_cons (pe_bltn (v := .ty "int") (u := .type "int") (by rfl) T.int (by decide +kernel) rfl) pa_nil))) (pe_one (pe_not (pe_callB (call_isiK' K rfl) (by rfl) T.isinstance (by decide +kernel) (pa_cons (pv 0) (pa_cons (pe_bltn (v := .ty "bool") (u := .type "bool") (by rfl) T.bool (by decide +kernel) rfl) pa_nil)))))))), ?_⟩
    rw [← isI_eq] at k
    refine ⟨_, rfl, _, _, _, _, _, rfl, tyI, hd.ty, kit_int K d, _, rfl, ?_⟩
    cases h1 : isIB d with
    | false =>
      rw [h1] at k
      exact iteF k
    | true =>
      rw [h1] at k
      exact iteT ⟨_, rfl, _, _, _, _, _, rfl, tyB, hd.ty, kit_bool K d, _, rfl, k⟩
theorem iteSK {c A B : Prop} [Decidable c] (hc : c) (h : A) : if decide c = true then A else B := by
  rw [decide_eq_true hc]
  exact iteT h
theorem iteNF {c A B : Prop} [Decidable c] (hc : ¬ c) (h : A) : if (!decide c) = true then A else B := by
  rw [decide_eq_false hc]
  exact iteT h
theorem sz_nat {ss : List Int} (ok : ∀ s ∈ ss, SizeOk s) {i : Nat} (h : i < ss.length) : ∃ y : Nat, ss[i]? = some (y : Int) ∧ 2 ≤ y ∧ y ≤ 10 ^ 30 ∧ (ss.getD i 0).toNat = y := by
  obtain ⟨s, es⟩ := get_some h
  obtain ⟨s2, s3⟩ := (ok s (List.mem_of_getElem? es)).bnd
  refine ⟨s.toNat, ?_, by omega, by omega, ?_⟩
  · rw [es, Int.toNat_of_nonneg (by omega)]
  · rw [List.getD_eq_getElem?_getD, es]
    rfl

theorem take_get {α : Type} {l : List α} {i : Nat} {x : α} (h : l[i]? = some x) : l.take (i + 1) = l.take i ++ [x] := by
  rw [List.take_add_one, h]
  rfl

/-! ### k05: deeds judged -/
theorem ImAll.getVB {H : Hp} {vs : List V} {ds : List PyData} {i : Nat} {v : V} (h : ImAll H vs ds) (e : vs[i]? = some v) : ∃ d, ds[i]? = some d ∧ Im H v d := by
  have lt := (List.getElem?_eq_some_iff.mp e).1
  have lt2 : i < ds.length := by rw [← h.length]; exact lt
  obtain ⟨v', q1, q2⟩ := h.get (i := i) (List.getElem?_eq_getElem lt2)
  rw [e] at q1
  cases q1
  exact ⟨_, List.getElem?_eq_getElem lt2, q2⟩
def isTri : PyData → Bool
  | .tuple l => decide (l.length = 3) && l.all isI
  | _ => false
def hasW (ws : List (Nat × Nat)) (j i : Int) : Bool := ws.any fun w => decide ((w.1 : Int) = j) && decide ((w.2 : Int) = i)
def stI (ss : List Int) (w : Nat × Nat) : Nat := stp (ss.getD w.1 0).toNat (ss.getD w.2 0).toNat
def derr (ss : List Int) (ws : List (Nat × Nat)) : PyData → PyData
  | .tuple [.int j, .int i, .int c] => if hasW ws j i = true then (if c.natAbs > 10 ^ 60 ∨ c % ((stI ss (j.toNat, i.toNat) : Nat) : Int) ≠ 0 then .str "factor" else .none) else .str "wire"
  | _ => .str "form"
theorem derr_no {ss : List Int} {ws : List (Nat × Nat)} {d : PyData} (h : isTri d = false) : derr ss ws d = .str "form" := by
  unfold derr
  split
  · simp [isTri, isI] at h
  · rfl
/-- the steps of the wires, as a dict -/
def stepsK (ss : List Int) (ws : List (Nat × Nat)) : List (List Key × V) := ws.map fun w => ([.inl (w.1 : Int), .inl (w.2 : Int)], .int (stI ss w : Int))
theorem val_steps (ss : List Int) (j i : Int) : ∀ ws : List (Nat × Nat), valV (stepsK ss ws) [.inl j, .inl i] = if hasW ws j i = true then some (.int (stI ss (j.toNat, i.toNat) : Int)) else none
  | [] => rfl
  | w :: ws => by
    have ih := val_steps ss j i ws
    unfold stepsK hasW at ih ⊢
    rw [List.map_cons, List.any_cons]
    by_cases e : (w.1 : Int) = j ∧ (w.2 : Int) = i
    · obtain ⟨rfl, rfl⟩ := e
      rw [valV_pos rfl, decide_eq_true rfl, decide_eq_true rfl]
      rfl
    · rw [valV_neg (fun z => e ⟨by injection z with z1 z2; injection z1, by injection z with z1 z2; injection z2 with z3 z4; injection z3⟩), ih]
      have : (decide ((w.1 : Int) = j) && decide ((w.2 : Int) = i)) = false := by
        rw [Bool.and_eq_false_iff]
        by_cases e1 : (w.1 : Int) = j
        · exact .inr (decide_eq_false fun z => e ⟨e1, z⟩)
        · exact .inl (decide_eq_false e1)
      rw [this, Bool.false_or]
theorem steps_fresh {ss : List Int} {n : Nat} {ws : List (Nat × Nat)} (h : WOk n ws) {i : Nat} {w : Nat × Nat} (e : ws[i]? = some w) : valV (stepsK ss (ws.take i)) [.inl (w.1 : Int), .inl (w.2 : Int)] = none := by
  rw [val_steps, if_neg]
  intro z
  obtain ⟨x, hx, hz⟩ := List.any_eq_true.mp z
  rw [Bool.and_eq_true, decide_eq_true_eq, decide_eq_true_eq] at hz
  have asc := h.asc
  rw [← List.take_append_drop i ws] at asc
  have lt := (List.pairwise_append.mp asc).2.2 x hx w (List.mem_of_getElem? (i := 0) (by rw [List.getElem?_drop]; exact e))
  unfold wlt at lt
  omega
abbrev sc_steps_ofN : List Str := ["machine", "j", "i"]
theorem sc_steps_of : FnScope sc_steps_ofN ["machine"] (defScope s_steps_of) := ⟨rfl, rfl, rfl, by decide +kernel, rfl, by decide +kernel, by decide +kernel⟩
def spSteps : Sp := fun vs H Q _ => ∃ (m : V) (ss : List Int) (ws : List (Nat × Nat)), vs = [m] ∧ Im H m (mD ss ws) ∧ MOk ss ws ∧ ∀ (D : Addr) (H' : Hp), H' D = some (.dT (stepsK ss ws)) → Same H H' → Q (.ref D) H'
theorem ok_steps {f : Addr} {fd : FuncData} (D : DefAt K mg "steps_of" s_steps_of ["machine"] f fd) (T : Blt mg) (c_step : Cal P w K mg base 1 "step" spStep) : Cal P w K mg base 2 "steps_of" spSteps := by
  refine cal_of D sc_steps_of (fun vs H Q E h => ?_) (fun cdv A outer s H vs Q E hr h => ?_)
  · obtain ⟨m, ss, ws, rfl, _⟩ := h
    rfl
  · obtain ⟨m, ss, ws, rfl, im, ok, k⟩ := h
    refine ⟨_, (pss_one (ps_ret (pe_dcT (own := [("j", 1), ("i", 2)]) rfl sc_steps_of.nd (pi_tupK K rfl (pe_ix (ix_tupK K rfl) (pv 0) pe_int (fun _ _ => rfl))) (blkOk_by (N := sc_steps_ofN) (sc := defScope s_steps_of) (by decide +kernel)) (hu_of hr) (fun _ _ _ _ _ => (pg_tupK (n := 2) K rfl rfl (pgs_cons (pg_name (i := 1) sc_steps_of.nd rfl (by first | exact .inl rfl | exact .inr rfl)) (pgs_cons (pg_name (i := 2) sc_steps_of.nd rfl (by first | exact .inl rfl | exact .inr rfl)) pgs_nil)))) (fun _ _ _ _ _ => pts_nil) (fun _ _ _ _ _ => (pe_tup (pa_cons (pv 1) (pa_cons (pv 2) pa_nil)))) (fun _ _ _ _ _ => (pe_c c_step hr (by decide) rfl (pa_cons (pv 0) (pa_cons (pv 1) (pa_cons (pv 2) pa_nil)))))))), ?_⟩
    obtain ⟨a, xs, rfl, ha, ia⟩ := id im.tuple
    obtain ⟨c0, g1, iw⟩ := ia.get (i := 1) rfl
    obtain ⟨c, zs, rfl, hc, ic⟩ := id iw.tuple
    have lw := ok.wires.len ok.six
    have lz : zs.length = ws.length := by rw [ic.length, List.length_map]
    refine ⟨_, rfl, a, _, 1, _, rfl, rfl, SqT.of ha, atI_nat (j := 1) g1, c, rfl, ⟨_, SqT.of hc⟩, fun D nD => dcT_tup (K := K) (a := c) (xs := zs) (fun i H' => Same H H' ∧ H' D = some (.dT (stepsK ss (ws.take i)))) ⟨Same.new (Same.refl H) nD, upd_same⟩ (fun i H' _ z => SqT.of (z.1 _ _ hc)) ?_ ?_⟩
    · rintro i x H2 hx ⟨sm, hD⟩
      obtain ⟨dx, hdx, imx⟩ := ImAll.getVB ic hx
      obtain ⟨w', hw, rfl⟩ := map_get hdx
      obtain ⟨q, us, rfl, hq, iq⟩ := (Same.k sm imx).tuple
      have ew : us = [.int (w'.1 : Int), .int (w'.2 : Int)] := by
        match us, iq with
        | _, .cons (.int _) (.cons (.int _) .nil) => rfl
      subst ew
      obtain ⟨wl1, wl2, _⟩ := ok.wires.low _ (List.mem_of_getElem? hw)
      obtain ⟨xj, ej, x2, x3, xn⟩ := sz_nat ok.size wl1
      obtain ⟨yi, ei, y2, y3, yn⟩ := sz_nat ok.size wl2
      refine ⟨q, _, rfl, SqT.of hq, rfl, _, _, rfl, _, _, rfl, rfl, rfl, ?_⟩
      refine ⟨_, rfl, _, rfl, by show 2 ≤ sizeLine; decide, fun t nt => ?_⟩
      have s3 : Same H (upd H2 t (.tup [.int (w'.1 : Int), .int (w'.2 : Int)])) := Same.new sm nt
      refine ⟨_, rfl, _, rfl, _, rfl, _, ss, _, w'.1, w'.2, xj, yi, rfl, Same.k s3 im, ej, ei, by omega, Nat.lt_of_le_of_lt y3 (by decide), ?_⟩
      refine ⟨_, [.inl (w'.1 : Int), .inl (w'.2 : Int)], t, rfl, upd_same, keepN hD nt, ?_, Same.put s3 nD, ?_⟩
      · unfold stepsK
        rw [List.length_map, List.length_take]
        exact Nat.lt_of_le_of_lt (show _ ≤ 1000 by omega) (by decide)
      · rw [upd_same, putK_new _ (steps_fresh ok.wires hw), take_get hw]
        unfold stepsK stI
        rw [List.map_append, List.map_cons, List.map_nil, xn, yn]
    · rintro H2 ⟨sm, hD⟩
      rw [lz, List.take_length] at hD
      exact k D H2 hD sm
abbrev sc_deed_faultN : List Str := ["steps", "value", "j", "i", "c", "item"]
theorem sc_deed_fault : FnScope sc_deed_faultN ["steps", "value"] (defScope s_deed_fault) := ⟨rfl, rfl, rfl, by decide +kernel, rfl, by decide +kernel, by decide +kernel⟩
def spFault : Sp := fun vs H Q _ => ∃ (D : Addr) (v : V) (ss : List Int) (ws : List (Nat × Nat)) (d : PyData) (N : Addr → Prop), vs = [.ref D, v] ∧ H D = some (.dT (stepsK ss ws)) ∧ MOk ss ws ∧ De N H v d ∧ ∀ (u : V) (H' : Hp), Im H' u (derr ss ws d) → Same H H' → Q u H'
theorem ok_fault {tF : Tok} {f : Addr} {fd : FuncData} (D : DefAt K mg "deed_fault" s_deed_fault ["steps", "value"] f fd) (T : Blt mg) (T_abs : mg "abs" = none) (g_F : mg "MAX_FACTOR" = some (.int (10 ^ 60) tF)) (c_is_an_integer : Cal P w K mg base 1 "is_an_integer" spIntE) : Cal P w K mg base 2 "deed_fault" spFault := by
  refine cal_of D sc_deed_fault (fun vs H Q E h => ?_) (fun cdv A outer s H vs Q E hr h => ?_)
  · obtain ⟨D0, v, ss, ws, d, N, rfl, _⟩ := h
    rfl
  · obtain ⟨D0, v, ss, ws, d, N, rfl, hD0, ok, hd, k⟩ := h
    refine ⟨_, (pss_cons (ps_if (PW.pt (pw_or (pt_not (pt_val (pe_callB (call_isiK' K rfl) (by rfl) T.isinstance (by decide +kernel) (pa_cons (pv 1) (pa_cons (pe_bltn (v := .ty "tuple") (u := .type "tuple") (by rfl) T.tuple (by decide +kernel) rfl) pa_nil))))) (pw_or (pt_cmpR op_ne (pe_callB (call_lenK K rfl) (by rfl) T.len PySem.boot_len (pa_cons (pv 1) pa_nil)) pe_int (nomark _)) (pw_or1 (pt_not (pt_val (pe_callB (cr_allK K rfl rfl) (by rfl) T.all boot_all (pa_cons (pe_lc (own := [("item", 5)]) rfl sc_deed_fault.nd (pi_tupK K rfl (pv 1)) (blkOk_by (N := sc_deed_faultN) (sc := defScope s_deed_fault) (by decide +kernel)) (fun _ _ _ _ _ => (pg_name (i := 5) sc_deed_fault.nd rfl (by first | exact .inl rfl | exact .inr rfl))) (fun _ _ _ _ _ => pts_nil) (fun _ _ _ _ _ => (pe_c c_is_an_integer hr (by decide) rfl (pa_cons (pv 5) pa_nil)))) pa_nil)))))))) (pss_one (ps_ret pe_str)) pss_nil)
      (pss_cons (ps_asg (pv 1) (pg_tup rfl (pgs_cons (pg_name (i := 2) sc_deed_fault.nd rfl (.inl rfl)) (pgs_cons (pg_name (i := 3) sc_deed_fault.nd rfl (.inl rfl)) (pgs_cons (pg_name (i := 4) sc_deed_fault.nd rfl (.inl rfl)) pgs_nil)))))
      (pss_cons (ps_if (pt_cmp (pc_dnotin (hu_of hr) (pe_tup (pa_cons (pv 2) (pa_cons (pv 3) pa_nil))) (pv 0))) (pss_one (ps_ret pe_str)) pss_nil)
      (pss_cons (ps_if (PW.pt (pw_or (pt_cmpR op_gt (pe_callB call_abs (by rfl) T_abs (by decide +kernel) (pa_cons (pv 4) pa_nil)) (pe_glob rfl g_F (show RelV (.int (10 ^ 60)) _ from ⟨_, rfl⟩)) (nomark _)) (pw_or1 (pt_cmpR op_ne (pe_op op_mod (pv 4) (pe_dget (hu_of hr) (pv 0) (pe_tup (pa_cons (pv 2) (pa_cons (pv 3) pa_nil))) (fun _ _ => rfl))) pe_int (nomark _))))) (pss_one (ps_ret pe_str)) pss_nil)
      (pss_one (ps_ret pe_non)))))), ?_⟩
    refine ⟨_, rfl, _, _, _, _, _, rfl, tyT, hd.ty, kit_tup K d, _, rfl, ?_⟩
    cases h0 : isT d with
    | false =>
      rw [derr_no (by cases d <;> first | rfl | cases h0)] at k
      exact iteT (iteT (k _ _ (.str _) (Same.refl H)))
    | true =>
    obtain ⟨a, xs, ds, rfl, rfl, ha, hs⟩ := hd.tuple h0
    have lx := hs.length
    refine iteF ⟨_, rfl, a, _, rfl, .inr (SqT.of ha), rfl, _, rfl, ?_⟩
    rw [lx, dec_int]
    by_cases l3 : ds.length = 3
    case neg =>
      rw [derr_no (by simp only [isTri, decide_eq_false l3, Bool.false_and])] at k
      rw [show (((ds.length : Nat) : Int) == (3 : Int)) = false from beq_eq_false_iff_ne.mpr (by omega)]
      exact iteT (iteT (k _ _ (.str _) (Same.refl H)))
    rw [l3]
    refine iteF ⟨_, rfl, a, rfl, ⟨_, SqT.of ha⟩, fun D nD => ?_⟩
    refine lc_tup (K := K) (a := a) (xs := xs) (fun i H' => Same H H' ∧ H' D = some (.lst (((ds.take i).map isI).map V.bl))) ⟨Same.new (Same.refl H) nD, upd_same⟩ (fun i H' _ z => SqT.of (z.1 _ _ ha)) ?_ ?_
    · rintro i x H2 hx ⟨sm, hD⟩
      obtain ⟨dx, hdx, dgx⟩ := hs.get hx
      refine ⟨rfl, _, rfl, x, dx, N, rfl, dgx.s sm, _, hD, small1000 (by rw [List.length_map, List.length_map, List.length_take]; omega), Same.put sm nD, ?_⟩
      rw [upd_same, take_get hdx, List.map_append, List.map_append]
      rfl
    rintro H2 ⟨sm, hD⟩
    rw [lx, List.take_length] at hD
    refine ⟨D, _, rfl, SqL.of hD, _, rfl, ?_⟩
    cases h2 : (ds.map isI).all id with
    | false =>
      have h3 : ds.all isI = false := by rw [List.all_map] at h2; exact h2
      rw [derr_no (by simp only [isTri, h3, Bool.and_false])] at k
      exact iteT (k _ _ (.str _) sm)
    | true =>
    refine iteF ?_
    obtain ⟨j, i, c, rfl, rfl⟩ : ∃ j i c : Int, ds = [.int j, .int i, .int c] ∧ xs = [.int j, .int i, .int c] := by
      have h3 : ds.all isI = true := by rw [List.all_map] at h2; exact h2
      match ds, l3, hs, h3 with
      | [d1, d2, d3], _, .cons q1 (.cons q2 (.cons q3 .nil)), h3 =>
        simp only [List.all_cons, List.all_nil, Bool.and_true, Bool.and_eq_true] at h3
        obtain ⟨j, rfl, rfl⟩ := q1.int_of h3.1
        obtain ⟨i, rfl, rfl⟩ := q2.int_of h3.2.1
        obtain ⟨c, rfl, rfl⟩ := q3.int_of h3.2.2
        exact ⟨j, i, c, rfl, rfl⟩
    refine ⟨_, rfl, a, _, rfl, SqT.of (sm _ _ ha), rfl, _, _, rfl, _, _, rfl, _, _, rfl, rfl, ?_⟩
    refine ⟨_, rfl, _, rfl, by show 2 ≤ sizeLine; decide, fun t nt => ⟨_, rfl, D0, _, rfl, DGet.t (k := [.inl j, .inl i]) (keepN (sm _ _ hD0) nt) upd_same, _, rfl, ?_⟩⟩
    have s3 : Same H (upd H2 t (.tup [.int j, .int i])) := Same.new sm nt
    generalize upd H2 t (.tup [.int j, .int i]) = H3 at *
    rw [val_steps]
    simp only [derr] at k
    cases hw : hasW ws j i with
    | false =>
      rw [hw, if_neg Bool.false_ne_true] at k
      rw [if_neg Bool.false_ne_true]
      exact iteT (k _ _ (.str _) s3)
    | true =>
    rw [hw, if_pos rfl] at k
    rw [if_pos rfl]
    refine iteF ⟨_, rfl, _, rfl, _, _, rfl, rfl, _, rfl, ?_⟩
    have ab : (if c < 0 then -c else c) = (c.natAbs : Int) := by split <;> omega
    rw [ab]
    have sp : (0 : Int) < (stI ss (j.toNat, i.toNat) : Int) := by
      obtain ⟨w', hw', hz⟩ := List.any_eq_true.mp hw
      rw [Bool.and_eq_true, decide_eq_true_eq, decide_eq_true_eq] at hz
      obtain ⟨wl1, wl2, _⟩ := ok.wires.low _ hw'
      obtain ⟨yi, ei, y2, y3, yn⟩ := sz_nat ok.size wl2
      have e2 : i.toNat = w'.2 := by omega
      have := stp_pos (a := (ss.getD j.toNat 0).toNat) (b := yi) (by omega)
      unfold stI
      show (0 : Int) < ((stp (ss.getD j.toNat 0).toNat (ss.getD i.toNat 0).toNat : Nat) : Int)
      rw [e2, yn]
      omega
    by_cases big : c.natAbs > 10 ^ 60
    · rw [if_pos (.inl big)] at k
      exact iteSK (show (10 ^ 60 : Int) < (c.natAbs : Int) by omega) (iteT (k _ _ (.str _) s3))
    · rw [decide_eq_false (show ¬ (10 ^ 60 : Int) < (c.natAbs : Int) by omega)]
      refine iteF ⟨_, rfl, _, rfl, _, rfl, _, rfl, by show 2 ≤ sizeLine; decide, fun t2 nt2 => ⟨D0, _, rfl, (by have z := DGet.t (k := [.inl j, .inl i]) (b := t2) (H := upd H3 t2 (.tup [.int j, .int i])) (keepN (s3 _ _ hD0) nt2) upd_same; rw [val_steps, hw, if_pos rfl] at z; exact z), _, _, rfl, rfl, sp, rfl, _, rfl, ?_⟩⟩
      have s4 : Same H (upd H3 t2 (.tup [.int j, .int i])) := Same.new s3 nt2
      by_cases md : c % ((stI ss (j.toNat, i.toNat) : Nat) : Int) = 0
      · rw [if_neg (by rintro (z | z); exact big z; exact z md)] at k
        exact iteNS (congrArg V.int md) (k _ _ .non s4)
      · rw [if_pos (.inr md)] at k
        exact iteNF (fun z => md (V.int.inj z)) (k _ _ (.str _) s4)
/-- what is wrong first with a program -/
inductive Perr (ss : List Int) (ws : List (Nat × Nat)) : PyData → PyData → Prop
  | form {d : PyData} (h : isT d = false) : Perr ss ws d (.str "form")
  | deed {l : List PyData} {i : Nat} {x : PyData} (e : l[i]? = some x) (before : ∀ (i' : Nat) (y : PyData), i' < i → l[i']? = some y → derr ss ws y = .none) (bad : derr ss ws x ≠ .none) : Perr ss ws (.tuple l) (.tuple [.str "deed", .int (i : Int)])
  | none {l : List PyData} (all : ∀ (i : Nat) (y : PyData), l[i]? = some y → derr ss ws y = .none) : Perr ss ws (.tuple l) .none
theorem Perr.det {ss : List Int} {ws : List (Nat × Nat)} {d e e' : PyData} (a : Perr ss ws d e) (b : Perr ss ws d e') : e = e' := by
  cases a with
  | form h => cases b with
    | form _ => rfl
    | deed _ _ _ => cases h
    | none _ => cases h
  | deed e1 f1 g1 =>
    rename_i i x
    cases b with
    | form h => cases h
    | deed e2 f2 g2 =>
      rename_i i' x'
      by_cases c1 : i' < i
      · exact absurd (f1 _ _ c1 e2) g2
      by_cases c2 : i < i'
      · exact absurd (f2 _ _ c2 e1) g1
      have : i = i' := by omega
      rw [this]
    | none al => exact absurd (al _ _ e1) g1
  | none al =>
    cases b with
    | form h => cases h
    | deed e2 f2 g2 => exact absurd (al _ _ e2) g2
    | none _ => rfl
theorem derr_non {H : Hp} {u : V} {ss : List Int} {ws : List (Nat × Nat)} {d : PyData} (h : Im H u (derr ss ws d)) : decide (u = V.non) = true ↔ derr ss ws d = .none := by
  constructor
  · intro z
    have e := of_decide_eq_true z
    subst e
    generalize derr ss ws d = x at h
    cases h
    rfl
  · intro z
    rw [z] at h
    cases h
    rfl
def cD (_ : PyData) : Prop := True
def cP (d : PyData) : Prop := ∀ l, d = .tuple l → l.length ≤ 2000
def spJudge (C : PyData → Prop) (F : List Int → List (Nat × Nat) → PyData → PyData → Prop) : Sp := fun vs H Q _ => ∃ (m v : V) (ss : List Int) (ws : List (Nat × Nat)) (d : PyData) (N : Addr → Prop), vs = [m, v] ∧ Im H m (mD ss ws) ∧ MOk ss ws ∧ De N H v d ∧ C d ∧ ∀ (u : V) (e : PyData) (H' : Hp), F ss ws d e → Im H' u e → Same H H' → Q u H'
abbrev sc_deed_errorN : List Str := ["machine", "value"]
theorem sc_deed_error : FnScope sc_deed_errorN ["machine", "value"] (defScope s_deed_error) := ⟨rfl, rfl, rfl, by decide +kernel, rfl, by decide +kernel, by decide +kernel⟩
theorem fn_derr {f : Addr} {fd : FuncData} (D : DefAt K mg "deed_error" s_deed_error ["machine", "value"] f fd) (c_steps_of : Cal P w K mg base 2 "steps_of" spSteps) (c_deed_fault : Cal P w K mg base 2 "deed_fault" spFault) : FnOk P w K mg base CX0 3 f fd ["machine", "value"] (spJudge cD fun ss ws d e => e = derr ss ws d) := by
  refine D.fn.ok sc_deed_error (fun vs H Q E h => ?_) (fun cdv A outer s H vs Q E hr h => ?_)
  · obtain ⟨m, v, ss, ws, d, N, rfl, _⟩ := h
    rfl
  · obtain ⟨m, v, ss, ws, d, N, rfl, im, ok, hd, ln, k⟩ := h
    refine ⟨_, (pss_one (ps_ret (pe_c c_deed_fault hr (by decide) rfl (pa_cons (pe_c c_steps_of hr (by decide) rfl (pa_cons (pv 0) pa_nil)) (pa_cons (pv 1) pa_nil))))), ?_⟩
    refine ⟨_, rfl, _, ss, ws, rfl, im, ok, fun D1 H1 h1 s1 => ⟨_, rfl, ?_⟩⟩
    exact ⟨D1, v, ss, ws, d, N, rfl, h1, ok, hd.s s1, fun u H2 iu s2 => k u _ H2 rfl iu (s1.trans s2)⟩
def spJudgeF : Sp := fun vs H Q _ => ∃ (m v : V) (ss : List Int) (ws : List (Nat × Nat)) (d : PyData) (N : Addr → Prop) (first : Nat), vs = [m, v, .int (first : Int)] ∧ Im H m (mD ss ws) ∧ MOk ss ws ∧ De N H v d ∧ cP d ∧ first ≤ 2000 ∧ (∀ l, d = .tuple l → first ≤ l.length ∧ ∀ (i : Nat) (y : PyData), i < first → l[i]? = some y → derr ss ws y = .none) ∧ ∀ (u : V) (e : PyData) (H' : Hp), Perr ss ws d e → Im H' u e → Same H H' → Q u H'
abbrev sc_program_error_fromN : List Str := ["machine", "value", "first", "steps", "place"]
theorem sc_program_error_from : FnScope sc_program_error_fromN ["machine", "value", "first"] (defScope s_program_error_from) := ⟨rfl, rfl, rfl, by decide +kernel, rfl, by decide +kernel, by decide +kernel⟩
theorem ok_pfrom {tM : Tok} {f : Addr} {fd : FuncData} (D : DefAt K mg "program_error_from" s_program_error_from ["machine", "value", "first"] f fd) (T : Blt mg) (g_M : mg "MAX_DEEDS" = some (.int 1000000 tM)) (c_steps_of : Cal P w K mg base 2 "steps_of" spSteps) (c_deed_fault : Cal P w K mg base 2 "deed_fault" spFault) : Cal P w K mg base 3 "program_error_from" spJudgeF := by
  refine cal_of D sc_program_error_from (fun vs H Q E h => ?_) (fun cdv A outer s H vs Q E hr h => ?_)
  · obtain ⟨m, v, ss, ws, d, N, first, rfl, _⟩ := h
    rfl
  · obtain ⟨m, v, ss, ws, d, N, first, rfl, im, ok, hd, ln, f2, fs, k⟩ := h
    refine ⟨_, (pss_cons (ps_if (PW.pt (pw_or (pt_not (pt_val (pe_callB (call_isiK' K rfl) (by rfl) T.isinstance (by decide +kernel) (pa_cons (pv 1) (pa_cons (pe_bltn (v := .ty "tuple") (u := .type "tuple") (by rfl) T.tuple (by decide +kernel) rfl) pa_nil))))) (pw_or1 (pt_cmpR op_gt (pe_callB (call_lenK K rfl) (by rfl) T.len PySem.boot_len (pa_cons (pv 1) pa_nil)) (pe_glob rfl g_M (show RelV (.int 1000000) _ from ⟨_, rfl⟩)) (nomark _))))) (pss_one (ps_ret pe_str)) pss_nil)
      (pss_cons (ps_set (i := 3) sc_program_error_from.nd rfl (.inl rfl) (pe_c c_steps_of hr (by decide) rfl (pa_cons (pv 0) pa_nil)))
      (pss_cons (ps_for PassesOwn.never rfl (pi_range2 (by rfl) T.range (pa_cons (pv 2) (pa_cons (pe_callB (call_lenK K rfl) (by rfl) T.len PySem.boot_len (pa_cons (pv 1) pa_nil)) pa_nil))) (pg_name (i := 4) sc_program_error_from.nd rfl (.inl rfl)) (pss_one (ps_if (pt_cmpR op_notN (pe_c c_deed_fault hr (by decide) rfl (pa_cons (pv 3) (pa_cons (pe_ix (ix_tupK K rfl) (pv 1) (pv 4) (fun _ _ => rfl)) pa_nil))) pe_non (nomark _)) (pss_one (ps_ret (pe_tup (pa_cons pe_str (pa_cons (pv 4) pa_nil))))) pss_nil)))
      (pss_one (ps_ret pe_non))))), ?_⟩
    refine ⟨_, rfl, _, _, _, _, _, rfl, tyT, hd.ty, kit_tup K d, _, rfl, ?_⟩
    cases h0 : isT d with
    | false => exact iteT (iteT (k _ _ _ (.form h0) (.str _) (Same.refl H)))
    | true =>
    obtain ⟨a, xs, l, rfl, rfl, ha, hs⟩ := hd.tuple h0
    have lx := hs.length
    have l1 := ln l rfl
    obtain ⟨fl, fn⟩ := fs l rfl
    refine iteF ⟨_, rfl, a, _, rfl, .inr (SqT.of ha), _, _, rfl, rfl, _, rfl, ?_⟩
    rw [decide_eq_false (show ¬ (1000000 : Int) < (xs.length : Int) by omega)]
    refine iteF ?_
    refine ⟨_, rfl, _, ss, ws, rfl, im, ok, fun D1 H1 h1 s1 => ?_⟩
    refine ⟨_, rfl, _, rfl, a, xs, rfl, .inr (SqT.of (s1 _ _ ha)), (first : Int), _, rfl, ⟨by omega, by omega, by omega, by omega⟩, for_range (lo := (first : Int)) (n := ((xs.length : Nat) - (first : Int) : Int).toNat) (fun t σ H' => ∃ v4 : Option V, σ = [some m, some (.ref a), some (.int (first : Int)), some (.ref D1), v4] ∧ Same H1 H' ∧ ∀ (i' : Nat) (y : PyData), i' < first + t → l[i']? = some y → derr ss ws y = .none)
      ⟨none, rfl, Same.refl H1, fun i' y z e => fn i' y (by omega) e⟩ ?_ ?_⟩
    · rintro t σ H2 ht ⟨v4, rfl, sm, al⟩
      have lt : first + t < l.length := by omega
      obtain ⟨dx, hdx⟩ : ∃ dx, l[first + t]? = some dx := ⟨_, List.getElem?_eq_getElem lt⟩
      have ltx : first + t < xs.length := by omega
      obtain ⟨x2, e2⟩ : ∃ x, xs[first + t]? = some x := ⟨_, List.getElem?_eq_getElem ltx⟩
      obtain ⟨dx', hdx', dgx⟩ := hs.get e2
      rw [hdx] at hdx'
      cases hdx'
      have s4 : Same H H2 := s1.trans sm
      rw [show (first : Int) + (t : Int) = ((first + t : Nat) : Int) by omega]
      refine ⟨_, rfl, _, rfl, _, rfl, a, xs, _, _, rfl, rfl, SqT.of (s4 _ _ ha), atI_nat e2, D1, x2, ss, ws, dx, N, rfl, sm _ _ h1, ok, dgx.s s4, fun u H5 iu s5 => ⟨rfl, _, rfl, ?_⟩⟩
      have nn := derr_non iu
      by_cases e0 : derr ss ws dx = .none
      · rw [nn.mpr e0]
        refine iteF ⟨_, rfl, sm.trans s5, fun i' y hi hy => ?_⟩
        by_cases z : i' < first + t
        · exact al i' y z hy
        · have : i' = first + t := by omega
          subst this
          rw [hdx] at hy
          cases hy
          exact e0
      · rw [show decide (u = V.non) = false from Bool.eq_false_iff.mpr fun z => e0 (nn.mp z)]
        refine iteT ⟨_, rfl, by show 2 ≤ sizeLine; decide, fun t9 nt9 => ?_⟩
        exact k _ _ _ (.deed hdx al e0) (.tup upd_same (.cons (.str _) (.cons (.int _) .nil))) (Same.new (s4.trans s5) nt9)
    · rintro σ H2 ⟨v4, rfl, sm, al⟩
      exact k _ _ _ (.none fun i y e => al i y (by have := (List.getElem?_eq_some_iff.mp e).1; omega) e) .non (s1.trans sm)
abbrev sc_program_errorN : List Str := ["machine", "value"]
theorem sc_program_error : FnScope sc_program_errorN ["machine", "value"] (defScope s_program_error) := ⟨rfl, rfl, rfl, by decide +kernel, rfl, by decide +kernel, by decide +kernel⟩
theorem fn_perr {f : Addr} {fd : FuncData} (D : DefAt K mg "program_error" s_program_error ["machine", "value"] f fd) (c_program_error_from : Cal P w K mg base 3 "program_error_from" spJudgeF) : FnOk P w K mg base CX0 4 f fd ["machine", "value"] (spJudge cP Perr) := by
  refine D.fn.ok sc_program_error (fun vs H Q E h => ?_) (fun cdv A outer s H vs Q E hr h => ?_)
  · obtain ⟨m, v, ss, ws, d, N, rfl, _⟩ := h
    rfl
  · obtain ⟨m, v, ss, ws, d, N, rfl, im, ok, hd, ln, k⟩ := h
    refine ⟨_, (pss_one (ps_ret (pe_c c_program_error_from hr (by decide) rfl (pa_cons (pv 0) (pa_cons (pv 1) (pa_cons pe_int pa_nil)))))), ?_⟩
    exact ⟨_, rfl, _, rfl, m, v, ss, ws, d, N, 0, rfl, im, ok, hd, ln, by decide, fun l _ => ⟨Nat.zero_le _, fun i y z => absurd z (Nat.not_lt_zero _)⟩, k⟩
def kg21d {α : Type} : List α → List α → List α
  | [], [a, b] => [b, a]
  | _, _ => []
theorem kg21d_rel {vs zs : List V} {us ws : List Value} (h1 : Vals vs us) (h2 : Vals zs ws) : Vals (kg21d vs zs) (kg21d us ws) := by
  cases h1 with
  | cons _ _ => exact .nil
  | nil =>
    cases h2 with
    | nil => exact .nil
    | cons a h2 =>
      cases h2 with
      | nil => exact .nil
      | cons b h2 =>
        cases h2 with
        | nil => exact .cons b (.cons a .nil)
        | cons _ _ => exact .nil
theorem k_derr {f : Addr} {fd : FuncData} (F : Fun K "deed_error" "deed_error" s_deed_error f fd) : KBinds K fd ["machine", "value"] ["value", "machine"] kg21d kg21d := by
  obtain ⟨oc, od, kV, doc, pm, an, cdv, ct, osl, rfl, lk, hcd⟩ := F.ex
  refine ⟨fun s us ws _ hl => ?_, kg21d_rel⟩
  match us, ws, hl with
  | [], [a, b], _ => exact .of_eq rfl
theorem k_perr {f : Addr} {fd : FuncData} (F : Fun K "program_error" "program_error" s_program_error f fd) : KBinds K fd ["machine", "value"] ["value", "machine"] kg21d kg21d := by
  obtain ⟨oc, od, kV, doc, pm, an, cdv, ct, osl, rfl, lk, hcd⟩ := F.ex
  refine ⟨fun s us ws _ hl => ?_, kg21d_rel⟩
  match us, ws, hl with
  | [], [a, b], _ => exact .of_eq rfl

/-! ### k05: the law's own judging -/
theorem shaped_wiresJ (ws : List (Nat × Nat)) : SeqAt.shaped (.tuple (ws.map wD)) = true := by
  have a : ∀ ws : List (Nat × Nat), PyData.canLayAll0 (ws.map wD) = true := by
    intro ws
    induction ws with
    | nil => rfl
    | cons w ws ih =>
      rw [List.map_cons]
      simp only [PyData.canLayAll0, wD, PyData.canLay0, ih, Bool.and_self]
  have b := depth_wires ws
  unfold SeqAt.shaped
  simp only [PyData.canLay0, PyData.depth, a, Bool.true_and]
  exact decide_eq_true (by omega)
theorem same_w (w : Nat × Nat) (j i : Int) : same (wD w) (.tuple [.int j, .int i]) = (decide ((w.1 : Int) = j) && decide ((w.2 : Int) = i)) := by
  simp [wD, same, sameAll]
  rfl
theorem count_w (j i : Int) : ∀ ws : List (Nat × Nat), 0 ≤ countIn (.tuple [.int j, .int i]) (ws.map wD) ∧ decide (countIn (.tuple [.int j, .int i]) (ws.map wD) ≠ 0) = hasW ws j i
  | [] => ⟨Int.le_refl 0, rfl⟩
  | w :: ws => by
    obtain ⟨h1, h2⟩ := count_w j i ws
    rw [List.map_cons, countIn, same_w]
    unfold hasW at h2 ⊢
    rw [List.any_cons, ← h2]
    cases h : (decide ((w.1 : Int) = j) && decide ((w.2 : Int) = i)) with
    | true =>
      rw [if_pos rfl, Bool.true_or]
      exact ⟨by omega, decide_eq_true (by omega)⟩
    | false =>
      rw [if_neg Bool.false_ne_true, Bool.false_or, Int.zero_add]
      exact ⟨h1, rfl⟩
theorem mix_w (w : Nat × Nat) (j i : Int) : SeqAt.noMix (wD w) (.tuple [.int j, .int i]) = true := rfl
def nil5 (ds : List PyData) : List Int := (ds.filter fun d => !isI d).map fun _ => 1
theorem nil5_next {ds : List PyData} {i : Nat} {d : PyData} (h : ds[i]? = some d) : nil5 (ds.take (i + 1)) = nil5 (ds.take i) ++ (if isI d = true then [] else [1]) := by
  unfold nil5
  rw [take_filter _ h, List.map_append]
  cases isI d <;> rfl
theorem nil5_len (ds : List PyData) : (nil5 ds).length ≤ ds.length := by
  unfold nil5
  rw [List.length_map]
  exact List.length_filter_le _ _
theorem nil5_nil : ∀ ds : List PyData, (nil5 ds).isEmpty = ds.all isI
  | [] => rfl
  | d :: ds => by
    have ih := nil5_nil ds
    unfold nil5 at ih ⊢
    rw [List.filter_cons, List.all_cons]
    cases h : isI d with
    | true => simpa using ih
    | false => rfl
theorem cut_toB (xs : List V) (n : Nat) : cutV xs none (some (n : Int)) = xs.take n := by
  unfold cutV
  rw [HT.sIx_none, HT.sIx_nat, List.drop_zero, Nat.sub_zero, ← List.take_take, List.take_length]
theorem sl_anyB {K : PySem.W.Frag} {a : Addr} {xs : List V} {lo hi : Option Int} {H : Hp} {Q : VK} (h : H a = some (.tup xs)) (k : ∀ c H', Same H H' → H' c = some (.tup (cutV xs lo hi)) → Q (.ref c) H') : rSlA K (.ref a) lo hi H Q := by
  refine ⟨a, xs, rfl, SqT.of h, fun e => k a H (Same.refl H) ?_, fun _ p n => k p _ (Same.new (Same.refl H) n) upd_same⟩
  rw [h]
  unfold cutV
  rw [e.1, e.2, List.drop_zero, Nat.sub_zero, List.take_length]
abbrev sc_l_dueN : List Str := ["machine", "value", "item"]
theorem sc_l_due : FnScope sc_l_dueN ["machine", "value"] (defScope s_l_due) := ⟨rfl, rfl, rfl, by decide +kernel, rfl, by decide +kernel, by decide +kernel⟩
theorem ok_ldue {f : Addr} {fd : FuncData} (D : DefAt K mg "_law_due" s_l_due ["machine", "value"] f fd) (T : Blt mg) (T_abs : mg "abs" = none) (c_l_step : Cal P w K mg base 2 "_law_step" spLStep) : Cal P w K mg base 3 "_law_due" (spJudge cD fun ss ws d e => e = derr ss ws d) := by
  refine cal_of D sc_l_due (fun vs H Q E h => ?_) (fun cdv A outer s H vs Q E hr h => ?_)
  · obtain ⟨m, v, ss, ws, d, N, rfl, _⟩ := h
    rfl
  · obtain ⟨m, v, ss, ws, d, N, rfl, im, ok, hd, ln, k⟩ := h
    refine ⟨_, (pss_cons (ps_if (PW.pt (pw_or (pt_not (pt_val (pe_callB (call_isiK' K rfl) (by rfl) T.isinstance (by decide +kernel) (pa_cons (pv 1) (pa_cons (pe_bltn (v := .ty "tuple") (u := .type "tuple") (by rfl) T.tuple (by decide +kernel) rfl) pa_nil))))) (pw_or1 (pt_cmpR op_ne (pe_callB (call_lenK K rfl) (by rfl) T.len PySem.boot_len (pa_cons (pv 1) pa_nil)) pe_int (nomark _))))) (pss_one (ps_ret pe_str)) pss_nil)
      (pss_cons (ps_if (pt_cmpR (op_neDK K rfl hr.units) (pe_lc (own := [("item", 2)]) rfl sc_l_due.nd (pi_tupK K rfl (pv 1)) (blkOk_by (N := sc_l_dueN) (sc := defScope s_l_due) (by decide +kernel)) (fun _ _ _ _ _ => (pg_name (i := 2) sc_l_due.nd rfl (by first | exact .inl rfl | exact .inr rfl))) (fun _ _ _ _ _ => (pts_one (PW.pt (pw_or (pt_not (pt_val (pe_callB (call_isiK' K rfl) (by rfl) T.isinstance (by decide +kernel) (pa_cons (pv 2) (pa_cons (pe_bltn (v := .ty "int") (u := .type "int") (by rfl) T.int (by decide +kernel) rfl) pa_nil))))) (pw_or1 (pt_val (pe_callB (call_isiK' K rfl) (by rfl) T.isinstance (by decide +kernel) (pa_cons (pv 2) (pa_cons (pe_bltn (v := .ty "bool") (u := .type "bool") (by rfl) T.bool (by decide +kernel) rfl) pa_nil))))))))) (fun _ _ _ _ _ => pe_int)) (pe_lst pa_nil) (nomark _)) (pss_one (ps_ret pe_str)) pss_nil)
      (pss_cons (ps_if (pt_cmpR (op_notInE K rfl (room65K hr)) (pe_slice sl_tupA (pv 1) po_none (po_some pe_int)) (pe_ix (ix_tupK K rfl) (pv 0) pe_int (fun _ _ => rfl)) rfl) (pss_one (ps_ret pe_str)) pss_nil)
      (pss_one (ps_ret (pe_ifExp (PW.pt (pw_or (pt_cmpR op_gt (pe_callB call_abs (by rfl) T_abs (by decide +kernel) (pa_cons (pe_ix (ix_tupK K rfl) (pv 1) pe_int (fun _ _ => rfl)) pa_nil)) (pe_op op_pow pe_int pe_int) (nomark _)) (pw_or1 (pt_cmpR op_ne (pe_op op_mod (pe_ix (ix_tupK K rfl) (pv 1) pe_int (fun _ _ => rfl)) (pe_c c_l_step hr (by decide) rfl (pa_cons (pe_ix (ix_tupK K rfl) (pv 0) pe_int (fun _ _ => rfl)) (pa_cons (pe_ix (ix_tupK K rfl) (pv 1) pe_int (fun _ _ => rfl)) (pa_cons (pe_ix (ix_tupK K rfl) (pv 1) pe_int (fun _ _ => rfl)) pa_nil))))) pe_int (nomark _))))) pe_str pe_non)))))), ?_⟩
    obtain ⟨am, xm, rfl, ham, iam⟩ := id im.tuple
    obtain ⟨b0, g0, is0⟩ := iam.get (i := 0) rfl
    obtain ⟨cw, g1, iw⟩ := iam.get (i := 1) rfl
    have K2 : ∀ (u : V) (H' : Hp), Im H' u (derr ss ws d) → Same H H' → Q u H' := fun u H' iu su => k u _ H' rfl iu su
    clear k
    refine ⟨_, rfl, _, _, _, _, _, rfl, tyT, hd.ty, kit_tup K d, _, rfl, ?_⟩
    cases h0 : isT d with
    | false =>
      rw [derr_no (by cases d <;> first | rfl | cases h0)] at K2
      exact iteT (iteT (K2 _ _ (.str _) (Same.refl H)))
    | true =>
    obtain ⟨a, xs, ds, rfl, rfl, ha, hs⟩ := hd.tuple h0
    have lx := hs.length
    refine iteF ⟨_, rfl, a, _, rfl, .inr (SqT.of ha), rfl, _, rfl, ?_⟩
    rw [lx, dec_int]
    by_cases l3 : ds.length = 3
    case neg =>
      rw [derr_no (by simp only [isTri, decide_eq_false l3, Bool.false_and])] at K2
      rw [show (((ds.length : Nat) : Int) == (3 : Int)) = false from beq_eq_false_iff_ne.mpr (by omega)]
      exact iteT (K2 _ _ (.str _) (Same.refl H))
    rw [l3]
    refine iteF ⟨_, rfl, a, rfl, ⟨_, SqT.of ha⟩, fun l nl => ?_⟩
    refine lc_tup (K := K) (a := a) (xs := xs) (fun j H' => Same H H' ∧ H' l = some (.lst ((nil5 (ds.take j)).map V.int))) ⟨Same.new (Same.refl H) nl, upd_same⟩ (fun j H' _ z => SqT.of (z.1 _ _ ha)) ?_ ?_
    · rintro j z H1 hz ⟨sm, hl⟩
      obtain ⟨dz, g2, dg0⟩ := hs.get hz
      have dg := dg0.s sm
      have nx := nil5_next g2
      have ll := nil5_len (ds.take j)
      have l2 : (ds.take j).length ≤ 3 := by
        rw [List.length_take]
        omega
      have ie := isI_eq dz
      have bad : isI dz = false → ∃ acc : List V, H1 l = some (.lst acc) ∧ acc.length < sizeLine ∧ (Same H (upd H1 l (.lst (acc ++ [V.int 1]))) ∧ (upd H1 l (.lst (acc ++ [V.int 1]))) l = some (.lst ((nil5 (ds.take (j + 1))).map V.int))) := fun hb =>
        ⟨_, hl, small1000 (by rw [List.length_map]; omega), Same.put sm nl, by rw [upd_same, nx, hb, if_neg (by decide), List.map_append]; rfl⟩
      refine ⟨rfl, ⟨_, rfl, _, _, _, _, _, rfl, tyI, dg.ty, kit_int K dz, _, rfl, ?_⟩⟩
      cases i1 : isIB dz with
      | false =>
        rw [i1] at ie
        exact iteT (iteT (bad ie.symm))
      | true =>
      rw [i1] at ie
      refine iteF ⟨_, rfl, _, _, _, _, _, rfl, tyB, dg.ty, kit_bool K dz, _, rfl, ?_⟩
      cases i2 : isB dz with
      | true =>
        rw [i2] at ie
        exact iteT (bad ie.symm)
      | false =>
        rw [i2] at ie
        refine iteF ⟨sm, ?_⟩
        rw [nx, if_pos (show isI dz = true from ie.symm), List.append_nil]
        exact hl
    rintro H1 ⟨sm, hl⟩
    rw [lx, List.take_length] at hl
    refine ⟨by show 0 ≤ sizeLine; decide, fun c0 nc0 => ?_⟩
    have sm2 : Same H (upd H1 c0 (.lst [])) := Same.new sm nc0
    have hl2 : (upd H1 c0 (.lst [])) l = some (.lst ((nil5 ds).map V.int)) := keepN hl nc0
    refine ⟨.list ((nil5 ds).map PyData.int), .list [], .lst (SqL.of hl2) (DpAll.ints K _ _), .lst (SqL.of upd_same) .nil, shaped_ints _, rfl, _, rfl, ?_⟩
    generalize upd H1 c0 (.lst []) = H2 at *
    rw [eqv_nil, nil5_nil]
    cases h2 : ds.all isI with
    | false =>
      rw [derr_no (by simp only [isTri, h2, Bool.and_false])] at K2
      exact iteT (K2 _ _ (.str _) sm2)
    | true =>
    refine iteF ?_
    obtain ⟨j, i, c, rfl, rfl⟩ : ∃ j i c : Int, ds = [.int j, .int i, .int c] ∧ xs = [.int j, .int i, .int c] := by
      match ds, l3, hs, h2 with
      | [d1, d2, d3], _, .cons q1 (.cons q2 (.cons q3 .nil)), h3 =>
        simp only [List.all_cons, List.all_nil, Bool.and_true, Bool.and_eq_true] at h3
        obtain ⟨j, rfl, rfl⟩ := q1.int_of h3.1
        obtain ⟨i, rfl, rfl⟩ := q2.int_of h3.2.1
        obtain ⟨c, rfl, rfl⟩ := q3.int_of h3.2.2
        exact ⟨j, i, c, rfl, rfl⟩
    have ha2 := sm2 _ _ ha
    refine ⟨_, rfl, 2, rfl, sl_anyB ha2 fun t H3 s3 ht => ?_⟩
    rw [show (some (2 : Int)) = some ((2 : Nat) : Int) from rfl, cut_toB] at ht
    have ht' : H3 t = some (.tup [.int j, .int i]) := ht
    have s03 := sm2.trans s3
    refine ⟨_, rfl, am, _, 1, _, rfl, rfl, SqT.of (s03 _ _ ham), atI_nat (j := 1) g1, .tuple [.int j, .int i], ws.map wD, .tup (SqT.of ht') (.cons (.int j) (.cons (.int i) .nil)), (Same.k s03 iw).dp, shaped_wiresJ ws, rfl, fun z hz => ?_, _, rfl, ?_⟩
    · obtain ⟨w', _, rfl⟩ := List.mem_map.mp hz
      exact mix_w w' j i
    rw [(count_w j i ws).2]
    simp only [derr] at K2
    cases hw : hasW ws j i with
    | false =>
      rw [hw, if_neg Bool.false_ne_true] at K2
      exact iteT (K2 _ _ (.str _) s03)
    | true =>
    rw [hw, if_pos rfl] at K2
    have ha3 := s03 _ _ ha
    refine iteF ⟨_, rfl, a, _, 2, _, rfl, rfl, SqT.of ha3, atI_nat (j := 2) rfl, _, rfl, _, _, rfl, rfl, ⟨by decide, by decide, by decide⟩, _, _, rfl, rfl, _, rfl, ?_⟩
    have ab : (if c < 0 then -c else c) = (c.natAbs : Int) := by split <;> omega
    have pw : (10 : Int) ^ (60 : Int).toNat = 10 ^ 60 := rfl
    rw [ab, pw]
    obtain ⟨w', hw', hz⟩ := List.any_eq_true.mp hw
    rw [Bool.and_eq_true, decide_eq_true_eq, decide_eq_true_eq] at hz
    obtain ⟨wl1, wl2, _⟩ := ok.wires.low _ hw'
    obtain ⟨xj, ej, x2, x3, xn⟩ := sz_nat ok.size wl1
    obtain ⟨yi, ei, y2, y3, yn⟩ := sz_nat ok.size wl2
    have es : stI ss (j.toNat, i.toNat) = stp xj yi := by
      unfold stI
      show stp (ss.getD j.toNat 0).toNat (ss.getD i.toNat 0).toNat = _
      rw [show j.toNat = w'.1 by omega, show i.toNat = w'.2 by omega, xn, yn]
    rw [es] at K2
    have sp := stp_pos (a := xj) (b := yi) (by omega)
    by_cases big : c.natAbs > 10 ^ 60
    · rw [if_pos (.inl big)] at K2
      exact iteSK (show (10 ^ 60 : Int) < (c.natAbs : Int) by omega) (iteT (K2 _ _ (.str _) s03))
    · rw [decide_eq_false (show ¬ (10 ^ 60 : Int) < (c.natAbs : Int) by omega)]
      refine iteF ⟨_, rfl, a, _, 2, _, rfl, rfl, SqT.of ha3, atI_nat (j := 2) rfl, _, rfl, am, _, 0, _, rfl, rfl, SqT.of (s03 _ _ ham), atI_nat (j := 0) g0, _, rfl, a, _, 0, _, rfl, rfl, SqT.of ha3, atI_nat (j := 0) rfl, _, rfl, a, _, 1, _, rfl, rfl, SqT.of ha3, atI_nat (j := 1) rfl, b0, ss, w'.1, w'.2, xj, yi, by rw [hz.1, hz.2]; rfl, Same.k s03 is0, ej, ei, by omega, Nat.lt_of_le_of_lt y3 (by decide), _, _, rfl, rfl, show (0 : Int) < ((stp xj yi : Nat) : Int) by omega, rfl, _, rfl, ?_⟩
      by_cases md : c % ((stp xj yi : Nat) : Int) = 0
      · rw [if_neg (by rintro (z | z); exact big z; exact z md)] at K2
        exact iteNS (congrArg V.int md) (K2 _ _ .non s03)
      · rw [if_pos (.inr md)] at K2
        exact iteNF (fun z => md (V.int.inj z)) (K2 _ _ (.str _) s03)
abbrev sc_l_due_programN : List Str := ["machine", "value", "place", "item"]
theorem sc_l_due_program : FnScope sc_l_due_programN ["machine", "value"] (defScope s_l_due_program) := ⟨rfl, rfl, rfl, by decide +kernel, rfl, by decide +kernel, by decide +kernel⟩
theorem ok_lduep {f : Addr} {fd : FuncData} (D : DefAt K mg "_law_due_program" s_l_due_program ["machine", "value"] f fd) (T : Blt mg) (c_l_due : Cal P w K mg base 3 "_law_due" (spJudge cD fun ss ws d e => e = derr ss ws d)) : Cal P w K mg base 4 "_law_due_program" (spJudge cP Perr) := by
  refine cal_of D sc_l_due_program (fun vs H Q E h => ?_) (fun cdv A outer s H vs Q E hr h => ?_)
  · obtain ⟨m, v, ss, ws, d, N, rfl, _⟩ := h
    rfl
  · obtain ⟨m, v, ss, ws, d, N, rfl, im, ok, hd, ln, k⟩ := h
    refine ⟨_, (pss_cons (ps_if (pt_not (pt_val (pe_callB (call_isiK' K rfl) (by rfl) T.isinstance (by decide +kernel) (pa_cons (pv 1) (pa_cons (pe_bltn (v := .ty "tuple") (u := .type "tuple") (by rfl) T.tuple (by decide +kernel) rfl) pa_nil))))) (pss_one (ps_ret pe_str)) pss_nil)
      (pss_cons (ps_for PassesOwn.never rfl (pi_enumTK K rfl (by rfl) T.enumerate (pa_cons (pv 1) pa_nil)) (pg_tup rfl (pgs_cons (pg_name (i := 2) sc_l_due_program.nd rfl (.inl rfl)) (pgs_cons (pg_name (i := 3) sc_l_due_program.nd rfl (.inl rfl)) pgs_nil))) (pss_one (ps_if (pt_cmpR op_notN (pe_c c_l_due hr (by decide) rfl (pa_cons (pv 0) (pa_cons (pv 3) pa_nil))) pe_non (nomark _)) (pss_one (ps_ret (pe_tup (pa_cons pe_str (pa_cons (pv 2) pa_nil))))) pss_nil)))
      (pss_one (ps_ret pe_non)))), ?_⟩
    refine ⟨_, rfl, _, _, _, _, _, rfl, tyT, hd.ty, kit_tup K d, _, rfl, ?_⟩
    cases h0 : isT d with
    | false => exact iteT (k _ _ _ (.form h0) (.str _) (Same.refl H))
    | true =>
    obtain ⟨a, xs, l, rfl, rfl, ha, hs⟩ := hd.tuple h0
    have lx := hs.length
    have l1 := ln l rfl
    refine iteF ?_
    refine ⟨_, rfl, a, xs, rfl, SqT.of ha, for_it walk_enumT (fun t σ H' => ∃ v3 v4 : Option V, σ = [some m, some (.ref a), v3, v4] ∧ Same H H' ∧ ∀ (i' : Nat) (y : PyData), i' < t → l[i']? = some y → derr ss ws y = .none)
      ⟨none, none, rfl, Same.refl H, fun _ _ z => absurd z (Nat.not_lt_zero _)⟩ (fun t σ H' _ ⟨_, _, _, z, _⟩ => SqT.of (z _ _ ha)) ?_ ?_⟩
    · rintro t x σ H2 H3 ht ⟨v3, v4, rfl, sm, al⟩ ⟨T1, x1, x2, rfl, nT, rfl, e1, e2⟩
      cases e1
      obtain ⟨dx, hdx, dgx⟩ := hs.get e2
      have s4 : Same H (upd H2 T1 (.tup [.int (t : Nat), x2])) := Same.new sm nT
      refine ⟨T1, _, rfl, SqT.of upd_same, rfl, _, _, rfl, _, _, rfl, rfl, ?_⟩
      generalize upd H2 T1 (.tup [.int (t : Nat), x2]) = H4 at *
      refine ⟨_, rfl, _, rfl, m, x2, ss, ws, dx, N, rfl, Same.k s4 im, ok, dgx.s s4, trivial, fun u e H5 ee iu s5 => ⟨rfl, _, rfl, ?_⟩⟩
      subst ee
      have nn := derr_non iu
      by_cases e0 : derr ss ws dx = .none
      · rw [nn.mpr e0]
        refine iteF ⟨_, _, rfl, s4.trans s5, fun i' y hi hy => ?_⟩
        by_cases z : i' < t
        · exact al i' y z hy
        · have : i' = t := by omega
          subst this
          rw [hdx] at hy
          cases hy
          exact e0
      · rw [show decide (u = V.non) = false from Bool.eq_false_iff.mpr fun z => e0 (nn.mp z)]
        refine iteT ⟨_, rfl, by show 2 ≤ sizeLine; decide, fun t9 nt9 => ?_⟩
        exact k _ _ _ (.deed hdx al e0) (.tup upd_same (.cons (.str _) (.cons (.int _) .nil))) (Same.new (s4.trans s5) nt9)
    · rintro σ H2 ⟨v3, v4, rfl, sm, al⟩
      exact k _ _ _ (.none fun i y e => al i y (by have := (List.getElem?_eq_some_iff.mp e).1; omega) e) .non sm

/-! ### k05: what is near a deed -/
def MenE (P : PyData → Prop) (N : Addr → Prop) (H : Hp) (xs : List V) : Prop := ∀ v ∈ xs, ∃ d, De N H v d ∧ P d
theorem MenE.nil {P : PyData → Prop} {N : Addr → Prop} {H : Hp} : MenE P N H [] := fun v h => by cases h
theorem MenE.cons {P : PyData → Prop} {N : Addr → Prop} {H : Hp} {v : V} {xs : List V} {d : PyData} (h : De N H v d) (s : P d) (m : MenE P N H xs) : MenE P N H (v :: xs) := fun u hu => by
  rcases List.mem_cons.mp hu with rfl | hu
  · exact ⟨d, h, s⟩
  · exact m u hu
theorem MenE.append {P : PyData → Prop} {N : Addr → Prop} {H : Hp} {xs ys : List V} (a : MenE P N H xs) (b : MenE P N H ys) : MenE P N H (xs ++ ys) := fun u hu => by
  rcases List.mem_append.mp hu with hu | hu
  · exact a u hu
  · exact b u hu
theorem MenE.k {P : PyData → Prop} {N : Addr → Prop} {H H' : Hp} {xs : List V} (m : MenE P N H xs) (e : Ks N H H') : MenE P N H' xs := fun v hv => by
  obtain ⟨d, a, b⟩ := m v hv
  exact ⟨d, a.k e, b⟩
theorem MenE.new {P : PyData → Prop} {N : Addr → Prop} {H : Hp} {xs : List V} {c : Addr} {o : HO} (m : MenE P N H xs) (h : H c = none) : MenE P N (upd H c o) xs := m.k (Ks.same (Same.new (Same.refl H) h))
theorem menE_lit {P : PyData → Prop} {N : Addr → Prop} {H : Hp} {c c' : Addr} {zs : List V} (_ : (upd H c (.lst zs)) c' = none) (D : MenE P N (upd H c (.lst zs)) zs) : MenE P N (upd H c (.lst zs)) zs := D
theorem pickE {P : PyData → Prop} {p q o : Addr} {H0 H9 : Hp} {v : V} {xs ys : List V} (M : MenE P (Nq p q) H0 ys) (P0 : Pt H0 p q) (n : H0 o = none) (k9 : Kp p q (upd H0 o (.lst xs)) H9) (hv : v ∈ ys) : ∃ d, De (Nq p q) H9 v d ∧ P d :=
  ((M.new n).k (Ks.kq k9 (P0.new n))) v hv
theorem pickK {P : PyData → Prop} {p q o : Addr} {H0 H9 : Hp} {v : V} {xs : List V} (k9 : Kp p q (upd H0 o (.lst xs)) H9) (hv : v ∈ xs) (P0 : Pt H0 p q) (n : H0 o = none) (M : MenE P (Nq p q) H0 xs) : ∃ d, De (Nq p q) H9 v d ∧ P d :=
  ((M.new n).k (Ks.kq k9 (P0.new n))) v hv
def OddD (d : PyData) : Prop := okEG 40000 4 d = true ∧ ∀ l, d = .tuple l → l.length ≤ 10
def IntD (d : PyData) : Prop := ∃ n : Int, d = .int n ∧ n.natAbs ≤ 10 ^ 62
theorem odd_tup {l : List PyData} (n : l.length ≤ 5) (h : ∀ x ∈ l, okEG 7000 3 x = true) : OddD (.tuple l) := ⟨okEG_tup h (by omega) (by decide), fun l' e => by cases e; omega⟩
theorem ok_i {n : Int} (h : n.natAbs ≤ 10 ^ 62) : okEG 7000 3 (.int n) = true := okEG_mono (okEG_int h) (by decide) (by decide)
theorem mem3E {f : PyData → Bool} {a b c : PyData} (h1 : f a = true) (h2 : f b = true) (h3 : f c = true) : ∀ x ∈ [a, b, c], f x = true := fun x hx => by
  rcases List.mem_cons.mp hx with rfl | hx
  · exact h1
  rcases List.mem_cons.mp hx with rfl | hx
  · exact h2
  · rw [List.mem_singleton.mp hx]
    exact h3
theorem odd3 {a b c : PyData} (h1 : okEG 7000 3 a = true) (h2 : okEG 7000 3 b = true) (h3 : okEG 7000 3 c = true) : OddD (.tuple [a, b, c]) := odd_tup (by show 3 ≤ 5; decide) (mem3E h1 h2 h3)
theorem memE2 {f : PyData → Bool} {a b : PyData} (h1 : f a = true) (h2 : f b = true) : ∀ x ∈ [a, b], f x = true := fun x hx => by
  rcases List.mem_cons.mp hx with rfl | hx
  · exact h1
  · rw [List.mem_singleton.mp hx]
    exact h2
theorem memE4 {f : PyData → Bool} {a b c d : PyData} (h1 : f a = true) (h2 : f b = true) (h3 : f c = true) (h4 : f d = true) : ∀ x ∈ [a, b, c, d], f x = true := fun x hx => by
  rcases List.mem_cons.mp hx with rfl | hx
  · exact h1
  · exact mem3E h2 h3 h4 x hx
theorem ok_t1 {n : Int} (h : n.natAbs ≤ 10 ^ 62) : okEG 7000 3 (.tuple [.int n]) = true := okEG_tup (c := 1921) (dp := 0) (fun x hx => by rw [List.mem_singleton.mp hx]; exact okEG_int h) (by show (1921 + 2) * 1 + 3 ≤ 7000; decide) (by decide)
theorem ok_l1 {n : Int} (h : n.natAbs ≤ 10 ^ 62) : okEG 7000 3 (.list [.int n]) = true := okEG_lst (c := 1921) (dp := 0) (fun x hx => by rw [List.mem_singleton.mp hx]; exact okEG_int h) (by show (1921 + 2) * 1 + 3 ≤ 7000; decide) (by decide)
theorem ok_t2 {n m : Int} (h : n.natAbs ≤ 10 ^ 62) (h2 : m.natAbs ≤ 10 ^ 62) : okEG 7000 3 (.tuple [.int n, .int m]) = true := okEG_tup (c := 1921) (dp := 0) (memE2 (okEG_int h) (okEG_int h2)) (by show (1921 + 2) * 2 + 3 ≤ 7000; decide) (by decide)
theorem ok_b (c : Bool) : okEG 7000 3 (.bool c) = true := by cases c <;> decide +kernel
theorem str_small (j : Nat) {n : Nat} (h : j < n) (n6 : n ≤ 6) : okEG 7000 3 (.str (Str.ofString (toString (j : Int)))) = true := by
  have a : ∀ k < 6, okEG 7000 3 (.str (Str.ofString (toString ((k : Nat) : Int)))) = true := by decide +kernel
  exact a j (by omega)
theorem menE_lit2 {P : PyData → Prop} {p q o : Addr} {N : Addr → Prop} {H H9 : Hp} {zs : List V} (k : Kp p q (upd H o (.lst zs)) H9) (P0 : Pt (upd H o (.lst zs)) p q) (D : MenE P (Nq p q) (upd H o (.lst zs)) zs) : MenE P (Nq p q) H9 zs := D.k (Ks.kq k P0)
theorem menE_lit3 {P : PyData → Prop} {N : Addr → Prop} {H : Hp} {c : Addr} (_ : H c = none) {zs : List V} (D : MenE P N H zs) : MenE P N H zs := D
theorem shareVc {c : Bool} {ta tb : TE} {σ : L2.St} {H : Hp} {Q : VK} {N : V → Hp → Prop} (h1 : c = true → (∀ u H', N u H' → Q u H') → ta σ H Q) (h2 : c = false → (∀ u H', N u H' → Q u H') → tb σ H Q) (rest : ∀ u H', N u H' → Q u H') : if c = true then ta σ H Q else tb σ H Q := by
  cases c with
  | true => exact iteT (h1 rfl rest)
  | false => exact iteF (h2 rfl rest)
def spOdd : Sp := fun vs H Q _ => ∃ (p q : Addr) (m : V) (ss : List Int) (ws : List (Nat × Nat)), vs = [.ref p, m] ∧ Pt H p q ∧ Im H m (mD ss ws) ∧ MOk ss ws ∧ ∀ (u : V) (d : PyData) (H' : Hp), De (Nq p q) H' u d → okEG 40000 4 d = true → (∀ l, d = .tuple l → l.length ≤ 10) → Pt H' p q → Kp p q H H' → Q u H'
abbrev sc_l_oddN : List Str := ["pot", "machine", "many", "j", "i", "c", "ask", "kind", "odd"]
theorem sc_l_odd : FnScope sc_l_oddN ["pot", "machine"] (defScope s_l_odd) := ⟨rfl, rfl, rfl, by decide +kernel, rfl, by decide +kernel, by decide +kernel⟩
theorem ok_odd {f : Addr} {fd : FuncData} (D : DefAt K mg "_law_odd" s_l_odd ["pot", "machine"] f fd) (T : Blt mg) (T_str : mg "str" = none) (c_l_dip : Cal P w K mg base 1 "_law_dip" spDip) (c_l_pick : Cal P w K mg base 2 "_law_pick" spPick) (c_l_step : Cal P w K mg base 2 "_law_step" spLStep) (c_l_deed : Cal P w K mg base 3 "_law_deed" spDeed) : Cal P w K mg base 4 "_law_odd" spOdd := by
  refine cal_of D sc_l_odd (fun vs H Q E h => ?_) (fun cdv A outer s H vs Q E hr h => ?_)
  · obtain ⟨p, q, m, ss, ws, rfl, _⟩ := h
    rfl
  · obtain ⟨p, q, m, ss, ws, rfl, hP, im, ok, k⟩ := h
    refine ⟨_, (pss_cons (ps_set (i := 2) sc_l_odd.nd rfl (.inl rfl) (pe_callB (call_lenK K rfl) (by rfl) T.len PySem.boot_len (pa_cons (pe_ix (ix_tupK K rfl) (pv 1) pe_int (fun _ _ => rfl)) pa_nil)))
      (pss_cons (ps_asg (pe_ifExp (pt_cmpR (op_neDK K rfl hr.units) (pe_ix (ix_tupK K rfl) (pv 1) pe_int (fun _ _ => rfl)) (pe_tup pa_nil) (nomark _)) (pe_c c_l_deed hr (by decide) rfl (pa_cons (pv 0) (pa_cons (pv 1) pa_nil))) (pe_tup (pa_cons pe_int (pa_cons (pe_op op_sub (pv 2) pe_int) (pa_cons pe_int pa_nil))))) (pg_tup rfl (pgs_cons (pg_name (i := 3) sc_l_odd.nd rfl (.inl rfl)) (pgs_cons (pg_name (i := 4) sc_l_odd.nd rfl (.inl rfl)) (pgs_cons (pg_name (i := 5) sc_l_odd.nd rfl (.inl rfl)) pgs_nil)))))
      (pss_cons (ps_set (i := 6) sc_l_odd.nd rfl (.inl rfl) (pe_ifExp (pt_cmpR op_ne (pv 4) (pv 3) (nomark _)) (pe_c c_l_step hr (by decide) rfl (pa_cons (pe_ix (ix_tupK K rfl) (pv 1) pe_int (fun _ _ => rfl)) (pa_cons (pv 3) (pa_cons (pv 4) pa_nil)))) pe_int))
      (pss_cons (ps_set (i := 7) sc_l_odd.nd rfl (.inl rfl) (pe_c c_l_dip hr (by decide) rfl (pa_cons (pv 0) (pa_cons pe_int pa_nil))))
      (pss_cons (ps_if (pt_cmpR op_lt (pv 7) pe_int (nomark _)) (pss_cons (ps_set (i := 8) sc_l_odd.nd rfl (.inl rfl) (pe_lst (pa_cons (pe_op op_add (pv 5) pe_int) (pa_cons (pe_op op_sub (pv 5) pe_int) (pa_cons (pv 6) (pa_cons (pe_un un_neg (pv 6)) (pa_cons (pe_op op_add (pv 6) pe_int) (pa_cons (pe_op op_pow pe_int pe_int) (pa_cons (pe_op op_add (pe_op op_pow pe_int pe_int) pe_int) (pa_cons (pe_op op_sub (pe_un un_neg (pe_op op_pow pe_int pe_int)) pe_int) (pa_cons (pe_op op_fdivW (pv 6) pe_int) pa_nil)))))))))))
      (pss_one (ps_ret (pe_tup (pa_cons (pv 3) (pa_cons (pv 4) (pa_cons (pe_c c_l_pick hr (by decide) rfl (pa_cons (pv 0) (pa_cons (pv 8) pa_nil))) pa_nil))))))) pss_nil)
      (pss_cons (ps_if (pt_cmpR op_eq (pv 7) pe_int (nomark _)) (pss_cons (ps_set (i := 8) sc_l_odd.nd rfl (.inl rfl) (pe_lst (pa_cons (pe_tup (pa_cons (pv 4) (pa_cons (pv 3) (pa_cons (pv 5) pa_nil)))) (pa_cons (pe_tup (pa_cons (pv 3) (pa_cons (pv 3) (pa_cons (pv 5) pa_nil)))) (pa_cons (pe_tup (pa_cons (pv 2) (pa_cons (pv 4) (pa_cons (pv 5) pa_nil)))) (pa_cons (pe_tup (pa_cons (pv 3) (pa_cons (pe_un un_neg pe_int) (pa_cons (pv 5) pa_nil)))) (pa_cons (pe_tup (pa_cons (pv 3) (pa_cons (pv 4) (pa_cons pe_int pa_nil)))) (pa_cons (pe_tup (pa_cons (pv 4) (pa_cons (pv 3) (pa_cons pe_int pa_nil)))) pa_nil))))))))
      (pss_one (ps_ret (pe_c c_l_pick hr (by decide) rfl (pa_cons (pv 0) (pa_cons (pe_op op_cat (pv 8) (pe_lst (pa_cons (pe_tup (pa_cons (pe_c c_l_dip hr (by decide) rfl (pa_cons (pv 0) (pa_cons (pv 2) pa_nil))) (pa_cons (pv 4) (pa_cons (pv 6) pa_nil)))) pa_nil))) pa_nil)))))) pss_nil)
      (pss_cons (ps_if (pt_cmpR op_eq (pv 7) pe_int (nomark _)) (pss_cons (ps_set (i := 8) sc_l_odd.nd rfl (.inl rfl) (pe_lst (pa_cons (pe_tup (pa_cons (pv 3) (pa_cons (pv 4) (pa_cons pe_bl pa_nil)))) (pa_cons (pe_tup (pa_cons (pv 3) (pa_cons (pv 4) (pa_cons pe_bl pa_nil)))) (pa_cons (pe_tup (pa_cons (pe_cmpR op_eq (pv 3) pe_int (nomark _)) (pa_cons (pv 4) (pa_cons (pv 5) pa_nil)))) (pa_cons (pe_tup (pa_cons (pv 3) (pa_cons (pe_cmpR op_eq (pv 4) pe_int (nomark _)) (pa_cons (pv 5) pa_nil)))) (pa_cons (pe_tup (pa_cons (pv 3) (pa_cons (pv 4) (pa_cons pe_non pa_nil)))) pa_nil)))))))
      (pss_one (ps_ret (pe_c c_l_pick hr (by decide) rfl (pa_cons (pv 0) (pa_cons (pe_op op_cat (pv 8) (pe_lst (pa_cons (pe_tup (pa_cons (pe_callTy call_str_int (by rfl) T_str (by decide +kernel) (pa_cons (pv 3) pa_nil)) (pa_cons (pv 4) (pa_cons (pv 5) pa_nil)))) pa_nil))) pa_nil)))))) pss_nil)
      (pss_cons (ps_if (pt_cmpR op_eq (pv 7) pe_int (nomark _)) (pss_cons (ps_set (i := 8) sc_l_odd.nd rfl (.inl rfl) (pe_lst (pa_cons (pe_tup (pa_cons (pv 3) (pa_cons (pv 4) pa_nil))) (pa_cons (pe_tup (pa_cons (pv 3) (pa_cons (pv 4) (pa_cons (pv 5) (pa_cons (pv 5) pa_nil))))) (pa_cons (pe_lstN (pa_cons (pv 3) (pa_cons (pv 4) (pa_cons (pv 5) pa_nil)))) (pa_cons (pe_tup (pa_cons (pv 3) (pa_cons (pv 4) (pa_cons (pe_tup (pa_cons (pv 5) pa_nil)) pa_nil)))) (pa_cons (pe_tup (pa_cons (pv 3) (pa_cons (pv 4) (pa_cons (pe_lstN (pa_cons (pv 5) pa_nil)) pa_nil)))) (pa_cons (pe_tup (pa_cons (pe_tup (pa_cons (pv 3) (pa_cons (pv 4) pa_nil))) (pa_cons (pv 5) pa_nil))) (pa_cons pe_non (pa_cons (pv 5) (pa_cons pe_dnewK pa_nil)))))))))))
      (pss_one (ps_ret (pe_c c_l_pick hr (by decide) rfl (pa_cons (pv 0) (pa_cons (pe_op op_cat (pv 8) (pe_lst (pa_cons pe_str pa_nil))) pa_nil)))))) pss_nil)
      (pss_one (ps_ret (pe_tup (pa_cons (pv 3) (pa_cons (pv 4) (pa_cons (pe_op op_add (pe_op op_mulW (pv 6) (pe_op op_fdivW (pe_op op_pow pe_int pe_int) (pv 6))) (pe_c c_l_pick hr (by decide) rfl (pa_cons (pv 0) (pa_cons (pe_lst (pa_cons pe_int (pa_cons (pv 6) (pa_cons pe_int pa_nil)))) pa_nil)))) pa_nil)))))))))))))), ?_⟩
    obtain ⟨am, xm, rfl, ham, iam⟩ := id im.tuple
    obtain ⟨b0, g0, is0⟩ := iam.get (i := 0) rfl
    obtain ⟨cw, g1, iw⟩ := iam.get (i := 1) rfl
    obtain ⟨b, bs, rfl, hb, ib⟩ := id is0.tuple
    have ey := ib.ints
    subst ey
    have l6 := ok.six
    have l1 := ok.one
    refine ⟨_, rfl, am, _, 0, _, rfl, rfl, SqT.of ham, atI_nat (j := 0) g0, b, _, rfl, .inr (SqT.of hb), ?_⟩
    rw [List.length_map]
    refine ⟨_, rfl, am, _, 1, _, rfl, rfl, SqT.of ham, atI_nat (j := 1) g1, by show 0 ≤ sizeLine; decide, fun z nz => ⟨.tuple (ws.map wD), .tuple [], (iw.k ((Tk.refl H).new (o := .tup []) nz)).dp, .tup (SqT.of upd_same) .nil, shaped_wiresJ ws, rfl, _, rfl, ?_⟩⟩
    have eqT : PyData.eqv (.tuple (ws.map wD)) (.tuple []) = ws.isEmpty := by cases ws with | nil => rfl | cons _ _ => rfl
    rw [eqT]
    have Pz := hP.new (o := .tup []) nz
    have imz := im.k ((Tk.refl H).new (o := .tup []) nz)
    have kz : Kp p q H (upd H z (.tup [])) := (Kp.refl p q H).new nz
    generalize upd H z (.tup []) = Hz at *
    refine shareVc (H := Hz) (N := fun u H' => ∃ (t : Addr) (j i : Nat) (c : Int), u = .ref t ∧ H' t = some (.tup [.int (j : Int), .int (i : Int), .int c]) ∧ j < ss.length ∧ i < ss.length ∧ c.natAbs ≤ 10 ^ 60 ∧ Pt H' p q ∧ Kp p q H H') (fun hc r => ?_) (fun hc r => ?_) ?_
    · have ne : ws ≠ [] := fun e => by rw [e] at hc; cases hc
      refine ⟨_, rfl, _, rfl, p, q, _, ss, ws, rfl, Pz, imz, ok, ne, fun u d H' iu dk P' k' => r _ _ ?_⟩
      obtain ⟨t, us, rfl, ht, it⟩ := iu.tuple
      have ew : us = [.int (d.1 : Int), .int (d.2.1 : Int), .int d.2.2] := by
        match us, it with
        | _, .cons (.int _) (.cons (.int _) (.cons (.int _) .nil)) => rfl
      subst ew
      obtain ⟨w1, w2, _⟩ := ok.wires.low _ dk.wire
      exact ⟨t, d.1, d.2.1, d.2.2, rfl, ht, w1, w2, dk.most, P', kz.trans k'⟩
    · refine ⟨_, rfl, _, _, rfl, rfl, by show 3 ≤ sizeLine; decide, fun t nt => r _ _ ⟨t, 0, ss.length - 1, 1, rfl, ?_, by omega, by omega, by decide, Pz.new nt, kz.new nt⟩⟩
      rw [upd_same, show ((ss.length - 1 : Nat) : Int) = (ss.length : Int) - 1 by omega]
      rfl
    rintro u H1 ⟨t, j, i, c, rfl, ht, jj, ii, cm, P1, k1⟩
    refine ⟨t, _, rfl, SqT.of ht, rfl, _, _, rfl, _, _, rfl, _, _, rfl, rfl, ?_⟩
    have tk1 := k1.tk hP
    have ham1 := tk1 _ _ ham
    have is1 := is0.k tk1
    obtain ⟨xj, ej, x2, x3, xn⟩ := sz_nat ok.size jj
    obtain ⟨yi, ei, y2, y3, yn⟩ := sz_nat ok.size ii
    refine ⟨_, rfl, _, rfl, rfl, _, rfl, ?_⟩
    refine shareVc (H := H1) (N := fun u H' => H' = H1 ∧ ∃ st : Nat, u = .int (st : Int) ∧ 1 ≤ st ∧ st ≤ 10 ^ 30) (fun _ r => ?_) (fun _ r => r _ _ ⟨rfl, 1, rfl, by decide, by decide⟩) ?_
    · refine ⟨_, rfl, am, _, 0, _, rfl, rfl, SqT.of ham1, atI_nat (j := 0) g0, _, rfl, _, rfl, _, ss, j, i, xj, yi, rfl, is1, ej, ei, by omega, Nat.lt_of_le_of_lt y3 (by decide), r _ _ ⟨rfl, stp xj yi, rfl, ?_⟩⟩
      obtain ⟨s1, s2⟩ := stp_le (a := xj) (b := yi) (by omega)
      exact ⟨s1, Nat.le_trans s2 y3⟩
    rintro u H' ⟨rfl, st, rfl, st1, st2⟩
    refine ⟨_, rfl, p, q, _, rfl, P1, by decide, by decide, fun kd H2 _ _ P2 k2 => ?_⟩
    have k12 := k1.trans k2
    clear ht ham1 is1 tk1 k1 k2 P1
    refine ⟨_, rfl, _, _, rfl, rfl, _, rfl, ?_⟩
    refine ite2 (fun _ => ?_) (fun _ => ?_)
    · refine ⟨_, rfl, _, _, rfl, rfl, _, rfl, _, _, rfl, rfl, _, rfl, _, rfl, _, rfl, _, rfl, _, _, rfl, rfl, _, _, rfl, rfl, ⟨by decide, by decide, by decide⟩, _, _, rfl, rfl, ⟨by decide, by decide, by decide⟩, _, _, rfl, rfl, _, _, rfl, rfl, ⟨by decide, by decide, by decide⟩, _, rfl, _, _, rfl, rfl, _, rfl, _, _, rfl, rfl, wide_div (b := 10) (by decide) (by decide) (by decide) (by decide), by show 9 ≤ sizeLine; decide, fun o no => ?_⟩
      refine ⟨_, rfl, _, rfl, _, rfl, _, rfl, ?_⟩
      obtain ⟨q1, q2⟩ := P2.np no
      refine ⟨p, q, o, _, rfl, P2.new no, upd_same, q1, q2, List.cons_ne_nil _ _, by show 9 < 1000; decide, fun w H9 hw P9 k9 => ⟨by show 3 ≤ sizeLine; decide, fun t nt => ?_⟩⟩
      obtain ⟨x, dx, n, rfl, nb⟩ := pickK (P := IntD) k9 hw P2 no (.cons (d := .int _) (.int _) (⟨_, rfl, by omega⟩) (.cons (d := .int _) (.int _) (⟨_, rfl, by omega⟩) (.cons (d := .int _) (.int _) (⟨_, rfl, by omega⟩) (.cons (d := .int _) (.int _) (⟨_, rfl, by omega⟩) (.cons (d := .int _) (.int _) (⟨_, rfl, by omega⟩) (.cons (d := .int _) (.int _) (⟨_, rfl, by decide⟩) (.cons (d := .int _) (.int _) (⟨_, rfl, by decide⟩) (.cons (d := .int _) (.int _) (⟨_, rfl, by decide⟩) (.cons (d := .int _) (.int _) (⟨_, rfl, by omega⟩) .nil)))))))))
      have k29 : Kp p q H2 H9 := Kp.trans ((Kp.refl p q _).new no) k9
      obtain ⟨ob, oc⟩ := odd3 (ok_i (n := (j : Int)) (by omega)) (ok_i (n := (i : Int)) (by omega)) (ok_i nb)
      exact k _ _ _ (.tup upd_same (.cons (.int _) (.cons (.int _) (.cons (dx.s (Same.new (Same.refl H9) nt)) .nil)))) ob oc (P9.new nt) ((k12.trans k29).new nt)
    refine ⟨_, rfl, rfl, _, rfl, ?_⟩
    refine ite2 (fun _ => ?_) (fun _ => ?_)
    · refine ⟨_, rfl, _, rfl, _, rfl, by show 3 ≤ sizeLine; decide, fun t1 nt1 => ⟨_, rfl, _, rfl, _, rfl, by show 3 ≤ sizeLine; decide, fun t2 nt2 => ⟨_, rfl, _, rfl, _, rfl, by show 3 ≤ sizeLine; decide, fun t3 nt3 => ⟨_, rfl, _, rfl, _, rfl, by show 3 ≤ sizeLine; decide, fun t4 nt4 => ⟨_, rfl, _, rfl, by show 3 ≤ sizeLine; decide, fun t5 nt5 => ⟨_, rfl, _, rfl, by show 3 ≤ sizeLine; decide, fun t6 nt6 => ⟨by show 6 ≤ sizeLine; decide, fun o no => ?_⟩⟩⟩⟩⟩⟩⟩
      refine ⟨_, rfl, _, rfl, _, rfl, _, rfl, p, q, _, rfl, (((((((P2.new nt1).new nt2).new nt3).new nt4).new nt5).new nt6).new no), by omega, by omega, fun r H3 r0 r1 P3 k3 => ?_⟩
      have A := menE_lit2 (P := OddD) (N := Nq p q) k3 (((((((P2.new nt1).new nt2).new nt3).new nt4).new nt5).new nt6).new no) (.cons (d := .tuple [.int _, .int _, .int _]) (.tup (keepN (keepN (keepN (keepN (keepN (keepN upd_same nt2) nt3) nt4) nt5) nt6) no) (.cons (.int _) (.cons (.int _) (.cons (.int _) .nil)))) (odd3 (ok_i (by omega)) (ok_i (by omega)) (ok_i (by omega))) (.cons (d := .tuple [.int _, .int _, .int _]) (.tup (keepN (keepN (keepN (keepN (keepN upd_same nt3) nt4) nt5) nt6) no) (.cons (.int _) (.cons (.int _) (.cons (.int _) .nil)))) (odd3 (ok_i (by omega)) (ok_i (by omega)) (ok_i (by omega))) (.cons (d := .tuple [.int _, .int _, .int _]) (.tup (keepN (keepN (keepN (keepN upd_same nt4) nt5) nt6) no) (.cons (.int _) (.cons (.int _) (.cons (.int _) .nil)))) (odd3 (ok_i (by omega)) (ok_i (by omega)) (ok_i (by omega))) (.cons (d := .tuple [.int _, .int _, .int _]) (.tup (keepN (keepN (keepN upd_same nt5) nt6) no) (.cons (.int _) (.cons (.int _) (.cons (.int _) .nil)))) (odd3 (ok_i (by omega)) (ok_i (by omega)) (ok_i (by omega))) (.cons (d := .tuple [.int _, .int _, .int _]) (.tup (keepN (keepN upd_same nt6) no) (.cons (.int _) (.cons (.int _) (.cons (.int _) .nil)))) (odd3 (ok_i (by omega)) (ok_i (by omega)) (ok_i (by omega))) (.cons (d := .tuple [.int _, .int _, .int _]) (.tup (keepN upd_same no) (.cons (.int _) (.cons (.int _) (.cons (.int _) .nil)))) (odd3 (ok_i (by omega)) (ok_i (by omega)) (ok_i (by omega))) .nil))))))
      obtain ⟨q1, q2⟩ := Pt.np (p := p) (q := q) (h := no) (by exact ((((((P2.new nt1).new nt2).new nt3).new nt4).new nt5).new nt6))
      have ho := k3 o _ q1 q2 upd_same
      refine ⟨_, rfl, _, rfl, by show 3 ≤ sizeLine; decide, fun t7 nt7 => ⟨by show 1 ≤ sizeLine; decide, fun o2 no2 => ⟨o, o2, _, _, rfl, rfl, keepN (keepN ho nt7) no2, upd_same, by show 6 + 1 ≤ sizeLine; decide, fun o3 no3 => ?_⟩⟩⟩
      obtain ⟨q3, q4⟩ := Pt.np (p := p) (q := q) (h := no3) (by exact (P3.new nt7).new no2)
      refine ⟨p, q, o3, _, rfl, ((P3.new nt7).new no2).new no3, upd_same, q3, q4, List.cons_ne_nil _ _, by show 7 < 1000; decide, fun w H9 hw P9 k9 => ?_⟩
      obtain ⟨x, dx, ob, oc⟩ := pickK (P := OddD) k9 hw ((P3.new nt7).new no2) no3 (MenE.append ((A.new nt7).new no2) (.cons (d := .tuple [.int _, .int _, .int _]) (.tup (keepN upd_same no2) (.cons (.int _) (.cons (.int _) (.cons (.int _) .nil)))) (odd3 (ok_i (by omega)) (ok_i (by omega)) (ok_i (by omega))) .nil))
      exact k _ x _ dx ob oc P9 (k12.trans (Kp.trans (Kp.trans ((((((((Kp.refl p q _).new nt1).new nt2).new nt3).new nt4).new nt5).new nt6).new no) (Kp.trans k3 (((Kp.refl p q _).new nt7).new no2 |>.new no3))) k9))
    refine ⟨_, rfl, rfl, _, rfl, ?_⟩
    refine ite2 (fun _ => ?_) (fun _ => ?_)
    · refine ⟨_, rfl, _, rfl, by show 3 ≤ sizeLine; decide, fun t1 nt1 => ⟨_, rfl, _, rfl, by show 3 ≤ sizeLine; decide, fun t2 nt2 => ⟨_, rfl, rfl, _, rfl, _, rfl, by show 3 ≤ sizeLine; decide, fun t3 nt3 => ⟨_, rfl, _, rfl, rfl, _, rfl, by show 3 ≤ sizeLine; decide, fun t4 nt4 => ⟨_, rfl, _, rfl, by show 3 ≤ sizeLine; decide, fun t5 nt5 => ⟨by show 5 ≤ sizeLine; decide, fun o no => ?_⟩⟩⟩⟩⟩⟩
      have A := menE_lit3 (P := OddD) (N := Nq p q) no (.cons (d := .tuple [.int _, .int _, .bool _]) (.tup (keepN (keepN (keepN (keepN upd_same nt2) nt3) nt4) nt5) (.cons (.int _) (.cons (.int _) (.cons (.bl _) .nil)))) (odd3 (ok_i (by omega)) (ok_i (by omega)) (by decide +kernel)) (.cons (d := .tuple [.int _, .int _, .bool _]) (.tup (keepN (keepN (keepN upd_same nt3) nt4) nt5) (.cons (.int _) (.cons (.int _) (.cons (.bl _) .nil)))) (odd3 (ok_i (by omega)) (ok_i (by omega)) (by decide +kernel)) (.cons (d := .tuple [.bool _, .int _, .int _]) (.tup (keepN (keepN upd_same nt4) nt5) (.cons (.bl _) (.cons (.int _) (.cons (.int _) .nil)))) (odd3 (ok_b _) (ok_i (by omega)) (ok_i (by omega))) (.cons (d := .tuple [.int _, .bool _, .int _]) (.tup (keepN upd_same nt5) (.cons (.int _) (.cons (.bl _) (.cons (.int _) .nil)))) (odd3 (ok_i (by omega)) (ok_b _) (ok_i (by omega))) (.cons (d := .tuple [.int _, .int _, .none]) (.tup upd_same (.cons (.int _) (.cons (.int _) (.cons (.non) .nil)))) (odd3 (ok_i (by omega)) (ok_i (by omega)) (by decide +kernel)) .nil)))))
      refine ⟨_, rfl, _, rfl, _, rfl, _, rfl, small_log (Nat.lt_of_le_of_lt (show (j : Int).natAbs ≤ 10 by omega) (by decide)), _, rfl, _, rfl, by show 3 ≤ sizeLine; decide, fun t7 nt7 => ⟨by show 1 ≤ sizeLine; decide, fun o2 no2 => ⟨o, o2, _, _, rfl, rfl, keepN (keepN upd_same nt7) no2, upd_same, by show 5 + 1 ≤ sizeLine; decide, fun o3 no3 => ?_⟩⟩⟩
      obtain ⟨q3, q4⟩ := Pt.np (p := p) (q := q) (h := no3) (by exact (((((((P2.new nt1).new nt2).new nt3).new nt4).new nt5).new no).new nt7).new no2)
      refine ⟨p, q, o3, _, rfl, ((((((((P2.new nt1).new nt2).new nt3).new nt4).new nt5).new no).new nt7).new no2).new no3, upd_same, q3, q4, List.cons_ne_nil _ _, by show 6 < 1000; decide, fun w H9 hw P9 k9 => ?_⟩
      obtain ⟨x, dx, ob, oc⟩ := pickK (P := OddD) k9 hw ((((((((P2.new nt1).new nt2).new nt3).new nt4).new nt5).new no).new nt7).new no2) no3 (MenE.append (((A.new no).new nt7).new no2) (.cons (d := .tuple [.str _, .int _, .int _]) (.tup (keepN upd_same no2) (.cons (.str _) (.cons (.int _) (.cons (.int _) .nil)))) (odd3 (str_small j jj l6) (ok_i (by omega)) (ok_i (by omega))) .nil))
      exact k _ x _ dx ob oc P9 (k12.trans (Kp.trans ((((((((((Kp.refl p q _).new nt1).new nt2).new nt3).new nt4).new nt5).new no).new nt7).new no2).new no3) k9))
    refine ⟨_, rfl, rfl, _, rfl, ?_⟩
    refine ite2 (fun _ => ?_) (fun _ => ?_)
    · refine ⟨_, rfl, _, rfl, by show 2 ≤ sizeLine; decide, fun t1 nt1 => ⟨_, rfl, _, rfl, _, rfl, _, rfl, by show 4 ≤ sizeLine; decide, fun t2 nt2 => ⟨_, rfl, _, rfl, _, rfl, by show 3 ≤ sizeLine; decide, fun l3 nl3 ns3 => ⟨_, rfl, _, rfl, _, rfl, by show 1 ≤ sizeLine; decide, fun t4 nt4 => ⟨by show 3 ≤ sizeLine; decide, fun t5 nt5 => ⟨_, rfl, _, rfl, _, rfl, by show 1 ≤ sizeLine; decide, fun l6 nl6 ns6 => ⟨by show 3 ≤ sizeLine; decide, fun t7 nt7 => ⟨_, rfl, _, rfl, by show 2 ≤ sizeLine; decide, fun t8 nt8 => ⟨_, rfl, by show 2 ≤ sizeLine; decide, fun t9 nt9 => ⟨_, rfl, fun dk ndk => ⟨by show 9 ≤ sizeLine; decide, fun o no => ?_⟩⟩⟩⟩⟩⟩⟩⟩⟩⟩⟩
      have np3 : Nq p q l3 := let z := Pt.np (p := p) (q := q) (h := nl3) (by exact (P2.new nt1).new nt2); ⟨z.1, z.2, ns3⟩
      have np6 : Nq p q l6 := let z := Pt.np (p := p) (q := q) (h := nl6) (by exact ((((P2.new nt1).new nt2).new nl3).new nt4).new nt5); ⟨z.1, z.2, ns6⟩
      have A := menE_lit3 (P := OddD) (N := Nq p q) no (.cons (d := .tuple [.int _, .int _]) (.tup (keepN (keepN (keepN (keepN (keepN (keepN (keepN (keepN (keepN upd_same nt2) nl3) nt4) nt5) nl6) nt7) nt8) nt9) ndk) (.cons (.int _) (.cons (.int _) .nil))) (odd_tup (by show 2 ≤ 5; decide) (memE2 (ok_i (by omega)) (ok_i (by omega)))) (.cons (d := .tuple [.int _, .int _, .int _, .int _]) (.tup (keepN (keepN (keepN (keepN (keepN (keepN (keepN (keepN upd_same nl3) nt4) nt5) nl6) nt7) nt8) nt9) ndk) (.cons (.int _) (.cons (.int _) (.cons (.int _) (.cons (.int _) .nil))))) (odd_tup (by show 4 ≤ 5; decide) (memE4 (ok_i (by omega)) (ok_i (by omega)) (ok_i (by omega)) (ok_i (by omega)))) (.cons (d := .list [.int _, .int _, .int _]) (.lst np3 (keepN (keepN (keepN (keepN (keepN (keepN (keepN upd_same nt4) nt5) nl6) nt7) nt8) nt9) ndk) (.cons (.int _) (.cons (.int _) (.cons (.int _) .nil)))) (⟨okEG_lst (mem3E (ok_i (by omega)) (ok_i (by omega)) (ok_i (by omega))) (by show (7000 + 2) * 3 + 3 ≤ 40000; decide) (by decide), fun l e => by cases e⟩) (.cons (d := .tuple [.int _, .int _, .tuple [.int _]]) (.tup (keepN (keepN (keepN (keepN (keepN upd_same nl6) nt7) nt8) nt9) ndk) (.cons (.int _) (.cons (.int _) (.cons (.tup (keepN (keepN (keepN (keepN (keepN (keepN upd_same nt5) nl6) nt7) nt8) nt9) ndk) (.cons (.int _) .nil)) .nil)))) (odd3 (ok_i (by omega)) (ok_i (by omega)) (ok_t1 (by omega))) (.cons (d := .tuple [.int _, .int _, .list [.int _]]) (.tup (keepN (keepN (keepN upd_same nt8) nt9) ndk) (.cons (.int _) (.cons (.int _) (.cons (.lst np6 (keepN (keepN (keepN (keepN upd_same nt7) nt8) nt9) ndk) (.cons (.int _) .nil)) .nil)))) (odd3 (ok_i (by omega)) (ok_i (by omega)) (ok_l1 (by omega))) (.cons (d := .tuple [.tuple [.int _, .int _], .int _]) (.tup (keepN upd_same ndk) (.cons (.tup (keepN (keepN upd_same nt9) ndk) (.cons (.int _) (.cons (.int _) .nil))) (.cons (.int _) .nil))) (odd_tup (by show 2 ≤ 5; decide) (memE2 (ok_t2 (by omega) (by omega)) (ok_i (by omega)))) (.cons (d := .none) (.non) (⟨by decide +kernel, fun l e => by cases e⟩) (.cons (d := .int c) (.int c) (⟨okEG_mono (okEG_int (n := c) (by omega)) (by decide) (by decide), fun l e => by cases e⟩) (.cons (d := .dict []) (.dic upd_same) (⟨by decide +kernel, fun l e => by cases e⟩) .nil)))))))))
      refine ⟨_, rfl, _, rfl, by show 1 ≤ sizeLine; decide, fun o2 no2 => ⟨o, o2, _, _, rfl, rfl, keepN upd_same no2, upd_same, by show 9 + 1 ≤ sizeLine; decide, fun o3 no3 => ?_⟩⟩
      obtain ⟨q3, q4⟩ := Pt.np (p := p) (q := q) (h := no3) (by exact (((((((((((P2.new nt1).new nt2).new nl3).new nt4).new nt5).new nl6).new nt7).new nt8).new nt9).new ndk).new no).new no2)
      refine ⟨p, q, o3, _, rfl, ((((((((((((P2.new nt1).new nt2).new nl3).new nt4).new nt5).new nl6).new nt7).new nt8).new nt9).new ndk).new no).new no2).new no3, upd_same, q3, q4, List.cons_ne_nil _ _, by show 10 < 1000; decide, fun w H9 hw P9 k9 => ?_⟩
      obtain ⟨x, dx, ob, oc⟩ := pickK (P := OddD) k9 hw ((((((((((((P2.new nt1).new nt2).new nl3).new nt4).new nt5).new nl6).new nt7).new nt8).new nt9).new ndk).new no).new no2) no3 (MenE.append ((A.new no).new no2) (.cons (d := .str _) (.str _) (⟨by decide +kernel, fun l e => by cases e⟩) .nil))
      exact k _ x _ dx ob oc P9 (k12.trans (Kp.trans ((((((((((((((Kp.refl p q _).new nt1).new nt2).new nl3).new nt4).new nt5).new nl6).new nt7).new nt8).new nt9).new ndk).new no).new no2).new no3) k9))
    have x0 : 0 ≤ (st : Int) * (10 ^ 60 / (st : Int)) := Int.mul_nonneg (by omega) (Int.ediv_nonneg (by decide) (by omega))
    have x1 : (st : Int) * (10 ^ 60 / (st : Int)) ≤ 10 ^ 60 := Int.mul_ediv_self_le (by omega)
    have y0 : 0 ≤ (10 ^ 60 / (st : Int)) := Int.ediv_nonneg (by decide) (by omega)
    have y1 : (10 ^ 60 / (st : Int)) ≤ 10 ^ 60 := Int.ediv_le_self _ (by decide)
    refine ⟨_, rfl, _, rfl, _, rfl, _, _, rfl, rfl, ⟨by decide, by decide, by decide⟩, _, rfl, _, _, rfl, rfl, wide_div (b := 110) (by omega) (Nat.lt_of_le_of_lt (show (st : Int).natAbs ≤ 10 ^ 30 by omega) (by decide)) (by decide) (by decide), _, _, rfl, rfl, wide_mul (a := 110) (b := 210) (Nat.lt_of_le_of_lt (show (st : Int).natAbs ≤ 10 ^ 30 by omega) (by decide)) (Nat.lt_of_le_of_lt (show ((10 : Int) ^ (60 : Int).toNat / (st : Int)).natAbs ≤ 10 ^ 60 by show ((10 : Int) ^ 60 / (st : Int)).natAbs ≤ 10 ^ 60; omega) (by decide)) (by decide) (by decide) (by decide), _, rfl, _, rfl, by show 3 ≤ sizeLine; decide, fun o no => ?_⟩
    obtain ⟨q1, q2⟩ := P2.np no
    refine ⟨p, q, o, _, rfl, P2.new no, upd_same, q1, q2, List.cons_ne_nil _ _, by show 3 < 1000; decide, fun w H9 hw P9 k9 => ?_⟩
    obtain ⟨x, dx, n, rfl, nb⟩ := pickK (P := fun d => ∃ n : Int, d = .int n ∧ n.natAbs ≤ 10 ^ 30) k9 hw P2 no (.cons (d := .int _) (.int _) ⟨_, rfl, by decide⟩ (.cons (d := .int _) (.int _) ⟨_, rfl, by omega⟩ (.cons (d := .int _) (.int _) ⟨_, rfl, by decide⟩ .nil)))
    cases dx
    refine ⟨_, _, rfl, rfl, by show 3 ≤ sizeLine; decide, fun t nt => ?_⟩
    have k29 : Kp p q H2 H9 := Kp.trans ((Kp.refl p q _).new no) k9
    obtain ⟨ob, oc⟩ := odd3 (ok_i (n := (j : Int)) (by omega)) (ok_i (n := (i : Int)) (by omega)) (ok_i (n := (st : Int) * (10 ^ 60 / (st : Int)) + n) (by omega))
    exact k _ _ _ (.tup upd_same (.cons (.int _) (.cons (.int _) (.cons (.int _) .nil)))) ob oc (P9.new nt) ((k12.trans k29).new nt)

/-! ### k05: _law_is_right -/
theorem derr_mem (ss : List Int) (ws : List (Nat × Nat)) (d : PyData) : derr ss ws d ∈ [PyData.none, .str "form", .str "wire", .str "factor"] := by
  unfold derr
  split
  · split
    · split <;> simp
    · simp
  · simp
theorem derr_ok (ss : List Int) (ws : List (Nat × Nat)) (d : PyData) : okG 4000 1 (derr ss ws d) = true := by
  have a : ∀ e ∈ [PyData.none, .str "form", .str "wire", .str "factor"], okG 4000 1 e = true := by decide +kernel
  exact a _ (derr_mem ss ws d)
theorem perr_ok {ss : List Int} {ws : List (Nat × Nat)} {d e : PyData} (c : cP d) (h : Perr ss ws d e) : okG 4000 1 e = true := by
  cases h with
  | form _ => decide +kernel
  | none _ => decide +kernel
  | @deed l i x e1 b1 b2 =>
    have lt := (List.getElem?_eq_some_iff.mp e1).1
    have := c _ rfl
    refine okG_tup (c := 1921) (dp := 0) (fun y hy => ?_) (by show (1921 + 2) * 2 + 3 ≤ 4000; decide) (by decide)
    rcases List.mem_cons.mp hy with rfl | hy
    · decide +kernel
    · rw [List.mem_singleton.mp hy]
      exact okG_iff.mpr ⟨by simp only [okD]; exact decide_eq_true (small_log (Nat.lt_of_le_of_lt (show ((i : Nat) : Int).natAbs ≤ 2000 by omega) (by decide))), by simp only [cost]; decide, by simp only [PyData.depth]; decide⟩
theorem two_sh {a b : PyData} (h1 : okG 4000 1 a = true) (h2 : okG 4000 1 b = true) : Sh (.list [a, b]) := by
  have g : okG 9000 2 (.list [a, b]) = true := okG_lst (c := 4000) (dp := 1) (memE2 h1 h2) (by show (4000 + 2) * 2 + 3 ≤ 9000; decide) (by decide)
  obtain ⟨x, y, z⟩ := okG_iff.mp g
  exact ⟨x, by omega, by omega⟩
theorem qSB {c : Prop} [Decidable c] (hc : c) {Q : VK} {H : Hp} (h : Q (.bl true) H) : Q (.bl (decide c)) H := by
  rw [decide_eq_true hc]
  exact h
theorem ifS_any {tt : TT} {ta te tb : TS} {D : Ends} {σ : L2.St} {H : Hp} {N : L2.St → Hp → Prop} (h : (∀ σ' H', N σ' H' → tb D σ' H') → tSeq (tIfS tt ta te) tb D σ H) (rest : ∀ σ' H', N σ' H' → tb D σ' H') : tSeq (tIfS tt ta te) tb D σ H := h rest
def spRight5 : Sp := fun vs H Q _ => ∃ (m v : V) (nm : Bool) (ss : List Int) (ws : List (Nat × Nat)) (d : PyData) (N : Addr → Prop), vs = [m, v, .bl nm] ∧ Im H m (mD ss ws) ∧ MOk ss ws ∧ De N H v d ∧ (∀ a, N a → a ≠ sysModules) ∧ cD d ∧ cP d ∧ ShE (.list [mD ss ws, d]) ∧ ∀ H', Same H H' → Q (.bl true) H'
abbrev sc_l_is_rightN : List Str := ["machine", "value", "is_named", "kept", "due", "told"]
theorem sc_l_is_right : FnScope sc_l_is_rightN ["machine", "value", "is_named"] (defScope s_l_is_right) := ⟨rfl, rfl, rfl, by decide +kernel, rfl, by decide +kernel, by decide +kernel⟩
theorem ok_right {f : Addr} {fd : FuncData} (F : Fun K "_law_is_right" "_law_is_right" s_l_is_right f fd) (T : Blt mg) (c_l_due : Cal P w K mg base 3 "_law_due" (spJudge cD fun ss ws d e => e = derr ss ws d)) (c_l_due_program : Cal P w K mg base 4 "_law_due_program" (spJudge cP Perr))
    (c_deed_error : Cal P w K mg base 3 "deed_error" (spJudge cD fun ss ws d e => e = derr ss ws d)) (k_deed_error_vm : CalK P w K mg base 3 "deed_error" (spJudge cD fun ss ws d e => e = derr ss ws d) ["value", "machine"] kg21d) (c_program_error : Cal P w K mg base 4 "program_error" (spJudge cP Perr)) (k_program_error_vm : CalK P w K mg base 4 "program_error" (spJudge cP Perr) ["value", "machine"] kg21d) : GFn P w K mg base 5 f fd ["machine", "value", "is_named"] spRight5 := by
  refine gfn_of F sc_l_is_right (fun vs H Q E h => ?_) (fun cdv A outer s H vs Q E hcd0 hg hr h => ?_)
  · obtain ⟨m, v, nm, ss, ws, d, N, rfl, _⟩ := h
    rfl
  · obtain ⟨m, v, nm, ss, ws, d, N, rfl, im, ok, hd, hN, cd, cp, sh, k⟩ := h
    refine ⟨_, (pss_cons (ps_par (i := 3) (j := 4) rfl sc_l_is_right.nd rfl rfl (by decide) rfl rfl (pa_cons (pe_callB (call_reprE hg hr) (by rfl) T.repr boot_repr (pa_cons (pe_lstN (pa_cons (pv 0) (pa_cons (pv 1) pa_nil))) pa_nil)) (pa_cons (pe_callB (call_reprK K rfl hg hr) (by rfl) T.repr boot_repr (pa_cons (pe_lst (pa_cons (pe_c c_l_due hr (by decide) rfl (pa_cons (pv 0) (pa_cons (pv 1) pa_nil))) (pa_cons (pe_c c_l_due_program hr (by decide) rfl (pa_cons (pv 0) (pa_cons (pv 1) pa_nil))) pa_nil))) pa_nil)) pa_nil)) (by rfl))
      (pss_cons (ps_if (pt_val (pv 2)) (pss_one (ps_set (i := 5) sc_l_is_right.nd rfl (.inl rfl) (pe_lst (pa_cons (pe_ck k_deed_error_vm hr (by decide) rfl (pk_cons (pv 1) (pk_cons (pv 0) pk_nil))) (pa_cons (pe_ck k_program_error_vm hr (by decide) rfl (pk_cons (pv 1) (pk_cons (pv 0) pk_nil))) pa_nil))))) (pss_one (ps_set (i := 5) sc_l_is_right.nd rfl (.inl rfl) (pe_lst (pa_cons (pe_c c_deed_error hr (by decide) rfl (pa_cons (pv 0) (pa_cons (pv 1) pa_nil))) (pa_cons (pe_c c_program_error hr (by decide) rfl (pa_cons (pv 0) (pa_cons (pv 1) pa_nil))) pa_nil))))))
      (pss_one (ps_ret (pe_and (pe_cmpR op_eq (pe_callB (call_reprK K rfl hg hr) (by rfl) T.repr boot_repr (pa_cons (pv 5) pa_nil)) (pv 4) (nomark _)) (pe_one (pe_cmpR op_eq (pe_callB (call_reprE hg hr) (by rfl) T.repr boot_repr (pa_cons (pe_lstN (pa_cons (pv 0) (pa_cons (pv 1) pa_nil))) pa_nil)) (pv 3) (nomark _)))))))), ?_⟩
    refine ⟨_, rfl, _, rfl, by show 2 ≤ sizeLine; decide, fun l nl ns => ⟨l, _, [mD ss ws, d], N, rfl, ns, upd_same, .cons ((De.of_im im).s (Same.new (Same.refl H) nl)) (.cons (hd.s (Same.new (Same.refl H) nl)) .nil), hN, sh, ?_⟩⟩
    have s1 : Same H (upd H l (.lst [m, v])) := Same.new (Same.refl H) nl
    generalize upd H l (.lst [m, v]) = H1 at *
    refine ⟨_, rfl, _, rfl, m, v, ss, ws, d, N, rfl, Same.k s1 im, ok, hd.s s1, cd, fun u1 e1 H2 h1 iu1 s2 => ?_⟩
    subst h1
    have s02 := s1.trans s2
    refine ⟨_, rfl, _, rfl, m, v, ss, ws, d, N, rfl, Same.k s02 im, ok, hd.s s02, cp, fun u2 e2 H3 h2 iu2 s3 => ⟨by show 2 ≤ sizeLine; decide, fun l2 nl2 => ?_⟩⟩
    have s03 := s02.trans s3
    have s4 : Same H3 (upd H3 l2 (.lst [u1, u2])) := Same.new (Same.refl H3) nl2
    have sh2 := two_sh (derr_ok ss ws d) (perr_ok cp h2)
    refine ⟨_, _, rfl, .lst (SqL.of upd_same) (.cons (Same.k (s3.trans s4) iu1).dp (.cons (Same.k s4 iu2).dp .nil)), sh2, _, _, rfl, ?_⟩
    have s04 := s03.trans s4
    generalize upd H3 l2 (.lst [u1, u2]) = H4 at *
    dsimp only
    refine ifS_any (N := fun σ' H' => ∃ (l3 : Addr) (u3 u4 : V), σ' = [some m, some v, some (.bl nm), some (.str (PyData.list [mD ss ws, d]).shown), some (.str (PyData.list [derr ss ws d, e2]).shown), some (.ref l3)] ∧ Same H H' ∧ H' l3 = some (.lst [u3, u4]) ∧ Im H' u3 (derr ss ws d) ∧ Im H' u4 e2) (fun rest => ?_) ?_
    · refine ⟨_, rfl, _, rfl, ?_⟩
      cases nm with
      | true =>
        refine iteT ⟨_, rfl, _, rfl, m, v, ss, ws, d, N, rfl, Same.k s04 im, ok, hd.s s04, cd, fun u3 e3 H5 h3 iu3 s5 => ?_⟩
        subst h3
        have s05 := s04.trans s5
        refine ⟨_, rfl, _, rfl, m, v, ss, ws, d, N, rfl, Same.k s05 im, ok, hd.s s05, cp, fun u4 e4 H6 h4 iu4 s6 => ⟨by show 2 ≤ sizeLine; decide, fun l3 nl3 => ?_⟩⟩
        cases h2.det h4
        have s7 : Same H6 (upd H6 l3 (.lst [u3, u4])) := Same.new (Same.refl H6) nl3
        exact rest _ _ ⟨l3, u3, u4, rfl, (s05.trans s6).trans s7, upd_same, Same.k (s6.trans s7) iu3, Same.k s7 iu4⟩
      | false =>
        refine iteF ⟨_, rfl, _, rfl, m, v, ss, ws, d, N, rfl, Same.k s04 im, ok, hd.s s04, cd, fun u3 e3 H5 h3 iu3 s5 => ?_⟩
        subst h3
        have s05 := s04.trans s5
        refine ⟨_, rfl, _, rfl, m, v, ss, ws, d, N, rfl, Same.k s05 im, ok, hd.s s05, cp, fun u4 e4 H6 h4 iu4 s6 => ⟨by show 2 ≤ sizeLine; decide, fun l3 nl3 => ?_⟩⟩
        cases h2.det h4
        have s7 : Same H6 (upd H6 l3 (.lst [u3, u4])) := Same.new (Same.refl H6) nl3
        exact rest _ _ ⟨l3, u3, u4, rfl, (s05.trans s6).trans s7, upd_same, Same.k (s6.trans s7) iu3, Same.k s7 iu4⟩
    · rintro σ' H' ⟨l3, u3, u4, rfl, sm, hl3, i3, i4⟩
      refine ⟨_, rfl, _, _, rfl, .lst (SqL.of hl3) (.cons i3.dp (.cons i4.dp .nil)), sh2, _, rfl, rfl, _, rfl, iteSK rfl ?_⟩
      exact ⟨_, rfl, _, rfl, by show 2 ≤ sizeLine; decide, fun l9 nl9 ns9 => ⟨l9, _, [mD ss ws, d], N, rfl, ns9, upd_same, .cons ((De.of_im im).s (sm.trans (Same.new (Same.refl H') nl9))) (.cons (hd.s (sm.trans (Same.new (Same.refl H') nl9))) .nil), hN, sh, _, rfl, rfl, qSB rfl (k _ (sm.trans (Same.new (Same.refl H') nl9)))⟩⟩

/-! ### k05: law -/
theorem cat_anyB {K : PySem.W.Frag} {a b : Addr} {xs ys : List V} {H : Hp} {Q : VK} (h : H a = some (.tup xs)) (h2 : H b = some (.tup ys)) (l : xs.length + ys.length ≤ sizeLine) (k : ∀ c H', Same H H' → H' c = some (.tup (xs ++ ys)) → Q (.ref c) H') : rCatA K (.ref a) (.ref b) H Q :=
  ⟨a, b, xs, ys, rfl, rfl, SqT.of h, SqT.of h2, l, fun e => k b H (Same.refl H) (by rw [e, List.nil_append]; exact h2), fun _ e => k a H (Same.refl H) (by rw [e, List.append_nil]; exact h), fun _ _ p n => k p _ (Same.new (Same.refl H) n) upd_same⟩
theorem noPartB {σ : L2.St} {H : Hp} {Q : Option Int → Hp → Prop} (h : Q none H) : tNoPart σ H Q := h
theorem cutE {N : Addr → Prop} {H : Hp} {xs : List V} {ds : List PyData} (lo hi : Option Int) (h : DeAll N H xs ds) : ∃ es, DeAll N H (cutV xs lo hi) es ∧ es.length ≤ ds.length ∧ ∀ x ∈ es, x ∈ ds := by
  unfold cutV
  refine ⟨_, (h.drop _).take _, ?_, fun x hx => List.mem_of_mem_drop (List.mem_of_mem_take hx)⟩
  rw [List.length_take, List.length_drop]
  omega
mutual
theorem okE_of : ∀ d : PyData, okD d = true → okE d = true ∧ wtE d = NA.cost d
  | .none, _ => ⟨rfl, rfl⟩
  | .bool _, _ => ⟨rfl, rfl⟩
  | .int i, h => ⟨by simpa [okE, okD] using h, rfl⟩
  | .str x, h => ⟨by simpa [okE, okD] using h, rfl⟩
  | .list xs, h => by
    obtain ⟨a, b⟩ := okEAll_of xs (by simpa [okD] using h)
    exact ⟨by simpa [okE] using a, by simp only [wtE, NA.cost, b]⟩
  | .tuple xs, h => by
    obtain ⟨a, b⟩ := okEAll_of xs (by simpa [okD] using h)
    exact ⟨by simpa [okE] using a, by simp only [wtE, NA.cost, b]⟩
  | .dict _, h => by simp [okD] at h
theorem okEAll_of : ∀ xs : List PyData, okAll xs = true → okEAll xs = true ∧ wtEAll xs = costAll xs
  | [], _ => ⟨rfl, rfl⟩
  | x :: xs, h => by
    simp only [okAll, Bool.and_eq_true] at h
    obtain ⟨a, b⟩ := okE_of x h.1
    obtain ⟨c, e⟩ := okEAll_of xs h.2
    exact ⟨by simp only [okEAll, a, c, Bool.and_self], by simp only [wtEAll, costAll, b, e]⟩
end
theorem mach_E {ss : List Int} {ws : List (Nat × Nat)} (ok : MOk ss ws) : okEG 1000000 9 (mD ss ws) = true := by
  have l1 := ok.six
  have l2 := ok.wires.len l1
  obtain ⟨a, b⟩ := okE_of _ (Sh.mach ok).ok
  refine okEG_iff.mpr ⟨a, ?_, ?_⟩
  · rw [b]
    simp only [mD, sD, NA.cost, costAll, costAll_ints, costAll_wires]
    omega
  · have := depth_wires ws
    simp only [mD, sD, PyData.depth, PyData.depthAll, depth_ints]
    omega
/-- what may be judged -/
def LongD (c : Nat) (d : PyData) : Prop := okEG c 8 d = true ∧ ∀ l, d = .tuple l → l.length ≤ 400
theorem long_sh {ss : List Int} {ws : List (Nat × Nat)} (ok : MOk ss ws) {c : Nat} (hc : c ≤ 14000000) {d : PyData} (h : LongD c d) : ShE (.list [mD ss ws, d]) := by
  obtain ⟨a1, a2, a3⟩ := okEG_iff.mp (mach_E ok)
  obtain ⟨b1, b2, b3⟩ := okEG_iff.mp h.1
  refine ⟨by simp only [okE, okEAll, a1, b1, Bool.and_self], ?_, ?_⟩
  · simp only [wtE, wtEAll]
    omega
  · simp only [PyData.depth, PyData.depthAll]
    omega
theorem long_cP {c : Nat} {d : PyData} (h : LongD c d) : cP d := fun l e => Nat.le_trans (h.2 l e) (by decide)
/-- one item of a program, or near one -/
def ItemD (d : PyData) : Prop := okEG 40000 4 d = true ∧ ∀ l, d = .tuple l → l.length ≤ 10
theorem item_deed {ss : List Int} {ws : List (Nat × Nat)} (ok : MOk ss ws) {d : Nat × Nat × Int} (dk : DOk ss ws d) : ItemD (dD d) := by
  obtain ⟨w1, w2, _⟩ := ok.wires.low _ dk.wire
  have l6 := ok.six
  have m := dk.most
  exact odd3 (ok_i (by omega)) (ok_i (by omega)) (ok_i (by omega))
theorem item_long {d : PyData} (h : ItemD d) : LongD 700000 d := ⟨okEG_mono h.1 (by decide) (by decide), fun l e => Nat.le_trans (h.2 l e) (by decide)⟩
theorem rep_memB {α : Type} {x y : α} {n : Nat} (h : y ∈ (List.replicate n [x]).flatten) : y = x := by
  obtain ⟨l, hl, hy⟩ := List.mem_flatten.mp h
  rw [List.eq_of_mem_replicate hl] at hy
  exact List.mem_singleton.mp hy
theorem rep_lenB {α : Type} (x : α) : ∀ n : Nat, ((List.replicate n [x]).flatten).length = n
  | 0 => rfl
  | n + 1 => by rw [List.replicate_succ, List.flatten_cons, List.length_append, rep_lenB x n, List.length_singleton]; omega
theorem repE1 {N : Addr → Prop} {H : Hp} {v : V} {d : PyData} (h : De N H v d) : ∀ n : Nat, DeAll N H (List.replicate n [v]).flatten (List.replicate n [d]).flatten
  | 0 => .nil
  | n + 1 => by
    rw [List.replicate_succ, List.replicate_succ, List.flatten_cons, List.flatten_cons]
    exact .cons h (repE1 h n)
theorem long_tup {l : List PyData} (n : l.length ≤ 12) (h : ∀ x ∈ l, ItemD x) : okEG 500000 5 (.tuple l) = true ∧ okEG 500000 5 (.list l) = true :=
  ⟨okEG_tup (fun x hx => (h x hx).1) (by omega) (by decide), okEG_lst (fun x hx => (h x hx).1) (by omega) (by decide)⟩
def szVK (v : V) : Bool := okV v && (match v with | .int i => decide (2 ≤ i) | _ => false)
theorem szVK_of {v : V} (h : szVK v = true) : ∃ n : Int, v = .int n ∧ SizeOk n := by
  unfold szVK at h
  rw [Bool.and_eq_true] at h
  obtain ⟨m, rfl, m1, m2, m3⟩ := okV_of h.1
  have : 2 ≤ (m : Int) := of_decide_eq_true h.2
  exact ⟨m, rfl, m, rfl, by omega, m2, m3⟩
theorem sz_allK {ss : List Int} (h : (ss.map V.int).all szVK = true) : ∀ s ∈ ss, SizeOk s := fun s hs => by
  obtain ⟨n, e, ok⟩ := szVK_of (List.all_eq_true.mp h (.int s) (List.mem_map_of_mem hs))
  cases e
  exact ok
theorem map_repK {α β : Type} (f : α → β) (l : List α) : ∀ n : Nat, (List.replicate n (l.map f)).flatten = ((List.replicate n l).flatten).map f
  | 0 => rfl
  | n + 1 => by rw [List.replicate_succ, List.replicate_succ, List.flatten_cons, List.flatten_cons, List.map_append, map_repK f l n]
theorem mem_repK {α : Type} {l : List α} {x : α} : ∀ {n : Nat}, x ∈ (List.replicate n l).flatten → x ∈ l
  | 0, h => by cases h
  | n + 1, h => by
    rw [List.replicate_succ, List.flatten_cons] at h
    rcases List.mem_append.mp h with h | h
    · exact h
    · exact mem_repK h
theorem len_repK {α : Type} (l : List α) : ∀ n : Nat, ((List.replicate n l).flatten).length = n * l.length
  | 0 => by rw [Nat.zero_mul]; rfl
  | n + 1 => by rw [List.replicate_succ, List.flatten_cons, List.length_append, len_repK l n, Nat.succ_mul, Nat.add_comm]
theorem mok_a : MOk [8, 4] [(0, 1)] := by
  refine ⟨by decide, by decide, sz_allK (by decide +kernel), ⟨.cons (fun w hw => by cases hw) .nil, fun w hw => ?_⟩⟩
  rw [List.mem_singleton.mp hw]
  decide
theorem mok_b : MOk [8, 4, 10 ^ (30 : Int).toNat] [(0, 1), (1, 0), (1, 2), (2, 1)] := by
  refine ⟨by show 1 ≤ 3; decide, by show 3 ≤ 6; decide, sz_allK (by decide +kernel), ⟨?_, ?_⟩⟩
  · refine .cons (fun w hw => ?_) (.cons (fun w hw => ?_) (.cons (fun w hw => ?_) (.cons (fun w hw => by cases hw) .nil)))
    all_goals
      simp only [List.mem_cons, List.not_mem_nil, or_false] at hw
      rcases hw with rfl | rfl | rfl <;> simp [wlt]
  · intro w hw
    simp only [List.mem_cons, List.not_mem_nil, or_false] at hw
    rcases hw with rfl | rfl | rfl | rfl <;> exact ⟨by show _ < 3; decide, by show _ < 3; decide, by decide⟩
theorem nought_ok : derr [8, 4] [(0, 1)] (dD (0, 1, 0)) = .none := by
  show derr [8, 4] [(0, 1)] (.tuple [.int 0, .int 1, .int 0]) = .none
  simp only [derr]
  rw [if_pos (by decide +kernel), if_neg (by decide +kernel)]
theorem odd_bad : derr [8, 4] [(0, 1)] (.tuple [.int 1, .int 0, .int 0]) ≠ .none := by
  simp only [derr]
  rw [if_neg (by decide +kernel)]
  intro z
  cases z
theorem ImAll.repB {H : Hp} {vs : List V} {ds : List PyData} (h : ImAll H vs ds) : ∀ n : Nat, ImAll H (List.replicate n vs).flatten (List.replicate n ds).flatten
  | 0 => .nil
  | n + 1 => by
    rw [List.replicate_succ, List.replicate_succ, List.flatten_cons, List.flatten_cons]
    exact h.append (ImAll.repB h n)
theorem cut_last (xs : List V) : cutV xs none (some (-1)) = xs.take (xs.length - 1) := by
  have e : HT.sIx xs.length xs.length (some (-1)) = xs.length - 1 := by
    show (if (-1 : Int) < 0 then ((-1 : Int) + (xs.length : Int)).toNat else min (-1 : Int).toNat xs.length) = _
    rw [if_pos (by decide)]
    omega
  unfold cutV
  rw [HT.sIx_none, List.drop_zero, Nat.sub_zero, e]
theorem three_sh {a b c : PyData} (h1 : okG 4000 1 a = true) (h2 : okG 4000 1 b = true) (h3 : okG 4000 1 c = true) : Sh (.list [a, b, c]) := by
  have g : okG 13000 2 (.list [a, b, c]) = true := okG_lst (c := 4000) (dp := 1) (mem3E h1 h2 h3) (by show (4000 + 2) * 3 + 3 ≤ 13000; decide) (by decide)
  obtain ⟨x, y, z⟩ := okG_iff.mp g
  exact ⟨x, by omega, by omega⟩
theorem okG_i {n : Int} (h : n.natAbs ≤ 2000) : okG 1921 0 (.int n) = true := okG_iff.mpr ⟨by simp only [okD]; exact decide_eq_true (small_log (Nat.lt_of_le_of_lt h (by decide))), by simp only [cost]; decide, by simp only [PyData.depth]; decide⟩
theorem okG_d {n : Int} (h : n.natAbs ≤ 2000) : okG 4000 1 (.tuple [.str "deed", .int n]) = true := okG_tup (c := 1921) (dp := 0) (memE2 (by decide +kernel) (okG_i h)) (by show (1921 + 2) * 2 + 3 ≤ 4000; decide) (by decide)
theorem take_rep {α : Type} (x : α) (n : Nat) : (List.replicate (n + 1) x).take n = List.replicate n x := by
  rw [List.take_replicate]
  congr 1
  omega
theorem all_nought {n i : Nat} {y : PyData} (h : ((List.replicate n ((0, 1, 0) : Nat × Nat × Int)).map dD)[i]? = some y) : derr [8, 4] [(0, 1)] y = .none := by
  obtain ⟨x, hx, rfl⟩ := List.mem_map.mp (List.mem_of_getElem? h)
  rw [List.eq_of_mem_replicate hx]
  exact nought_ok
def spRead : Sp := fun vs H Q _ => ∃ (m : V) (n : Nat), vs = [m, .str (repS "0>1*0 " n ++ "0>1*0")] ∧ Im H m (mD [8, 4] [(0, 1)]) ∧ 1000 ≤ n ∧ n ≤ 1300 ∧ ∀ (u : V) (H' : Hp), Im H' u (pD (List.replicate (n + 1) (0, 1, 0))) → Same H H' → Q u H'
abbrev sc_lawN : List Str := ["script", "pot", "turn", "machine", "again", "deed", "listed", "spot", "longer", "value", "many", "told"]
theorem sc_law : FnScope sc_lawN ["script"] (defScope s_law) := ⟨rfl, rfl, rfl, by decide +kernel, rfl, by decide +kernel, by decide +kernel⟩
theorem ok_law {f : Addr} {fd : FuncData} (F : Fun K "law" "law" s_law f fd) (T : Blt mg) (c_l_pot : Cal P w K mg base 1 "_law_pot" (spPot K)) (c_l_dip : Cal P w K mg base 1 "_law_dip" spDip) (c_l_pick : Cal P w K mg base 2 "_law_pick" spPick) (c_l_machine : Cal P w K mg base 5 "_law_machine" spMachine) (c_l_deed : Cal P w K mg base 3 "_law_deed" spDeed) (c_l_program : Cal P w K mg base 4 "_law_program" spProgram)
    (c_l_odd : Cal P w K mg base 4 "_law_odd" spOdd) (c_l_is_right : GCal P w K mg base 5 "_law_is_right" spRight5) (c_program_error : Cal P w K mg base 4 "program_error" (spJudge cP Perr)) (c_read_program : Cal P w K mg base 5 "read_program" spRead) : GFn P w K mg base 6 f fd ["script"] (spLaw K) := by
  refine gfn_of F sc_law (fun vs H Q E h => ?_) (fun cdv A outer s H vs Q E hcd0 hg hr h => ?_)
  · obtain ⟨a, ns, rfl, _⟩ := h
    rfl
  · obtain ⟨sa, ns, rfl, hS, hlen, k⟩ := h
    refine ⟨_, (pss_cons (ps_set (i := 1) sc_law.nd rfl (.inr rfl) (pe_c c_l_pot hr (by decide) rfl (pa_cons (pv 0) pa_nil)))
      (pss_cons (ps_for PassesOwn.never rfl (pi_range1 (by rfl) T.range (pa_cons pe_int pa_nil)) (pg_name (i := 2) sc_law.nd rfl (.inl rfl)) (pss_cons (ps_set (i := 3) sc_law.nd rfl (.inr rfl) (pe_c c_l_machine hr (by decide) rfl (pa_cons (pv 1) (pa_cons (pe_cmpR op_eq (pe_op op_mod (pv 2) pe_int) pe_int (nomark _)) pa_nil))))
      (pss_one (ps_for PassesOwn.never rfl (pi_range1 (by rfl) T.range (pa_cons pe_int pa_nil)) (pg_name (i := 4) sc_law.nd rfl (.inl rfl)) (pss_cons (ps_set (i := 5) sc_law.nd rfl (.inl rfl) (pe_c c_l_odd hr (by decide) rfl (pa_cons (pv 1) (pa_cons (pv 3) pa_nil))))
      (pss_cons (ps_set (i := 6) sc_law.nd rfl (.inl rfl) (pe_c c_l_program hr (by decide) rfl (pa_cons (pv 1) (pa_cons (pv 3) (pa_cons pe_int pa_nil)))))
      (pss_cons (ps_set (i := 7) sc_law.nd rfl (.inl rfl) (pe_c c_l_dip hr (by decide) rfl (pa_cons (pv 1) (pa_cons (pe_op op_add (pe_callB (call_lenK K rfl) (by rfl) T.len PySem.boot_len (pa_cons (pv 6) pa_nil)) pe_int) pa_nil))))
      (pss_cons (ps_set (i := 8) sc_law.nd rfl (.inl rfl) (pe_op op_catA (pe_op op_catA (pe_op op_catA (pe_slice sl_tupA (pv 6) po_none (po_some (pv 7))) (pe_tup (pa_cons (pv 5) pa_nil))) (pe_slice sl_tupA (pv 6) (po_some (pv 7)) po_none)) (pe_op (op_repZ K rfl) (pe_tup (pa_cons (pe_c c_l_odd hr (by decide) rfl (pa_cons (pv 1) (pa_cons (pv 3) pa_nil))) pa_nil)) (pe_c c_l_dip hr (by decide) rfl (pa_cons (pv 1) (pa_cons pe_int pa_nil))))))
      (pss_cons (ps_set (i := 9) sc_law.nd rfl (.inl rfl) (pe_c c_l_pick hr (by decide) rfl (pa_cons (pv 1) (pa_cons (pe_lst (pa_cons (pv 5) (pa_cons (pv 8) (pa_cons (pv 8) (pa_cons (pv 6) (pa_cons (pe_callTy (call_listN K rfl) (by rfl) T.list (by decide +kernel) (pa_cons (pv 8) pa_nil)) (pa_cons (pe_tup (pa_cons (pv 8) pa_nil)) (pa_cons pe_dnewK (pa_cons pe_non (pa_cons pe_bl (pa_cons pe_str (pa_cons (pe_tup pa_nil) pa_nil)))))))))))) pa_nil))))
      (pss_one (ps_if (PW.pt (pw_or (pt_not (pt_val (pe_g c_l_is_right hg hr (by decide) rfl (pa_cons (pv 3) (pa_cons (pv 5) (pa_cons (pe_cmpR op_eq (pv 4) pe_int (nomark _)) pa_nil)))))) (pw_or1 (pt_not (pt_val (pe_g c_l_is_right hg hr (by decide) rfl (pa_cons (pv 3) (pa_cons (pv 9) (pa_cons (pe_cmpR op_eq (pv 4) pe_int (nomark _)) pa_nil))))))))) (pss_one (ps_ret pe_bl)) pss_nil)))))))))))
      (pss_cons (ps_if (pt_cmpR op_eq (pe_c c_l_dip hr (by decide) rfl (pa_cons (pv 1) (pa_cons pe_int pa_nil))) pe_int (nomark _)) (pss_cons (ps_asg (pe_tup (pa_cons (pe_tup (pa_cons (pe_tup (pa_cons pe_int (pa_cons pe_int pa_nil))) (pa_cons (pe_tup (pa_cons (pe_tup (pa_cons pe_int (pa_cons pe_int pa_nil))) pa_nil)) pa_nil))) (pa_cons (pe_op op_add pe_int (pe_c c_l_dip hr (by decide) rfl (pa_cons (pv 1) (pa_cons pe_int pa_nil)))) pa_nil))) (pg_tup rfl (pgs_cons (pg_name (i := 3) sc_law.nd rfl (.inr rfl)) (pgs_cons (pg_name (i := 10) sc_law.nd rfl (.inl rfl)) pgs_nil))))
      (pss_cons (ps_set (i := 6) sc_law.nd rfl (.inl rfl) (pe_c c_read_program hr (by decide) rfl (pa_cons (pv 3) (pa_cons (pe_op op_add_str (pe_op op_repS pe_str (pe_op op_sub (pv 10) pe_int)) pe_str) pa_nil))))
      (pss_cons (ps_set (i := 11) sc_law.nd rfl (.inl rfl) (pe_lst (pa_cons (pe_c c_program_error hr (by decide) rfl (pa_cons (pv 3) (pa_cons (pv 6) pa_nil))) (pa_cons (pe_c c_program_error hr (by decide) rfl (pa_cons (pv 3) (pa_cons (pe_op op_catA (pe_slice sl_tupA (pv 6) po_none (po_some (pe_un un_neg pe_int))) (pe_tup (pa_cons (pe_tup (pa_cons pe_int (pa_cons pe_int (pa_cons pe_int pa_nil)))) pa_nil))) pa_nil))) (pa_cons (pe_callB (call_lenK K rfl) (by rfl) T.len PySem.boot_len (pa_cons (pv 6) pa_nil)) pa_nil)))))
      (pss_one (ps_ret (pe_cmpR op_eq (pe_callB (call_reprK K rfl hg hr) (by rfl) T.repr boot_repr (pa_cons (pv 11) pa_nil)) (pe_callB (call_reprK K rfl hg hr) (by rfl) T.repr boot_repr (pa_cons (pe_lst (pa_cons pe_non (pa_cons (pe_tup (pa_cons pe_str (pa_cons (pe_op op_sub (pv 10) pe_int) pa_nil))) (pa_cons (pv 10) pa_nil)))) pa_nil)) (nomark _))))))) pss_nil)
      (pss_cons (ps_if (pt_cmpR op_gt (pe_c c_l_dip hr (by decide) rfl (pa_cons (pv 1) (pa_cons pe_int pa_nil))) pe_int (nomark _)) (pss_one (ps_ret pe_bl)) pss_nil)
      (pss_cons (ps_set (i := 3) sc_law.nd rfl (.inr rfl) (pe_tup (pa_cons (pe_tup (pa_cons pe_int (pa_cons pe_int (pa_cons (pe_op op_pow pe_int pe_int) pa_nil)))) (pa_cons (pe_tup (pa_cons (pe_tup (pa_cons pe_int (pa_cons pe_int pa_nil))) (pa_cons (pe_tup (pa_cons pe_int (pa_cons pe_int pa_nil))) (pa_cons (pe_tup (pa_cons pe_int (pa_cons pe_int pa_nil))) (pa_cons (pe_tup (pa_cons pe_int (pa_cons pe_int pa_nil))) pa_nil))))) pa_nil))))
      (pss_cons (ps_set (i := 6) sc_law.nd rfl (.inl rfl) (pe_op (op_repN K rfl) (pe_callTy (call_tupleK K rfl) (by rfl) T.tuple (by decide +kernel) (pa_cons (pe_lc (own := [("turn", 2)]) rfl sc_law.nd (pi_range1 (by rfl) T.range (pa_cons pe_int pa_nil)) (blkOk_by (N := sc_lawN) (sc := defScope s_law) (by decide +kernel)) (fun _ _ _ _ _ => (pg_name (i := 2) sc_law.nd rfl (by first | exact .inl rfl | exact .inr rfl))) (fun _ _ _ _ _ => pts_nil) (fun _ _ _ _ _ => (pe_c c_l_deed hr (by decide) rfl (pa_cons (pv 1) (pa_cons (pv 3) pa_nil))))) pa_nil)) pe_int))
      (pss_one (ps_ret (pe_g c_l_is_right hg hr (by decide) rfl (pa_cons (pv 3) (pa_cons (pe_op op_catA (pv 6) (pe_tup (pa_cons (pe_c c_l_odd hr (by decide) rfl (pa_cons (pv 1) (pa_cons (pv 3) pa_nil))) pa_nil))) (pa_cons pe_bl pa_nil)))))))))))), ?_⟩
    refine ⟨_, rfl, sa, ns, rfl, hS, hlen, fun p q H1 P1 sm1 np nq => ?_⟩
    refine ⟨6, rfl, by decide, by decide, for_range (lo := 0) (n := 6) (fun _ σ H' => ∃ v2 v3 v4 v5 v6 v7 v8 v9 : Option V, σ = [some (.ref sa), some (.ref p), v2, v3, v4, v5, v6, v7, v8, v9, none, none] ∧ Pt H' p q)
      ⟨none, none, none, none, none, none, none, none, rfl, P1⟩ ?_ ?_⟩
    · rintro t σ H2 ht ⟨v2, v3, v4, v5, v6, v7, v8, v9, rfl, P2⟩
      refine ⟨_, rfl, _, rfl, _, _, rfl, rfl, (by decide : (0 : Int) < 2), rfl, p, q, _, rfl, P2, fun mv ss ws H3 im ok P3 k3 => ?_⟩
      have l6 := ok.six
      refine ⟨6, rfl, by decide, by decide, for_range (lo := 0) (n := 6) (fun _ σ H' => ∃ v4 v5 v6 v7 v8 v9 : Option V, σ = [some (.ref sa), some (.ref p), some (.int (0 + (t : Int))), some mv, v4, v5, v6, v7, v8, v9, none, none] ∧ Pt H' p q ∧ Tk H3 H')
        ⟨v4, v5, v6, v7, v8, v9, rfl, P3, Tk.refl H3⟩ ?_ ?_⟩
      · rintro a σ H4 ha ⟨v4, v5, v6, v7, v8, v9, rfl, P4, t4⟩
        have im4 := im.k t4
        refine ⟨_, rfl, _, rfl, p, q, _, ss, ws, rfl, P4, im4, ok, fun dv d H5 dd od ol P5 k5 => ?_⟩
        refine ⟨_, rfl, _, rfl, p, q, _, ss, ws, 4, rfl, P5, im4.k (k5.tk P4), ok, by decide, fun lv l H6 iml dok l4 P6 k6 => ?_⟩
        obtain ⟨c, cs, rfl, hc, ic⟩ := id iml.tuple
        have lcs : cs.length = l.length := by rw [ic.length, List.length_map]
        refine ⟨_, rfl, _, rfl, c, cs, rfl, .inr (SqT.of hc), _, _, rfl, rfl, p, q, _, rfl, P6, by omega, by omega, fun r H7 r0 r1 P7 k7 => ?_⟩
        have hc7 := (k7.tk P6) _ _ hc
        have ie : DeAll (Nq p q) H7 cs (l.map dD) := DeAll.of_dg (ImAll.toDg _ _ (ic.k (k7.tk P6)))
        have items : ∀ x ∈ l.map dD, ItemD x := fun x hx => by
          obtain ⟨w, hw, rfl⟩ := List.mem_map.mp hx
          exact item_deed ok (dok w hw)
        have dd7 := (dd.k (Ks.kq k6 P5)).k (Ks.kq k7 P6)
        refine ⟨_, rfl, _, rfl, _, rfl, sl_anyB hc7 fun c1 HA sA hA => ?_⟩
        obtain ⟨e1, g1, le1, me1⟩ := cutE none (some r) ie
        have lc1 := g1.length
        have lmap : (l.map dD).length = l.length := List.length_map ..
        refine ⟨_, rfl, by show 1 ≤ sizeLine; decide, fun c2 n2 => ?_⟩
        have sB : Same H7 (upd HA c2 (.tup [dv])) := Same.new sA n2
        refine cat_anyB (keepN hA n2) upd_same (by rw [lc1]; exact Nat.le_trans (show e1.length + 1 ≤ 5 by omega) (by decide)) fun c3 HC sC hC => ?_
        have g3 : DeAll (Nq p q) HC _ (e1 ++ [d]) := ((g1.s (sA.trans (Same.new (o := .tup [dv]) (Same.refl HA) n2))).append (.cons (dd7.s sB) .nil)).s sC
        have tC' := sB.trans sC
        refine ⟨_, rfl, _, rfl, _, rfl, noPartB (sl_anyB (tC' _ _ hc7) fun c4 HD sD hD => ?_)⟩
        obtain ⟨e2, g2, le2, me2⟩ := cutE (some r) none (ie.s tC')
        have lc2 := g2.length
        have lc3 := g3.length
        refine cat_anyB (sD _ _ hC) hD (by rw [lc2, lc3, List.length_append, List.length_singleton]; exact Nat.le_trans (show e1.length + 1 + e2.length ≤ 9 by omega) (by decide)) fun c5 HE sE hE => ?_
        have g5 : DeAll (Nq p q) HE _ (e1 ++ [d] ++ e2) := ((g3.s sD).append (g2.s sD)).s sE
        have tE := (tC'.trans sD).trans sE
        have PE := P7.same tE
        have kall : Kp p q H4 HE := ((k5.trans k6).trans k7).trans (Kp.same tE)
        refine ⟨_, rfl, _, rfl, p, q, _, ss, ws, rfl, PE, im4.k (kall.tk P4), ok, fun ov o HF dO oo oL PF kF => ⟨by show 1 ≤ sizeLine; decide, fun c6 n6 => ?_⟩⟩
        have PG := PF.new (o := .tup [ov]) n6
        refine ⟨_, rfl, p, q, _, rfl, PG, by decide, by decide, fun r2 HH r3 r4 PH kH => ?_⟩
        have h6 := (kH.tk PG) c6 _ upd_same
        refine ⟨c6, r2, _, rfl, rfl, SqT.of h6, h6, List.cons_ne_nil _ _, r3, by omega, by show 1 ≤ 1000; decide, fun c7 HI sI hI => ?_⟩
        have kEI : Kp p q HE HI := Kp.trans (Kp.trans (kF.new n6) kH) (Kp.same sI)
        have hE' := (kEI.tk PE) _ _ hE
        have g5' := g5.k (Ks.kq kEI PE)
        have oI : De (Nq p q) HI ov o := ((dO.s (Same.new (Same.refl HF) n6)).k (Ks.kq kH PG)).s sI
        have gr := repE1 oI r2.toNat
        have lrep := rep_lenB o r2.toNat
        have lrv := gr.length
        have l5 := g5.length
        have les : (e1 ++ [d] ++ e2).length ≤ 9 := by rw [List.length_append, List.length_append, List.length_singleton]; omega
        refine cat_anyB hE' hI (by rw [l5, lrv, lrep]; exact Nat.le_trans (show (e1 ++ [d] ++ e2).length + r2.toNat ≤ 10 by omega) (by decide)) fun c8 HJ sJ hJ => ?_
        have gl : DeAll (Nq p q) HJ _ (e1 ++ [d] ++ e2 ++ (List.replicate r2.toNat [o]).flatten) := (g5'.append gr).s sJ
        have oes : ∀ x ∈ e1 ++ [d] ++ e2 ++ (List.replicate r2.toNat [o]).flatten, ItemD x := fun x hx => by
          rcases List.mem_append.mp hx with hx | hx
          · rcases List.mem_append.mp hx with hx | hx
            · rcases List.mem_append.mp hx with hx | hx
              · exact items x (me1 x hx)
              · rw [List.mem_singleton.mp hx]
                exact ⟨od, ol⟩
            · exact items x (me2 x hx)
          · rw [rep_memB hx]
            exact ⟨oo, oL⟩
        have ln : (e1 ++ [d] ++ e2 ++ (List.replicate r2.toNat [o]).flatten).length ≤ 12 := by rw [List.length_append, lrep]; omega
        generalize e1 ++ [d] ++ e2 ++ (List.replicate r2.toNat [o]).flatten = es at *
        generalize cutV cs none (some r) ++ [dv] ++ cutV cs (some r) none ++ (List.replicate r2.toNat [ov]).flatten = vs at *
        have kEJ : Kp p q HE HJ := kEI.trans (Kp.same sJ)
        have PJ := (PH.same sI).same sJ
        obtain ⟨q1, q2⟩ := long_tup ln oes
        have k7J : Kp p q H7 HJ := (Kp.same tE).trans kEJ
        have hcJ := (k7J.tk P7) _ _ hc7
        have ieJ := ie.k (Ks.kq k7J P7)
        have ddJ := dd7.k (Ks.kq k7J P7)
        refine ⟨_, rfl, _, rfl, _, rfl, _, rfl, _, rfl, _, rfl, c8, _, rfl, SqT.of hJ, fun l9 nl9 ns9 => ⟨_, rfl, by show 1 ≤ sizeLine; decide, fun t10 n10 => fun dk ndk => ⟨by show 0 ≤ sizeLine; decide, fun t11 n11 => ⟨by show 11 ≤ sizeLine; decide, fun o12 no12 => ?_⟩⟩⟩⟩
        have npl : Nq p q l9 := let z := Pt.np (h := nl9) (by exact PJ); ⟨z.1, z.2, ns9⟩
        have sX : Same HJ (upd (upd (upd (upd HJ l9 (.lst vs)) t10 (.tup [.ref c8])) dk (.dK [])) t11 (.tup [])) := Same.new (Same.new (Same.new (Same.new (Same.refl HJ) nl9) n10) ndk) n11
        have M : MenE (LongD 700000) (Nq p q) (upd (upd (upd (upd HJ l9 (.lst vs)) t10 (.tup [.ref c8])) dk (.dK [])) t11 (.tup [])) [dv, .ref c8, .ref c8, .ref c, .ref l9, .ref t10, .ref dk, .non, .bl true, .str "0>1*1", .ref t11] :=
          .cons (ddJ.s sX) (item_long ⟨od, ol⟩) (.cons (d := .tuple es) (.tup (sX _ _ hJ) (gl.s sX)) ⟨okEG_mono q1 (by decide) (by decide), fun l e => by cases e; omega⟩ (.cons (d := .tuple es) (.tup (sX _ _ hJ) (gl.s sX)) ⟨okEG_mono q1 (by decide) (by decide), fun l e => by cases e; omega⟩
          (.cons (d := .tuple (l.map dD)) (.tup (sX _ _ hcJ) (ieJ.s sX)) ⟨okEG_mono (long_tup (by omega) items).1 (by decide) (by decide), fun l e => by cases e; omega⟩
          (.cons (d := .list es) (.lst npl (keepN (keepN (keepN upd_same n10) ndk) n11) (gl.s sX)) ⟨okEG_mono q2 (by decide) (by decide), fun l e => by cases e⟩
          (.cons (d := .tuple [.tuple es]) (.tup (keepN (keepN upd_same ndk) n11) (.cons (.tup (sX _ _ hJ) (gl.s sX)) .nil)) ⟨okEG_tup (c := 500000) (dp := 5) (fun x hx => by rw [List.mem_singleton.mp hx]; exact q1) (by show (500000 + 2) * 1 + 3 ≤ 700000; decide) (by decide), fun l e => by cases e; show 1 ≤ 400; decide⟩
          (.cons (d := .dict []) (.dic (keepN upd_same n11)) ⟨by decide +kernel, fun l e => by cases e⟩ (.cons (d := .none) .non ⟨by decide +kernel, fun l e => by cases e⟩ (.cons (d := .bool true) (.bl _) ⟨by decide +kernel, fun l e => by cases e⟩
          (.cons (d := .str "0>1*1") (.str _) ⟨by decide +kernel, fun l e => by cases e⟩ (.cons (d := .tuple []) (.tup upd_same .nil) ⟨by decide +kernel, fun l e => by cases e; show 0 ≤ 400; decide⟩ .nil))))))))))
        have PX := PJ.same sX
        generalize upd (upd (upd (upd HJ l9 (.lst vs)) t10 (.tup [.ref c8])) dk (.dK [])) t11 (.tup []) = HX at *
        obtain ⟨q3, q4⟩ := PX.np no12
        refine ⟨p, q, o12, _, rfl, PX.new no12, upd_same, q3, q4, List.cons_ne_nil _ _, by show 11 < 1000; decide, fun w HK hw PK kK => ?_⟩
        obtain ⟨x, dx, ox⟩ := pickK (P := LongD 700000) kK hw PX no12 M
        have kJK : Kp p q HJ HK := Kp.trans (Kp.same sX) (Kp.trans ((Kp.refl p q _).new no12) kK)
        have ddK := ddJ.k (Ks.kq kJK PJ)
        have k4K : Kp p q H4 HK := (kall.trans kEJ).trans kJK
        have imK := im4.k (k4K.tk P4)
        have lo := item_long ⟨od, ol⟩
        refine ⟨_, rfl, _, rfl, _, rfl, rfl, mv, dv, _, ss, ws, d, Nq p q, rfl, imK, ok, ddK, fun a h => h.2.2, trivial, long_cP lo, long_sh ok (by decide) lo, fun HL sL => ⟨_, rfl, iteF ?_⟩⟩
        refine ⟨_, rfl, _, rfl, _, rfl, rfl, mv, w, _, ss, ws, x, Nq p q, rfl, Same.k sL imK, ok, dx.s sL, fun a h => h.2.2, trivial, long_cP ox, long_sh ok (by decide) ox, fun HM sM => ⟨_, rfl, iteF ?_⟩⟩
        exact ⟨_, _, _, _, _, _, rfl, (PK.same sL).same sM, ((t4.trans (k4K.tk P4)).trans (Tk.same sL)).trans (Tk.same sM)⟩
      · rintro σ H4 ⟨v4, v5, v6, v7, v8, v9, rfl, P4, t4⟩
        exact ⟨_, _, _, _, _, _, _, _, rfl, P4⟩
    · rintro σ H2 ⟨v2, v3, v4, v5, v6, v7, v8, v9, rfl, P2⟩
      dsimp only
      refine ⟨_, rfl, p, q, _, rfl, P2, by decide, by decide, fun r H3 _ _ P3 _ => ⟨rfl, _, rfl, ?_⟩⟩
      refine ite2 (fun _ => ?_) (fun _ => ?_)
      · refine ⟨by show 2 ≤ sizeLine; decide, fun t1 n1 => ⟨by show 2 ≤ sizeLine; decide, fun t2 n2 => ⟨by show 1 ≤ sizeLine; decide, fun t3 n3 => ⟨by show 2 ≤ sizeLine; decide, fun t4 n4 => ⟨_, rfl, p, q, _, rfl, (((P3.new n1).new n2).new n3).new n4, by decide, by decide, fun r2 H4 r0 r1 P4 k4 => ⟨_, _, rfl, rfl, by show 2 ≤ sizeLine; decide, fun t5 n5 => ⟨t5, _, rfl, SqT.of upd_same, rfl, _, _, rfl, _, _, rfl, rfl, ?_⟩⟩⟩⟩⟩⟩⟩
        have im0 : Im (upd (upd (upd (upd H3 t1 (.tup [.int 8, .int 4])) t2 (.tup [.int 0, .int 1])) t3 (.tup [.ref t2])) t4 (.tup [.ref t1, .ref t3])) (.ref t4) (mD [8, 4] [(0, 1)]) :=
          .tup upd_same (.cons (.tup (keepN (keepN (keepN upd_same n2) n3) n4) (.cons (.int 8) (.cons (.int 4) .nil))) (.cons (.tup (keepN upd_same n4) (.cons (.tup (keepN (keepN upd_same n3) n4) (.cons (.int (0 : Nat)) (.cons (.int (1 : Nat)) .nil))) .nil)) .nil))
        have Pq := (((P3.new (o := .tup [.int 8, .int 4]) n1).new (o := .tup [.int 0, .int 1]) n2).new (o := .tup [.ref t2]) n3).new (o := .tup [.ref t1, .ref t3]) n4
        have im4 := im0.k (k4.tk Pq)
        have im5 := im4.k ((Tk.refl H4).new (o := .tup [.ref t4, .int (1001 + r2)]) n5)
        have lenT : (repS "0>1*0 " (1001 + r2 - 1).toNat).length + (Str.ofString "0>1*0").length ≤ sizeLine := by
          rw [repS_len]
          have : (1001 + r2 - 1).toNat * (Str.ofString "0>1*0 ").length ≤ 1300 * 6 := Nat.mul_le_mul (by omega) (by decide)
          exact Nat.le_trans (Nat.add_le_add this (show (Str.ofString "0>1*0").length ≤ 5 by decide)) (by decide)
        refine ⟨_, rfl, _, rfl, _, _, rfl, rfl, _, _, rfl, rfl, by omega, by omega, by decide, by decide, _, _, rfl, rfl, lenT, .ref t4, (1001 + r2 - 1).toNat, rfl, im5, by omega, by omega, fun u H6 iu s6 => ?_⟩
        have im6 := Same.k s6 im5
        generalize hn : (1001 + r2 - 1).toNat = n at *
        have n1300 : n ≤ 1300 := by omega
        obtain ⟨c, cs, rfl, hc, ic⟩ := id iu.tuple
        have lcs : cs.length = n + 1 := by rw [ic.length, List.length_map, List.length_replicate]
        have dl : ((List.replicate (n + 1) (0, 1, 0)).map dD).length = n + 1 := by rw [List.length_map, List.length_replicate]
        refine ⟨_, rfl, _, rfl, _, _, [8, 4], [(0, 1)], _, Nq p q, rfl, im6, mok_a, De.of_im iu, fun l e => by cases e; rw [dl]; omega, fun u1 e1 H7 pe1 iu1 s7 => ?_⟩
        cases pe1.det (.none fun i y e => all_nought e)
        have hc7 := s7 _ _ hc
        refine ⟨_, rfl, _, rfl, _, rfl, _, rfl, sl_anyB hc7 fun c2 H8 s8 h8 => ?_⟩
        rw [cut_last, lcs, Nat.add_sub_cancel] at h8
        refine ⟨by show 3 ≤ sizeLine; decide, fun t8 n8 => ⟨by show 1 ≤ sizeLine; decide, fun t9 n9 => ?_⟩⟩
        have s9 : Same H8 (upd (upd H8 t8 (.tup [.int 1, .int 0, .int 0])) t9 (.tup [.ref t8])) := Same.new (Same.new (Same.refl H8) n8) n9
        have h8' := s9 _ _ h8
        have ht8 : (upd (upd H8 t8 (.tup [.int 1, .int 0, .int 0])) t9 (.tup [.ref t8])) t8 = some (.tup [.int 1, .int 0, .int 0]) := keepN upd_same n9
        have ltk : (cs.take n).length = n := by rw [List.length_take, lcs]; omega
        refine cat_anyB h8' upd_same (by rw [ltk]; exact Nat.le_trans (show n + 1 ≤ 1301 by omega) (by decide)) fun c3 HA sA hA => ?_
        have s6A : Same H6 HA := ((s7.trans s8).trans s9).trans sA
        have idl : DeAll (Nq p q) HA (cs.take n ++ [.ref t8]) ((List.replicate n ((0, 1, 0) : Nat × Nat × Int)).map dD ++ [.tuple [.int 1, .int 0, .int 0]]) := by
          refine DeAll.append ?_ (.cons (.tup (sA _ _ ht8) (.cons (.int 1) (.cons (.int 0) (.cons (.int 0) .nil)))) .nil)
          have z := (DeAll.of_dg (ImAll.toDg (N := Nq p q) _ _ (ic.k (Tk.same s6A)))).take n
          rwa [← List.map_take, take_rep] at z
        have lA : ((List.replicate n ((0, 1, 0) : Nat × Nat × Int)).map dD ++ [PyData.tuple [.int 1, .int 0, .int 0]]).length = n + 1 := by rw [List.length_append, List.length_map, List.length_replicate]; rfl
        refine ⟨.ref t4, .ref c3, [8, 4], [(0, 1)], _, Nq p q, rfl, Same.k s6A im6, mok_a, .tup hA idl, fun l e => by cases e; rw [lA]; omega, fun u2 e2 HB pe2 iu2 sB => ?_⟩
        have lrep : ((List.replicate n ((0, 1, 0) : Nat × Nat × Int)).map dD).length = n := by rw [List.length_map, List.length_replicate]
        cases pe2.det (.deed (i := n) (x := .tuple [.int 1, .int 0, .int 0]) (by rw [List.getElem?_append_right (by omega), lrep, Nat.sub_self]; rfl) (fun i' y hi e => all_nought (n := n) (i := i') (by rw [List.getElem?_append_left (by omega)] at e; exact e)) odd_bad)
        have s6B := s6A.trans sB
        refine ⟨_, rfl, c, _, rfl, .inr (SqT.of (s6B _ _ hc)), by show 3 ≤ sizeLine; decide, fun lt nlt => ?_⟩
        have sLt : Same HB (upd HB lt (.lst [u1, u2, .int ((cs.length : Nat) : Int)])) := Same.new (Same.refl HB) nlt
        have e1 : ((cs.length : Nat) : Int) = 1001 + r2 := by rw [lcs]; omega
        have e2 : ((n : Nat) : Int) = 1001 + r2 - 1 := by omega
        have i1 := Same.k (((s8.trans s9).trans sA).trans (sB.trans sLt)) iu1
        have i2 := Same.k sLt iu2
        refine ⟨_, rfl, _, _, rfl, .lst (SqL.of upd_same) (.cons i1.dp (.cons i2.dp (.cons (.int _) .nil))), three_sh (by decide +kernel) (okG_d (by omega)) (okG_mono (okG_i (by omega)) (by decide) (by decide)), _, rfl, _, _, rfl, rfl, by show 2 ≤ sizeLine; decide, fun ta nta => ⟨_, rfl, by show 3 ≤ sizeLine; decide, fun lb nlb => ?_⟩⟩
        refine ⟨_, .list [.none, .tuple [.str "deed", .int (1001 + r2 - 1)], .int (1001 + r2)], rfl, .lst (SqL.of upd_same) (.cons .non (.cons (.tup (SqT.of (keepN upd_same nlb)) (.cons (.str _) (.cons (.int _) .nil))) (.cons (.int _) .nil))), three_sh (by decide +kernel) (okG_d (by omega)) (okG_mono (okG_i (by omega)) (by decide) (by decide)), rfl, qSB (by rw [e1, e2]) (k _)⟩
      · refine ⟨_, rfl, p, q, _, rfl, P3, by decide, by decide, fun r2 H4 _ _ P4 _ => ⟨_, _, rfl, rfl, _, rfl, ?_⟩⟩
        refine ite2 (fun _ => k _) (fun _ => ?_)
        refine ⟨_, _, rfl, rfl, ⟨by decide, by decide, by decide⟩, by show 3 ≤ sizeLine; decide, fun t1 n1 => ⟨by show 2 ≤ sizeLine; decide, fun t2 n2 => ⟨by show 2 ≤ sizeLine; decide, fun t3 n3 => ⟨by show 2 ≤ sizeLine; decide, fun t4 n4 => ⟨by show 2 ≤ sizeLine; decide, fun t5 n5 => ⟨by show 4 ≤ sizeLine; decide, fun t6 n6 => ⟨by show 2 ≤ sizeLine; decide, fun t7 n7 => ?_⟩⟩⟩⟩⟩⟩⟩
        have im0 : Im (upd (upd (upd (upd (upd (upd (upd H4 t1 (.tup [.int 8, .int 4, .int (10 ^ (30 : Int).toNat)])) t2 (.tup [.int 0, .int 1])) t3 (.tup [.int 1, .int 0])) t4 (.tup [.int 1, .int 2])) t5 (.tup [.int 2, .int 1])) t6 (.tup [.ref t2, .ref t3, .ref t4, .ref t5])) t7 (.tup [.ref t1, .ref t6])) (.ref t7) (mD [8, 4, 10 ^ (30 : Int).toNat] [(0, 1), (1, 0), (1, 2), (2, 1)]) :=
          .tup upd_same (.cons (.tup (keepN (keepN (keepN (keepN (keepN (keepN upd_same n2) n3) n4) n5) n6) n7) (.cons (.int 8) (.cons (.int 4) (.cons (.int _) .nil)))) (.cons (.tup (keepN upd_same n7) (.cons (.tup (keepN (keepN (keepN (keepN (keepN upd_same n3) n4) n5) n6) n7) (.cons (.int (0 : Nat)) (.cons (.int (1 : Nat)) .nil)))
            (.cons (.tup (keepN (keepN (keepN (keepN upd_same n4) n5) n6) n7) (.cons (.int (1 : Nat)) (.cons (.int (0 : Nat)) .nil))) (.cons (.tup (keepN (keepN (keepN upd_same n5) n6) n7) (.cons (.int (1 : Nat)) (.cons (.int (2 : Nat)) .nil))) (.cons (.tup (keepN (keepN upd_same n6) n7) (.cons (.int (2 : Nat)) (.cons (.int (1 : Nat)) .nil))) .nil))))) .nil))
        have P7 := ((((((P4.new n1).new n2).new n3).new n4).new n5).new n6).new (o := .tup [.ref t1, .ref t6]) n7
        refine ⟨10, rfl, by decide, by decide, fun D nD => ?_⟩
        obtain ⟨nd1, nd2⟩ := Pt.np (p := p) (q := q) (h := nD) (by exact P7)
        refine lc_range (lo := 0) (n := (10 : Int).toNat) (fun i H' => Pt H' p q ∧ Im H' (.ref t7) (mD [8, 4, 10 ^ (30 : Int).toNat] [(0, 1), (1, 0), (1, 2), (2, 1)]) ∧ ∃ (vs : List V) (ds : List (Nat × Nat × Int)), H' D = some (.lst vs) ∧ ImAll H' vs (ds.map dD) ∧ ds.length = i ∧ ∀ x ∈ ds, DOk [8, 4, 10 ^ (30 : Int).toNat] [(0, 1), (1, 0), (1, 2), (2, 1)] x)
          ⟨P7.new nD, im0.k ((Tk.refl _).new nD), [], [], upd_same, .nil, rfl, fun x hx => by cases hx⟩ ?_ ?_
        · rintro i H6 hi ⟨P6, im6, vs, ds, hd, ia3, hl, ok3⟩
          have lv : vs.length = ds.length := by rw [ia3.length, List.length_map]
          have hi' : i < 10 := hi
          refine ⟨rfl, _, rfl, _, rfl, p, q, _, _, _, rfl, P6, im6, mok_b, List.cons_ne_nil _ _, fun u dd H7 imu dok P7 k7 => ?_⟩
          have hd4 : H7 D = some (.lst vs) := k7 _ _ nd1 nd2 hd
          have tk5 : Tk H7 (upd H7 D (.lst (vs ++ [u]))) := (Tk.refl H7).put hd4
          refine ⟨vs, hd4, small1000 (by omega), P7.put nd1 nd2, (im6.k (k7.tk P6)).k tk5, vs ++ [u], ds ++ [dd], upd_same, ?_, by rw [List.length_append, List.length_singleton, hl], fun x hx => ?_⟩
          · rw [List.map_append]
            exact ((ia3.k (k7.tk P6)).k tk5).append (.cons (imu.k tk5) .nil)
          · rcases List.mem_append.mp hx with h | h
            · exact ok3 x h
            · rw [List.mem_singleton.mp h]
              exact dok
        rintro H6 ⟨P6, im6, vs, ds, hd, ia3, hl, ok3⟩
        have hl : ds.length = 10 := hl
        have lv : vs.length = 10 := by rw [ia3.length, List.length_map]; exact hl
        refine ⟨D, _, rfl, .inl ⟨SqL.of hd, fun u nu => ⟨u, 30, vs, rfl, rfl, SqT.of upd_same, upd_same, (fun z => by rw [z] at lv; cases lv), by decide, by decide, by omega, fun r H7 s7 hr => ?_⟩⟩⟩
        have s67 : Same H6 H7 := Same.trans (Same.new (o := .tup vs) (Same.refl H6) nu) s7
        have il : DeAll (Nq p q) H7 (List.replicate (30 : Int).toNat vs).flatten ((List.replicate 30 ds).flatten.map dD) := by
          have z := DeAll.of_dg (N := Nq p q) (ImAll.toDg _ _ ((ImAll.repB (ia3.k (Tk.same s67)) 30)))
          rwa [map_repK] at z
        have P7' := P6.same s67
        have im7 := Same.k s67 im6
        have ll : (List.replicate 30 ds).flatten.length = 300 := by rw [len_repK, hl]
        have lvr : (List.replicate (30 : Int).toNat vs).flatten.length = 300 := by
          rw [show (30 : Int).toNat = 30 from rfl, len_repK, lv]
        refine ⟨_, rfl, _, rfl, _, rfl, _, rfl, p, q, _, _, _, rfl, P7', im7, mok_b, fun ov o H9 dO oo oL P9 k9 => ⟨by show 1 ≤ sizeLine; decide, fun t nt => ?_⟩⟩
        have s10 : Same H9 (upd H9 t (.tup [ov])) := Same.new (Same.refl H9) nt
        refine cat_anyB (s10 _ _ ((k9.tk P7') _ _ hr)) upd_same (by rw [lvr]; exact Nat.le_trans (show 300 + 1 ≤ 301 by omega) (by decide)) fun c HC sC hC => ?_
        have oes : ∀ x ∈ (List.replicate 30 ds).flatten.map dD ++ [o], okEG 40000 4 x = true := fun x hx => by
          rcases List.mem_append.mp hx with hx | hx
          · obtain ⟨y, hy, rfl⟩ := List.mem_map.mp hx
            exact (item_deed mok_b (ok3 y (mem_repK hy))).1
          · rw [List.mem_singleton.mp hx]
            exact oo
        have lo : ((List.replicate 30 ds).flatten.map dD ++ [o]).length = 301 := by rw [List.length_append, List.length_map, ll]; rfl
        have lg : LongD 13000000 (.tuple ((List.replicate 30 ds).flatten.map dD ++ [o])) := ⟨okEG_tup oes (by rw [lo]; decide) (by decide), fun l e => by cases e; omega⟩
        have ik := ((il.k (Ks.kq k9 P7')).s s10).append (.cons (dO.s s10) .nil)
        exact ⟨.ref t7, .ref c, false, _, _, _, Nq p q, rfl, Same.k sC (Same.k s10 (im7.k (k9.tk P7'))), mok_b, .tup hC (ik.s sC), fun a h => h.2.2, trivial, long_cP lg, long_sh mok_b (by decide) lg, fun HD sD => k _⟩

/-! ### k05: read_program of one text -/
theorem ps_never {X : Cx} {st : Stmt} : PS X st (fun _ _ _ => False) := ⟨fun _ _ _ _ _ _ h => h.elim⟩
abbrev sc_read_figuresN : List Str := ["word", "greatest"]
theorem sc_read_figures : FnScope sc_read_figuresN ["word", "greatest"] (defScope s_read_figures) := ⟨rfl, rfl, rfl, by decide +kernel, rfl, by decide +kernel, by decide +kernel⟩
def spFig : Sp := fun vs H Q _ => ∃ (n : Nat), n ≤ 1 ∧ vs = [.str (if n = 0 then "0" else "1"), .int (10 ^ 60)] ∧ Q (.int n) H
theorem ok_fig {f : Addr} {fd : FuncData} (D : DefAt K mg "read_figures" s_read_figures ["word", "greatest"] f fd) (T : Blt mg) (T_str : mg "str" = none) : Cal P w K mg base 1 "read_figures" spFig := by
  refine cal_of D sc_read_figures (fun vs H Q E h => ?_) (fun cdv A outer s H vs Q E hr h => ?_)
  · obtain ⟨n, _, rfl, _⟩ := h
    rfl
  · obtain ⟨n, n1, rfl, k⟩ := h
    refine ⟨_, (pss_cons (ps_if (PW.pt (pw_or (pt_cmpR op_gt (pe_callB (call_len_str) (by rfl) T.len PySem.boot_len (pa_cons (pv 0) pa_nil)) (pe_callB (call_len_str) (by rfl) T.len PySem.boot_len (pa_cons (pe_callTy call_str_int (by rfl) T_str (by decide +kernel) (pa_cons (pv 1) pa_nil)) pa_nil)) (nomark _)) (pw_or (pt_not (pt_val (pe_m0 PySem.F.slot_str_isascii PySem.F.type_str_isascii mt_isascii (pv 0)))) (pw_or1 (pt_not (pt_val (pe_m0 PySem.F.slot_str_isdigit PySem.F.type_str_isdigit mt_isdigit (pv 0)))))))) (pss_one ps_never) pss_nil)
      (pss_one (ps_ret (pe_callTy call_int_str (by rfl) T.int (by decide +kernel) (pa_cons (pv 0) pa_nil))))), ?_⟩
    obtain rfl | rfl : n = 0 ∨ n = 1 := by omega
    · refine ⟨_, rfl, _, rfl, by decide, _, rfl, _, rfl, by decide +kernel, _, rfl, by decide +kernel, _, _, rfl, rfl, _, rfl, ?_⟩
      rw [decide_eq_false (by decide +kernel)]
      refine iteF ⟨_, rfl, ⟨_, rfl⟩, _, rfl, rfl, trivial, _, rfl, ?_⟩
      rw [show Txt.isascii (if (0 : Nat) = 0 then "0" else "1" : Str) = true by decide +kernel]
      refine iteF ⟨_, rfl, ⟨_, rfl⟩, _, rfl, rfl, trivial, _, rfl, ?_⟩
      rw [show Txt.isdigit (if (0 : Nat) = 0 then "0" else "1" : Str) = true by decide +kernel]
      exact iteF ⟨_, rfl, _, 0, rfl, by decide +kernel, by decide, k⟩
    · refine ⟨_, rfl, _, rfl, by decide, _, rfl, _, rfl, by decide +kernel, _, rfl, by decide +kernel, _, _, rfl, rfl, _, rfl, ?_⟩
      rw [decide_eq_false (by decide +kernel)]
      refine iteF ⟨_, rfl, ⟨_, rfl⟩, _, rfl, rfl, trivial, _, rfl, ?_⟩
      rw [show Txt.isascii (if (1 : Nat) = 0 then "0" else "1" : Str) = true by decide +kernel]
      refine iteF ⟨_, rfl, ⟨_, rfl⟩, _, rfl, rfl, trivial, _, rfl, ?_⟩
      rw [show Txt.isdigit (if (1 : Nat) = 0 then "0" else "1" : Str) = true by decide +kernel]
      exact iteF ⟨_, rfl, _, 1, rfl, by decide +kernel, by decide, k⟩
abbrev sc_read_factorN : List Str := ["word"]
theorem sc_read_factor : FnScope sc_read_factorN ["word"] (defScope s_read_factor) := ⟨rfl, rfl, rfl, by decide +kernel, rfl, by decide +kernel, by decide +kernel⟩
def spFac : Sp := fun vs H Q _ => vs = [.str "0"] ∧ Q (.int 0) H
theorem ok_fac {tF : Tok} {f : Addr} {fd : FuncData} (D : DefAt K mg "read_factor" s_read_factor ["word"] f fd) (g_F : mg "MAX_FACTOR" = some (.int (10 ^ 60) tF)) (c_read_figures : Cal P w K mg base 1 "read_figures" spFig) : Cal P w K mg base 2 "read_factor" spFac := by
  refine cal_of D sc_read_factor (fun vs H Q E h => ?_) (fun cdv A outer s H vs Q E hr h => ?_)
  · obtain ⟨rfl, _⟩ := h
    rfl
  · obtain ⟨rfl, k⟩ := h
    refine ⟨_, (pss_cons (ps_if (pt_val (L2.pe_m1 PySem.F.slot_str_startswith PySem.F.type_str_startswith mt_startswith (pv 0) pe_str)) (pss_one ps_never) pss_nil)
      (pss_one (ps_ret (pe_c c_read_figures hr (by decide) rfl (pa_cons (pv 0) (pa_cons (pe_glob rfl g_F (show RelV (.int (10 ^ 60)) _ from ⟨_, rfl⟩)) pa_nil)))))), ?_⟩
    refine ⟨_, rfl, ⟨_, rfl⟩, _, _, rfl, rfl, _, rfl, ?_⟩
    rw [show Txt.startswith "0" "-" = false by decide +kernel]
    exact iteF ⟨_, rfl, 0, by decide, rfl, k⟩
abbrev sc_read_deedN : List Str := ["word", "giver", "_", "rest", "taker", "factor"]
theorem sc_read_deed : FnScope sc_read_deedN ["word"] (defScope s_read_deed) := ⟨rfl, rfl, rfl, by decide +kernel, rfl, by decide +kernel, by decide +kernel⟩
def spRD : Sp := fun vs H Q _ => vs = [.str "0>1*0"] ∧ ∀ (u : V) (H' : Hp), Im H' u (dD (0, 1, 0)) → Same H H' → Q u H'
theorem ok_rd {tF : Tok} {f : Addr} {fd : FuncData} (D : DefAt K mg "read_deed" s_read_deed ["word"] f fd) (g_F : mg "MAX_FACTOR" = some (.int (10 ^ 60) tF)) (c_read_figures : Cal P w K mg base 1 "read_figures" spFig) (c_read_factor : Cal P w K mg base 2 "read_factor" spFac) : Cal P w K mg base 3 "read_deed" spRD := by
  refine cal_of D sc_read_deed (fun vs H Q E h => ?_) (fun cdv A outer s H vs Q E hr h => ?_)
  · obtain ⟨rfl, _⟩ := h
    rfl
  · obtain ⟨rfl, k⟩ := h
    refine ⟨_, (pss_cons (ps_asg (pe_partition (pv 0) pe_str) (pg_tup rfl (pgs_cons (pg_name (i := 1) sc_read_deed.nd rfl (.inl rfl)) (pgs_cons (pg_name (i := 2) sc_read_deed.nd rfl (.inl rfl)) (pgs_cons (pg_name (i := 3) sc_read_deed.nd rfl (.inl rfl)) pgs_nil)))))
      (pss_cons (ps_asg (pe_partition (pv 3) pe_str) (pg_tup rfl (pgs_cons (pg_name (i := 4) sc_read_deed.nd rfl (.inl rfl)) (pgs_cons (pg_name (i := 2) sc_read_deed.nd rfl (.inl rfl)) (pgs_cons (pg_name (i := 5) sc_read_deed.nd rfl (.inl rfl)) pgs_nil)))))
      (pss_one (ps_ret (pe_tup (pa_cons (pe_c c_read_figures hr (by decide) rfl (pa_cons (pv 1) (pa_cons (pe_glob rfl g_F (show RelV (.int (10 ^ 60)) _ from ⟨_, rfl⟩)) pa_nil))) (pa_cons (pe_c c_read_figures hr (by decide) rfl (pa_cons (pv 4) (pa_cons (pe_glob rfl g_F (show RelV (.int (10 ^ 60)) _ from ⟨_, rfl⟩)) pa_nil))) (pa_cons (pe_c c_read_factor hr (by decide) rfl (pa_cons (pv 5) pa_nil)) pa_nil)))))))), ?_⟩
    have p1 : Txt.partition (Str.ofString "0>1*0") ">" = (Str.ofString "0", Str.ofString ">", Str.ofString "1*0") := by decide +kernel
    have p2 : Txt.partition (Str.ofString "1*0") "*" = (Str.ofString "1", Str.ofString "*", Str.ofString "0") := by decide +kernel
    refine ⟨_, rfl, ⟨_, rfl⟩, _, _, rfl, rfl, by decide, by decide, fun t1 n1 => ⟨t1, _, rfl, SqT.of upd_same, rfl, _, _, rfl, _, _, rfl, _, _, rfl, rfl, ?_⟩⟩
    rw [p1]
    have s1 : Same H (upd H t1 (.tup [.str "0", .str ">", .str "1*0"])) := Same.new (Same.refl H) n1
    refine ⟨_, rfl, ⟨_, rfl⟩, _, _, rfl, rfl, by decide, by decide, fun t2 n2 => ⟨t2, _, rfl, SqT.of upd_same, rfl, _, _, rfl, _, _, rfl, _, _, rfl, rfl, ?_⟩⟩
    rw [p2]
    have s2 : Same H (upd (upd H t1 (.tup [.str "0", .str ">", .str "1*0"])) t2 (.tup [.str "1", .str "*", .str "0"])) := Same.new s1 n2
    refine ⟨_, rfl, 0, by decide, rfl, ?_⟩
    refine ⟨_, rfl, 1, by decide, rfl, ?_⟩
    refine ⟨_, rfl, rfl, ?_⟩
    refine ⟨by show 3 ≤ sizeLine; decide, fun p n3 => k _ _ (.tup upd_same (.cons (.int _) (.cons (.int _) (.cons (.int _) .nil)))) (Same.new s2 n3)⟩
theorem repS_tl (a : Str) : ∀ n, TL.tl (repS a n) = (List.replicate n (TL.tl a)).flatten := by
  intro n
  have g : ∀ (l : List (Array Nat)) (b : Array Nat), (l.foldl (· ++ ·) b).toList = b.toList ++ (l.map (·.toList)).flatten := by
    intro l
    induction l with
    | nil => intro b; simp
    | cons x l ih => intro b; rw [List.foldl_cons, ih, Array.toList_append, List.append_assoc, List.map_cons, List.flatten_cons]
  show ((List.replicate n a.cps).foldl (· ++ ·) #[]).toList = _
  rw [g, List.map_replicate]
  rfl
theorem joinL_rep (y t : List Nat) : ∀ n, TL.joinL y (List.replicate (n + 1) t) = (List.replicate n (t ++ y)).flatten ++ t
  | 0 => rfl
  | n + 1 => by
    show t ++ (y ++ TL.joinL y (List.replicate (n + 1) t)) = _
    rw [joinL_rep y t n, List.replicate_succ, List.flatten_cons]
    simp only [List.append_assoc]
theorem txt_noughts (n : Nat) : Txt.join " " (List.replicate (n + 1) "0>1*0") = repS "0>1*0 " n ++ "0>1*0" := by
  have h : [Txt.join " " (List.replicate (n + 1) "0>1*0")].map TL.tl = [repS "0>1*0 " n ++ "0>1*0"].map TL.tl := by
    rw [List.map_singleton, List.map_singleton, TL.join_eq, TL.tl_join, TL.tl_append, repS_tl, List.map_replicate, joinL_rep]
    rfl
  exact (List.cons.inj (TL.map_tl_inj h)).1
abbrev sc_program_textN : List Str := ["program", "j", "i", "c"]
theorem sc_program_text : FnScope sc_program_textN ["program"] (defScope s_program_text) := ⟨rfl, rfl, rfl, by decide +kernel, rfl, by decide +kernel, by decide +kernel⟩
def spPT : Sp := fun vs H Q _ => ∃ (y : V) (n : Nat), vs = [y] ∧ Im H y (pD (List.replicate (n + 1) (0, 1, 0))) ∧ n ≤ 1300 ∧ ∀ H', Same H H' → Q (.str (repS "0>1*0 " n ++ "0>1*0")) H'
theorem ok_pt {f : Addr} {fd : FuncData} (D : DefAt K mg "program_text" s_program_text ["program"] f fd) (T : Blt mg) : Cal P w K mg base 1 "program_text" spPT := by
  refine cal_of D sc_program_text (fun vs H Q E h => ?_) (fun cdv A outer s H vs Q E hr h => ?_)
  · obtain ⟨y, n, rfl, _⟩ := h
    rfl
  · obtain ⟨y, n, rfl, im, n1300, k⟩ := h
    refine ⟨_, (pss_one (ps_ret (pe_join pe_str (pe_lc (own := [("j", 1), ("i", 2), ("c", 3)]) rfl sc_program_text.nd (pi_tupK K rfl (pv 0)) (blkOk_by (N := sc_program_textN) (sc := defScope s_program_text) (by decide +kernel)) (fun _ _ _ _ _ => (pg_tupK (n := 3) K rfl rfl (pgs_cons (pg_name (i := 1) sc_program_text.nd rfl (by first | exact .inl rfl | exact .inr rfl)) (pgs_cons (pg_name (i := 2) sc_program_text.nd rfl (by first | exact .inl rfl | exact .inr rfl)) (pgs_cons (pg_name (i := 3) sc_program_text.nd rfl (by first | exact .inl rfl | exact .inr rfl)) pgs_nil))))) (fun _ _ _ _ _ => pts_nil) (fun _ _ _ _ _ => (pe_joined (PJ.cons (pe_fmt (pv 1)) (PJ.cons pe_str (PJ.cons (pe_fmt (pv 2)) (PJ.cons pe_str (PJ.cons (pe_fmt (pv 3)) PJ.nil))))))))))), ?_⟩
    obtain ⟨a, xs, rfl, ha, ia⟩ := id im.tuple
    have lx : xs.length = n + 1 := by rw [ia.length, List.length_map, List.length_replicate]
    refine ⟨⟨_, rfl⟩, _, rfl, a, rfl, ⟨xs, SqT.of ha⟩, fun D nD => ?_⟩
    refine lc_tup (K := K) (a := a) (xs := xs) (te := fun σ H Q => tJs [tFmt (tVar 1), tC (V.str ">"), tFmt (tVar 2), tC (V.str "*"), tFmt (tVar 3)] Str.empty σ H fun out H1 => Q (.str out) H1) (fun i H' => Same H H' ∧ H' D = some (.lst ((List.replicate i ("0>1*0" : Str)).map V.str))) ⟨Same.new (Same.refl H) nD, upd_same⟩ (fun i H' _ z => SqT.of (z.1 _ _ ha)) ?_ ?_
    · rintro i x H2 hx ⟨sm, hD⟩
      obtain ⟨dx, hdx, dgx⟩ := ia.getVB hx
      rw [List.getElem?_map, List.getElem?_replicate] at hdx
      have hi : i < n + 1 := by
        rcases Nat.lt_or_ge i (n + 1) with h | h
        · exact h
        · rw [if_neg (by omega)] at hdx
          cases hdx
      rw [if_pos hi] at hdx
      cases hdx
      obtain ⟨t, zs, rfl, ht, it⟩ := Im.tuple (show Im H x (dD (0, 1, 0)) from dgx)
      have ez : zs = [.int 0, .int 1, .int 0] := by
        match zs, it with
        | _, .cons (.int _) (.cons (.int _) (.cons (.int _) .nil)) => rfl
      subst ez
      refine ⟨t, _, rfl, SqT.of (sm _ _ ht), rfl, _, _, rfl, _, _, rfl, _, _, rfl, rfl, rfl, ?_⟩
      refine ⟨_, rfl, .inr ⟨_, rfl, by decide, _, rfl, by decide +kernel, _, rfl, by decide +kernel, ?_⟩⟩
      refine ⟨_, rfl, .inr ⟨_, rfl, by decide, _, rfl, by decide +kernel, _, rfl, by decide +kernel, ?_⟩⟩
      refine ⟨_, rfl, .inr ⟨_, rfl, by decide, _, rfl, by decide +kernel, ?_⟩⟩
      refine ⟨_, hD, ?_, Same.put sm nD, ?_⟩
      · rw [List.length_map, List.length_replicate]
        exact Nat.lt_of_lt_of_le hi (Nat.le_trans (Nat.succ_le_succ n1300) (by decide))
      · rw [upd_same, List.replicate_succ', List.map_append]
        rfl
    rintro H2 ⟨sm, hD⟩
    rw [lx] at hD
    refine ⟨_, D, _, rfl, rfl, .inl (SqL.of hD), ?_, ?_⟩
    · have hs : ∀ m : Nat, (List.replicate m 5).sum = m * 5 := by
        intro m
        induction m with
        | zero => rfl
        | succ m ih => rw [List.replicate_succ, List.sum_cons, ih]; omega
      rw [List.map_replicate, List.length_replicate, show (Str.ofString "0>1*0").length = 5 by decide, hs, show (Str.ofString " ").length = 1 by decide]
      omega
    · rw [txt_noughts]
      exact k _ sm
abbrev sc_read_programN : List Str := ["machine", "value", "words", "program", "word"]
theorem sc_read_program : FnScope sc_read_programN ["machine", "value"] (defScope s_read_program) := ⟨rfl, rfl, rfl, by decide +kernel, rfl, by decide +kernel, by decide +kernel⟩
theorem ok_rp {f : Addr} {fd : FuncData} (D : DefAt K mg "read_program" s_read_program ["machine", "value"] f fd) (T : Blt mg) (T_str : mg "str" = none) (c_read_deed : Cal P w K mg base 3 "read_deed" spRD) (c_program_error : Cal P w K mg base 4 "program_error" (spJudge cP Perr)) (c_program_text : Cal P w K mg base 1 "program_text" spPT) : Cal P w K mg base 5 "read_program" spRead := by
  refine cal_of D sc_read_program (fun vs H Q E h => ?_) (fun cdv A outer s H vs Q E hr h => ?_)
  · obtain ⟨m, n, rfl, _⟩ := h
    rfl
  · obtain ⟨m, n, rfl, im, n0, n1, k⟩ := h
    refine ⟨_, (pss_cons (ps_if (pt_not (pt_val (pe_callB (call_isiK' K rfl) (by rfl) T.isinstance (by decide +kernel) (pa_cons (pv 1) (pa_cons (pe_bltn (v := .ty "str") (u := .type "str") (by rfl) T_str (by decide +kernel) rfl) pa_nil))))) (pss_one ps_never) pss_nil)
      (pss_cons (ps_set (i := 2) sc_read_program.nd rfl (.inl rfl) (pe_ifExp (pt_cmpR op_ne (pv 1) pe_str (nomark _)) (pe_split (pv 1) pe_str) (pe_lst pa_nil)))
      (pss_cons (ps_set (i := 3) sc_read_program.nd rfl (.inl rfl) (pe_callTy (call_tupleK K rfl) (by rfl) T.tuple (by decide +kernel) (pa_cons (pe_lc (own := [("word", 4)]) rfl sc_read_program.nd (pi_listK K rfl (pv 2)) (blkOk_by (N := sc_read_programN) (sc := defScope s_read_program) (by decide +kernel)) (fun _ _ _ _ _ => (pg_name (i := 4) sc_read_program.nd rfl (by first | exact .inl rfl | exact .inr rfl))) (fun _ _ _ _ _ => pts_nil) (fun _ _ _ _ _ => (pe_c c_read_deed hr (by decide) rfl (pa_cons (pv 4) pa_nil)))) pa_nil)))
      (pss_cons (ps_if (PW.pt (pw_or (pt_cmpR op_notN (pe_c c_program_error hr (by decide) rfl (pa_cons (pv 0) (pa_cons (pv 3) pa_nil))) pe_non (nomark _)) (pw_or1 (pt_cmpR op_ne (pe_c c_program_text hr (by decide) rfl (pa_cons (pv 3) pa_nil)) (pv 1) (nomark _))))) (pss_one ps_never) pss_nil)
      (pss_one (ps_ret (pv 3))))))), ?_⟩
    have lenT : (repS "0>1*0 " n ++ "0>1*0").length + 2 ≤ sizeLine := by
      rw [Str.length_append, repS_len, show (Str.ofString "0>1*0 ").length = 6 by decide, show (Str.ofString "0>1*0").length = 5 by decide]
      exact Nat.le_trans (show n * 6 + 5 + 2 ≤ 10000 by omega) (by decide)
    have neT : repS "0>1*0 " n ++ "0>1*0" ≠ ("" : Str) := by
      intro e
      have := congrArg Str.length e
      rw [Str.length_append, show (Str.ofString "0>1*0").length = 5 by decide, show (Str.ofString "").length = 0 by decide] at this
      omega
    have spl : Txt.split (repS "0>1*0 " n ++ "0>1*0") " " = List.replicate (n + 1) ("0>1*0" : Str) := by
      rw [← txt_noughts]
      refine TL.split_join (s := 32) (S := []) (by decide) (by decide +kernel) (by rw [List.replicate_succ]; exact List.cons_ne_nil _ _) (fun p hp => ?_)
      rw [List.eq_of_mem_replicate hp]
      decide
    generalize hT : repS "0>1*0 " n ++ "0>1*0" = TT at *
    refine ⟨_, rfl, _, _, _, _, _, rfl, .ty _, (De.of_im (N := fun _ => True) (d := .str TT) (.str _)).ty, rfl, _, rfl, iteF ?_⟩
    refine ⟨_, rfl, rfl, _, rfl, ?_⟩
    rw [decide_eq_false (show ¬ (V.str TT = V.str "") from fun e => neT (V.str.inj e))]
    refine iteT ⟨_, rfl, ⟨_, rfl⟩, _, _, rfl, rfl, by decide, lenT, fun q nq => ⟨_, rfl, ?_⟩⟩
    rw [spl]
    have s1 : Same H (upd H q (.lst ((List.replicate (n + 1) ("0>1*0" : Str)).map V.str))) := Same.new (Same.refl H) nq
    have h1 : (upd H q (.lst ((List.replicate (n + 1) ("0>1*0" : Str)).map V.str))) q = _ := upd_same
    generalize upd H q (.lst ((List.replicate (n + 1) ("0>1*0" : Str)).map V.str)) = H1 at *
    refine ⟨q, rfl, ⟨_, SqL.of h1⟩, fun D nD => ?_⟩
    refine lc_list (K := K) (a := q) (xs := (List.replicate (n + 1) ("0>1*0" : Str)).map V.str) (fun i H' => Same H1 H' ∧ ∃ us : List V, H' D = some (.lst us) ∧ ImAll H' us ((List.replicate i ((0, 1, 0) : Nat × Nat × Int)).map dD)) ⟨Same.new (Same.refl H1) nD, [], upd_same, .nil⟩ (fun i H' _ z => SqL.of (z.1 _ _ h1)) ?_ ?_
    · rintro i x H2 hx ⟨sm, us, hD, iu⟩
      have hi : i < n + 1 := by
        have := (List.getElem?_eq_some_iff.mp hx).1
        rwa [List.length_map, List.length_replicate] at this
      rw [List.getElem?_map, List.getElem?_replicate, if_pos hi] at hx
      cases hx
      refine ⟨rfl, _, rfl, rfl, fun u H3 iu' s3 => ?_⟩
      refine ⟨us, s3 _ _ hD, ?_, Same.put (sm.trans s3) nD, us ++ [u], upd_same, ?_⟩
      · rw [iu.length, List.length_map, List.length_replicate]
        exact Nat.lt_of_lt_of_le hi (Nat.le_trans (Nat.succ_le_succ n1) (by decide))
      · rw [List.replicate_succ', List.map_append]
        have tk : Tk H3 (upd H3 D (.lst (us ++ [u]))) := Tk.put (Tk.refl H3) (s3 _ _ hD)
        exact ((iu.k (Tk.same s3)).k tk).append (.cons (iu'.k tk) .nil)
    rintro H2 ⟨sm, us, hD, iu⟩
    rw [List.length_map, List.length_replicate] at iu
    refine ⟨D, us, rfl, .inl ⟨SqL.of hD, fun l nl => ⟨_, rfl, ?_⟩⟩⟩
    have s2 : Same H (upd H2 l (.tup us)) := Same.new (s1.trans sm) nl
    have il : Im (upd H2 l (.tup us)) (.ref l) (pD (List.replicate (n + 1) (0, 1, 0))) := .tup upd_same (iu.k (Tk.same (Same.new (Same.refl H2) nl)))
    generalize upd H2 l (.tup us) = H3 at *
    refine ⟨_, rfl, m, .ref l, [8, 4], [(0, 1)], _, (fun _ => True), rfl, im.k (Tk.same s2), mok_a, De.of_im il, (fun l' e => by cases e; rw [List.length_map, List.length_replicate]; omega), fun u e H4 pe ie s3 => ⟨rfl, _, rfl, ?_⟩⟩
    have e0 := pe.det (Perr.none (fun i y h => all_nought h))
    subst e0
    cases ie
    refine iteF ⟨_, rfl, .ref l, n, rfl, il.k (Tk.same s3), n1, fun H5 s4 => ?_⟩
    refine ⟨_, rfl, rfl, _, rfl, ?_⟩
    rw [hT, decide_eq_true rfl]
    exact iteF ⟨_, rfl, k _ _ (il.k (Tk.same (s3.trans s4))) ((s2.trans s3).trans s4)⟩

end
/-! ### what the top has written -/
theorem all_mk {l : PySem.W.OpenLaw} {w : World} {K : PySem.W.Frag} {h : Heap} {mg : Str → Option Value} {fa f1 f2 f3 f4 f5 f6 f7 f8 f9 f10 f11 f12 f13 f14 f15 f16 f17 f18 f19 f20 f21 f22 f23 f24 f25 f26 f27 f28 f29 : Addr} (X : K.In h) (G : h.Ns mainGlobals mg) (hfa : mg "law" = some (.ref fa))
    {od1 an1 od2 an2 od3 an3 od4 an4 od5 an5 od6 an6 od7 an7 od8 an8 od9 an9 od10 an10 od11 an11 od12 an12 od13 an13 od14 an14 od15 an15 od16 an16 od17 an17 od18 an18 od19 an19 od20 an20 od21 an21 od22 an22 od23 an23 od24 an24 od25 an25 od26 an26 od27 an27 od28 an28 od29 an29 : Option Addr} {sl1 sl2 sl3 sl4 sl5 sl6 sl7 sl8 sl9 sl10 sl11 sl12 sl13 sl14 sl15 sl16 sl17 sl18 sl19 sl20 sl21 sl22 sl23 sl24 sl25 sl26 sl27 sl28 sl29 : Array (Option Value)} {oc1 kV1 dc1 pm1 cd1 ct1 oc2 kV2 dc2 pm2 cd2 ct2 oc3 kV3 dc3 pm3 cd3 ct3 oc4 kV4 dc4 pm4 cd4 ct4 oc5 kV5 dc5 pm5 cd5 ct5 oc6 kV6 dc6 pm6 cd6 ct6 oc7 kV7 dc7 pm7 cd7 ct7 oc8 kV8 dc8 pm8 cd8 ct8 oc9 kV9 dc9 pm9 cd9 ct9 oc10 kV10 dc10 pm10 cd10 ct10 oc11 kV11 dc11 pm11 cd11 ct11 oc12 kV12 dc12 pm12 cd12 ct12 oc13 kV13 dc13 pm13 cd13 ct13 oc14 kV14 dc14 pm14 cd14 ct14 oc15 kV15 dc15 pm15 cd15 ct15 oc16 kV16 dc16 pm16 cd16 ct16 oc17 kV17 dc17 pm17 cd17 ct17 oc18 kV18 dc18 pm18 cd18 ct18 oc19 kV19 dc19 pm19 cd19 ct19 oc20 kV20 dc20 pm20 cd20 ct20 oc21 kV21 dc21 pm21 cd21 ct21 oc22 kV22 dc22 pm22 cd22 ct22 oc23 kV23 dc23 pm23 cd23 ct23 oc24 kV24 dc24 pm24 cd24 ct24 oc25 kV25 dc25 pm25 cd25 ct25 oc26 kV26 dc26 pm26 cd26 ct26 oc27 kV27 dc27 pm27 cd27 ct27 oc28 kV28 dc28 pm28 cd28 ct28 oc29 kV29 dc29 pm29 cd29 ct29 : Value} {tF tM : Tok}
    (a1 : PySem.W.nsIn K mainGlobals "is_an_integer" = some (some (.ref f1))) (l1 : K.lookup f1 = some ⟨oc1, od1, .func (PySem.W.fnOf "is_an_integer" "is_an_integer" (defArgs s_is_an_integer) (defBody s_is_an_integer) (defScope s_is_an_integer) .none kV1 dc1 pm1 an1 cd1 ct1), sl1⟩) (c1 : PySem.W.codeIn K cd1 "is_an_integer" = true) (k1 : PySem.W.keepIn K (.ref f1) = true)
    (a2 : PySem.W.nsIn K mainGlobals "step" = some (some (.ref f2))) (l2 : K.lookup f2 = some ⟨oc2, od2, .func (PySem.W.fnOf "step" "step" (defArgs s_step) (defBody s_step) (defScope s_step) .none kV2 dc2 pm2 an2 cd2 ct2), sl2⟩) (c2 : PySem.W.codeIn K cd2 "step" = true) (k2 : PySem.W.keepIn K (.ref f2) = true)
    (a3 : PySem.W.nsIn K mainGlobals "deed_error" = some (some (.ref f3))) (l3 : K.lookup f3 = some ⟨oc3, od3, .func (PySem.W.fnOf "deed_error" "deed_error" (defArgs s_deed_error) (defBody s_deed_error) (defScope s_deed_error) .none kV3 dc3 pm3 an3 cd3 ct3), sl3⟩) (c3 : PySem.W.codeIn K cd3 "deed_error" = true) (k3 : PySem.W.keepIn K (.ref f3) = true)
    (a4 : PySem.W.nsIn K mainGlobals "program_error" = some (some (.ref f4))) (l4 : K.lookup f4 = some ⟨oc4, od4, .func (PySem.W.fnOf "program_error" "program_error" (defArgs s_program_error) (defBody s_program_error) (defScope s_program_error) .none kV4 dc4 pm4 an4 cd4 ct4), sl4⟩) (c4 : PySem.W.codeIn K cd4 "program_error" = true) (k4 : PySem.W.keepIn K (.ref f4) = true)
    (a5 : PySem.W.nsIn K mainGlobals "program_error_from" = some (some (.ref f5))) (l5 : K.lookup f5 = some ⟨oc5, od5, .func (PySem.W.fnOf "program_error_from" "program_error_from" (defArgs s_program_error_from) (defBody s_program_error_from) (defScope s_program_error_from) .none kV5 dc5 pm5 an5 cd5 ct5), sl5⟩) (c5 : PySem.W.codeIn K cd5 "program_error_from" = true) (k5 : PySem.W.keepIn K (.ref f5) = true)
    (a6 : PySem.W.nsIn K mainGlobals "steps_of" = some (some (.ref f6))) (l6 : K.lookup f6 = some ⟨oc6, od6, .func (PySem.W.fnOf "steps_of" "steps_of" (defArgs s_steps_of) (defBody s_steps_of) (defScope s_steps_of) .none kV6 dc6 pm6 an6 cd6 ct6), sl6⟩) (c6 : PySem.W.codeIn K cd6 "steps_of" = true) (k6 : PySem.W.keepIn K (.ref f6) = true)
    (a7 : PySem.W.nsIn K mainGlobals "deed_fault" = some (some (.ref f7))) (l7 : K.lookup f7 = some ⟨oc7, od7, .func (PySem.W.fnOf "deed_fault" "deed_fault" (defArgs s_deed_fault) (defBody s_deed_fault) (defScope s_deed_fault) .none kV7 dc7 pm7 an7 cd7 ct7), sl7⟩) (c7 : PySem.W.codeIn K cd7 "deed_fault" = true) (k7 : PySem.W.keepIn K (.ref f7) = true)
    (a8 : PySem.W.nsIn K mainGlobals "read_figures" = some (some (.ref f8))) (l8 : K.lookup f8 = some ⟨oc8, od8, .func (PySem.W.fnOf "read_figures" "read_figures" (defArgs s_read_figures) (defBody s_read_figures) (defScope s_read_figures) .none kV8 dc8 pm8 an8 cd8 ct8), sl8⟩) (c8 : PySem.W.codeIn K cd8 "read_figures" = true) (k8 : PySem.W.keepIn K (.ref f8) = true)
    (a9 : PySem.W.nsIn K mainGlobals "program_text" = some (some (.ref f9))) (l9 : K.lookup f9 = some ⟨oc9, od9, .func (PySem.W.fnOf "program_text" "program_text" (defArgs s_program_text) (defBody s_program_text) (defScope s_program_text) .none kV9 dc9 pm9 an9 cd9 ct9), sl9⟩) (c9 : PySem.W.codeIn K cd9 "program_text" = true) (k9 : PySem.W.keepIn K (.ref f9) = true)
    (a10 : PySem.W.nsIn K mainGlobals "read_program" = some (some (.ref f10))) (l10 : K.lookup f10 = some ⟨oc10, od10, .func (PySem.W.fnOf "read_program" "read_program" (defArgs s_read_program) (defBody s_read_program) (defScope s_read_program) .none kV10 dc10 pm10 an10 cd10 ct10), sl10⟩) (c10 : PySem.W.codeIn K cd10 "read_program" = true) (k10 : PySem.W.keepIn K (.ref f10) = true)
    (a11 : PySem.W.nsIn K mainGlobals "read_deed" = some (some (.ref f11))) (l11 : K.lookup f11 = some ⟨oc11, od11, .func (PySem.W.fnOf "read_deed" "read_deed" (defArgs s_read_deed) (defBody s_read_deed) (defScope s_read_deed) .none kV11 dc11 pm11 an11 cd11 ct11), sl11⟩) (c11 : PySem.W.codeIn K cd11 "read_deed" = true) (k11 : PySem.W.keepIn K (.ref f11) = true)
    (a12 : PySem.W.nsIn K mainGlobals "read_factor" = some (some (.ref f12))) (l12 : K.lookup f12 = some ⟨oc12, od12, .func (PySem.W.fnOf "read_factor" "read_factor" (defArgs s_read_factor) (defBody s_read_factor) (defScope s_read_factor) .none kV12 dc12 pm12 an12 cd12 ct12), sl12⟩) (c12 : PySem.W.codeIn K cd12 "read_factor" = true) (k12 : PySem.W.keepIn K (.ref f12) = true)
    (a13 : PySem.W.nsIn K mainGlobals "_law_pot" = some (some (.ref f13))) (l13 : K.lookup f13 = some ⟨oc13, od13, .func (PySem.W.fnOf "_law_pot" "_law_pot" (defArgs s_l_pot) (defBody s_l_pot) (defScope s_l_pot) .none kV13 dc13 pm13 an13 cd13 ct13), sl13⟩) (c13 : PySem.W.codeIn K cd13 "_law_pot" = true) (k13 : PySem.W.keepIn K (.ref f13) = true)
    (a14 : PySem.W.nsIn K mainGlobals "_law_dip" = some (some (.ref f14))) (l14 : K.lookup f14 = some ⟨oc14, od14, .func (PySem.W.fnOf "_law_dip" "_law_dip" (defArgs s_l_dip) (defBody s_l_dip) (defScope s_l_dip) .none kV14 dc14 pm14 an14 cd14 ct14), sl14⟩) (c14 : PySem.W.codeIn K cd14 "_law_dip" = true) (k14 : PySem.W.keepIn K (.ref f14) = true)
    (a15 : PySem.W.nsIn K mainGlobals "_law_pick" = some (some (.ref f15))) (l15 : K.lookup f15 = some ⟨oc15, od15, .func (PySem.W.fnOf "_law_pick" "_law_pick" (defArgs s_l_pick) (defBody s_l_pick) (defScope s_l_pick) .none kV15 dc15 pm15 an15 cd15 ct15), sl15⟩) (c15 : PySem.W.codeIn K cd15 "_law_pick" = true) (k15 : PySem.W.keepIn K (.ref f15) = true)
    (a16 : PySem.W.nsIn K mainGlobals "_law_primes" = some (some (.ref f16))) (l16 : K.lookup f16 = some ⟨oc16, od16, .func (PySem.W.fnOf "_law_primes" "_law_primes" (defArgs s_l_primes) (defBody s_l_primes) (defScope s_l_primes) .none kV16 dc16 pm16 an16 cd16 ct16), sl16⟩) (c16 : PySem.W.codeIn K cd16 "_law_primes" = true) (k16 : PySem.W.keepIn K (.ref f16) = true)
    (a17 : PySem.W.nsIn K mainGlobals "_law_common" = some (some (.ref f17))) (l17 : K.lookup f17 = some ⟨oc17, od17, .func (PySem.W.fnOf "_law_common" "_law_common" (defArgs s_l_common) (defBody s_l_common) (defScope s_l_common) .none kV17 dc17 pm17 an17 cd17 ct17), sl17⟩) (c17 : PySem.W.codeIn K cd17 "_law_common" = true) (k17 : PySem.W.keepIn K (.ref f17) = true)
    (a18 : PySem.W.nsIn K mainGlobals "_law_step" = some (some (.ref f18))) (l18 : K.lookup f18 = some ⟨oc18, od18, .func (PySem.W.fnOf "_law_step" "_law_step" (defArgs s_l_step) (defBody s_l_step) (defScope s_l_step) .none kV18 dc18 pm18 an18 cd18 ct18), sl18⟩) (c18 : PySem.W.codeIn K cd18 "_law_step" = true) (k18 : PySem.W.keepIn K (.ref f18) = true)
    (a19 : PySem.W.nsIn K mainGlobals "_law_great" = some (some (.ref f19))) (l19 : K.lookup f19 = some ⟨oc19, od19, .func (PySem.W.fnOf "_law_great" "_law_great" (defArgs s_l_great) (defBody s_l_great) (defScope s_l_great) .none kV19 dc19 pm19 an19 cd19 ct19), sl19⟩) (c19 : PySem.W.codeIn K cd19 "_law_great" = true) (k19 : PySem.W.keepIn K (.ref f19) = true)
    (a20 : PySem.W.nsIn K mainGlobals "_law_sizes" = some (some (.ref f20))) (l20 : K.lookup f20 = some ⟨oc20, od20, .func (PySem.W.fnOf "_law_sizes" "_law_sizes" (defArgs s_l_sizes) (defBody s_l_sizes) (defScope s_l_sizes) .none kV20 dc20 pm20 an20 cd20 ct20), sl20⟩) (c20 : PySem.W.codeIn K cd20 "_law_sizes" = true) (k20 : PySem.W.keepIn K (.ref f20) = true)
    (a21 : PySem.W.nsIn K mainGlobals "_law_wires" = some (some (.ref f21))) (l21 : K.lookup f21 = some ⟨oc21, od21, .func (PySem.W.fnOf "_law_wires" "_law_wires" (defArgs s_l_wires) (defBody s_l_wires) (defScope s_l_wires) .none kV21 dc21 pm21 an21 cd21 ct21), sl21⟩) (c21 : PySem.W.codeIn K cd21 "_law_wires" = true) (k21 : PySem.W.keepIn K (.ref f21) = true)
    (a22 : PySem.W.nsIn K mainGlobals "_law_machine" = some (some (.ref f22))) (l22 : K.lookup f22 = some ⟨oc22, od22, .func (PySem.W.fnOf "_law_machine" "_law_machine" (defArgs s_l_machine) (defBody s_l_machine) (defScope s_l_machine) .none kV22 dc22 pm22 an22 cd22 ct22), sl22⟩) (c22 : PySem.W.codeIn K cd22 "_law_machine" = true) (k22 : PySem.W.keepIn K (.ref f22) = true)
    (a23 : PySem.W.nsIn K mainGlobals "_law_deed" = some (some (.ref f23))) (l23 : K.lookup f23 = some ⟨oc23, od23, .func (PySem.W.fnOf "_law_deed" "_law_deed" (defArgs s_l_deed) (defBody s_l_deed) (defScope s_l_deed) .none kV23 dc23 pm23 an23 cd23 ct23), sl23⟩) (c23 : PySem.W.codeIn K cd23 "_law_deed" = true) (k23 : PySem.W.keepIn K (.ref f23) = true)
    (a24 : PySem.W.nsIn K mainGlobals "_law_program" = some (some (.ref f24))) (l24 : K.lookup f24 = some ⟨oc24, od24, .func (PySem.W.fnOf "_law_program" "_law_program" (defArgs s_l_program) (defBody s_l_program) (defScope s_l_program) .none kV24 dc24 pm24 an24 cd24 ct24), sl24⟩) (c24 : PySem.W.codeIn K cd24 "_law_program" = true) (k24 : PySem.W.keepIn K (.ref f24) = true)
    (a25 : PySem.W.nsIn K mainGlobals "_law_due" = some (some (.ref f25))) (l25 : K.lookup f25 = some ⟨oc25, od25, .func (PySem.W.fnOf "_law_due" "_law_due" (defArgs s_l_due) (defBody s_l_due) (defScope s_l_due) .none kV25 dc25 pm25 an25 cd25 ct25), sl25⟩) (c25 : PySem.W.codeIn K cd25 "_law_due" = true) (k25 : PySem.W.keepIn K (.ref f25) = true)
    (a26 : PySem.W.nsIn K mainGlobals "_law_due_program" = some (some (.ref f26))) (l26 : K.lookup f26 = some ⟨oc26, od26, .func (PySem.W.fnOf "_law_due_program" "_law_due_program" (defArgs s_l_due_program) (defBody s_l_due_program) (defScope s_l_due_program) .none kV26 dc26 pm26 an26 cd26 ct26), sl26⟩) (c26 : PySem.W.codeIn K cd26 "_law_due_program" = true) (k26 : PySem.W.keepIn K (.ref f26) = true)
    (a27 : PySem.W.nsIn K mainGlobals "_law_odd" = some (some (.ref f27))) (l27 : K.lookup f27 = some ⟨oc27, od27, .func (PySem.W.fnOf "_law_odd" "_law_odd" (defArgs s_l_odd) (defBody s_l_odd) (defScope s_l_odd) .none kV27 dc27 pm27 an27 cd27 ct27), sl27⟩) (c27 : PySem.W.codeIn K cd27 "_law_odd" = true) (k27 : PySem.W.keepIn K (.ref f27) = true)
    (a28 : PySem.W.nsIn K mainGlobals "_law_is_right" = some (some (.ref f28))) (l28 : K.lookup f28 = some ⟨oc28, od28, .func (PySem.W.fnOf "_law_is_right" "_law_is_right" (defArgs s_l_is_right) (defBody s_l_is_right) (defScope s_l_is_right) .none kV28 dc28 pm28 an28 cd28 ct28), sl28⟩) (c28 : PySem.W.codeIn K cd28 "_law_is_right" = true) (k28 : PySem.W.keepIn K (.ref f28) = true)
    (a29 : PySem.W.nsIn K mainGlobals "law" = some (some (.ref f29))) (l29 : K.lookup f29 = some ⟨oc29, od29, .func (PySem.W.fnOf "law" "law" (defArgs s_law) (defBody s_law) (defScope s_law) .none kV29 dc29 pm29 an29 cd29 ct29), sl29⟩) (c29 : PySem.W.codeIn K cd29 "law" = true) (k29 : PySem.W.keepIn K (.ref f29) = true)
    (z_len : PySem.W.nsIn K mainGlobals "len" = some none)
    (z_int : PySem.W.nsIn K mainGlobals "int" = some none)
    (z_max : PySem.W.nsIn K mainGlobals "max" = some none)
    (z_min : PySem.W.nsIn K mainGlobals "min" = some none)
    (z_tuple : PySem.W.nsIn K mainGlobals "tuple" = some none)
    (z_list : PySem.W.nsIn K mainGlobals "list" = some none)
    (z_range : PySem.W.nsIn K mainGlobals "range" = some none)
    (z_any : PySem.W.nsIn K mainGlobals "any" = some none)
    (z_all : PySem.W.nsIn K mainGlobals "all" = some none)
    (z_repr : PySem.W.nsIn K mainGlobals "repr" = some none)
    (z_enumerate : PySem.W.nsIn K mainGlobals "enumerate" = some none)
    (z_isinstance : PySem.W.nsIn K mainGlobals "isinstance" = some none)
    (z_bool : PySem.W.nsIn K mainGlobals "bool" = some none)
    (z_abs : PySem.W.nsIn K mainGlobals "abs" = some none)
    (z_str : PySem.W.nsIn K mainGlobals "str" = some none)
    (g_gcd : PySem.W.nsIn K mainGlobals "gcd" = some (some (.builtin "math.gcd")))
    (g_MAX_FACTOR : PySem.W.nsIn K mainGlobals "MAX_FACTOR" = some (some (.int 1000000000000000000000000000000000000000000000000000000000000 tF)))
    (g_MAX_DEEDS : PySem.W.nsIn K mainGlobals "MAX_DEEDS" = some (some (.int 1000000 tM))) :
    ∃ fd : FuncData, (∀ (s : Shared) (v : Value), BindsTo s fd ⟨[v], []⟩ [("script", v)]) ∧ ∀ base : Heap, K.In base → base.Ns mainGlobals mg → GFn l.prog w K mg base 6 fa fd ["script"] (spLaw K) := by
  have e := hfa.symm.trans (PySem.W.mg_of X G a29)
  cases e
  have T : Blt mg := ⟨PySem.W.mg_none_of X G z_len, PySem.W.mg_none_of X G z_int, PySem.W.mg_none_of X G z_max, PySem.W.mg_none_of X G z_min, PySem.W.mg_none_of X G z_tuple, PySem.W.mg_none_of X G z_list, PySem.W.mg_none_of X G z_range, PySem.W.mg_none_of X G z_any, PySem.W.mg_none_of X G z_all, PySem.W.mg_none_of X G z_repr, PySem.W.mg_none_of X G z_enumerate, PySem.W.mg_none_of X G z_isinstance, PySem.W.mg_none_of X G z_bool⟩
  have F1 := fun_mk (st := s_is_an_integer) l1 c1 k1
  have D_is_an_integer : DefAt K mg "is_an_integer" s_is_an_integer ["value"] f1 _ := ⟨F1, PySem.W.mg_of X G a1, F1.binds (ps := ["value"]) fun _ _ _ _ _ _ us hl => match us, hl with | [_], _ => rfl⟩
  have F2 := fun_mk (st := s_step) l2 c2 k2
  have D_step : DefAt K mg "step" s_step ["machine", "j", "i"] f2 _ := ⟨F2, PySem.W.mg_of X G a2, F2.binds (ps := ["machine", "j", "i"]) fun _ _ _ _ _ _ us hl => match us, hl with | [_, _, _], _ => rfl⟩
  have F3 := fun_mk (st := s_deed_error) l3 c3 k3
  have D_deed_error : DefAt K mg "deed_error" s_deed_error ["machine", "value"] f3 _ := ⟨F3, PySem.W.mg_of X G a3, F3.binds (ps := ["machine", "value"]) fun _ _ _ _ _ _ us hl => match us, hl with | [_, _], _ => rfl⟩
  have F4 := fun_mk (st := s_program_error) l4 c4 k4
  have D_program_error : DefAt K mg "program_error" s_program_error ["machine", "value"] f4 _ := ⟨F4, PySem.W.mg_of X G a4, F4.binds (ps := ["machine", "value"]) fun _ _ _ _ _ _ us hl => match us, hl with | [_, _], _ => rfl⟩
  have F5 := fun_mk (st := s_program_error_from) l5 c5 k5
  have D_program_error_from : DefAt K mg "program_error_from" s_program_error_from ["machine", "value", "first"] f5 _ := ⟨F5, PySem.W.mg_of X G a5, F5.binds (ps := ["machine", "value", "first"]) fun _ _ _ _ _ _ us hl => match us, hl with | [_, _, _], _ => rfl⟩
  have F6 := fun_mk (st := s_steps_of) l6 c6 k6
  have D_steps_of : DefAt K mg "steps_of" s_steps_of ["machine"] f6 _ := ⟨F6, PySem.W.mg_of X G a6, F6.binds (ps := ["machine"]) fun _ _ _ _ _ _ us hl => match us, hl with | [_], _ => rfl⟩
  have F7 := fun_mk (st := s_deed_fault) l7 c7 k7
  have D_deed_fault : DefAt K mg "deed_fault" s_deed_fault ["steps", "value"] f7 _ := ⟨F7, PySem.W.mg_of X G a7, F7.binds (ps := ["steps", "value"]) fun _ _ _ _ _ _ us hl => match us, hl with | [_, _], _ => rfl⟩
  have F8 := fun_mk (st := s_read_figures) l8 c8 k8
  have D_read_figures : DefAt K mg "read_figures" s_read_figures ["word", "greatest"] f8 _ := ⟨F8, PySem.W.mg_of X G a8, F8.binds (ps := ["word", "greatest"]) fun _ _ _ _ _ _ us hl => match us, hl with | [_, _], _ => rfl⟩
  have F9 := fun_mk (st := s_program_text) l9 c9 k9
  have D_program_text : DefAt K mg "program_text" s_program_text ["program"] f9 _ := ⟨F9, PySem.W.mg_of X G a9, F9.binds (ps := ["program"]) fun _ _ _ _ _ _ us hl => match us, hl with | [_], _ => rfl⟩
  have F10 := fun_mk (st := s_read_program) l10 c10 k10
  have D_read_program : DefAt K mg "read_program" s_read_program ["machine", "value"] f10 _ := ⟨F10, PySem.W.mg_of X G a10, F10.binds (ps := ["machine", "value"]) fun _ _ _ _ _ _ us hl => match us, hl with | [_, _], _ => rfl⟩
  have F11 := fun_mk (st := s_read_deed) l11 c11 k11
  have D_read_deed : DefAt K mg "read_deed" s_read_deed ["word"] f11 _ := ⟨F11, PySem.W.mg_of X G a11, F11.binds (ps := ["word"]) fun _ _ _ _ _ _ us hl => match us, hl with | [_], _ => rfl⟩
  have F12 := fun_mk (st := s_read_factor) l12 c12 k12
  have D_read_factor : DefAt K mg "read_factor" s_read_factor ["word"] f12 _ := ⟨F12, PySem.W.mg_of X G a12, F12.binds (ps := ["word"]) fun _ _ _ _ _ _ us hl => match us, hl with | [_], _ => rfl⟩
  have F13 := fun_mk (st := s_l_pot) l13 c13 k13
  have D_l_pot : DefAt K mg "_law_pot" s_l_pot ["script"] f13 _ := ⟨F13, PySem.W.mg_of X G a13, F13.binds (ps := ["script"]) fun _ _ _ _ _ _ us hl => match us, hl with | [_], _ => rfl⟩
  have F14 := fun_mk (st := s_l_dip) l14 c14 k14
  have D_l_dip : DefAt K mg "_law_dip" s_l_dip ["pot", "size"] f14 _ := ⟨F14, PySem.W.mg_of X G a14, F14.binds (ps := ["pot", "size"]) fun _ _ _ _ _ _ us hl => match us, hl with | [_, _], _ => rfl⟩
  have F15 := fun_mk (st := s_l_pick) l15 c15 k15
  have D_l_pick : DefAt K mg "_law_pick" s_l_pick ["pot", "items"] f15 _ := ⟨F15, PySem.W.mg_of X G a15, F15.binds (ps := ["pot", "items"]) fun _ _ _ _ _ _ us hl => match us, hl with | [_, _], _ => rfl⟩
  have F16 := fun_mk (st := s_l_primes) l16 c16 k16
  have D_l_primes : DefAt K mg "_law_primes" s_l_primes [] f16 _ := ⟨F16, PySem.W.mg_of X G a16, F16.binds (ps := []) fun _ _ _ _ _ _ us hl => match us, hl with | [], _ => rfl⟩
  have F17 := fun_mk (st := s_l_common) l17 c17 k17
  have D_l_common : DefAt K mg "_law_common" s_l_common ["one", "other"] f17 _ := ⟨F17, PySem.W.mg_of X G a17, F17.binds (ps := ["one", "other"]) fun _ _ _ _ _ _ us hl => match us, hl with | [_, _], _ => rfl⟩
  have F18 := fun_mk (st := s_l_step) l18 c18 k18
  have D_l_step : DefAt K mg "_law_step" s_l_step ["sizes", "j", "i"] f18 _ := ⟨F18, PySem.W.mg_of X G a18, F18.binds (ps := ["sizes", "j", "i"]) fun _ _ _ _ _ _ us hl => match us, hl with | [_, _, _], _ => rfl⟩
  have F19 := fun_mk (st := s_l_great) l19 c19 k19
  have D_l_great : DefAt K mg "_law_great" s_l_great ["pot"] f19 _ := ⟨F19, PySem.W.mg_of X G a19, F19.binds (ps := ["pot"]) fun _ _ _ _ _ _ us hl => match us, hl with | [_], _ => rfl⟩
  have F20 := fun_mk (st := s_l_sizes) l20 c20 k20
  have D_l_sizes : DefAt K mg "_law_sizes" s_l_sizes ["pot", "is_great"] f20 _ := ⟨F20, PySem.W.mg_of X G a20, F20.binds (ps := ["pot", "is_great"]) fun _ _ _ _ _ _ us hl => match us, hl with | [_, _], _ => rfl⟩
  have F21 := fun_mk (st := s_l_wires) l21 c21 k21
  have D_l_wires : DefAt K mg "_law_wires" s_l_wires ["pot", "many"] f21 _ := ⟨F21, PySem.W.mg_of X G a21, F21.binds (ps := ["pot", "many"]) fun _ _ _ _ _ _ us hl => match us, hl with | [_, _], _ => rfl⟩
  have F22 := fun_mk (st := s_l_machine) l22 c22 k22
  have D_l_machine : DefAt K mg "_law_machine" s_l_machine ["pot", "is_great"] f22 _ := ⟨F22, PySem.W.mg_of X G a22, F22.binds (ps := ["pot", "is_great"]) fun _ _ _ _ _ _ us hl => match us, hl with | [_, _], _ => rfl⟩
  have F23 := fun_mk (st := s_l_deed) l23 c23 k23
  have D_l_deed : DefAt K mg "_law_deed" s_l_deed ["pot", "machine"] f23 _ := ⟨F23, PySem.W.mg_of X G a23, F23.binds (ps := ["pot", "machine"]) fun _ _ _ _ _ _ us hl => match us, hl with | [_, _], _ => rfl⟩
  have F24 := fun_mk (st := s_l_program) l24 c24 k24
  have D_l_program : DefAt K mg "_law_program" s_l_program ["pot", "machine", "most"] f24 _ := ⟨F24, PySem.W.mg_of X G a24, F24.binds (ps := ["pot", "machine", "most"]) fun _ _ _ _ _ _ us hl => match us, hl with | [_, _, _], _ => rfl⟩
  have F25 := fun_mk (st := s_l_due) l25 c25 k25
  have D_l_due : DefAt K mg "_law_due" s_l_due ["machine", "value"] f25 _ := ⟨F25, PySem.W.mg_of X G a25, F25.binds (ps := ["machine", "value"]) fun _ _ _ _ _ _ us hl => match us, hl with | [_, _], _ => rfl⟩
  have F26 := fun_mk (st := s_l_due_program) l26 c26 k26
  have D_l_due_program : DefAt K mg "_law_due_program" s_l_due_program ["machine", "value"] f26 _ := ⟨F26, PySem.W.mg_of X G a26, F26.binds (ps := ["machine", "value"]) fun _ _ _ _ _ _ us hl => match us, hl with | [_, _], _ => rfl⟩
  have F27 := fun_mk (st := s_l_odd) l27 c27 k27
  have D_l_odd : DefAt K mg "_law_odd" s_l_odd ["pot", "machine"] f27 _ := ⟨F27, PySem.W.mg_of X G a27, F27.binds (ps := ["pot", "machine"]) fun _ _ _ _ _ _ us hl => match us, hl with | [_, _], _ => rfl⟩
  have F28 := fun_mk (st := s_l_is_right) l28 c28 k28
  have D_l_is_right : DefAt K mg "_law_is_right" s_l_is_right ["machine", "value", "is_named"] f28 _ := ⟨F28, PySem.W.mg_of X G a28, F28.binds (ps := ["machine", "value", "is_named"]) fun _ _ _ _ _ _ us hl => match us, hl with | [_, _, _], _ => rfl⟩
  have F29 := fun_mk (st := s_law) l29 c29 k29
  refine ⟨PySem.W.fnOf "law" "law" (defArgs s_law) (defBody s_law) (defScope s_law) .none kV29 dc29 pm29 an29 cd29 ct29, fun s v => .of_eq rfl, fun base _ _ => ?_⟩
  have T_abs := PySem.W.mg_none_of X G z_abs
  have T_str := PySem.W.mg_none_of X G z_str
  have gF := (show mg "MAX_FACTOR" = some (.int (10 ^ 60) tF) from PySem.W.mg_of X G g_MAX_FACTOR)
  have gM := PySem.W.mg_of X G g_MAX_DEEDS
  have c_dipW := ok_dipW (P := l.prog) (w := w) (base := base) D_l_dip T
  have c_dip := Cal.weak c_dipW (fun _ _ _ _ h => dip_of h)
  have c_pickA := ok_pickA D_l_pick T c_dip
  have c_pick := Cal.weak c_pickA (fun _ _ _ _ h => pick_of h)
  have c_primes := ok_primes (P := l.prog) (w := w) (base := base) D_l_primes
  have c_common := ok_common (P := l.prog) (w := w) (base := base) D_l_common
  have c_great := ok_great D_l_great T c_dip c_pick c_primes
  have c_sizes := ok_sizes D_l_sizes T c_dip c_pick c_great
  have c_wires := ok_wires D_l_wires T c_dip c_pick
  have c_machine := ok_machine D_l_machine T c_sizes c_wires
  have c_pot := ok_pot (P := l.prog) (w := w) (base := base) D_l_pot T
  have c_lstep := ok_lstep D_l_step c_common
  have c_deed := ok_deed D_l_deed T c_dip c_pickA c_lstep
  have c_program := ok_program D_l_program T c_dip c_deed
  have c_int := ok_isintE (P := l.prog) (w := w) (base := base) D_is_an_integer T
  have f_step := fn_step (P := l.prog) (w := w) (base := base) D_step (PySem.W.mg_of X G g_gcd)
  have c_steps := ok_steps D_steps_of T (Cal.of D_step f_step)
  have c_fault := ok_fault D_deed_fault T T_abs gF c_int
  have f_derr := fn_derr D_deed_error c_steps c_fault
  have c_pfrom := ok_pfrom D_program_error_from T gM c_steps c_fault
  have f_perr := fn_perr D_program_error c_pfrom
  have c_due := ok_ldue D_l_due T T_abs c_lstep
  have c_duep := ok_lduep D_l_due_program T c_due
  have c_odd := ok_odd D_l_odd T T_str c_dip c_pick c_lstep c_deed
  have c_fig := ok_fig (P := l.prog) (w := w) (base := base) D_read_figures T T_str
  have c_fac := ok_fac D_read_factor gF c_fig
  have c_rd := ok_rd D_read_deed gF c_fig c_fac
  have c_pt := ok_pt (P := l.prog) (w := w) (base := base) D_program_text T
  have c_rp := ok_rp D_read_program T T_str c_rd (Cal.of D_program_error f_perr) c_pt
  have c_right : GCal l.prog w K mg base _ "_law_is_right" _ := ⟨_, _, _, ok_right D_l_is_right.fn T c_due c_duep (Cal.of D_deed_error f_derr) (CalK.of D_deed_error f_derr (k_derr D_deed_error.fn)) (Cal.of D_program_error f_perr) (CalK.of D_program_error f_perr (k_perr D_program_error.fn)), D_l_is_right.mgf, D_l_is_right.fn.kp, D_l_is_right.bd⟩
  exact ok_law F29 T c_pot c_dip c_pick c_machine c_deed c_program c_odd c_right (Cal.of D_program_error f_perr) c_rp
end NA
open PySem PySem.W PyProof.Rows in
set_option maxRecDepth 100000 in
set_option maxHeartbeats 0 in
theorem PySem.Challenge.cw_narrowadds_k05_deeds_and_programs_judged_holds : PySem.Challenge.rw_narrowadds_k05_deeds_and_programs_judged.Holds := by
  w_on; o_law; k_head; (case hw => w_witness2)
  k_fill
  refine NA.walkG (l := PySem.Challenge.rw_narrowadds_k05_deeds_and_programs_judged) (n := 63) (k := 6) (x := "script") (sp := NA.spLaw) rfl (by decide) rfl ⟨rfl, by decide, by decide⟩ (fun w h Y => PySem.W.kIn_of Y) ?F (fun _ _ a ns hl _ hS => ⟨a, ns, rfl, hS, hl, fun _ => rfl⟩)
  case F =>
    intro w mg fa h KX G hmg
    refine' NA.all_mk KX G hmg ?a1 ?l1 ?c1 ?k1 ?a2 ?l2 ?c2 ?k2 ?a3 ?l3 ?c3 ?k3 ?a4 ?l4 ?c4 ?k4 ?a5 ?l5 ?c5 ?k5 ?a6 ?l6 ?c6 ?k6 ?a7 ?l7 ?c7 ?k7 ?a8 ?l8 ?c8 ?k8 ?a9 ?l9 ?c9 ?k9 ?a10 ?l10 ?c10 ?k10 ?a11 ?l11 ?c11 ?k11 ?a12 ?l12 ?c12 ?k12 ?a13 ?l13 ?c13 ?k13 ?a14 ?l14 ?c14 ?k14 ?a15 ?l15 ?c15 ?k15 ?a16 ?l16 ?c16 ?k16 ?a17 ?l17 ?c17 ?k17 ?a18 ?l18 ?c18 ?k18 ?a19 ?l19 ?c19 ?k19 ?a20 ?l20 ?c20 ?k20 ?a21 ?l21 ?c21 ?k21 ?a22 ?l22 ?c22 ?k22 ?a23 ?l23 ?c23 ?k23 ?a24 ?l24 ?c24 ?k24 ?a25 ?l25 ?c25 ?k25 ?a26 ?l26 ?c26 ?k26 ?a27 ?l27 ?c27 ?k27 ?a28 ?l28 ?c28 ?k28 ?a29 ?l29 ?c29 ?k29 ?z_len ?z_int ?z_max ?z_min ?z_tuple ?z_list ?z_range ?z_any ?z_all ?z_repr ?z_enumerate ?z_isinstance ?z_bool ?z_abs ?z_str ?g_gcd ?g_MAX_FACTOR ?g_MAX_DEEDS
    (case a1 => k_is)
    (case l1 => k_is)
    (case c1 => k_is)
    (case k1 => k_is)
    (case a2 => k_is)
    (case l2 => k_is)
    (case c2 => k_is)
    (case k2 => k_is)
    (case a3 => k_is)
    (case l3 => k_is)
    (case c3 => k_is)
    (case k3 => k_is)
    (case a4 => k_is)
    (case l4 => k_is)
    (case c4 => k_is)
    (case k4 => k_is)
    (case a5 => k_is)
    (case l5 => k_is)
    (case c5 => k_is)
    (case k5 => k_is)
    (case a6 => k_is)
    (case l6 => k_is)
    (case c6 => k_is)
    (case k6 => k_is)
    (case a7 => k_is)
    (case l7 => k_is)
    (case c7 => k_is)
    (case k7 => k_is)
    (case a8 => k_is)
    (case l8 => k_is)
    (case c8 => k_is)
    (case k8 => k_is)
    (case a9 => k_is)
    (case l9 => k_is)
    (case c9 => k_is)
    (case k9 => k_is)
    (case a10 => k_is)
    (case l10 => k_is)
    (case c10 => k_is)
    (case k10 => k_is)
    (case a11 => k_is)
    (case l11 => k_is)
    (case c11 => k_is)
    (case k11 => k_is)
    (case a12 => k_is)
    (case l12 => k_is)
    (case c12 => k_is)
    (case k12 => k_is)
    (case a13 => k_is)
    (case l13 => k_is)
    (case c13 => k_is)
    (case k13 => k_is)
    (case a14 => k_is)
    (case l14 => k_is)
    (case c14 => k_is)
    (case k14 => k_is)
    (case a15 => k_is)
    (case l15 => k_is)
    (case c15 => k_is)
    (case k15 => k_is)
    (case a16 => k_is)
    (case l16 => k_is)
    (case c16 => k_is)
    (case k16 => k_is)
    (case a17 => k_is)
    (case l17 => k_is)
    (case c17 => k_is)
    (case k17 => k_is)
    (case a18 => k_is)
    (case l18 => k_is)
    (case c18 => k_is)
    (case k18 => k_is)
    (case a19 => k_is)
    (case l19 => k_is)
    (case c19 => k_is)
    (case k19 => k_is)
    (case a20 => k_is)
    (case l20 => k_is)
    (case c20 => k_is)
    (case k20 => k_is)
    (case a21 => k_is)
    (case l21 => k_is)
    (case c21 => k_is)
    (case k21 => k_is)
    (case a22 => k_is)
    (case l22 => k_is)
    (case c22 => k_is)
    (case k22 => k_is)
    (case a23 => k_is)
    (case l23 => k_is)
    (case c23 => k_is)
    (case k23 => k_is)
    (case a24 => k_is)
    (case l24 => k_is)
    (case c24 => k_is)
    (case k24 => k_is)
    (case a25 => k_is)
    (case l25 => k_is)
    (case c25 => k_is)
    (case k25 => k_is)
    (case a26 => k_is)
    (case l26 => k_is)
    (case c26 => k_is)
    (case k26 => k_is)
    (case a27 => k_is)
    (case l27 => k_is)
    (case c27 => k_is)
    (case k27 => k_is)
    (case a28 => k_is)
    (case l28 => k_is)
    (case c28 => k_is)
    (case k28 => k_is)
    (case a29 => k_is)
    (case l29 => k_is)
    (case c29 => k_is)
    (case k29 => k_is)
    (case z_len => k_is)
    (case z_int => k_is)
    (case z_max => k_is)
    (case z_min => k_is)
    (case z_tuple => k_is)
    (case z_list => k_is)
    (case z_range => k_is)
    (case z_any => k_is)
    (case z_all => k_is)
    (case z_repr => k_is)
    (case z_enumerate => k_is)
    (case z_isinstance => k_is)
    (case z_bool => k_is)
    (case z_abs => k_is)
    (case z_str => k_is)
    (case g_gcd => k_is)
    (case g_MAX_FACTOR => k_is)
    (case g_MAX_DEEDS => k_is)
