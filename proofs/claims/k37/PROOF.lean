import PyProof.Rows.All
import Wide.All
import OpenK.AllK
import Wide.FinOn
import HandS.ForMost
import HandS.Codes
import HandS.Wide
import HandS.WideMore
import HandS.Gcd
import HandS.Walk
import HandS.Style
import HandS.Conv
import HandS.IsInst
import HandS.SetIn
import HandS.TupLe
import HandS.TupAny
import HandS.TupMul
import HandS.Zip
import HandS.Star
import HandS.ListItems
import HandS.Sort
import HandS.TryOnly
import HandS.TupLen
import HandS.Text
import HandS.StrMore
import HandS.FStr
import HandS.DictComp
import HandS.RepeatKit
import PyProof.Rows.ReprOcc
import KE.GoesZip
import PyProof.CollectWalk
import PyProof.ListNew
import PyProof.MeetsSeq2
import PyProof.WalkInts
import KE.GoesMore
import KE.GoesEnum
import KE.KSetDisp
import PySem.Challenge.RW_narrowadds_k37_what_are_wishes
set_option Elab.async false
set_option linter.all false
set_option maxRecDepth 100000
set_option maxHeartbeats 2000000
set_option exponentiation.threshold 5000
/-! the mathematics of sizes: primes to 97, how often they divide -/
namespace NA
def PRn : List Nat := [2, 3, 5, 7, 11, 13, 17, 19, 23, 29, 31, 37, 41, 43, 47, 53, 59, 61, 67, 71, 73, 79, 83, 89, 97]
inductive Smo : Nat → Prop
  | one : Smo 1
  | mul {p n : Nat} : p ∈ PRn → Smo n → Smo (p * n)
theorem PRn_two {p : Nat} (h : p ∈ PRn) : 2 ≤ p := by
  have e : PRn.all (fun p => decide (2 ≤ p)) = true := by decide
  exact of_decide_eq_true (List.all_eq_true.mp e p h)
theorem PRn_le {p : Nat} (h : p ∈ PRn) : p ≤ 97 := by
  have e : PRn.all (fun p => decide (p ≤ 97)) = true := by decide
  exact of_decide_eq_true (List.all_eq_true.mp e p h)
theorem Smo.pos {n : Nat} (h : Smo n) : 0 < n := by
  induction h with
  | one => decide
  | mul hp _ ih => exact Nat.mul_pos (Nat.lt_of_lt_of_le (by decide) (PRn_two hp)) ih
theorem Smo.mulr {p n : Nat} (hp : p ∈ PRn) (h : Smo n) : Smo (n * p) := by
  rw [Nat.mul_comm]
  exact .mul hp h
def stripN (p : Nat) : Nat → Nat → Nat
  | 0, n => n
  | f + 1, n => if n % p = 0 then stripN p f (n / p) else n
theorem stripN_smo {p : Nat} (hp : p ∈ PRn) : ∀ (f n : Nat), Smo (stripN p f n) → Smo n
  | 0, _, h => h
  | f + 1, n, h => by
    unfold stripN at h
    by_cases e : n % p = 0
    · rw [if_pos e] at h
      have h1 := stripN_smo hp f (n / p) h
      have h2 : n = p * (n / p) := by
        have := Nat.div_add_mod n p
        omega
      rw [h2]
      exact .mul hp h1
    · rw [if_neg e] at h
      exact h
def smoB (n : Nat) : Bool := PRn.foldl (fun n p => stripN p 110 n) n == 1
theorem foldl_smo : ∀ (l : List Nat), (∀ p ∈ l, p ∈ PRn) → ∀ n, Smo (l.foldl (fun n p => stripN p 110 n) n) → Smo n
  | [], _, _, h => h
  | p :: l, hl, n, h => stripN_smo (hl p List.mem_cons_self) 110 n (foldl_smo l (fun q hq => hl q (List.mem_cons_of_mem _ hq)) _ h)
theorem smo_of {n : Nat} (h : smoB n = true) : Smo n := by
  refine foldl_smo PRn (fun _ h => h) n ?_
  rw [show List.foldl (fun n p => stripN p 110 n) n PRn = 1 from eq_of_beq h]
  exact .one
def SizeOk (n : Int) : Prop := ∃ m : Nat, n = m ∧ 2 ≤ m ∧ m ≤ 10 ^ 30 ∧ Smo m
def wlt (a b : Nat × Nat) : Prop := a.1 < b.1 ∨ (a.1 = b.1 ∧ a.2 < b.2)
/-- wires of a machine of many registers -/
structure WOk (many : Nat) (ws : List (Nat × Nat)) : Prop where
  asc : ws.Pairwise wlt
  low : ∀ w ∈ ws, w.1 < many ∧ w.2 < many ∧ w.1 ≠ w.2
structure MOk (ss : List Int) (ws : List (Nat × Nat)) : Prop where
  one : 1 ≤ ss.length
  six : ss.length ≤ 6
  size : ∀ s ∈ ss, SizeOk s
  wires : WOk ss.length ws
end NA
namespace NA
def val (p n : Nat) : Nat := if h : 2 ≤ p ∧ 0 < n ∧ n % p = 0 then val p (n / p) + 1 else 0
termination_by n
decreasing_by exact Nat.div_lt_self h.2.1 h.1
theorem val_yes {p n : Nat} (hp : 2 ≤ p) (hn : 0 < n) (h : n % p = 0) : val p n = val p (n / p) + 1 := by
  rw [val]
  exact dif_pos ⟨hp, hn, h⟩
theorem val_no {p n : Nat} (h : n % p ≠ 0) : val p n = 0 := by
  rw [val]
  exact dif_neg fun z => h z.2.2
theorem pow_dvd_val {p : Nat} (hp : 2 ≤ p) : ∀ (k n : Nat), 0 < n → (p ^ k ∣ n ↔ k ≤ val p n)
  | 0, n, _ => by simp
  | k + 1, n, hn => by
    by_cases h : n % p = 0
    · have e : n = p * (n / p) := by
        have := Nat.div_add_mod n p
        omega
      have hq : 0 < n / p := Nat.div_pos (Nat.le_of_dvd hn (Nat.dvd_of_mod_eq_zero h)) (by omega)
      rw [val_yes hp hn h]
      have ih := pow_dvd_val hp k (n / p) hq
      constructor
      · intro d
        rw [e, Nat.pow_succ, Nat.mul_comm] at d
        have := ih.mp (Nat.dvd_of_mul_dvd_mul_left (by omega) d)
        omega
      · intro d
        have := ih.mpr (by omega)
        rw [e, Nat.pow_succ, Nat.mul_comm]
        exact Nat.mul_dvd_mul_left p this
    · rw [val_no h]
      constructor
      · intro d
        exact absurd (Nat.mod_eq_zero_of_dvd (Nat.dvd_trans (by rw [Nat.pow_succ]; exact Nat.dvd_mul_left p _) d)) h
      · intro d
        omega
theorem val_eq {p n m : Nat} (hp : 2 ≤ p) (hn : 0 < n) (hm : 0 < m) (h : ∀ k, p ^ k ∣ n ↔ p ^ k ∣ m) : val p n = val p m := by
  have a := (pow_dvd_val hp (val p n) m hm).mp ((h _).mp ((pow_dvd_val hp _ n hn).mpr (Nat.le_refl _)))
  have b := (pow_dvd_val hp (val p m) n hn).mp ((h _).mpr ((pow_dvd_val hp _ m hm).mpr (Nat.le_refl _)))
  omega
theorem PRn_prime {p : Nat} (h : p ∈ PRn) {d : Nat} (hd : d ∣ p) : d = 1 ∨ d = p := by
  have e : (PRn.all fun p => (List.range (p + 1)).all fun d => p % d != 0 || d == 1 || d == p) = true := by decide +kernel
  have e1 := List.all_eq_true.mp e p h
  have dl : d ≤ p := Nat.le_of_dvd (Nat.lt_of_lt_of_le (by decide) (PRn_two h)) hd
  have e2 := List.all_eq_true.mp e1 d (List.mem_range.mpr (by omega))
  have m := Nat.mod_eq_zero_of_dvd hd
  simp only [m, bne_self_eq_false, Bool.false_or, Bool.or_eq_true, beq_iff_eq] at e2
  exact e2
theorem PRn_cop {p x : Nat} (h : p ∈ PRn) (hx : ¬ p ∣ x) : Nat.Coprime p x := by
  rcases PRn_prime h (Nat.gcd_dvd_left p x) with e | e
  · exact e
  · exact absurd (e ▸ Nat.gcd_dvd_right p x) hx
theorem PRn_euclid {p x y : Nat} (h : p ∈ PRn) (d : p ∣ x * y) : p ∣ x ∨ p ∣ y := by
  by_cases hx : p ∣ x
  · exact .inl hx
  · exact .inr ((PRn_cop h hx).dvd_of_dvd_mul_left d)
theorem PRn_ne {p q : Nat} (hp : p ∈ PRn) (hq : q ∈ PRn) (h : p ≠ q) : Nat.Coprime p q := PRn_cop hp fun d => by
  rcases PRn_prime hq d with e | e
  · have := PRn_two hp
    omega
  · exact h e
theorem val_mul_ne {p q n : Nat} (hp : p ∈ PRn) (hq : q ∈ PRn) (hn : 0 < n) (h : p ≠ q) : val p (q * n) = val p n := by
  refine val_eq (PRn_two hp) (Nat.mul_pos (Nat.lt_of_lt_of_le (by decide) (PRn_two hq)) hn) hn fun k => ⟨fun d => ?_, fun d => Nat.dvd_trans d (Nat.dvd_mul_left n q)⟩
  exact (Nat.Coprime.pow_left k (PRn_ne hp hq h)).dvd_of_dvd_mul_left d
theorem val_mul_self {p n : Nat} (hp : 2 ≤ p) (hn : 0 < n) : val p (p * n) = val p n + 1 := by
  rw [val_yes hp (Nat.mul_pos (by omega) hn) (Nat.mul_mod_right p n), Nat.mul_div_cancel_left n (by omega)]
theorem val_add {p : Nat} (hp : p ∈ PRn) : ∀ (x y : Nat), 0 < x → 0 < y → val p (x * y) = val p x + val p y := by
  intro x
  induction x using Nat.strongRecOn with
  | ind x ih =>
    intro y hx hy
    have h2 := PRn_two hp
    by_cases h : x % p = 0
    · have e : x = p * (x / p) := by
        have := Nat.div_add_mod x p
        omega
      have hq : 0 < x / p := Nat.div_pos (Nat.le_of_dvd hx (Nat.dvd_of_mod_eq_zero h)) (by omega)
      have i := ih (x / p) (Nat.div_lt_self hx h2) y hq hy
      rw [val_yes h2 hx h, show x * y = p * (x / p * y) by rw [← Nat.mul_assoc, ← e], val_mul_self h2 (Nat.mul_pos hq hy), i]
      omega
    · rw [val_no h, Nat.zero_add]
      have c : Nat.Coprime p x := PRn_cop hp fun d => h (Nat.mod_eq_zero_of_dvd d)
      refine val_eq h2 (Nat.mul_pos hx hy) hy fun k => ⟨fun d => (Nat.Coprime.pow_left k c).dvd_of_dvd_mul_left d, fun d => Nat.dvd_trans d (Nat.dvd_mul_left y x)⟩
theorem val_gcd {p a b : Nat} (hp : 2 ≤ p) (ha : 0 < a) (hb : 0 < b) : val p (Nat.gcd a b) = min (val p a) (val p b) := by
  have hg : 0 < Nat.gcd a b := Nat.gcd_pos_of_pos_left b ha
  have le : ∀ k, k ≤ val p (Nat.gcd a b) ↔ k ≤ val p a ∧ k ≤ val p b := fun k => by
    rw [← pow_dvd_val hp k _ hg, ← pow_dvd_val hp k a ha, ← pow_dvd_val hp k b hb]
    exact ⟨fun d => ⟨Nat.dvd_trans d (Nat.gcd_dvd_left a b), Nat.dvd_trans d (Nat.gcd_dvd_right a b)⟩, fun ⟨x, y⟩ => Nat.dvd_gcd x y⟩
  have h1 := (le _).mp (Nat.le_refl _)
  have h2 := (le (min (val p a) (val p b))).mpr ⟨Nat.min_le_left _ _, Nat.min_le_right _ _⟩
  omega
/-! ### a size is put together of its primes -/
def made (l : List Nat) (m s : Nat) : Nat := l.foldl (fun m p => m * p ^ val p s) m
theorem made_acc : ∀ (l : List Nat) (m s : Nat), made l m s = m * made l 1 s
  | [], m, s => by simp [made]
  | p :: l, m, s => by
    show made l (m * p ^ val p s) s = m * made l (1 * p ^ val p s) s
    rw [made_acc l (m * p ^ val p s) s, made_acc l (1 * p ^ val p s) s, Nat.one_mul, Nat.mul_assoc]
theorem made_one : ∀ l : List Nat, made l 1 1 = 1
  | [] => rfl
  | p :: l => by
    show made l (1 * p ^ val p 1) 1 = 1
    have v : val p 1 = 0 := by
      by_cases h : 1 % p = 0
      · by_cases h2 : 2 ≤ p
        · rw [Nat.mod_eq_of_lt (by omega)] at h
          cases h
        · rw [val]
          exact dif_neg fun z => h2 z.1
      · exact val_no h
    rw [v, Nat.pow_zero, Nat.mul_one, made_one l]
theorem made_mul {q n : Nat} (hq : q ∈ PRn) (hn : 0 < n) : ∀ l : List Nat, (∀ p ∈ l, p ∈ PRn) → made l 1 (q * n) = q ^ l.count q * made l 1 n
  | [], _ => by simp [made]
  | p :: l, hl => by
    have ih := made_mul hq hn l fun x hx => hl x (List.mem_cons_of_mem _ hx)
    have hp := hl p List.mem_cons_self
    show made l (1 * p ^ val p (q * n)) (q * n) = q ^ (p :: l).count q * made l (1 * p ^ val p n) n
    rw [made_acc l (1 * p ^ val p (q * n)), made_acc l (1 * p ^ val p n), ih, Nat.one_mul, Nat.one_mul]
    by_cases e : p = q
    · subst e
      rw [val_mul_self (PRn_two hp) hn, List.count_cons_self, Nat.pow_succ, Nat.pow_succ]
      simp only [Nat.mul_assoc, Nat.mul_left_comm]
    · rw [val_mul_ne hp hq hn e, List.count_cons_of_ne e]
      simp only [Nat.mul_left_comm]
theorem made_smo {s : Nat} (h : Smo s) : made PRn 1 s = s := by
  induction h with
  | one => exact made_one PRn
  | @mul q n hq hn ih =>
    rw [made_mul hq hn.pos PRn fun _ z => z, ih]
    have c : PRn.count q = 1 := by
      have e : (PRn.all fun q => PRn.count q == 1) = true := by decide +kernel
      exact eq_of_beq (List.all_eq_true.mp e q hq)
    rw [c, Nat.pow_one]
theorem made_filter {s : Nat} (f : Nat → Bool) : ∀ (l : List Nat) (m : Nat), (∀ p ∈ l, f p = false → val p s = 0) → made (l.filter f) m s = made l m s
  | [], _, _ => rfl
  | p :: l, m, h => by
    have hl : ∀ q ∈ l, f q = false → val q s = 0 := fun q hq => h q (List.mem_cons_of_mem _ hq)
    cases e : f p with
    | true =>
      rw [List.filter_cons_of_pos e]
      exact made_filter f l _ hl
    | false =>
      rw [List.filter_cons_of_neg (by rw [e]; exact Bool.false_ne_true), made_filter f l m hl]
      show made l m s = made l (m * p ^ val p s) s
      rw [h p List.mem_cons_self e, Nat.pow_zero, Nat.mul_one]
/-! ### steps: b by what it has in common with a -/
def stp (a b : Nat) : Nat := b / Nat.gcd b a
section
variable {a b : Nat}
theorem gcd_pos' (hb : 0 < b) : 0 < Nat.gcd b a := Nat.gcd_pos_of_pos_left a hb
theorem stp_mul (a b : Nat) : stp a b * Nat.gcd b a = b := Nat.div_mul_cancel (Nat.gcd_dvd_left b a)
theorem stp_pos (hb : 0 < b) : 0 < stp a b := Nat.div_pos (Nat.le_of_dvd hb (Nat.gcd_dvd_left b a)) (gcd_pos' hb)
theorem stp_cop (hb : 0 < b) : Nat.Coprime (stp a b) (a / Nat.gcd b a) := Nat.coprime_div_gcd_div_gcd (gcd_pos' hb)
theorem a_eq (a b : Nat) : a / Nat.gcd b a * Nat.gcd b a = a := Nat.div_mul_cancel (Nat.gcd_dvd_right b a)
/-- the multiples that do -/
theorem stp_iff (hb : 0 < b) (x : Nat) : b ∣ x * a ↔ stp a b ∣ x := by
  have g := gcd_pos' (a := a) hb
  have eb : b = Nat.gcd b a * stp a b := by rw [Nat.mul_comm]; exact (stp_mul a b).symm
  have ea : x * a = Nat.gcd b a * (x * (a / Nat.gcd b a)) := by
    rw [Nat.mul_left_comm, Nat.mul_comm (Nat.gcd b a), a_eq]
  constructor
  · intro d
    rw [ea] at d
    have d2 : Nat.gcd b a * stp a b ∣ Nat.gcd b a * (x * (a / Nat.gcd b a)) := by rw [← eb]; exact d
    exact (stp_cop hb).dvd_of_dvd_mul_right (Nat.dvd_of_mul_dvd_mul_left g d2)
  · intro d
    rw [ea]
    have d2 : Nat.gcd b a * stp a b ∣ Nat.gcd b a * (x * (a / Nat.gcd b a)) := Nat.mul_dvd_mul_left _ (Nat.dvd_trans d (Nat.dvd_mul_right x _))
    rw [← eb] at d2
    exact d2
theorem stp_least (hb : 0 < b) {p : Nat} (hp : 2 ≤ p) (h : stp a b % p = 0) : stp a b / p * a % b ≠ 0 := fun z => by
  have d := (stp_iff hb _).mp (Nat.dvd_of_mod_eq_zero z)
  have pos := stp_pos (a := a) hb
  have q : 0 < stp a b / p := Nat.div_pos (Nat.le_of_dvd pos (Nat.dvd_of_mod_eq_zero h)) (by omega)
  have := Nat.le_of_dvd q d
  have := Nat.div_lt_self pos hp
  omega
theorem stp_val (ha : 0 < a) (hb : 0 < b) {p : Nat} (hp : p ∈ PRn) : val p (stp a b) = val p b - val p a := by
  have e := val_add hp (stp a b) (Nat.gcd b a) (stp_pos hb) (gcd_pos' hb)
  rw [stp_mul, val_gcd (PRn_two hp) hb ha] at e
  omega
theorem stp_one (hb : 0 < b) : stp a b = 1 ↔ a % b = 0 := by
  constructor
  · intro e
    have d := (stp_iff hb 1).mpr (by rw [e]; exact Nat.dvd_refl 1)
    rw [Nat.one_mul] at d
    exact Nat.mod_eq_zero_of_dvd d
  · intro e
    have d := (stp_iff hb 1).mp (by rw [Nat.one_mul]; exact Nat.dvd_of_mod_eq_zero e)
    exact Nat.dvd_one.mp d
theorem stp_all (hb : 0 < b) : stp a b = b ↔ Nat.gcd b a = 1 := by
  have e := stp_mul a b
  constructor
  · intro h
    rw [h] at e
    have : b * Nat.gcd b a = b * 1 := by rw [e, Nat.mul_one]
    exact Nat.eq_of_mul_eq_mul_left hb this
  · intro h
    rw [h, Nat.mul_one] at e
    exact e
theorem stp_does (hb : 0 < b) : stp a b * a % b = 0 := Nat.mod_eq_zero_of_dvd ((stp_iff hb _).mpr (Nat.dvd_refl _))
theorem stp_two {c : Nat} (hb : 0 < b) (hc : 0 < c) : stp a b * stp b c % stp a c = 0 := by
  refine Nat.mod_eq_zero_of_dvd ((stp_iff hc _).mp ?_)
  have d1 : b ∣ stp a b * a := (stp_iff hb _).mpr (Nat.dvd_refl _)
  have d2 : c ∣ stp b c * b := (stp_iff hc _).mpr (Nat.dvd_refl _)
  have e : stp a b * stp b c * a = stp b c * (stp a b * a) := by
    rw [Nat.mul_comm (stp a b), Nat.mul_assoc]
  rw [e]
  exact Nat.dvd_trans d2 (Nat.mul_dvd_mul_left _ d1)
end
end NA
namespace NA
open PySem PySem.Spec PyProof.Rows L2

/-! ### defs while no repr is under way -/
abbrev Bare (A : Around) : Prop := A.guards = some []
structure GFn (P : Program) (w : World) (K : PySem.W.Frag) (mg : Str → Option Value) (base : Heap) (k : Nat) (f : Addr) (fd : FuncData) (ps : List Str) (sp : Sp) : Prop where
  len : ∀ vs H Q E, sp vs H Q E → vs.length = ps.length
  go : ∀ (A : Around) (outer : List Env) (s : Shared) (H : Hp) (args : Args) (us : List Value) (vs : List V) (Q : VK) (E : XK),
    Bare A → Room k A → Env0 P w K mg base A outer s H → BindsTo s fd args (ps.zip us) → Vals vs us → sp vs H Q E →
    codeAny (model P w) A (.call (.ref f) args) (CR CX0 outer P w H s Q E) s
/-- a def of the text: where it stands, how it binds -/
structure DefAt (K : PySem.W.Frag) (mg : Str → Option Value) (x : Str) (st : Stmt) (ps : List Str) (f : Addr) (fd : FuncData) : Prop where
  fn : Fun K x x st f fd
  mgf : mg x = some (.ref f)
  bd : Binds K fd ps []
structure Cal (P : Program) (w : World) (K : PySem.W.Frag) (mg : Str → Option Value) (base : Heap) (k : Nat) (x : Str) (sp : Sp) : Prop where
  ex : ∃ (f : Addr) (fd : FuncData) (ps : List Str), FnOk P w K mg base CX0 k f fd ps sp ∧ mg x = some (.ref f) ∧ PySem.W.keepIn K (.ref f) = true ∧ Binds K fd ps []
structure GCal (P : Program) (w : World) (K : PySem.W.Frag) (mg : Str → Option Value) (base : Heap) (k : Nat) (x : Str) (sp : Sp) : Prop where
  ex : ∃ (f : Addr) (fd : FuncData) (ps : List Str), GFn P w K mg base k f fd ps sp ∧ mg x = some (.ref f) ∧ PySem.W.keepIn K (.ref f) = true ∧ Binds K fd ps []
section
variable {P : Program} {w : World} {K : PySem.W.Frag} {mg : Str → Option Value} {base : Heap}
theorem cal_of {x : Str} {st : Stmt} {f : Addr} {fd : FuncData} {N ps : List Str} {k : Nat} {sp : Sp} (D : DefAt K mg x st ps f fd) (S : FnScope N ps (defScope st)) (len : ∀ vs H Q E, sp vs H Q E → vs.length = ps.length)
    (body : ∀ (cdv : Value) (A : Around) (outer : List Env) (s : Shared) (H : Hp) (vs : List V) (Q : VK) (E : XK), Room k (A.deeper (envOfC x (defScope st) s.heap.objs.size f cdv)) → sp vs H Q E →
      ∃ t, PSs (cxOf CX0 P w K mg base N x (defScope st) f cdv A outer s H E).nox (defBody st) t ∧ t { nx := fun _ H' => Q .non H', rt := Q } (start N vs) H) : Cal P w K mg base (k + 1) x sp :=
  ⟨f, fd, ps, D.fn.ok S len body, D.mgf, D.fn.kp, D.bd⟩
theorem gfn_of {x : Str} {st : Stmt} {f : Addr} {fd : FuncData} {N ps : List Str} {k : Nat} {sp : Sp} (F : Fun K x x st f fd) (S : FnScope N ps (defScope st)) (len : ∀ vs H Q E, sp vs H Q E → vs.length = ps.length)
    (body : ∀ (cdv : Value) (A : Around) (outer : List Env) (s : Shared) (H : Hp) (vs : List V) (Q : VK) (E : XK), PySem.W.codeIn K cdv x = true → Bare A → Room k (A.deeper (envOfC x (defScope st) s.heap.objs.size f cdv)) → sp vs H Q E →
      ∃ t, PSs (cxOf CX0 P w K mg base N x (defScope st) f cdv A outer s H E).nox (defBody st) t ∧ t { nx := fun _ H' => Q .non H', rt := Q } (start N vs) H) : GFn P w K mg base (k + 1) f fd ps sp := by
  obtain ⟨oc, od, kV, doc, pm, an, cdv, ct, osl, rfl, lk, hcode⟩ := F.ex
  refine ⟨len, fun A outer s H args us vs Q E hg room e0 bind rel want => ?_⟩
  have hlen := len _ _ _ _ want
  have KX : K.In s.heap := e0.mod.kin.keeps fun b o z => (e0.bs b o z).1
  have nolim : s.heap.NoLimit := e0.mod.nolimit.keeps fun b o z => (e0.bs b o z).1
  have kinds : ∀ y ∈ ps.zip us, (defScope st).names.lookup y.1 = some .local ∨ ((defScope st).names.lookup y.1 = some .cell ∧ ((cellsFrom (s.heap.objs.size + 1) (defScope st).names []).lookup y.1).isSome = true) := by
    intro ⟨nm, v⟩ hy
    rcases S.par nm (List.of_mem_zip hy).1 with z | z
    · exact .inl z
    · exact .inr ⟨z, PySem.W.cellsFrom_some _ _ _ (.inl z)⟩
  refine codeAny_call_function room.depth (KX _ _ lk) rfl S.co S.gen rfl (PySem.W.codeRec_of KX hcode) (bind _ _ _ _ ?_)
  refine wpAny_newFunctionEnv_cells S.kind kinds fun env henv s1 inc => ?_
  subst henv
  refine ⟨nolim.keeps inc.toInCall.keep, codeAny_func ?_⟩
  obtain ⟨t, derives, reads⟩ := body cdv A outer s H vs Q E hcode hg (room.deeper _) want
  have I := inv_start (CX := CX0) (E := E) (cd := cdv) S room.hd e0 hlen rel inc
  refine wpAny_mono (derives.nox.run [] s1 (start N vs) H _ I reads) (fun fl s' hs => ?_) fun e s' hs => hs
  cases fl with
  | ret u =>
    obtain ⟨v, σ', H', J, rv, q⟩ := hs
    exact ⟨v, H', J.os, J.bare, J.base, J.hok, rv, q⟩
  | next =>
    obtain ⟨σ', H', J, q⟩ := hs
    exact ⟨V.non, H', J.os, J.bare, J.base, J.hok, rfl, q⟩
  | brk =>
    obtain ⟨σ', H', J, q⟩ := hs
    exact False.elim q
  | cont =>
    obtain ⟨σ', H', J, q⟩ := hs
    exact False.elim q
theorem gcal_of {x : Str} {st : Stmt} {f : Addr} {fd : FuncData} {N ps : List Str} {k : Nat} {sp : Sp} (D : DefAt K mg x st ps f fd) (S : FnScope N ps (defScope st)) (len : ∀ vs H Q E, sp vs H Q E → vs.length = ps.length)
    (body : ∀ (cdv : Value) (A : Around) (outer : List Env) (s : Shared) (H : Hp) (vs : List V) (Q : VK) (E : XK), PySem.W.codeIn K cdv x = true → Bare A → Room k (A.deeper (envOfC x (defScope st) s.heap.objs.size f cdv)) → sp vs H Q E →
      ∃ t, PSs (cxOf CX0 P w K mg base N x (defScope st) f cdv A outer s H E).nox (defBody st) t ∧ t { nx := fun _ H' => Q .non H', rt := Q } (start N vs) H) : GCal P w K mg base (k + 1) x sp :=
  ⟨f, fd, ps, gfn_of D.fn S len body, D.mgf, D.fn.kp, D.bd⟩
end
section
variable {X : Cx} {x : Str} {p pos : Pos} {e : Expr} {es : List Expr} {t : TA} {k j : Nat} {sp : Sp}
/-- f(..) of such a def -/
theorem pe_g (c : GCal X.prog X.w X.K X.mg X.base k x sp) (hg : Bare X.A) (hr : Room j X.A) (hk : k ≤ j) (hgl : Gl X x) (ha : PA X (e :: es) t) (hdb : (x == ("__debug__" : Str)) = false := by decide)
    (he : starEach (e :: es) X.env = (false, eval e X.env) :: starEach es X.env := by rfl) (hpl : (backTo pos (starEach es X.env)).any (·.1) = false := by rfl) :
    PE X (.Call (.Name x p) (e :: es) [] pos) (tCall sp [] E0 t) := by
  obtain ⟨f, fd, ps, F, hm, hkeep, hb⟩ := c.ex
  refine ⟨fun pins s σ H Q I h => wpAny_Call_Name_kw (ld_glob I hgl hm ?_ hdb)⟩
  refine PySem.W.callWith_K (h₀ := X.base) I.ok.mod.kin hkeep (thn (ha.run pos pins s σ H _ I h) fun us s1 ⟨vs, H1, I1, r, q⟩ => ⟨I1.kIn, ?_⟩) he hpl
  have q' : sp (vs ++ []) H1 Q E0 := q
  rw [List.append_nil] at q'
  have l : (us ++ []).length = ps.length := by rw [List.append_nil, ← r.length]; exact F.len _ _ _ _ q'
  have b := hb s1 us I1.kIn l
  rw [List.append_nil] at b
  refine wpAny_call (codeAny_mono (F.go X.A X.stack s1 H1 ⟨us, []⟩ us vs Q E0 hg (hr.mono hk) I1.env0 b r q') fun res s' hq => ?_)
  cases res with
  | error err => exact False.elim hq
  | ok fl =>
    cases fl with
    | ret u => exact I1.after hq
    | next => exact False.elim hq
    | brk => exact False.elim hq
    | cont => exact False.elim hq
/-- f(k=v, ..): keywords alone -/
theorem pe_kw {CX : CXT} {f : Addr} {fd : FuncData} {ps ks : List Str} {E : XK} {kws : List Keyword} {tk : TA} {g : List Value → List Value → List Value} {gV : List V → List V → List V} (F : FnOk X.prog X.w X.K X.mg X.base CX k f fd ps sp) (hr : Room k X.A) (hgl : Gl X x) (hm : X.mg x = some (.ref f))
    (hkeep : PySem.W.keepIn X.K (.ref f) = true) (hb : KBinds X.K fd ps ks g gV) (hx : Passes CX X E) (hkw : PK X kws tk) (hall : (backToKw pos (keywordEach kws X.env)).all (·.1.isSome) = true := by rfl)
    (hks : (backToKw pos (keywordEach kws X.env)).filterMap (·.1) = ks := by rfl) (hdb : (x == ("__debug__" : Str)) = false := by decide)
    (hpl : ((backTo pos (starEach [] X.env)).any (·.1) || (backToKw pos (keywordEach kws X.env)).any (·.1.isNone)) = false := by rfl) :
    PE X (.Call (.Name x p) [] kws pos) (tCallK sp gV E tNil tk) := by
  refine ⟨fun pins s σ H Q I h => wpAny_Call_Name_kw (ld_glob I hgl hm ?_ hdb)⟩
  refine PySem.W.callWith_KW0 (h₀ := X.base) I.ok.mod.kin hkeep hall (thn (hkw.run pos pins s σ H _ I h) fun ws s2 ⟨zs, H2, I2, rz, q2⟩ => ⟨I2.kIn, ?_⟩) hpl
  rw [hks]
  exact run_fnk (us := []) F hr hb hx I2 .nil rz q2
end
/-- a def that may be called by keywords, in the order ks -/
structure CalK (P : Program) (w : World) (K : PySem.W.Frag) (mg : Str → Option Value) (base : Heap) (k : Nat) (x : Str) (sp : Sp) (ks : List Str) (gV : List V → List V → List V) : Prop where
  ex : ∃ (f : Addr) (fd : FuncData) (ps : List Str) (g : List Value → List Value → List Value), FnOk P w K mg base CX0 k f fd ps sp ∧ mg x = some (.ref f) ∧ PySem.W.keepIn K (.ref f) = true ∧ KBinds K fd ps ks g gV
section
variable {X : Cx} {x : Str} {p pos : Pos} {k j : Nat} {sp : Sp} {ks : List Str} {kws : List Keyword} {tk : TA} {gV : List V → List V → List V}
theorem pe_ck (c : CalK X.prog X.w X.K X.mg X.base k x sp ks gV) (hr : Room j X.A) (hk : k ≤ j) (hgl : Gl X x) (hkw : PK X kws tk) (hall : (backToKw pos (keywordEach kws X.env)).all (·.1.isSome) = true := by rfl)
    (hks : (backToKw pos (keywordEach kws X.env)).filterMap (·.1) = ks := by rfl) (hdb : (x == ("__debug__" : Str)) = false := by decide)
    (hpl : ((backTo pos (starEach [] X.env)).any (·.1) || (backToKw pos (keywordEach kws X.env)).any (·.1.isNone)) = false := by rfl) :
    PE X (.Call (.Name x p) [] kws pos) (tCallK sp gV E0 tNil tk) := by
  obtain ⟨f, fd, ps, g, F, hm, hkeep, hb⟩ := c.ex
  exact pe_kw F (hr.mono hk) hgl hm hkeep hb pass0 hkw hall hks hdb hpl
theorem pe_c0 (c : Cal X.prog X.w X.K X.mg X.base k x sp) (hr : Room j X.A) (hk : k ≤ j) (hgl : Gl X x) (hdb : (x == ("__debug__" : Str)) = false := by decide) : PE X (.Call (.Name x p) [] [] pos) (tCall sp [] E0 tNil) := by
  obtain ⟨f, fd, ps, F, hm, hkeep, hb⟩ := c.ex
  exact pe_call0 F (hr.mono hk) hgl hm hkeep hb .nil pass0 hdb
theorem pe_c {e : Expr} {es : List Expr} {t : TA} (c : Cal X.prog X.w X.K X.mg X.base k x sp) (hr : Room j X.A) (hk : k ≤ j) (hgl : Gl X x) (ha : PA X (e :: es) t) (hdb : (x == ("__debug__" : Str)) = false := by decide)
    (he : starEach (e :: es) X.env = (false, eval e X.env) :: starEach es X.env := by rfl) (hpl : (backTo pos (starEach es X.env)).any (·.1) = false := by rfl) : PE X (.Call (.Name x p) (e :: es) [] pos) (tCall sp [] E0 t) := by
  obtain ⟨f, fd, ps, F, hm, hkeep, hb⟩ := c.ex
  exact pe_call F (hr.mono hk) hgl hm hkeep hb .nil pass0 ha hdb he hpl
end
/-- the end of a law over such a def -/
theorem walkG {l : PySem.W.OpenLaw} {n k : Nat} {q : Program} {loose : List Str} {XP : (Str → Option Value) → Heap → Prop} {YP : World → Heap → Prop} {d : DefRec} {K : Params → PySem.W.Frag} {sp : PySem.W.Frag → Sp} {x : Str}
    (hn : l.most = some n) (hn2 : n ≤ sizeLine) (hdf : d.params.defaults = []) (hr : Room k callerA)
    (hY : ∀ (w : World) (h : Heap), YP w h → (K w.params).In h)
    (F : ∀ (w : World) (mg : Str → Option Value) (fa : Addr) (h : Heap), (K w.params).In h → h.Ns mainGlobals mg → mg d.name = some (.ref fa) →
      ∃ fd : FuncData, (∀ (s : Shared) (u : Value), BindsTo s fd ⟨[u], []⟩ [(x, u)]) ∧
        ∀ base : Heap, (K w.params).In base → base.Ns mainGlobals mg → GFn l.prog w (K w.params) mg base k fa fd [x] (sp (K w.params)))
    (hsp : ∀ (K : PySem.W.Frag) (H : Hp) (a : Addr) (ns : List Int), ns.length ≤ n → Only H → SqL K H a (ns.map V.int) → sp K [.ref a] H (fun v _ => v = .bl true) fun _ _ _ => False) :
    PySem.W.WalkO q loose XP YP l.row.toRowW d [] (fun f vs => PySem.call f vs) := by
  refine Att.attach_call hn hdf fun w s₀ s₁ mg mb fa o pm cd doc a vs ns G Y ho hd hcd hmg hobj hints hlen hgen => ?_
  have KX := hY w _ Y
  obtain ⟨fd, hb, hF⟩ := F w mg fa _ KX G.T.g hmg
  have mine : ∀ base : Heap, (K w.params).In base → base.Ns mainGlobals mg → FnOk l.prog w (K w.params) mg base CX0 k fa fd [x] (sp (K w.params)) → True := fun _ _ _ _ => trivial
  have rv := vals_ints hints
  have lenV := hints.length
  -- as the layer's own head does it, for the caller's surroundings alone
  have core : ∀ H : Hp, Only H → SqL (K w.params) H a (ns.map V.int) → HOk l.prog w H s₁.heap → (∀ b, H b ≠ none → b = a) → (H a ≠ none → (K w.params).lookup a = none) →
      codeAny (model l.prog w) callerA (.call (.ref fa) ⟨[.ref a], []⟩) (fun r s' => r = .ok (.ret (.bool true)) ∧ OldK s₁.heap s'.heap ∧ s'.os = s₁.os ∧ AllBare s'.gens) s₁ := by
    intro H hO hS hok only unk
    have keepHid : ∀ {b : Addr} {ob : Obj}, s₁.heap.get? b = some ob → H b = none → (hidT s₁.heap H).get? b = some ob := fun z nn => hidT_get z nn
    have dictFree : ∀ {b : Addr} {ob : Obj} {es : Array DictEntry} {ep : Nat}, s₁.heap.get? b = some ob → ob.data = .dict es ep → H b = none := by
      intro b ob es ep z dd
      cases hb' : H b with
      | none => rfl
      | some u =>
        have eb : b = a := only b (by rw [hb']; exact Option.some_ne_none u)
        rw [eb, hobj] at z
        cases z
        have dd' : Data.seq vs.toArray _ = Data.dict es ep := dd
        cases dd'
    have nsHid : ∀ {b : Addr} {m : Str → Option Value}, s₁.heap.Ns b m → (hidT s₁.heap H).Ns b m := fun {b m} ⟨ob, es, ep, z, dd, rest⟩ => ⟨ob, es, ep, keepHid z (dictFree z dd), dd, rest⟩
    have inHid : (K w.params).In (hidT s₁.heap H) := fun b ob z => keepHid (KX b ob z) (by
      cases hb' : H b with
      | none => rfl
      | some u =>
        have eb : b = a := only b (by rw [hb']; exact Option.some_ne_none u)
        rw [eb, unk (by rw [← eb, hb']; exact Option.some_ne_none u)] at z
        cases z)
    have M : Mod (K w.params) mg (hidT s₁.heap H) := ⟨inHid, nsHid G.T.g, ⟨mb, nsHid G.T.b, G.T.builtins⟩, let ⟨mc, z1, z2⟩ := G.T.nolimit; ⟨mc, nsHid z1, z2⟩⟩
    have e0 : Env0 l.prog w (K w.params) mg (hidT s₁.heap H) callerA [] s₁ H := ⟨rfl, M, fun b ob z => of_hidT z, Nat.le_of_eq (hidT_size _ _), trivial, fun b hb => absurd (show b ∈ ([] : List Addr) from hb) List.not_mem_nil, hok, .of_eq hgen⟩
    refine codeAny_mono ((hF _ inHid (nsHid G.T.g)).go callerA [] s₁ H ⟨[.ref a], []⟩ [.ref a] [.ref a] _ _ rfl hr e0 (hb s₁ (.ref a)) (.cons rfl .nil) (hsp (K w.params) H a ns hlen hO hS)) fun r s' hq => ?_
    have hq2 : ∃ u, r = .ok (.ret u) ∧ CE [] l.prog w H s₁ (fun v _ => v = .bl true) u s' := by
      cases r with
      | error err => exact False.elim hq
      | ok fl =>
        cases fl with
        | ret u => exact ⟨u, rfl, hq⟩
        | next => exact False.elim hq
        | brk => exact False.elim hq
        | cont => exact False.elim hq
    match hq2 with
    | ⟨u, er, v, H', os, bare, un, hok', rel, q⟩ =>
      have q' : v = .bl true := q
      subst q'
      have eu : u = Value.bool true := rel
      subst eu
      refine ⟨er, OldK.of_keep fun b ob z => ?_, os, bare⟩
      cases hb' : H b with
      | none => exact un.keep b ob z hb' (fun m => by cases m) (fun m => by cases m)
      | some u =>
        rcases hO b with n0 | ⟨ob', xs, n0⟩
        · rw [hb'] at n0
          cases n0
        · have n1 := un.frzs b ob' _ n0
          obtain ⟨z1, _⟩ := hok b _ n0
          obtain ⟨z2, _⟩ := hok' b _ n1
          rw [z] at z1
          cases z1
          exact z2
  cases hk : (K w.params).lookup a with
  | some ob =>
    have z := KX a ob hk
    rw [hobj] at z
    cases z
    exact core (fun _ => none) (fun _ => .inl rfl) (.inr ⟨_, vs.toArray, _, hk, rfl, rfl, rfl, by rw [List.size_toArray, lenV]; exact Nat.le_trans hlen hn2, by simpa using rv⟩) (fun b u z => by have z' : (none : Option HO) = some u := z; cases z') (fun b z => absurd rfl z) fun z => absurd rfl z
  | none =>
    refine core (fun b => if b = a then some (.frz { cls := .type "list", data := .seq vs.toArray } (.lst (ns.map V.int))) else none) (fun b => ?_) (.inl (.inr ⟨{ cls := .type "list", data := .seq vs.toArray }, if_pos rfl⟩)) (fun b u z => ?_) (fun b z => ?_) fun _ => hk
    · by_cases eb : b = a
      · exact .inr ⟨_, _, if_pos eb⟩
      · exact .inl (if_neg eb)
    · by_cases eb : b = a
      · have z' := (if_pos eb).symm.trans z
        cases z'
        subst eb
        exact ⟨hobj, by rw [List.length_map]; exact Nat.le_trans hlen hn2, vs, _, rv, hobj⟩
      · have z' := (if_neg eb).symm.trans z
        cases z'
    · by_cases eb : b = a
      · exact eb
      · exact absurd (if_neg eb) z
end NA
namespace NA
open PySem PySem.Spec PyProof.Rows L2

/-! ### how long a repr may be -/
mutual
def cost : PyData → Nat
  | .none => 4
  | .bool _ => 5
  | .int _ => 1921
  | .str x => 10 * x.length + 2
  | .list xs => costAll xs + 3
  | .tuple xs => costAll xs + 3
  | .dict _ => 0
def costAll : List PyData → Nat
  | [] => 0
  | x :: xs => cost x + 2 + costAll xs
end
def strSmall (x : Str) : Bool := x.cps.toList.all fun c => decide (c < 16 ^ 8)
mutual
def okD : PyData → Bool
  | .none => true
  | .bool _ => true
  | .int i => decide (i.natAbs.log2 < 1920)
  | .str x => strSmall x
  | .list xs => okAll xs
  | .tuple xs => okAll xs
  | .dict _ => false
def okAll : List PyData → Bool
  | [] => true
  | x :: xs => okD x && okAll xs
end
mutual
theorem okD_facts : ∀ d : PyData, okD d = true → d.showable = true ∧ d.hasDict = false ∧ d.shown.length ≤ cost d
  | .none, _ => ⟨rfl, rfl, by decide +kernel⟩
  | .bool true, _ => ⟨rfl, rfl, by decide +kernel⟩
  | .bool false, _ => ⟨rfl, rfl, by decide +kernel⟩
  | .int i, h => by
    have h1 : i.natAbs.log2 < 1920 := by simpa [okD] using h
    refine ⟨by simpa [PyData.showable] using h1, by simp only [PyData.hasDict], ?_⟩
    simp only [PyData.shown, cost]
    exact PyProof.Rows.int_text_len_1921 h1
  | .str x, h => by
    refine ⟨by simp only [PyData.showable], by simp only [PyData.hasDict], ?_⟩
    simp only [PyData.shown, cost]
    refine StrLaws.reprText_len x fun c hc => ?_
    have h1 : strSmall x = true := by simpa [okD] using h
    unfold strSmall at h1
    exact of_decide_eq_true (List.all_eq_true.mp h1 c hc)
  | .list xs, h => by
    obtain ⟨a, b, c, e⟩ := okAll_facts xs (by simpa [okD] using h)
    refine ⟨by simpa [PyData.showable] using a, by simpa [PyData.hasDict] using b, ?_⟩
    simp only [PyData.shown, cost]
    have := listText_len_le (PyData.shownAll xs)
    omega
  | .tuple xs, h => by
    obtain ⟨a, b, c, e⟩ := okAll_facts xs (by simpa [okD] using h)
    refine ⟨by simpa [PyData.showable] using a, by simpa [PyData.hasDict] using b, ?_⟩
    simp only [PyData.shown, cost]
    have := tupleText_len_le (PyData.shownAll xs)
    omega
  | .dict _, h => by simp [okD] at h
theorem okAll_facts : ∀ xs : List PyData, okAll xs = true → PyData.showableAll xs = true ∧ PyData.hasDictAll xs = false ∧ ((PyData.shownAll xs).map (·.length)).sum + 2 * (PyData.shownAll xs).length ≤ costAll xs ∧ True
  | [], _ => ⟨rfl, rfl, Nat.le_refl _, trivial⟩
  | x :: xs, h => by
    have h' : okD x = true ∧ okAll xs = true := by simpa [okAll] using h
    obtain ⟨a, b, c⟩ := okD_facts x h'.1
    obtain ⟨d, e, f, _⟩ := okAll_facts xs h'.2
    refine ⟨by simp only [PyData.showableAll, a, d, Bool.and_self], by simp only [PyData.hasDictAll, b, e, Bool.or_self], ?_, trivial⟩
    simp only [PyData.shownAll, costAll, List.map_cons, List.sum_cons, List.length_cons]
    omega
end
/-- data whose repr may be taken -/
structure Sh (d : PyData) : Prop where
  ok : okD d = true
  cost : cost d ≤ 16000000
  depth : d.depth ≤ 60
section
variable {X : Cx}
theorem call_reprD {k : Nat} (hg : Bare X.A) (hr : Room k X.A) : CallR X (.builtin "repr") (fun xs H Q => ∃ v d, xs = [v] ∧ Dp X.K H v d ∧ Sh d ∧ Q (.str d.shown) H) := by
  intro pins s σ H xs us Q I r h
  obtain ⟨v, d, rfl, hd, sh, q⟩ := h
  obtain ⟨u, rfl, rv⟩ := r.one
  obtain ⟨f1, f2, f3⟩ := okD_facts d sh.ok
  have hz : d.shown.length ≤ sizeLine := Nat.le_trans f3 (Nat.le_trans sh.cost (by decide))
  have hu := hr.un
  have hdep := sh.depth
  obtain ⟨as, rd⟩ := Dp.reads I d v u hd rv
  have big : ∀ a, u = Value.ref a → wpAny (model X.prog X.w) X.A (call (.builtin "repr") [u]) (EP X pins σ Q) X.xe s := fun a e => by
    subst e
    exact repr_of_reads' rd f1 (PyData.noDict_hsm f2) hg (by omega) (fun _ _ z => z) (fun h' u tk hk => ⟨.str _, H, I.kept (t' := tk) hk, ⟨_, rfl⟩, q⟩) hz
  cases hd with
  | non =>
    cases (show u = Value.none from rv)
    exact PySem.P.repr_of_none ⟨.str _, H, I.tok _, ⟨_, rfl⟩, q⟩
  | bl b =>
    cases (show u = Value.bool b from rv)
    refine PySem.P.repr_of_bool ⟨.str _, H, I.tok _, ⟨_, rfl⟩, ?_⟩
    simpa only [PyData.shown] using q
  | int i =>
    obtain ⟨t, rfl⟩ := (show ∃ t, u = Value.int i t from rv)
    refine PySem.P.repr_of_int (by simpa [okD] using sh.ok) ⟨.str _, H, I.tok _, ⟨_, rfl⟩, ?_⟩
    simpa only [PyData.shown] using q
  | str x =>
    obtain ⟨t, rfl⟩ := (show ∃ t, u = Value.str x t from rv)
    refine PySem.P.repr_of_str ⟨.str _, H, I.tok _, ⟨_, rfl⟩, ?_⟩ (by simpa only [PyData.shown] using hz)
    simpa only [PyData.shown] using q
  | lst _ _ => exact big _ rv
  | tup _ _ => exact big _ rv
end
/-! ### data that never changes: tuples all the way -/
mutual
inductive Im (H : Hp) : V → PyData → Prop
  | non : Im H .non .none
  | bl (b : Bool) : Im H (.bl b) (.bool b)
  | int (i : Int) : Im H (.int i) (.int i)
  | str (x : Str) : Im H (.str x) (.str x)
  | tup {a : Addr} {xs : List V} {ds : List PyData} : H a = some (.tup xs) → ImAll H xs ds → Im H (.ref a) (.tuple ds)
inductive ImAll (H : Hp) : List V → List PyData → Prop
  | nil : ImAll H [] []
  | cons {v : V} {vs : List V} {d : PyData} {ds : List PyData} : Im H v d → ImAll H vs ds → ImAll H (v :: vs) (d :: ds)
end
/-- tuples stay -/
def Tk (H H' : Hp) : Prop := ∀ b xs, H b = some (.tup xs) → H' b = some (.tup xs)
theorem Tk.refl (H : Hp) : Tk H H := fun _ _ h => h
theorem Tk.trans {H H1 H2 : Hp} (a : Tk H H1) (b : Tk H1 H2) : Tk H H2 := fun c x h => b c x (a c x h)
theorem Tk.new {H H' : Hp} {p : Addr} {o : HO} (e : Tk H H') (h : H' p = none) : Tk H (upd H' p o) := fun b xs z => by
  have z' := e b xs z
  rw [upd_ne (ne_of_none z' h)]
  exact z'
theorem Tk.put {H H' : Hp} {p : Addr} {xs : List V} {o : HO} (e : Tk H H') (h : H' p = some (.lst xs)) : Tk H (upd H' p o) := fun b ys z => by
  have z' := e b ys z
  rw [upd_ne (ne_of z' h (by intro q; cases q))]
  exact z'
theorem Tk.same {H H' : Hp} (e : Same H H') : Tk H H' := fun b xs z => e b _ z
mutual
theorem Im.keep {H H' : Hp} (e : Tk H H') : ∀ (d : PyData) (v : V), Im H v d → Im H' v d
  | .none, _, h => by cases h; exact .non
  | .bool _, _, h => by cases h; exact .bl _
  | .int _, _, h => by cases h; exact .int _
  | .str _, _, h => by cases h; exact .str _
  | .tuple ds, _, h => by
    cases h with
    | tup a b => exact .tup (e _ _ a) (ImAll.keep e ds _ b)
  | .list _, _, h => by cases h
  | .dict _, _, h => by cases h
theorem ImAll.keep {H H' : Hp} (e : Tk H H') : ∀ (ds : List PyData) (vs : List V), ImAll H vs ds → ImAll H' vs ds
  | [], _, h => by cases h; exact .nil
  | d :: ds, _, h => by
    cases h with
    | cons a b => exact .cons (Im.keep e d _ a) (ImAll.keep e ds _ b)
end
theorem Im.k {H H' : Hp} {v : V} {d : PyData} (h : Im H v d) (e : Tk H H') : Im H' v d := Im.keep e d v h
theorem ImAll.k {H H' : Hp} {vs : List V} {ds : List PyData} (h : ImAll H vs ds) (e : Tk H H') : ImAll H' vs ds := ImAll.keep e ds vs h
mutual
theorem Im.toDp {K : PySem.W.Frag} {H : Hp} : ∀ (d : PyData) (v : V), Im H v d → Dp K H v d
  | .none, _, h => by cases h; exact .non
  | .bool _, _, h => by cases h; exact .bl _
  | .int _, _, h => by cases h; exact .int _
  | .str _, _, h => by cases h; exact .str _
  | .tuple ds, _, h => by
    cases h with
    | tup a b => exact .tup (SqT.of a) (ImAll.toDp ds _ b)
  | .list _, _, h => by cases h
  | .dict _, _, h => by cases h
theorem ImAll.toDp {K : PySem.W.Frag} {H : Hp} : ∀ (ds : List PyData) (vs : List V), ImAll H vs ds → DpAll K H vs ds
  | [], _, h => by cases h; exact .nil
  | d :: ds, _, h => by
    cases h with
    | cons a b => exact .cons (Im.toDp d _ a) (ImAll.toDp ds _ b)
end
theorem Im.dp {K : PySem.W.Frag} {H : Hp} {v : V} {d : PyData} (h : Im H v d) : Dp K H v d := Im.toDp d v h
theorem ImAll.dp {K : PySem.W.Frag} {H : Hp} {vs : List V} {ds : List PyData} (h : ImAll H vs ds) : DpAll K H vs ds := ImAll.toDp ds vs h
theorem Im.tuple {H : Hp} {v : V} {ds : List PyData} (h : Im H v (.tuple ds)) : ∃ a xs, v = .ref a ∧ H a = some (.tup xs) ∧ ImAll H xs ds := by
  cases h with
  | tup a b => exact ⟨_, _, rfl, a, b⟩
theorem Im.isInt {H : Hp} {v : V} {i : Int} (h : Im H v (.int i)) : v = .int i := by cases h; rfl
theorem ImAll.length {H : Hp} : ∀ {vs : List V} {ds : List PyData}, ImAll H vs ds → vs.length = ds.length
  | _, _, .nil => rfl
  | _, _, .cons _ b => by rw [List.length_cons, List.length_cons, ImAll.length b]
theorem ImAll.get {H : Hp} : ∀ {vs : List V} {ds : List PyData} {i : Nat} {d : PyData}, ImAll H vs ds → ds[i]? = some d → ∃ v, vs[i]? = some v ∧ Im H v d
  | _, _, _, _, .nil, e => by simp at e
  | _, _, 0, _, .cons a _, e => by
    simp at e
    subst e
    exact ⟨_, rfl, a⟩
  | _, _, i + 1, d, .cons _ b, e => by
    obtain ⟨v, h1, h2⟩ := ImAll.get (i := i) (d := d) b (by simpa using e)
    exact ⟨v, by simpa using h1, h2⟩
theorem ImAll.ints {H : Hp} : ∀ {vs : List V} {ns : List Int}, ImAll H vs (ns.map PyData.int) → vs = ns.map V.int
  | vs, [], h => by cases h; rfl
  | vs, n :: ns, h => by
    cases h with
    | cons a b =>
      cases a
      rw [List.map_cons, ImAll.ints b]
theorem ImAll.of_ints (H : Hp) : ∀ ns : List Int, ImAll H (ns.map V.int) (ns.map PyData.int)
  | [] => .nil
  | n :: ns => .cons (.int n) (ImAll.of_ints H ns)
theorem ImAll.append {H : Hp} : ∀ {vs ws : List V} {ds es : List PyData}, ImAll H vs ds → ImAll H ws es → ImAll H (vs ++ ws) (ds ++ es)
  | _, _, _, _, .nil, h => h
  | _, _, _, _, .cons a b, h => .cons a (ImAll.append b h)
end NA
namespace PySem
open Sem (wp)
open AutoSeq1 (wpAny_loadPart')
/-- the iterator of a tuple at l, new -/
abbrev tIt (l : Addr) : Obj := { cls := .type "tuple_iterator", data := .fields #[.ref l, .int 0 0] }
/-- the enumerate object over the iterator at i, new -/
abbrev tEn (i : Addr) : Obj := { cls := .type "enumerate", data := .fields #[.none, .bool false, .ref i, rawInt 0, .none, .none] }
set_option maxHeartbeats 1000000 in
theorem enumT_new (l : Addr) (o : Obj) (its : Array Value) (hc : o.cls = .type "tuple") (hd : ∃ n, o.data = .seq its n) :
    Meets (Builtin.«enumerate.__new__» ⟨[.type "enumerate", .ref l], []⟩)
      (fun _ R s => s.heap.get? l = some o ∧ R (.ok (.ret (.ref (s.heap.push (tIt l)).objs.size))) { s with heap := (s.heap.push (tIt l)).push (tEn s.heap.objs.size) }) :=
  .of_wp fun prog w A R s h => by
    obtain ⟨hp, gg, dr, tk, os⟩ := s
    obtain ⟨hl, h⟩ := h
    have sub := sub_enumerate
    have T : Heap.IsTuple (Shared.heap ⟨hp, gg, dr, tk, os⟩) l its := ⟨o, hl, hc, hd⟩
    wp_walk using wpAny_loadPart' hl
    refine wpAny_stack_any fun _ => wpAny_pure ?_
    split
    · rename_i cc _ _ _ _ _
      cases (cc == Value.type "enumerate")
      · wp_walk using wpAny_loadPart' hl, wpAny_pyIter_tuple T
        exact ⟨_, rfl, h⟩
      · wp_walk using wpAny_loadPart' hl, wpAny_pyIter_tuple T
        exact ⟨_, rfl, h⟩
    · wp_walk using wpAny_loadPart' hl, wpAny_pyIter_tuple T
      exact ⟨_, rfl, h⟩
section
variable {prog : Program} {w : World} {A : Around} {E : Value → Shared → Prop} {s : Shared}
theorem enumT_call {l : Addr} {its : Array Value} {Q : Value → Shared → Prop} (T : s.heap.IsTuple l its)
    (h : ∀ h', IsEnum h' (s.heap.objs.size + 1) s.heap.objs.size 0 .none → h'.get? s.heap.objs.size = some (tIt l) →
      (∀ b o, s.heap.get? b = some o → h'.get? b = some o) → Q (.ref (s.heap.objs.size + 1)) { s with heap := h' }) :
    wpAny (model prog w) A (call (.type "enumerate") [.ref l]) Q E s := by
  obtain ⟨o, hl, hc, hd⟩ := T
  refine callType_new F.called_enumerate (by decide) (F.typeCall_enumerate_1 _) (F.newCall_enumerate_1 _) (fun obj => F.args_object_init_2 obj _) F.entry_enumerate_new (enumT_new l o its hc hd) ⟨hl, ?_⟩
  have sz : (s.heap.push (tIt l)).objs.size = s.heap.objs.size + 1 := Heap.size_push ..
  show _ ∧ _
  rw [sz]
  have en : IsEnum ((s.heap.push (tIt l)).push (tEn s.heap.objs.size)) (s.heap.objs.size + 1) s.heap.objs.size 0 .none := by
    have z := Heap.get?_push_size (s.heap.push (tIt l)) (o := tEn s.heap.objs.size) rfl
    rw [sz] at z
    exact z
  exact ⟨⟨_, en, rfl⟩, h _ en (Heap.get?_push_of_some _ (Heap.get?_push_size _ rfl)) fun b u z => Heap.get?_push_of_some _ (Heap.get?_push_of_some _ z)⟩
end
end PySem
namespace NA
open PySem PySem.Spec PyProof.Rows L2
/-- enumerate(t), t a tuple: each item in a new pair -/
def IeT (K : PySem.W.Frag) (a : Addr) : It :=
  ⟨fun i H => ∃ (xs : List V) (x : V), SqT K H a xs ∧ xs[i]? = some x, fun i H v H' => ∃ T x, v = .ref T ∧ H T = none ∧ H' = upd H T (.tup [.int (i : Nat), x]) ∧ ∀ xs, SqT K H a xs → xs[i]? = some x,
    fun i H => ∃ xs : List V, SqT K H a xs ∧ xs.length ≤ i⟩
theorem turn_enumT {P : Program} {w : World} {K : PySem.W.Frag} {elts : List Expr} {kk : Nat} {tpos : Pos} (a e it : Addr) :
    Turn P w K (.Tuple elts kk tpos) (IeT K a) [e, it] e (fun i h => (∃ old, IsEnum h e it (0 + ((i : Nat) : Int)) old) ∧ h.IsTupleIter it a i ∧ e ≠ it) where
  mem := by simp
  obj := fun i h st b hb => by
    obtain ⟨⟨old, he⟩, ⟨o, ho, hc, hd⟩, _⟩ := st
    have cases2 : b = e ∨ b = it := by simpa using hb
    rcases cases2 with z | z
    · subst z
      exact ⟨_, he, fun v q => nomatch q⟩
    · subst z
      exact ⟨o, ho, fun v q => by rw [hd] at q; cases q⟩
  keep := fun i h h' st k => by
    obtain ⟨⟨old, he⟩, hi, hne⟩ := st
    exact ⟨⟨old, k e (by simp) _ he⟩, hi.at fun o q => k it (by simp) o q, hne⟩
  item := by
    intro X hP hw hK hc i pins s σ H E I hf st hg
    subst hP hw hK
    obtain ⟨⟨old, he⟩, hit, hne⟩ := st
    obtain ⟨xs, x, hq, hx⟩ := hg
    obtain ⟨its, rv, tp, hz⟩ := I.tuple hq
    obtain ⟨u, hu, ru⟩ := rv.get hx
    have el : e < s.heap.objs.size := Heap.lt_size he
    have il : it < s.heap.objs.size := by obtain ⟨_, q, _⟩ := hit; exact Heap.lt_size q
    have al : a < s.heap.objs.size := tp.lt
    have lenI : i < its.toArray.size := by
      have := (List.getElem?_eq_some_iff.mp hu).1
      simpa using this
    -- the tuple's own iterator, by what it draws
    have ta_it : a ≠ it := fun z => by
      obtain ⟨o1, q1, c1, _⟩ := hit
      obtain ⟨o2, q2, c2, _⟩ := (show s.heap.IsTuple a its.toArray from tp)
      rw [z, q1] at q2
      cases q2
      rw [c1] at c2
      exact absurd c2 (by decide)
    have ta_e : a ≠ e := fun z => by
      obtain ⟨o2, q2, c2, _⟩ := (show s.heap.IsTuple a its.toArray from tp)
      rw [z, show s.heap.get? e = some _ from he] at q2
      cases q2
      exact absurd (show Value.type "enumerate" = Value.type "tuple" from c2) (by decide)
    have D : Draws X.prog X.w X.A.in1 it [it, a] its.toArray.size (fun i v => its.toArray[i]? = some v) (fun i h => h.IsTupleIter it a i ∧ h.IsTuple a its.toArray) := Draws.tuple (A := X.A.in1) (I.ok.hd hc) it a ta_it its.toArray
    refine wpAny_pyNext_enum_itemC D he ⟨hit, tp⟩ lenI hne (by simp [hne, Ne.symm ta_e]) fun y h' tk hP ho hs' hT hsz hk => ?_
    have ey : y = u := Option.some.inj (hP.symm.trans (by simpa using hu))
    subst ey
    refine ⟨_, rfl, wpAny_letOwnedTupleGo_enum (s := { s with heap := h', toks := tk + 1 }) ho fun h'' he' sb => ?_⟩
    have hT2 : h''.get? s.heap.objs.size = some { cls := .type "tuple", data := .seq #[.int (0 + (i : Int)) tk, y] } := (sb.2 _ (Nat.ne_of_gt el)).trans hT
    have e0 : (0 + (i : Int)) = (i : Int) := by omega
    have new : ObjOk X.prog X.w (upd H s.heap.objs.size (.tup [.int (i : Nat), x])) h'' s.heap.objs.size (.tup [.int (i : Nat), x]) :=
      ⟨by show 2 ≤ sizeLine; decide, [.int (0 + (i : Int)) tk, y], .cons ⟨tk, by rw [e0]⟩ (.cons ru .nil), ⟨_, hT2, rfl, _, rfl⟩⟩
    have I1 : Inv X pins σ (upd H s.heap.objs.size (.tup [.int (i : Nat), x])) { s with heap := h'', toks := tk + 1 } :=
      I.turnedNew (ch := [e, it]) (fun b ob hb q => (sb.2 b (fun z => hb (by simp [z]))).trans (hk b ob (fun z => hb (by simp [z])) (fun z => hb (by simp [z])) q)) hf (Nat.le_refl _) new
    refine ⟨.ref s.heap.objs.size, _, I1, rfl, ⟨_, x, rfl, I.hok.fresh (Nat.le_refl _), rfl, fun ys hy => by rw [I.tuple_inj hy hq]; exact hx⟩, ⟨⟨y, ?_⟩, hs'.1.at fun o q => (sb.2 it (Ne.symm hne)).trans q, hne⟩, fun b hb => ?_⟩
    · have e1 : (0 + ((i + 1 : Nat) : Int)) = 0 + (i : Int) + 1 := by omega
      rw [e1]
      exact he'
    · have lt : b < s.heap.objs.size := by
        have cases2 : b = e ∨ b = it := by simpa using hb
        rcases cases2 with z | z
        · rw [z]; exact el
        · rw [z]; exact il
      rw [upd_ne (Nat.ne_of_lt lt)]
      exact (hf b hb).1
  done := by
    intro X hP hw hK hc i pins s σ H E I hf st hg
    subst hP hw hK
    obtain ⟨⟨old, he⟩, hit, hne⟩ := st
    obtain ⟨xs, hq, hx⟩ := hg
    obtain ⟨its, rv, tp, hz⟩ := I.tuple hq
    have ta_it : a ≠ it := fun z => by
      obtain ⟨o1, q1, c1, _⟩ := hit
      obtain ⟨o2, q2, c2, _⟩ := (show s.heap.IsTuple a its.toArray from tp)
      rw [z, q1] at q2
      cases q2
      rw [c1] at c2
      exact absurd c2 (by decide)
    obtain ⟨f0, f1, f2, f3, f4, f5⟩ := hf it (by simp)
    have ln := rv.length
    have gone : xs.length ≤ i := hx
    have D : Draws X.prog X.w X.A.in1 it [it, a] i (fun _ _ => False) (fun j h => j = i ∧ h.IsTupleIter it a j ∧ h.IsTuple a its.toArray) := {
      live := fun j h st => by
        obtain ⟨_, ⟨o, q, _⟩, _⟩ := st
        exact ⟨o, q⟩
      frame := fun j h h' st k => ⟨st.1, st.2.1.at fun o q => k it (by simp) o q, st.2.2.at fun o q => k a (by simp) o q⟩
      item := fun j s Q E hj st _ => absurd hj (by rw [st.1]; exact Nat.lt_irrefl _)
      done := fun s Q E st hE => wpAny_nextOf_tuple_end (A := X.A.in1) (I.ok.hd hc) st.2.1 st.2.2 (Array.getElem?_eq_none (by simp; omega)) hE }
    exact wpAny_pyNext_enum_endD D he ⟨rfl, hit, tp⟩ fun h' eb => ⟨rfl, I.turned (t' := s.toks) (fun b o hb q => eb b o hb q) f0 f1 f3 f4 f5⟩
  self := fun A i s Q E st h => by
    obtain ⟨⟨_, he⟩, _⟩ := st
    exact wpAny_pyIter_enum he h
def iEnumT (K : PySem.W.Frag) (ta : TA) : TI := fun σ H R => ta σ H fun vs H1 => ∃ a xs, vs = [.ref a] ∧ SqT K H1 a xs ∧ R (IeT K a) H1
theorem pi_enumT {X : Cx} {e : Expr} {ta : TA} {p pos tpos : Pos} {elts : List Expr} {kk : Nat} (hg : Gl X "enumerate") (hm : X.mg "enumerate" = none) (ha : PA X [e] ta) (hs : starEach [e] X.env = [(false, eval e X.env)] := by rfl) :
    PI X (.Tuple elts kk tpos) (.Call (.Name "enumerate" p) [e] [] pos) (iEnumT X.K ta) := by
  refine ⟨fun pins s σ H R I h => ?_⟩
  refine Call_ (ld_blt I hg hm boot_enumerate (PyProof.Rows.callWith_type1 (thn (ha.run pos pins s σ H _ I h) fun us s1 ⟨vs, H1, I1, r1, q1⟩ => ?_) hs rfl))
  obtain ⟨a, xs, ex, hq, q⟩ := q1
  subst ex
  obtain ⟨u, rfl, ru⟩ := r1.one
  cases (show u = Value.ref a from ru)
  obtain ⟨its, rv, tp, hz⟩ := I1.tuple hq
  refine enumT_call (its := its.toArray) tp fun h' en it kept => wpAny_pyIter_enum en ?_
  refine ⟨s1.heap.objs.size + 1, [s1.heap.objs.size + 1, s1.heap.objs.size], _, _, H1, rfl, I1.kept (t' := s1.toks) kept, turn_enumT a (s1.heap.objs.size + 1) s1.heap.objs.size, ⟨⟨.none, en⟩, ⟨_, it, rfl, rfl⟩, Nat.succ_ne_self _⟩, fun b hb => ?_, q⟩
  have two : b = s1.heap.objs.size + 1 ∨ b = s1.heap.objs.size := by simpa using hb
  have le : s1.heap.objs.size ≤ b := by
    rcases two with z | z
    · rw [z]
      exact Nat.le_succ _
    · rw [z]
      exact Nat.le_refl _
  exact I1.fpOk le (I1.hok.fresh le)
theorem walk_enumT {K : PySem.W.Frag} {a : Addr} {xs : List V} : Walk (IeT K a) xs.length (fun H => SqT K H a xs) (YPair (fun i => some (.int (i : Nat))) (fun i => xs[i]?)) := by
  refine ⟨fun i _ hi q => ⟨xs, xs[i], q, by simp [hi]⟩, fun _ q => ⟨xs, q, Nat.le_refl _⟩, fun i H v H' _ q y => ?_⟩
  obtain ⟨T, x, y1, y2, y3, y4⟩ := y
  exact ⟨T, .int (i : Nat), x, y1, y2, y3, rfl, y4 xs q⟩
end NA
namespace NA
open PySem PySem.Spec PyProof.Rows L2

/-! ### built-in names that no text here takes -/
structure Blt (mg : Str → Option Value) : Prop where
  len : mg "len" = none
  int : mg "int" = none
  max : mg "max" = none
  min : mg "min" = none
  tuple : mg "tuple" = none
  list : mg "list" = none
  range : mg "range" = none
  any : mg "any" = none
  all : mg "all" = none
  repr : mg "repr" = none
  enumerate : mg "enumerate" = none
  isinstance : mg "isinstance" = none
  bool : mg "bool" = none
/-! ### the pot that is drawn from -/
def Pt (H : Hp) (p q : Addr) : Prop := ∃ (cs : List Int) (a b n : Int), H p = some (.lst [.ref q, .int a, .int b, .int n]) ∧ H q = some (.lst (cs.map V.int)) ∧ cs.length ≤ 60 ∧ 0 ≤ a ∧ a < 4294967296 ∧ 0 ≤ b ∧ b < 4294967296
theorem Pt.lp {H : Hp} {p q : Addr} (h : Pt H p q) : ∃ xs, H p = some (.lst xs) := by
  obtain ⟨cs, a, b, n, h1, _⟩ := h
  exact ⟨_, h1⟩
theorem Pt.lq {H : Hp} {p q : Addr} (h : Pt H p q) : ∃ xs, H q = some (.lst xs) := by
  obtain ⟨cs, a, b, n, _, h1, _⟩ := h
  exact ⟨_, h1⟩
theorem pq_ne {H : Hp} {p q : Addr} {cs : List Int} {a b n : Int} (h1 : H p = some (.lst [.ref q, .int a, .int b, .int n])) (h2 : H q = some (.lst (cs.map V.int))) : p ≠ q := fun e => by
  subst e
  rw [h1] at h2
  cases cs with
  | nil => cases h2
  | cons c cs => cases h2
theorem Pt.ne {H : Hp} {p q : Addr} (h : Pt H p q) : p ≠ q := by
  obtain ⟨cs, a, b, n, h1, h2, _⟩ := h
  exact pq_ne h1 h2
/-- all else stays -/
def Kp (p q : Addr) (H H' : Hp) : Prop := ∀ b o, b ≠ p → b ≠ q → H b = some o → H' b = some o
theorem Kp.refl (p q : Addr) (H : Hp) : Kp p q H H := fun _ _ _ _ h => h
theorem Kp.trans {p q : Addr} {H H1 H2 : Hp} (a : Kp p q H H1) (b : Kp p q H1 H2) : Kp p q H H2 := fun c o n1 n2 h => b c o n1 n2 (a c o n1 n2 h)
theorem Kp.new {p q c : Addr} {o : HO} {H H' : Hp} (e : Kp p q H H') (h : H' c = none) : Kp p q H (upd H' c o) := fun b u n1 n2 z => by
  have z' := e b u n1 n2 z
  rw [upd_ne (ne_of_none z' h)]
  exact z'
theorem Kp.same {p q : Addr} {H H' : Hp} (e : Same H H') : Kp p q H H' := fun b o _ _ z => e b o z
/-- a change of what was not there at the beginning -/
theorem Kp.put {p q c : Addr} {o : HO} {H H' : Hp} (e : Kp p q H H') (h : H c = none) : Kp p q H (upd H' c o) := fun b u n1 n2 z => by
  rw [upd_ne (ne_of_none z h)]
  exact e b u n1 n2 z
theorem Kp.fresh {p q c : Addr} {H H' : Hp} (e : Kp p q H H') (n1 : c ≠ p) (n2 : c ≠ q) (h : H' c = none) : H c = none := by
  cases z : H c with
  | none => rfl
  | some o =>
    rw [e c o n1 n2 z] at h
    cases h
theorem Kp.tk {p q : Addr} {H H' : Hp} (e : Kp p q H H') (P : Pt H p q) : Tk H H' := fun b xs z => by
  obtain ⟨ys, h1⟩ := P.lp
  obtain ⟨zs, h2⟩ := P.lq
  exact e b _ (ne_of z h1 (by intro k; cases k)) (ne_of z h2 (by intro k; cases k)) z
theorem Pt.new {H : Hp} {p q c : Addr} {o : HO} (P : Pt H p q) (h : H c = none) : Pt (upd H c o) p q := by
  obtain ⟨cs, a, b, n, h1, h2, r⟩ := P
  exact ⟨cs, a, b, n, by rw [upd_ne (ne_of_none h1 h)]; exact h1, by rw [upd_ne (ne_of_none h2 h)]; exact h2, r⟩
theorem Pt.put {H : Hp} {p q c : Addr} {o : HO} (P : Pt H p q) (n1 : c ≠ p) (n2 : c ≠ q) : Pt (upd H c o) p q := by
  obtain ⟨cs, a, b, n, h1, h2, r⟩ := P
  exact ⟨cs, a, b, n, by rw [upd_ne (Ne.symm n1)]; exact h1, by rw [upd_ne (Ne.symm n2)]; exact h2, r⟩
theorem Pt.same {H H' : Hp} {p q : Addr} (P : Pt H p q) (e : Same H H') : Pt H' p q := by
  obtain ⟨cs, a, b, n, h1, h2, r⟩ := P
  exact ⟨cs, a, b, n, e _ _ h1, e _ _ h2, r⟩
theorem Pt.np {H : Hp} {p q c : Addr} (P : Pt H p q) (h : H c = none) : c ≠ p ∧ c ≠ q := by
  obtain ⟨xs, h1⟩ := P.lp
  obtain ⟨ys, h2⟩ := P.lq
  refine ⟨fun e => ?_, fun e => ?_⟩
  · rw [e, h1] at h
    cases h
  · rw [e, h2] at h
    cases h
theorem Same.new {H H' : Hp} {c : Addr} {o : HO} (e : Same H H') (h : H' c = none) : Same H (upd H' c o) := fun b u z => by
  have z' := e b u z
  rw [upd_ne (ne_of_none z' h)]
  exact z'
/-- data all of whose items are ints -/
theorem DpAll.ints (K : PySem.W.Frag) (H : Hp) : ∀ ns : List Int, DpAll K H (ns.map V.int) (ns.map PyData.int)
  | [] => .nil
  | n :: ns => .cons (.int n) (DpAll.ints K H ns)
theorem canLay_ints : ∀ ns : List Int, PyData.canLayAll0 (ns.map PyData.int) = true
  | [] => rfl
  | n :: ns => by
    rw [List.map_cons]
    simp only [PyData.canLayAll0, PyData.canLay0, canLay_ints ns, Bool.and_self]
theorem depth_ints : ∀ ns : List Int, PyData.depthAll (ns.map PyData.int) = 0
  | [] => rfl
  | n :: ns => by
    rw [List.map_cons]
    simp only [PyData.depthAll, PyData.depth, depth_ints ns, Nat.max_self]
theorem shaped_ints (ns : List Int) : SeqAt.shaped (.list (ns.map PyData.int)) = true := by
  unfold SeqAt.shaped
  simp only [PyData.canLay0, PyData.depth, canLay_ints, depth_ints, Bool.true_and]
  decide
theorem Im.int0 {H : Hp} (n : Nat) : Im H (.int (0 + (n : Int))) (.int n) := by
  rw [Int.zero_add]
  exact .int _
/-! ### the promises of what draws -/
def spDip : Sp := fun vs H Q _ => ∃ (p q : Addr) (n : Int), vs = [.ref p, .int n] ∧ Pt H p q ∧ 0 < n ∧ n < 1073741824 ∧ ∀ (r : Int) (H' : Hp), 0 ≤ r → r < n → Pt H' p q → Kp p q H H' → Q (.int r) H'
def spPick : Sp := fun vs H Q _ => ∃ (p q a : Addr) (xs : List V), vs = [.ref p, .ref a] ∧ Pt H p q ∧ H a = some (.lst xs) ∧ a ≠ p ∧ a ≠ q ∧ xs ≠ [] ∧ xs.length < 1000 ∧
  ∀ (v : V) (H' : Hp), v ∈ xs → Pt H' p q → Kp p q H H' → Q v H'
def PR : List Int := [2, 3, 5, 7, 11, 13, 17, 19, 23, 29, 31, 37, 41, 43, 47, 53, 59, 61, 67, 71, 73, 79, 83, 89, 97]
def spPrimes : Sp := fun vs H Q _ => vs = [] ∧ ∀ a, H a = none → Q (.ref a) (upd H a (.lst (PR.map V.int)))
def spGreat : Sp := fun vs H Q _ => ∃ (p q : Addr), vs = [.ref p] ∧ Pt H p q ∧ ∀ (n : Int) (H' : Hp), SizeOk n → Pt H' p q → Kp p q H H' → Q (.int n) H'
def sD (ss : List Int) : PyData := .tuple (ss.map .int)
def wD (w : Nat × Nat) : PyData := .tuple [.int w.1, .int w.2]
def mD (ss : List Int) (ws : List (Nat × Nat)) : PyData := .tuple [sD ss, .tuple (ws.map wD)]
def spSizes : Sp := fun vs H Q _ => ∃ (p q : Addr) (g : Bool), vs = [.ref p, .bl g] ∧ Pt H p q ∧
  ∀ (v : V) (ss : List Int) (H' : Hp), Im H' v (sD ss) → 1 ≤ ss.length → ss.length ≤ 6 → (∀ s ∈ ss, SizeOk s) → Pt H' p q → Kp p q H H' → Q v H'
def spWires : Sp := fun vs H Q _ => ∃ (p q : Addr) (m : Nat), vs = [.ref p, .int m] ∧ m ≤ 6 ∧ Pt H p q ∧
  ∀ (v : V) (ws : List (Nat × Nat)) (H' : Hp), Im H' v (.tuple (ws.map wD)) → WOk m ws → Pt H' p q → Kp p q H H' → Q v H'
def spMachine : Sp := fun vs H Q _ => ∃ (p q : Addr) (g : Bool), vs = [.ref p, .bl g] ∧ Pt H p q ∧
  ∀ (v : V) (ss : List Int) (ws : List (Nat × Nat)) (H' : Hp), Im H' v (mD ss ws) → MOk ss ws → Pt H' p q → Kp p q H H' → Q v H'
/-- a list at c of great numbers, all of them ints that may be a size but for 1 -/
def okV (v : V) : Bool := match v with
  | .int i => decide (1 ≤ i) && decide (i ≤ 10 ^ 30) && smoB i.toNat
  | _ => false
theorem okV_of {v : V} (h : okV v = true) : ∃ m : Nat, v = .int m ∧ 1 ≤ m ∧ m ≤ 10 ^ 30 ∧ Smo m := by
  cases v with
  | int i =>
    have h' : (decide (1 ≤ i) && decide (i ≤ 10 ^ 30) && smoB i.toNat) = true := h
    rw [Bool.and_eq_true, Bool.and_eq_true] at h'
    have h1 : 1 ≤ i := of_decide_eq_true h'.1.1
    have h2 : i ≤ 10 ^ 30 := of_decide_eq_true h'.1.2
    exact ⟨i.toNat, by rw [Int.toNat_of_nonneg (by omega)], by omega, by omega, smo_of h'.2⟩
  | _ => cases h
def fewV : List V := [.int 2, .int 3, .int 4, .int 5, .int 6, .int 8, .int 9, .int 12, .int 16, .int 18, .int 27, .int 97, .int 36]
def spCommon : Sp := fun vs H Q _ => ∃ a b : Nat, vs = [.int a, .int b] ∧ b < 2 ^ 4000 ∧ Q (.int (Nat.gcd a b : Nat)) H
end NA
namespace NA
open PySem PySem.Spec PyProof.Rows L2
theorem Same.put {H H' : Hp} {c : Addr} {o : HO} (e : Same H H') (h : H c = none) : Same H (upd H' c o) := fun b u z => by
  rw [upd_ne (ne_of_none z h)]
  exact e b u z
theorem take_filter {α : Type} {l : List α} {i : Nat} {x : α} (f : α → Bool) (h : l[i]? = some x) : (l.take (i + 1)).filter f = (l.take i).filter f ++ (if f x = true then [x] else []) := by
  rw [List.take_add_one, h, List.filter_append]
  simp only [Option.toList, List.filter_cons, List.filter_nil]
theorem take_map {α β : Type} {l : List α} {i : Nat} {x : α} (f : α → β) (h : l[i]? = some x) : (l.take (i + 1)).map f = (l.take i).map f ++ [f x] := by
  rw [List.take_add_one, h, List.map_append]
  rfl
theorem map_get {α β : Type} {l : List α} {f : α → β} {i : Nat} {y : β} (h : (l.map f)[i]? = some y) : ∃ x, l[i]? = some x ∧ y = f x := by
  rw [List.getElem?_map] at h
  cases e : l[i]? with
  | none =>
    rw [e] at h
    cases h
  | some x =>
    rw [e] at h
    exact ⟨x, rfl, (Option.some.inj h).symm⟩
theorem dec_int0 (x y : Int) : decide (V.int x = V.int y) = decide (x = y) := by
  by_cases h : x = y
  · subst h
    rw [decide_eq_true rfl, decide_eq_true rfl]
  · rw [decide_eq_false h, decide_eq_false fun z => h (V.int.inj z)]
/-- primes that divide some of these -/
def dv (ss : List Int) (p : Int) : Bool := ss.any fun s => decide (s % p = 0)
def dueP (ss : List Int) : List Int := PR.filter (dv ss)
def spDepth : Sp := fun vs H Q _ => ∃ (v : V) (ss : List Int) (d : PyData) (p i s : Nat), vs = [v, .int p, .int i] ∧ Im H v (.tuple [sD ss, d]) ∧ 2 ≤ p ∧ p ≤ 1000 ∧ ss[i]? = some (s : Int) ∧ 0 < s ∧ s < 2 ^ 4000 ∧ Q (.int (val p s : Nat)) H
def spStep : Sp := fun vs H Q _ => ∃ (v : V) (ss : List Int) (d : PyData) (j i a b : Nat), vs = [v, .int j, .int i] ∧ Im H v (.tuple [sD ss, d]) ∧ ss[j]? = some (a : Int) ∧ ss[i]? = some (b : Int) ∧ 0 < b ∧ b < 2 ^ 4000 ∧ Q (.int (stp a b : Nat)) H
def spPrimesOf : Sp := fun vs H Q _ => ∃ (v : V) (ss : List Int) (d : PyData), vs = [v] ∧ Im H v (.tuple [sD ss, d]) ∧ ss.length ≤ 100 ∧ ∀ (u : V) (H' : Hp), Im H' u (.tuple ((dueP ss).map .int)) → Same H H' → Q u H'
def spLStep : Sp := fun vs H Q _ => ∃ (v : V) (ss : List Int) (j i a b : Nat), vs = [v, .int j, .int i] ∧ Im H v (sD ss) ∧ ss[j]? = some (a : Int) ∧ ss[i]? = some (b : Int) ∧ 0 < b ∧ b < 2 ^ 4000 ∧ Q (.int (stp a b : Nat)) H
def spOften : Sp := fun vs H Q _ => ∃ (s p : Nat), vs = [.int s, .int p] ∧ 2 ≤ p ∧ p ≤ 1000 ∧ 0 < s ∧ s < 2 ^ 4000 ∧ Q (.int (val p s : Nat)) H
def spPot (K : PySem.W.Frag) : Sp := fun vs H Q _ => ∃ (a : Addr) (ns : List Int), vs = [.ref a] ∧ SqL K H a (ns.map V.int) ∧ ns.length ≤ 63 ∧ ∀ (p q : Addr) (H' : Hp), Pt H' p q → Same H H' → H p = none → H q = none → Q (.ref p) H'
theorem pl_pos {p s : Nat} (hp : 2 ≤ p) (h : 0 < s) (e : s % p = 0) : 0 < s / p := Nat.div_pos (Nat.le_of_dvd h (Nat.dvd_of_mod_eq_zero e)) (by omega)
theorem Cal.of {P : Program} {w : World} {K : PySem.W.Frag} {mg : Str → Option Value} {base : Heap} {x : Str} {st : Stmt} {f : Addr} {fd : FuncData} {ps : List Str} {k : Nat} {sp : Sp} (D : DefAt K mg x st ps f fd) (F : FnOk P w K mg base CX0 k f fd ps sp) : Cal P w K mg base k x sp :=
  ⟨f, fd, ps, F, D.mgf, D.fn.kp, D.bd⟩
theorem CalK.of {P : Program} {w : World} {K : PySem.W.Frag} {mg : Str → Option Value} {base : Heap} {x : Str} {st : Stmt} {f : Addr} {fd : FuncData} {ps ks : List Str} {k : Nat} {sp : Sp} {g : List Value → List Value → List Value} {gV : List V → List V → List V} (D : DefAt K mg x st ps f fd)
    (F : FnOk P w K mg base CX0 k f fd ps sp) (b : KBinds K fd ps ks g gV) : CalK P w K mg base k x sp ks gV :=
  ⟨f, fd, ps, g, F, D.mgf, D.fn.kp, b⟩
/-- keywords alone, put in order by o -/
def kg1 {α : Type} : List α → List α → List α
  | [], [a] => [a]
  | _, _ => []
def kg321 {α : Type} : List α → List α → List α
  | [], [a, b, c] => [c, b, a]
  | _, _ => []
theorem kg1_rel {vs zs : List V} {us ws : List Value} (h1 : Vals vs us) (h2 : Vals zs ws) : Vals (kg1 vs zs) (kg1 us ws) := by
  cases h1 with
  | cons _ _ => exact .nil
  | nil =>
    cases h2 with
    | nil => exact .nil
    | cons a h2 =>
      cases h2 with
      | nil => exact .cons a .nil
      | cons _ _ => exact .nil
theorem kg321_rel {vs zs : List V} {us ws : List Value} (h1 : Vals vs us) (h2 : Vals zs ws) : Vals (kg321 vs zs) (kg321 us ws) := by
  cases h1 with
  | cons _ _ => exact .nil
  | nil =>
    cases h2 with
    | nil => exact .nil
    | cons a h2 =>
      cases h2 with
      | nil => exact .nil
      | cons b h2 =>
        cases h2 with
        | nil => exact .nil
        | cons c h2 =>
          cases h2 with
          | nil => exact .cons c (.cons b (.cons a .nil))
          | cons _ _ => exact .nil
section
variable {X : Cx}
/-! rules over a written part that is named -/
theorem pi_listK (K : PySem.W.Frag) (hK : X.K = K) {tg l : Expr} {tl : TE} (hl : PE X l tl) : PI X tg l (iList K tl) := hK ▸ pi_list hl
theorem pi_tupK (K : PySem.W.Frag) (hK : X.K = K) {tg l : Expr} {tl : TE} (hl : PE X l tl) : PI X tg l (iTup K tl) := hK ▸ pi_tup hl
theorem ix_listK (K : PySem.W.Frag) (hK : X.K = K) : IxR X (rIxL K) := hK ▸ ix_list
theorem ix_tupK (K : PySem.W.Frag) (hK : X.K = K) : IxR X (rIxT K) := hK ▸ ix_tup
theorem sl_listK (K : PySem.W.Frag) (hK : X.K = K) : SlR X (rSlL K) := hK ▸ sl_list
theorem cr_anyK (K : PySem.W.Frag) (hK : X.K = K) (hc : X.calm = true) : CallR X (.builtin "any") (rAny K) := hK ▸ cr_any hc
theorem cr_allK (K : PySem.W.Frag) (hK : X.K = K) (hc : X.calm = true) : CallR X (.builtin "all") (rAll K) := hK ▸ cr_all hc
def rLenQ (K : PySem.W.Frag) : List V → Hp → VK → Prop := fun xs H Q => ∃ p ys, xs = [.ref p] ∧ (SqL K H p ys ∨ SqT K H p ys) ∧ Q (.int ys.length) H
theorem call_lenK (K : PySem.W.Frag) (hK : X.K = K) : CallR X (.builtin "len") (rLenQ K) := hK ▸ call_len_seq
def rTupQ (K : PySem.W.Frag) : List V → Hp → VK → Prop := fun xs H Q => ∃ p ys, xs = [.ref p] ∧ ((SqL K H p ys ∧ ∀ l, H l = none → Q (.ref l) (upd H l (.tup ys))) ∨ (SqT K H p ys ∧ Q (.ref p) H))
theorem call_tupleK (K : PySem.W.Frag) (hK : X.K = K) : CallR X (.type "tuple") (rTupQ K) := hK ▸ call_tuple_of
def rLstQ (K : PySem.W.Frag) : List V → Hp → VK → Prop := fun xs H Q => ∃ p ys, xs = [.ref p] ∧ (SqL K H p ys ∨ SqT K H p ys) ∧ ∀ l, H l = none → Q (.ref l) (upd H l (.lst ys))
theorem call_listK (K : PySem.W.Frag) (hK : X.K = K) : CallR X (.type "list") (rLstQ K) := hK ▸ call_list_of
theorem op_neDK (K : PySem.W.Frag) (hK : X.K = K) (hu : X.A.units + 64 < cLine) : OpR X (compareOp .NotEq) (rNeD K) := hK ▸ op_neD hu
theorem op_eqDK (K : PySem.W.Frag) (hK : X.K = K) (hu : X.A.units + 64 < cLine) : OpR X (compareOp .Eq) (rEqD K) := hK ▸ op_eqD hu
def rReprQ (K : PySem.W.Frag) : List V → Hp → VK → Prop := fun xs H Q => ∃ v d, xs = [v] ∧ Dp K H v d ∧ Sh d ∧ Q (.str d.shown) H
theorem call_reprK (K : PySem.W.Frag) (hK : X.K = K) {k : Nat} (hg : Bare X.A) (hr : Room k X.A) : CallR X (.builtin "repr") (rReprQ K) := hK ▸ call_reprD hg hr
theorem call_isiK' (K : PySem.W.Frag) (hK : X.K = K) : CallR X (.builtin "isinstance") (rIsi K) := hK ▸ call_isi
/-- an operator in place, by its rule -/
theorem ip_of {op : Operator} {r : R2} (h : OpR X (inplaceOp op) r) : PIp X op r := fun pins s σ H x y v u Q I rx ry z => h pins s σ H x y v u Q I rx ry z
/-- expressions one behind another, none starred -/
inductive PEL (X : Cx) : List Expr → TA → Prop
  | nil : PEL X [] tNil
  | cons {e : Expr} {es : List Expr} {te : TE} {t : TA} : PE X e te → PEL X es t → PySem.W.kdsPlain e = true → PEL X (e :: es) (tCons te t)
theorem PEL.plain {es : List Expr} {t : TA} (h : PEL X es t) : es.all PySem.W.kdsPlain = true := by
  induction h with
  | nil => rfl
  | cons _ _ h3 ih => rw [List.all_cons, h3, ih] <;> rfl
theorem PEL.run {es : List Expr} {t : TA} (h : PEL X es t) : ∀ (pins : List (Addr × Obj)) (s : Shared) (σ : L2.St) (H : Hp) (R : List V → Hp → Prop) (Q : List Value → Shared → Prop), Inv X pins σ H s → t σ H R →
    (∀ us s' vs H', Inv X pins σ H' s' → Vals vs us → R vs H' → Q us s') → PySem.W.KdsAll (model X.prog X.w) X.A X.xe X.env es Q s := by
  induction h with
  | nil => intro pins s σ H R Q I h q; exact q [] s [] H I .nil h
  | cons he _ _ ih =>
    intro pins s σ H R Q I h q
    refine thn (he.run pins s σ H _ I h) fun u s1 ⟨v, H1, I1, rv, h1⟩ => ?_
    exact ih pins s1 σ H1 _ _ I1 h1 fun us s' vs H' I' rel r => q (u :: us) s' (v :: vs) H' I' (.cons rv rel) r
theorem Vals.toInts : ∀ {ns : List Int} {us : List Value}, Vals (ns.map V.int) us → IntsAre us ns
  | [], _, h => by cases h; exact .nil
  | n :: ns, _, h => by
    cases h with
    | cons a b =>
      obtain ⟨t, rfl⟩ := a
      exact .cons n t (Vals.toInts b)
/-- how many unlike ones -/
def unlike : List Int → List Int → Nat
  | _, [] => 0
  | seen, n :: ns => if n ∈ seen then unlike seen ns else unlike (n :: seen) ns + 1
section
variable {P : Program} {w : World} {A : Around} {E : Value → Shared → Prop} {s : Shared} {D : Addr}
theorem unledI {S : Int → Bool} {n : Nat} {Q : Unit → Shared → Prop} (hS : s.heap.SetOf (intKind P w) D S n) (h : ∀ h', h'.SetOf (intKind P w) D S n → (∀ b o, b ≠ D → s.heap.get? b = some o → h'.get? b = some o) → Q () { s with heap := h' }) :
    wpAny (model P w) A (setUnled D) Q E s := by
  obtain ⟨o, es, ep, tb, get, exact', data, elems, mem, bound, fit, cnt⟩ := hS
  have fit' : ({ tb with led := false } : SetTable).fits es.size = true := by cases tb; exact fit
  unfold setUnled
  refine wpAny_bind (wpAny_setState_of get data fit ?_)
  dsimp only
  refine wpAny_storeSet_of get data ?_ (fits_of_scanBound bound)
  obtain ⟨_, hS2⟩ := SetOf_store (knd := intKind P w) get exact' data elems mem bound fit'
  rw [cnt] at hS2
  have but := Heap.SameBut.update s.heap D (Obj.putSet es { tb with led := false })
  exact h _ hS2 fun b ob hb z => (but.2 b hb).trans z
theorem fillI {u : Bool} {h₀ : Heap} {us : List Value} {ns : List Int} (r : IntsAre us ns) : ∀ (h : Heap) (k : Nat) (S : Int → Bool) (seen : List Int) (n : Nat) (Q : Value → Shared → Prop), h.SetOf (intKind P w) D S n → (∀ z, S z = true ↔ z ∈ seen) →
    (∀ b o, b ≠ D → h₀.get? b = some o → h.get? b = some o) → n + ns.length < 4000 →
    (∀ h' k' S', h'.SetOf (intKind P w) D S' (n + unlike seen ns) → (∀ b o, b ≠ D → h₀.get? b = some o → h'.get? b = some o) → PySem.W.KdsFill (model P w) A E u D Q [] { s with heap := h', toks := k' }) →
    PySem.W.KdsFill (model P w) A E u D Q us { s with heap := h, toks := k } := by
  induction r with
  | nil =>
    intro h k S seen n Q hS _ hk _ q
    exact q h k S hS hk
  | cons y t r ih =>
    rename_i us2 ns2
    intro h k S seen n Q hS hmem hk hn q
    rw [List.length_cons] at hn
    refine PySem.W.kds_fill_cons ?_
    unfold setAdd
    refine wpAny_holding (wpAny_bind ((intKind P w).pyHash (k := y) (intKind_is _ _ _ _) ?_))
    refine wpAny_setAddHashed_of (knd := intKind P w) (s := { s with heap := h, toks := k + 1 }) (intKind_is _ _ _ _) rfl hS (by unfold scanBound; omega) fun h' sb hS' => ?_
    refine ih h' (k + 1) _ (if y ∈ seen then seen else y :: seen) _ Q hS' (fun z => ?_) (fun b o hb e => (sb.2 b hb).trans (hk b o hb e)) (by split <;> omega) fun h2 k2 S2 a b => q h2 k2 S2 ?_ b
    · by_cases hy : y ∈ seen
      · rw [if_pos hy]
        simp only [Bool.or_eq_true, decide_eq_true_eq, hmem]
        exact ⟨fun z => z.elim id fun e => e ▸ hy, Or.inl⟩
      · rw [if_neg hy]
        simp only [Bool.or_eq_true, decide_eq_true_eq, hmem, List.mem_cons]
        exact Or.comm
    · have e : n + unlike seen (y :: ns2) = (if S y = true then n else n + 1) + unlike (if y ∈ seen then seen else y :: seen) ns2 := by
        by_cases hy : y ∈ seen
        · rw [if_pos ((hmem y).mpr hy), if_pos hy]
          show n + (if y ∈ seen then unlike seen ns2 else unlike (y :: seen) ns2 + 1) = _
          rw [if_pos hy]
        · rw [if_neg (fun z => hy ((hmem y).mp z)), if_neg hy]
          show n + (if y ∈ seen then unlike seen ns2 else unlike (y :: seen) ns2 + 1) = _
          rw [if_neg hy]
          omega
      rw [e]
      exact a
end
/-- len({e, ..}), all of them ints -/
def tLenSet (t : TA) : TE := fun σ H Q => t σ H fun vs H1 => ∃ ns : List Int, vs = ns.map V.int ∧ ns.length ≤ 30 ∧ Q (.int (unlike [] ns : Nat)) H1
theorem pe_lenSetI {es : List Expr} {t : TA} {p p2 pos : Pos} (hgl : Gl X "len") (hm : X.mg "len" = none) (hs : PEL X es t) (hl : es.length ≤ 30) (hcd : PySem.W.kdsCode X.K X.env.code = true) :
    PE X (.Call (.Name "len" p) [.Set es 0 p2] [] pos) (tLenSet t) := by
  refine ⟨fun pins s σ H Q I h => wpAny_Call_Name_kw (ld_blt I hgl hm PySem.boot_len ?_ (by decide) (by decide))⟩
  refine PyProof.Rows.callWith_builtin1 (Calls.spliced_cons ?_) (by rfl) (by rfl)
  rw [arm_eval_Set]
  refine wpAny_bind (wpAny_standAt ?_)
  refine wpAny_bind (PySem.W.kds_main I.kIn hcd fun b => ?_)
  rw [PySem.W.kds_star es hs.plain, List.map_map]
  refine PySem.W.kds_core (ts := (evalEach es X.env).map fun t => do let v ← t; standAt p2; pure v) (road0 es) ?_ ?_ ?_ fun led => ?_
  · refine List.findIdx?_eq_none_iff.mpr fun x hx => ?_
    obtain ⟨t, _, rfl⟩ := List.mem_map.mp hx
    rfl
  · rw [List.length_map, PySem.W.kds_len]
    exact hl
  · rw [List.map_map]
    try rfl
  · -- the set's object stands behind the items' evaluation
    have I1 : Inv X pins σ H { s with heap := s.heap.push { cls := .type "set", dict := none, data := .set #[] 0 (.fresh 0 0 led) } } := I.kept (t' := s.toks) fun b u e => Heap.get?_push_of_some _ e
    have hget : (s.heap.push { cls := .type "set", dict := none, data := .set #[] 0 (.fresh 0 0 led) }).get? s.heap.objs.size = some { cls := .type "set", dict := none, data := .set #[] 0 (.fresh 0 0 led) } := Heap.get?_push_size _ rfl
    have I2 := I1.pinned (fp := [s.heap.objs.size]) (fun b hb => by
      rw [List.mem_singleton.mp hb]
      exact I.fpOk (Nat.le_refl _) (I.hok.fresh (Nat.le_refl _))) (fun b hb => by
      rw [List.mem_singleton.mp hb]
      exact ⟨_, hget, fun v z => nomatch z⟩)
    refine PySem.W.kds_all p2 es _ _ (hs.run _ _ σ H (fun vs H1 => ∃ ns : List Int, vs = ns.map V.int ∧ ns.length ≤ 30 ∧ Q (.int (unlike [] ns : Nat)) H1) _ I2 h fun us s' vs H' I' rel hq => ?_)
    obtain ⟨ns, rfl, hl2, q⟩ := hq
    have hpin : s'.heap.get? s.heap.objs.size = some { cls := .type "set", dict := none, data := .set #[] 0 (.fresh 0 0 led) } :=
      (I'.pin _ (List.mem_append_right _ (List.mem_append_right _ (mem_pinsAt (List.mem_singleton.mpr rfl) hget)))).1
    have free : H' s.heap.objs.size = none := (I'.pin _ (List.mem_append_right _ (List.mem_append_right _ (mem_pinsAt (List.mem_singleton.mpr rfl) hget)))).2.1
    have I3 := I'.unpinned
    have hS0 : s'.heap.SetOf (intKind X.prog X.w) s.heap.objs.size (fun _ => false) 0 := (setObjOf_fresh (knd := intKind X.prog X.w) led).setOf hpin (by decide)
    obtain ⟨f0, f1, f2, f3, f4, f5⟩ := I.fpOk (H' := H') (Nat.le_refl s.heap.objs.size) free
    have last : ∀ (h' : Heap) (k' : Nat) (S' : Int → Bool), h'.SetOf (intKind X.prog X.w) s.heap.objs.size S' (0 + unlike [] ns) → (∀ b o, b ≠ s.heap.objs.size → s'.heap.get? b = some o → h'.get? b = some o) →
        wpAny (model X.prog X.w) X.A (spliced []) (fun vs s2 => wpAny (model X.prog X.w) X.A (call (.builtin "len") (.ref s.heap.objs.size :: vs)) (EP X pins σ Q) X.xe s2) X.xe { s' with heap := h', toks := k' } := fun h' k' S' hS hk => by
      refine Calls.spliced_nil ?_
      obtain ⟨o, el, ep, tb, get, exact', data, elems, mem, bound, fit, cnt⟩ := hS
      have fz : (el.size : Int) < 2 ^ 63 := by
        have : el.size < 4096 := bound
        omega
      refine call_len_set (s := { s' with heap := h', toks := k' }) get exact' data fit fz ⟨.int (unlike [] ns : Nat), H', I3.turned (fun b ob hb e => hk b ob hb e) f0 f1 f3 f4 f5, ⟨k' + 1, ?_⟩, q⟩
      rw [cnt, Nat.zero_add]
    refine fillI (s := s') (h₀ := s'.heap) (Vals.toInts rel) s'.heap s'.toks (fun _ => false) [] 0 _ hS0 (fun z => ⟨fun e => Bool.noConfusion e, fun e => absurd e List.not_mem_nil⟩) (fun _ _ _ e => e) (by omega) fun h' k' S' hS hk => ?_
    cases hu : (displayRoad 0 es == DisplayRoad.unsure) with
    | false => exact PySem.W.kds_fill_nil rfl (last h' k' S' hS hk)
    | true => exact PySem.W.kds_fill_unled rfl (unledI (s := { s' with heap := h', toks := k' }) hS fun h2 hS2 sb => last h2 k' S' hS2 fun b o hb e => sb b o hb (hk b o hb e))
end
end NA
namespace NA
open PySem PySem.Spec PyProof.Rows L2
theorem small_log {i : Int} (h : i.natAbs < 2 ^ 1900) : i.natAbs.log2 < 1920 := Nat.lt_of_lt_of_le (PySem.Flt.log2_lt_of (by decide) h) (by decide)
theorem okAll_ints : ∀ ns : List Int, (∀ n ∈ ns, n.natAbs < 2 ^ 1900) → okAll (ns.map PyData.int) = true
  | [], _ => rfl
  | n :: ns, h => by
    rw [List.map_cons]
    simp only [okAll, okD, okAll_ints ns fun m hm => h m (List.mem_cons_of_mem _ hm), Bool.and_true]
    exact decide_eq_true (small_log (h n List.mem_cons_self))
theorem costAll_ints : ∀ ns : List Int, costAll (ns.map PyData.int) = 1923 * ns.length
  | [] => rfl
  | n :: ns => by
    rw [List.map_cons]
    simp only [costAll, cost, costAll_ints ns, List.length_cons]
    omega
theorem Sh.ints {ns : List Int} (h : ∀ n ∈ ns, n.natAbs < 2 ^ 1900) (l : ns.length ≤ 1000) : Sh (.tuple (ns.map .int)) := by
  refine ⟨by simpa only [okD] using okAll_ints ns h, ?_, ?_⟩
  · simp only [NA.cost, costAll_ints]
    omega
  · simp only [PyData.depth, depth_ints]
    decide
theorem Sh.pair {d e : PyData} (a : Sh d) (b : Sh e) (ca : NA.cost d ≤ 4000000) (cb : NA.cost e ≤ 4000000) (da : d.depth ≤ 50) (db : e.depth ≤ 50) : Sh (.list [d, e]) := by
  refine ⟨?_, ?_, ?_⟩
  · simp only [okD, okAll, a.ok, b.ok, Bool.and_self]
  · simp only [NA.cost, costAll]
    omega
  · simp only [PyData.depth, PyData.depthAll]
    omega
theorem Sh.int {i : Int} (h : i.natAbs < 2 ^ 1900) : Sh (.int i) := ⟨by simp only [okD]; exact decide_eq_true (small_log h), by simp only [NA.cost]; decide, by simp only [PyData.depth]; decide⟩
theorem asc_len (N : Nat) : ∀ (l : List Nat) (lo : Nat), l.Pairwise (· < ·) → (∀ x ∈ l, lo ≤ x ∧ x < N) → l.length ≤ N - lo
  | [], _, _, _ => Nat.zero_le _
  | x :: l, lo, h, hb => by
    obtain ⟨h1, h2⟩ := List.pairwise_cons.mp h
    obtain ⟨b1, b2⟩ := hb x List.mem_cons_self
    have ih := asc_len N l (x + 1) h2 fun y hy => ⟨h1 y hy, (hb y (List.mem_cons_of_mem _ hy)).2⟩
    rw [List.length_cons]
    omega
theorem WOk.len {m : Nat} {ws : List (Nat × Nat)} (h : WOk m ws) (hm : m ≤ 6) : ws.length ≤ 36 := by
  have z := asc_len 36 (ws.map fun w => 6 * w.1 + w.2) 0 ?_ ?_
  · rw [List.length_map] at z
    omega
  · rw [List.pairwise_map]
    refine List.Pairwise.imp_of_mem (fun {a b} ha hb e => ?_) h.asc
    obtain ⟨a1, a2, _⟩ := h.low a ha
    obtain ⟨b1, b2, _⟩ := h.low b hb
    rcases e with e | ⟨e1, e2⟩ <;> omega
  · intro x hx
    obtain ⟨w, hw, rfl⟩ := List.mem_map.mp hx
    obtain ⟨b1, b2, _⟩ := h.low w hw
    omega
theorem okAll_wires : ∀ ws : List (Nat × Nat), (∀ w ∈ ws, w.1 < 1000 ∧ w.2 < 1000) → okAll (ws.map wD) = true
  | [], _ => rfl
  | w :: ws, h => by
    obtain ⟨a, b⟩ := h w List.mem_cons_self
    have s : ∀ n : Nat, n < 1000 → (n : Int).natAbs < 2 ^ 1900 := fun n hn => by
      rw [Int.natAbs_natCast]
      exact Nat.lt_trans hn (by decide)
    rw [List.map_cons]
    simp only [okAll, wD, okD, decide_eq_true (small_log (s _ a)), decide_eq_true (small_log (s _ b)), Bool.and_self, Bool.true_and]
    exact okAll_wires ws fun x hx => h x (List.mem_cons_of_mem _ hx)
theorem costAll_wires : ∀ ws : List (Nat × Nat), costAll (ws.map wD) = 3851 * ws.length
  | [] => rfl
  | w :: ws => by
    rw [List.map_cons]
    simp only [costAll, wD, cost, costAll_wires ws, List.length_cons]
    omega
theorem depth_wires : ∀ ws : List (Nat × Nat), PyData.depthAll (ws.map wD) ≤ 1
  | [] => by simp [PyData.depthAll]
  | w :: ws => by
    have := depth_wires ws
    rw [List.map_cons]
    simp only [PyData.depthAll, wD, PyData.depth]
    omega
theorem SizeOk.small {n : Int} (h : SizeOk n) : n.natAbs < 2 ^ 100 := by
  obtain ⟨m, rfl, _, h2, _⟩ := h
  rw [Int.natAbs_natCast]
  exact Nat.lt_of_le_of_lt h2 (by decide)
theorem Sh.mach {ss : List Int} {ws : List (Nat × Nat)} (h : MOk ss ws) : Sh (mD ss ws) := by
  have l1 := h.six
  have l2 := h.wires.len l1
  refine ⟨?_, ?_, ?_⟩
  · have a := okAll_ints ss fun n hn => Nat.lt_trans (h.size n hn).small (by decide)
    have b := okAll_wires ws fun w hw => by
      obtain ⟨x, y, _⟩ := h.wires.low w hw
      omega
    simp only [mD, sD, okD, okAll, a, b, Bool.and_self]
  · simp only [mD, sD, NA.cost, costAll, costAll_ints, costAll_wires]
    omega
  · have := depth_wires ws
    simp only [mD, sD, PyData.depth, PyData.depthAll, depth_ints]
    omega
theorem eqv_nil (ns : List Int) : PyData.eqv (.list (ns.map .int)) (.list []) = ns.isEmpty := by
  cases ns with
  | nil => rfl
  | cons n ns => rfl
/-- the primes of sizes, as numbers from 0 on -/
def dueN (ss : List Int) : List Nat := PRn.filter fun p => dv ss p
theorem dueP_eq (ss : List Int) : dueP ss = (dueN ss).map (fun n : Nat => (n : Int)) := by
  unfold dueP dueN
  rw [show PR = PRn.map (fun n : Nat => (n : Int)) by decide +kernel, List.filter_map]
  rfl
theorem dueN_mem {ss : List Int} {p : Nat} (h : p ∈ dueN ss) : p ∈ PRn := (List.mem_filter.mp h).1
theorem dueN_len (ss : List Int) : (dueN ss).length ≤ 25 := List.length_filter_le _ _
theorem dueP_len (ss : List Int) : (dueP ss).length ≤ 25 := List.length_filter_le _ _
theorem dueP_small {ss : List Int} : ∀ n ∈ dueP ss, n.natAbs < 2 ^ 1900 := fun n hn => by
  rw [dueP_eq] at hn
  obtain ⟨p, hp, rfl⟩ := List.mem_map.mp hn
  rw [Int.natAbs_natCast]
  exact Nat.lt_of_le_of_lt (PRn_le (dueN_mem hp)) (by decide)
theorem dueN_made {ss : List Int} {s : Nat} (h : (s : Int) ∈ ss) (hs : Smo s) : made (dueN ss) 1 s = s := by
  unfold dueN
  rw [made_filter, made_smo hs]
  intro p hp e
  refine val_no fun z => ?_
  have : dv ss (p : Int) = true := List.any_eq_true.mpr ⟨s, h, decide_eq_true (by
    show ((s % p : Nat) : Int) = 0
    rw [z]
    rfl)⟩
  rw [this] at e
  cases e
theorem made_pos {s : Nat} : ∀ (l : List Nat), (∀ p ∈ l, 0 < p) → 0 < made l 1 s
  | [], _ => Nat.one_pos
  | p :: l, h => by
    show 0 < made l (1 * p ^ val p s) s
    rw [made_acc]
    exact Nat.mul_pos (Nat.mul_pos Nat.one_pos (Nat.pow_pos (h p List.mem_cons_self))) (made_pos l fun q hq => h q (List.mem_cons_of_mem _ hq))
theorem made_app (l r : List Nat) (s : Nat) : made (l ++ r) 1 s = made l 1 s * made r 1 s := by
  have : made (l ++ r) 1 s = made r (made l 1 s) s := List.foldl_append
  rw [this, made_acc]
theorem made_take {l : List Nat} {s : Nat} (h : ∀ p ∈ l, 0 < p) (n : Nat) : made (l.take n) 1 s ≤ made l 1 s := by
  have e := made_app (l.take n) (l.drop n) s
  rw [List.take_append_drop] at e
  rw [e]
  exact Nat.le_mul_of_pos_right _ (made_pos _ fun p hp => h p (List.mem_of_mem_drop hp))
theorem made_next {l : List Nat} {s n p : Nat} (h : l[n]? = some p) : made (l.take (n + 1)) 1 s = made (l.take n) 1 s * p ^ val p s := by
  rw [List.take_add_one, h, made_app]
  show made (l.take n) 1 s * (1 * p ^ val p s) = _
  rw [Nat.one_mul]
def spDivided : Sp := fun vs H Q _ => ∃ (v : V) (ss : List Int) (ws : List (Nat × Nat)), vs = [v] ∧ Im H v (mD ss ws) ∧ MOk ss ws ∧ ∀ H', Same H H' → Q (.bl true) H'
def spLeast : Sp := fun vs H Q _ => ∃ (v : V) (ss : List Int) (ws : List (Nat × Nat)) (j i : Nat), vs = [v, .int j, .int i] ∧ Im H v (mD ss ws) ∧ MOk ss ws ∧ j < ss.length ∧ i < ss.length ∧ ∀ H', Same H H' → Q (.bl true) H'
def spLaw (K : PySem.W.Frag) : Sp := fun vs H Q _ => ∃ (a : Addr) (ns : List Int), vs = [.ref a] ∧ SqL K H a (ns.map V.int) ∧ ns.length ≤ 63 ∧ ∀ H', Q (.bl true) H'
theorem Same.k {H H' : Hp} {v : V} {d : PyData} (e : Same H H') (h : Im H v d) : Im H' v d := h.k (Tk.same e)
end NA
namespace NA
open PySem PySem.Spec PyProof.Rows L2
/-! ### data with lists in it; N: where lists may stand -/
mutual
inductive Dg (N : Addr → Prop) (H : Hp) : V → PyData → Prop
  | non : Dg N H .non .none
  | bl (b : Bool) : Dg N H (.bl b) (.bool b)
  | int (i : Int) : Dg N H (.int i) (.int i)
  | str (x : Str) : Dg N H (.str x) (.str x)
  | lst {a : Addr} {xs : List V} {ds : List PyData} : N a → H a = some (.lst xs) → DgAll N H xs ds → Dg N H (.ref a) (.list ds)
  | tup {a : Addr} {xs : List V} {ds : List PyData} : H a = some (.tup xs) → DgAll N H xs ds → Dg N H (.ref a) (.tuple ds)
inductive DgAll (N : Addr → Prop) (H : Hp) : List V → List PyData → Prop
  | nil : DgAll N H [] []
  | cons {v : V} {vs : List V} {d : PyData} {ds : List PyData} : Dg N H v d → DgAll N H vs ds → DgAll N H (v :: vs) (d :: ds)
end
/-- tuples stay, lists where they may stand, the empty dicts -/
structure Ks (N : Addr → Prop) (H H' : Hp) : Prop where
  tup : Tk H H'
  lst : ∀ b xs, N b → H b = some (.lst xs) → H' b = some (.lst xs)
  dic : ∀ b kvs, H b = some (.dK kvs) → H' b = some (.dK kvs)
theorem Ks.same {N : Addr → Prop} {H H' : Hp} (e : Same H H') : Ks N H H' := ⟨Tk.same e, fun b _ _ h => e b _ h, fun b _ h => e b _ h⟩
theorem Ks.kp {p q : Addr} {H H' : Hp} (e : Kp p q H H') (P : Pt H p q) : Ks (fun a => a ≠ p ∧ a ≠ q) H H' := by
  refine ⟨e.tk P, fun b xs n h => e b _ n.1 n.2 h, fun b kvs h => ?_⟩
  obtain ⟨ys, h1⟩ := P.lp
  obtain ⟨zs, h2⟩ := P.lq
  exact e b _ (ne_of h h1 (by intro k; cases k)) (ne_of h h2 (by intro k; cases k)) h
theorem Ks.refl (N : Addr → Prop) (H : Hp) : Ks N H H := ⟨Tk.refl H, fun _ _ _ h => h, fun _ _ h => h⟩
theorem Ks.trans {N : Addr → Prop} {H H1 H2 : Hp} (a : Ks N H H1) (b : Ks N H1 H2) : Ks N H H2 := ⟨a.tup.trans b.tup, fun c x n h => b.lst c x n (a.lst c x n h), fun c x h => b.dic c x (a.dic c x h)⟩
mutual
theorem Dg.keep {N N' : Addr → Prop} {H H' : Hp} (e : Ks N H H') (m : ∀ a, N a → N' a) : ∀ (d : PyData) (v : V), Dg N H v d → Dg N' H' v d
  | .none, _, h => by cases h; exact .non
  | .bool _, _, h => by cases h; exact .bl _
  | .int _, _, h => by cases h; exact .int _
  | .str _, _, h => by cases h; exact .str _
  | .tuple ds, _, h => by
    cases h with
    | tup a b => exact .tup (e.tup _ _ a) (DgAll.keep e m ds _ b)
  | .list ds, _, h => by
    cases h with
    | lst n a b => exact .lst (m _ n) (e.lst _ _ n a) (DgAll.keep e m ds _ b)
  | .dict _, _, h => by cases h
theorem DgAll.keep {N N' : Addr → Prop} {H H' : Hp} (e : Ks N H H') (m : ∀ a, N a → N' a) : ∀ (ds : List PyData) (vs : List V), DgAll N H vs ds → DgAll N' H' vs ds
  | [], _, h => by cases h; exact .nil
  | d :: ds, _, h => by
    cases h with
    | cons a b => exact .cons (Dg.keep e m d _ a) (DgAll.keep e m ds _ b)
end
mutual
theorem Dg.toDp {N : Addr → Prop} {K : PySem.W.Frag} {H : Hp} : ∀ (d : PyData) (v : V), Dg N H v d → Dp K H v d
  | .none, _, h => by cases h; exact .non
  | .bool _, _, h => by cases h; exact .bl _
  | .int _, _, h => by cases h; exact .int _
  | .str _, _, h => by cases h; exact .str _
  | .tuple ds, _, h => by
    cases h with
    | tup a b => exact .tup (SqT.of a) (DgAll.toDp ds _ b)
  | .list ds, _, h => by
    cases h with
    | lst n a b => exact .lst (SqL.of a) (DgAll.toDp ds _ b)
  | .dict _, _, h => by cases h
theorem DgAll.toDp {N : Addr → Prop} {K : PySem.W.Frag} {H : Hp} : ∀ (ds : List PyData) (vs : List V), DgAll N H vs ds → DpAll K H vs ds
  | [], _, h => by cases h; exact .nil
  | d :: ds, _, h => by
    cases h with
    | cons a b => exact .cons (Dg.toDp d _ a) (DgAll.toDp ds _ b)
end
mutual
theorem Im.toDg {N : Addr → Prop} {H : Hp} : ∀ (d : PyData) (v : V), Im H v d → Dg N H v d
  | .none, _, h => by cases h; exact .non
  | .bool _, _, h => by cases h; exact .bl _
  | .int _, _, h => by cases h; exact .int _
  | .str _, _, h => by cases h; exact .str _
  | .tuple ds, _, h => by
    cases h with
    | tup a b => exact .tup a (ImAll.toDg ds _ b)
  | .list _, _, h => by cases h
  | .dict _, _, h => by cases h
theorem ImAll.toDg {N : Addr → Prop} {H : Hp} : ∀ (ds : List PyData) (vs : List V), ImAll H vs ds → DgAll N H vs ds
  | [], _, h => by cases h; exact .nil
  | d :: ds, _, h => by
    cases h with
    | cons a b => exact .cons (Im.toDg d _ a) (ImAll.toDg ds _ b)
end
theorem Im.dg {N : Addr → Prop} {H : Hp} {v : V} {d : PyData} (h : Im H v d) : Dg N H v d := Im.toDg d v h
/-- such data, or an empty dict -/
def Dv (N : Addr → Prop) (H : Hp) (v : V) (d : PyData) : Prop := Dg N H v d ∨ ∃ a, v = .ref a ∧ H a = some (.dK []) ∧ d = .dict []
theorem Dg.k {N : Addr → Prop} {H H' : Hp} {v : V} {d : PyData} (h : Dg N H v d) (e : Ks N H H') : Dg N H' v d := Dg.keep e (fun _ z => z) d v h
theorem DgAll.k {N : Addr → Prop} {H H' : Hp} {v : List V} {d : List PyData} (h : DgAll N H v d) (e : Ks N H H') : DgAll N H' v d := DgAll.keep e (fun _ z => z) d v h
theorem Dg.any {N : Addr → Prop} {H : Hp} {v : V} {d : PyData} (h : Dg N H v d) : Dg (fun _ => True) H v d := Dg.keep (Ks.refl N H) (fun _ _ => trivial) d v h
theorem Dv.k {N : Addr → Prop} {H H' : Hp} {v : V} {d : PyData} (h : Dv N H v d) (e : Ks N H H') : Dv N H' v d := by
  rcases h with h | ⟨a, h1, h2, h3⟩
  · exact .inl (h.k e)
  · exact .inr ⟨a, h1, e.dic _ _ h2, h3⟩
theorem Dv.any {N : Addr → Prop} {H : Hp} {v : V} {d : PyData} (h : Dv N H v d) : Dv (fun _ => True) H v d := by
  rcases h with h | h
  · exact .inl h.any
  · exact .inr h
theorem DgAll.length {N : Addr → Prop} {H : Hp} : ∀ {vs : List V} {ds : List PyData}, DgAll N H vs ds → vs.length = ds.length
  | _, _, .nil => rfl
  | _, _, .cons _ b => by rw [List.length_cons, List.length_cons, DgAll.length b]
theorem DgAll.get {N : Addr → Prop} {H : Hp} : ∀ {vs : List V} {ds : List PyData} {i : Nat} {v : V}, DgAll N H vs ds → vs[i]? = some v → ∃ d, ds[i]? = some d ∧ Dg N H v d
  | _, _, _, _, .nil, e => by simp at e
  | _, _, 0, _, .cons a _, e => by
    simp at e
    subst e
    exact ⟨_, rfl, a⟩
  | _, _, i + 1, v, .cons _ b, e => by
    obtain ⟨d, h1, h2⟩ := DgAll.get (i := i) (v := v) b (by simpa using e)
    exact ⟨d, by simpa using h1, h2⟩
theorem DgAll.append {N : Addr → Prop} {H : Hp} : ∀ {vs ws : List V} {ds es : List PyData}, DgAll N H vs ds → DgAll N H ws es → DgAll N H (vs ++ ws) (ds ++ es)
  | _, _, _, _, .nil, h => h
  | _, _, _, _, .cons a b, h => .cons a (DgAll.append b h)
theorem DgAll.take {N : Addr → Prop} {H : Hp} : ∀ (n : Nat) {vs : List V} {ds : List PyData}, DgAll N H vs ds → DgAll N H (vs.take n) (ds.take n)
  | 0, _, _, _ => .nil
  | _ + 1, _, _, .nil => .nil
  | n + 1, _, _, .cons a b => .cons a (DgAll.take n b)
theorem DgAll.drop {N : Addr → Prop} {H : Hp} : ∀ (n : Nat) {vs : List V} {ds : List PyData}, DgAll N H vs ds → DgAll N H (vs.drop n) (ds.drop n)
  | 0, _, _, h => h
  | _ + 1, _, _, .nil => .nil
  | n + 1, _, _, .cons a b => DgAll.drop n b
/-! ### types -/
def tyD : PyData → String
  | .none => "NoneType"
  | .bool _ => "bool"
  | .int _ => "int"
  | .str _ => "str"
  | .list _ => "list"
  | .tuple _ => "tuple"
  | .dict _ => "dict"
theorem Dv.ty {N : Addr → Prop} {K : PySem.W.Frag} {H : Hp} {v : V} {d : PyData} (h : Dv N H v d) : TyX K H v (.type (tyD d)) := by
  rcases h with h | ⟨a, rfl, h2, rfl⟩
  · cases h with
    | non => exact .base .non
    | bl b => exact .base (.bl b)
    | int i => exact .base (.int i)
    | str x => exact .base (.str x)
    | lst _ a _ => exact .base (.lst a)
    | tup a _ => exact .base (.tup a)
  · exact .base (.dK h2)
def isT : PyData → Bool
  | .tuple _ => true
  | _ => false
def isIB : PyData → Bool
  | .int _ => true
  | .bool _ => true
  | _ => false
def isB : PyData → Bool
  | .bool _ => true
  | _ => false
def isI : PyData → Bool
  | .int _ => true
  | _ => false
theorem kit_tup (K : PySem.W.Frag) (d : PyData) : PySem.W.kitOne K (.type (tyD d)) (.type "tuple") = some (isT d) := by
  cases d with
  | none => exact kit_ty (show kitB "NoneType" "tuple" = some false by decide +kernel)
  | bool _ => exact kit_ty (show kitB "bool" "tuple" = some false by decide +kernel)
  | int _ => exact kit_ty (show kitB "int" "tuple" = some false by decide +kernel)
  | str _ => exact kit_ty (show kitB "str" "tuple" = some false by decide +kernel)
  | list _ => exact kit_ty (show kitB "list" "tuple" = some false by decide +kernel)
  | tuple _ => exact kit_ty (show kitB "tuple" "tuple" = some true by decide +kernel)
  | dict _ => exact kit_ty (show kitB "dict" "tuple" = some false by decide +kernel)
theorem kit_int (K : PySem.W.Frag) (d : PyData) : PySem.W.kitOne K (.type (tyD d)) (.type "int") = some (isIB d) := by
  cases d with
  | none => exact kit_ty (show kitB "NoneType" "int" = some false by decide +kernel)
  | bool _ => exact kit_ty (show kitB "bool" "int" = some true by decide +kernel)
  | int _ => exact kit_ty (show kitB "int" "int" = some true by decide +kernel)
  | str _ => exact kit_ty (show kitB "str" "int" = some false by decide +kernel)
  | list _ => exact kit_ty (show kitB "list" "int" = some false by decide +kernel)
  | tuple _ => exact kit_ty (show kitB "tuple" "int" = some false by decide +kernel)
  | dict _ => exact kit_ty (show kitB "dict" "int" = some false by decide +kernel)
theorem kit_bool (K : PySem.W.Frag) (d : PyData) : PySem.W.kitOne K (.type (tyD d)) (.type "bool") = some (isB d) := by
  cases d with
  | none => exact kit_ty (show kitB "NoneType" "bool" = some false by decide +kernel)
  | bool _ => exact kit_ty (show kitB "bool" "bool" = some true by decide +kernel)
  | int _ => exact kit_ty (show kitB "int" "bool" = some false by decide +kernel)
  | str _ => exact kit_ty (show kitB "str" "bool" = some false by decide +kernel)
  | list _ => exact kit_ty (show kitB "list" "bool" = some false by decide +kernel)
  | tuple _ => exact kit_ty (show kitB "tuple" "bool" = some false by decide +kernel)
  | dict _ => exact kit_ty (show kitB "dict" "bool" = some false by decide +kernel)
theorem Dv.tuple {N : Addr → Prop} {H : Hp} {v : V} {d : PyData} (h : Dv N H v d) (e : isT d = true) : ∃ a xs ds, v = .ref a ∧ d = .tuple ds ∧ H a = some (.tup xs) ∧ DgAll N H xs ds := by
  rcases h with h | ⟨a, rfl, h2, rfl⟩
  · cases h with
    | tup a b => exact ⟨_, _, _, rfl, rfl, a, b⟩
    | non => cases e
    | bl _ => cases e
    | int _ => cases e
    | str _ => cases e
    | lst _ _ _ => cases e
  · cases e
theorem Dv.int {N : Addr → Prop} {H : Hp} {v : V} {d : PyData} (h : Dv N H v d) (e : isI d = true) : ∃ i, v = .int i ∧ d = .int i := by
  rcases h with h | ⟨a, rfl, h2, rfl⟩
  · cases h with
    | int i => exact ⟨i, rfl, rfl⟩
    | non => cases e
    | bl _ => cases e
    | tup _ _ => cases e
    | str _ => cases e
    | lst _ _ _ => cases e
  · cases e
/-! ### repr -/
structure ShV (d : PyData) : Prop where
  ok : Sh d ∨ d = .dict []
def rReprV (N : Addr → Prop) : List V → Hp → VK → Prop := fun xs H Q => ∃ v d, xs = [v] ∧ Dv N H v d ∧ ShV d ∧ Q (.str d.shown) H
theorem call_reprV {X : Cx} (N : Addr → Prop) {k : Nat} (hg : Bare X.A) (hr : Room k X.A) : CallR X (.builtin "repr") (rReprV N) := by
  intro pins s σ H xs us Q I r h
  obtain ⟨v, d, rfl, hd, sh, q⟩ := h
  rcases hd with hd | ⟨a, rfl, h2, rfl⟩
  · rcases sh.ok with s1 | e
    · exact call_reprD hg hr pins s σ H [v] us Q I r ⟨v, d, rfl, Dg.toDp d v hd, s1, q⟩
    · subst e
      cases hd
  · obtain ⟨u, rfl, ru⟩ := r.one
    cases (show u = Value.ref a from ru)
    have ok : ObjOk X.prog X.w H s.heap a (.dK []) := I.hok a _ h2
    obtain ⟨_, ns, vs, kv, o, es, ep, g1, g2, g3, g4, g5⟩ := ok
    have hu := hr.un
    have vs0 : vs = [] := by cases kv; rfl
    subst vs0
    have es0 : es.toList = [] := by
      have z := g5.1
      cases h : es.toList with
      | nil => rfl
      | cons x l =>
        rw [h] at z
        cases z
    have rd : Reads s.heap (.ref a) (.dict []) (a :: [] ++ []) := .dict g1 g2.1 g3 (by rw [es0]; exact .nil) (by rw [es0]; exact .nil)
    have nsm : sysModules ≠ a := fun z => by
      rw [z, beq_self_eq_true] at ns
      cases ns
    refine repr_of_reads' rd (by decide) (fun _ => by simpa using nsm) hg (by show X.A.units + (1 + 1) < cLine; omega) (fun _ _ z => z) (fun h' u tk hk => ⟨.str _, H, I.kept (t' := tk) hk, ⟨_, rfl⟩, q⟩) (by decide +kernel)
end NA
namespace NA
open PySem PySem.Spec PyProof.Rows L2
/-! ### what is wrong with a machine, over data -/
def strp (p n : Nat) : Nat := n / p ^ val p n
theorem strp_yes {p n : Nat} (hp : 2 ≤ p) (hn : 0 < n) (h : n % p = 0) : strp p n = strp p (n / p) := by
  unfold strp
  rw [val_yes hp hn h, Nat.pow_succ, Nat.mul_comm, Nat.div_div_eq_div_mul]
theorem strp_no {p n : Nat} (h : n % p ≠ 0) : strp p n = n := by
  unfold strp
  rw [val_no h, Nat.pow_zero, Nat.div_one]
theorem strp_pos {p n : Nat} (hp : 2 ≤ p) (hn : 0 < n) : 0 < strp p n := by
  have d := (pow_dvd_val hp (val p n) n hn).mpr (Nat.le_refl _)
  exact Nat.div_pos (Nat.le_of_dvd hn d) (Nat.pow_pos (by omega))
theorem strp_le (p n : Nat) : strp p n ≤ n := Nat.div_le_self _ _
def strA (l : List Nat) (n : Nat) : Nat := l.foldl (fun r p => strp p r) n
theorem strA_next {l : List Nat} {n i p : Nat} (h : l[i]? = some p) : strA (l.take (i + 1)) n = strp p (strA (l.take i) n) := by
  unfold strA
  rw [List.take_add_one, h, List.foldl_append]
  rfl
def isSz : PyData → Bool
  | .int n => decide (2 ≤ n) && decide (n ≤ 10 ^ 30) && (strA PRn n.toNat == 1)
  | _ => false
def isBl (m : Nat) : PyData → Bool
  | .int n => decide (0 ≤ n) && decide (n < (m : Int))
  | _ => false
def isWr (m : Nat) : PyData → Bool
  | .tuple [.int a, .int b] => isBl m (.int a) && isBl m (.int b) && !decide (a = b)
  | _ => false
def leP : PyData → PyData → Bool
  | .tuple [.int a, .int b], .tuple [.int c, .int d] => if a = c then (if b = d then true else decide (b ≤ d)) else decide (a ≤ c)
  | _, _ => false
def bd (f : Nat → Bool) (n : Nat) : List Nat := (List.range n).filter f
theorem bd_zero (f : Nat → Bool) : bd f 0 = [] := rfl
theorem bd_succ (f : Nat → Bool) (n : Nat) : bd f (n + 1) = bd f n ++ (if f n = true then [n] else []) := by
  unfold bd
  rw [List.range_succ, List.filter_append, List.filter_cons, List.filter_nil]
theorem bd_none {f : Nat → Bool} {n : Nat} (h : bd f n = []) : ∀ i, i < n → f i = false := fun i hi => by
  cases e : f i with
  | false => rfl
  | true =>
    have : i ∈ bd f n := List.mem_filter.mpr ⟨List.mem_range.mpr hi, e⟩
    rw [h] at this
    cases this
theorem bd_first {f : Nat → Bool} {i : Nat} (h : bd f i = []) (e : f i = true) : ∀ n, i < n → ∃ l, bd f n = i :: l := by
  intro n hn
  induction n with
  | zero => omega
  | succ n ih =>
    rw [bd_succ]
    by_cases z : i = n
    · subst z
      rw [h, if_pos e]
      exact ⟨[], rfl⟩
    · obtain ⟨l, hl⟩ := ih (by omega)
      rw [hl]
      exact ⟨_, rfl⟩
theorem bd_lt {f : Nat → Bool} {n i : Nat} (h : i ∈ bd f n) : i < n := List.mem_range.mp (List.mem_filter.mp h).1
theorem bd_len (f : Nat → Bool) (n : Nat) : (bd f n).length ≤ n := by
  have := List.length_filter_le f (List.range n)
  rwa [List.length_range] at this
def szBad (S : List PyData) (i : Nat) : Bool := !isSz (S.getD i .none)
def wrBad (m : Nat) (W : List PyData) (i : Nat) : Bool := !isWr m (W.getD i .none)
def orBad (W : List PyData) (k : Nat) : Bool := leP (W.getD (k + 1) .none) (W.getD k .none)
def eT (x : Str) (i : Nat) : PyData := .tuple [.str x, .int i]
def merr3 (W : List PyData) : PyData := match bd (orBad W) (W.length - 1) with
  | k :: _ => eT "order" (k + 1)
  | [] => .none
def merrW (m : Nat) (W : List PyData) : PyData := match bd (wrBad m W) W.length with
  | i :: _ => eT "wire" i
  | [] => merr3 W
def merr2 (S W : List PyData) : PyData := match bd (szBad S) S.length with
  | i :: _ => eT "size" i
  | [] => merrW S.length W
def formD : PyData → Option (List PyData × List PyData)
  | .tuple [.tuple S, .tuple W] => if 1 ≤ S.length ∧ S.length ≤ 6 then some (S, W) else none
  | _ => none
def merr (d : PyData) : PyData := match formD d with
  | some (S, W) => merr2 S W
  | none => .str "form"
theorem formD_some {d : PyData} {S W : List PyData} (h : formD d = some (S, W)) : d = .tuple [.tuple S, .tuple W] ∧ 1 ≤ S.length ∧ S.length ≤ 6 := by
  unfold formD at h
  split at h
  · split at h
    · rename_i S' W' z
      cases h
      exact ⟨rfl, z⟩
    · cases h
  · cases h
theorem get_getD {l : List PyData} {i : Nat} {d : PyData} (h : l[i]? = some d) : l.getD i .none = d := by
  rw [List.getD_eq_getElem?_getD, h]
  rfl
theorem merr_form {d : PyData} (h : formD d = none) : merr d = .str "form" := by unfold merr; rw [h]
theorem merr_some {d : PyData} {S W : List PyData} (h : formD d = some (S, W)) : merr d = merr2 S W := by unfold merr; rw [h]
theorem merr2_size {S W : List PyData} {i : Nat} {l : List Nat} (h : bd (szBad S) S.length = i :: l) : merr2 S W = eT "size" i := by unfold merr2; rw [h]
theorem merr2_ok {S W : List PyData} (h : bd (szBad S) S.length = []) : merr2 S W = merrW S.length W := by unfold merr2; rw [h]
theorem merrW_wire {m : Nat} {W : List PyData} {i : Nat} {l : List Nat} (h : bd (wrBad m W) W.length = i :: l) : merrW m W = eT "wire" i := by unfold merrW; rw [h]
theorem merrW_ok {m : Nat} {W : List PyData} (h : bd (wrBad m W) W.length = []) : merrW m W = merr3 W := by unfold merrW; rw [h]
theorem merr3_ord {W : List PyData} {k : Nat} {l : List Nat} (h : bd (orBad W) (W.length - 1) = k :: l) : merr3 W = eT "order" (k + 1) := by unfold merr3; rw [h]
theorem merr3_ok {W : List PyData} (h : bd (orBad W) (W.length - 1) = []) : merr3 W = .none := by unfold merr3; rw [h]
theorem bd_all {f : PyData → Bool} {l : List PyData} (h : bd (fun i => !f (l.getD i .none)) l.length = []) : ∀ x ∈ l, f x = true := fun x hx => by
  obtain ⟨i, hi, rfl⟩ := List.getElem_of_mem hx
  have z := bd_none h i hi
  rw [get_getD (List.getElem?_eq_getElem hi)] at z
  simpa using z
/-- all but the order -/
structure Almost (d : PyData) (S W : List PyData) : Prop where
  eq : d = .tuple [.tuple S, .tuple W]
  one : 1 ≤ S.length
  six : S.length ≤ 6
  sz : ∀ x ∈ S, isSz x = true
  wr : ∀ x ∈ W, isWr S.length x = true
theorem isWr_shape {m : Nat} {d : PyData} (h : isWr m d = true) : ∃ a b : Nat, d = .tuple [.int a, .int b] ∧ a < m ∧ b < m := by
  unfold isWr at h
  split at h
  · rename_i a b
    simp only [isBl, Bool.and_eq_true, decide_eq_true_eq] at h
    exact ⟨a.toNat, b.toNat, by rw [Int.toNat_of_nonneg h.1.1.1, Int.toNat_of_nonneg h.1.2.1], by omega, by omega⟩
  · cases h
def wn (d : PyData) : Nat := match d with
  | .tuple [.int a, .int b] => 6 * a.toNat + b.toNat
  | _ => 0
theorem wn_lt {d e : PyData} (hd : isWr 6 d = true) (he : isWr 6 e = true) (h : leP e d = false) : wn d < wn e := by
  obtain ⟨a, b, rfl, a1, b1⟩ := isWr_shape hd
  obtain ⟨c, f, rfl, c1, f1⟩ := isWr_shape he
  simp only [leP] at h
  simp only [wn, Int.toNat_natCast]
  split at h
  · split at h
    · cases h
    · have := of_decide_eq_false h
      omega
  · have := of_decide_eq_false h
    omega
theorem isWr_mono {m : Nat} (hm : m ≤ 6) {d : PyData} (h : isWr m d = true) : isWr 6 d = true := by
  unfold isWr at h ⊢
  split at h
  · simp only [isBl, Bool.and_eq_true, decide_eq_true_eq] at h ⊢
    exact ⟨⟨⟨h.1.1.1, by omega⟩, ⟨h.1.2.1, by omega⟩⟩, h.2⟩
  · cases h
theorem asc_of {W : List PyData} (h6 : ∀ x ∈ W, isWr 6 x = true) (ho : ∀ k, k < W.length - 1 → orBad W k = false) : W.length ≤ 36 := by
  have step : ∀ n, n < W.length → n ≤ wn (W.getD n .none) := by
    intro n
    induction n with
    | zero => intro _; exact Nat.zero_le _
    | succ n ih =>
      intro hn
      have a := ih (by omega)
      have m1 := get_getD (List.getElem?_eq_getElem (show n < W.length by omega))
      have m2 := get_getD (List.getElem?_eq_getElem hn)
      have z := ho n (by omega)
      unfold orBad at z
      rw [m1] at a
      rw [m1, m2] at z
      rw [m2]
      have := wn_lt (h6 _ (List.getElem_mem (by omega))) (h6 _ (List.getElem_mem hn)) z
      omega
  by_cases e : W.length = 0
  · omega
  · have hn : W.length - 1 < W.length := by omega
    have s := step _ hn
    rw [get_getD (List.getElem?_eq_getElem hn)] at s
    obtain ⟨a, b, z, a1, b1⟩ := isWr_shape (h6 _ (List.getElem_mem hn))
    rw [z] at s
    simp only [wn, Int.toNat_natCast] at s
    omega
theorem merr_almost {d : PyData} (h : merr d = .none ∨ ∃ k, merr d = eT "order" k) : ∃ S W, Almost d S W ∧ (merr d = .none → W.length ≤ 36) := by
  cases hf : formD d with
  | none =>
    rw [merr_form hf] at h
    rcases h with h | ⟨k, h⟩ <;> cases h
  | some SW =>
    obtain ⟨S, W⟩ := SW
    obtain ⟨e, o, x⟩ := formD_some hf
    rw [merr_some hf] at h ⊢
    cases hs : bd (szBad S) S.length with
    | cons i l =>
      rw [merr2_size hs] at h
      rcases h with h | ⟨k, h⟩
      · cases h
      · exact absurd (by injection h with h; injection h with h _; injection h : ("size" : Str) = "order") (by decide +kernel)
    | nil =>
      rw [merr2_ok hs] at h ⊢
      cases hw : bd (wrBad S.length W) W.length with
      | cons i l =>
        rw [merrW_wire hw] at h
        rcases h with h | ⟨k, h⟩
        · cases h
        · exact absurd (by injection h with h; injection h with h _; injection h : ("wire" : Str) = "order") (by decide +kernel)
      | nil =>
        rw [merrW_ok hw]
        have wr : ∀ y ∈ W, isWr S.length y = true := bd_all hw
        refine ⟨S, W, ⟨e, o, x, bd_all hs, wr⟩, fun hn => ?_⟩
        cases ho : bd (orBad W) (W.length - 1) with
        | cons k l =>
          rw [merr3_ord ho] at hn
          cases hn
        | nil => exact asc_of (fun y hy => isWr_mono x (wr y hy)) (bd_none ho)
/-! ### how great such data is -/
def okG (c dp : Nat) (d : PyData) : Bool := okD d && decide (cost d ≤ c) && decide (d.depth ≤ dp)
theorem okG_iff {c dp : Nat} {d : PyData} : okG c dp d = true ↔ okD d = true ∧ cost d ≤ c ∧ d.depth ≤ dp := by
  unfold okG
  simp only [Bool.and_eq_true, decide_eq_true_eq, and_assoc]
theorem okG_mono {c dp c' dp' : Nat} {d : PyData} (h : okG c dp d = true) (a : c ≤ c') (b : dp ≤ dp') : okG c' dp' d = true := by
  rw [okG_iff] at h ⊢
  exact ⟨h.1, by omega, by omega⟩
theorem okG_all {c dp : Nat} : ∀ {l : List PyData}, (∀ x ∈ l, okG c dp x = true) → okAll l = true ∧ costAll l ≤ (c + 2) * l.length ∧ PyData.depthAll l ≤ dp
  | [], _ => ⟨rfl, Nat.le_refl _, Nat.zero_le _⟩
  | x :: l, h => by
    obtain ⟨a, b, e⟩ := okG_all fun y hy => h y (List.mem_cons_of_mem _ hy)
    obtain ⟨a1, b1, e1⟩ := okG_iff.mp (h x List.mem_cons_self)
    refine ⟨by simp only [okAll, a, a1, Bool.and_self], ?_, ?_⟩
    · simp only [costAll, List.length_cons, Nat.mul_succ]
      omega
    · simp only [PyData.depthAll]
      omega
theorem okG_tup {c dp c' dp' : Nat} {l : List PyData} (h : ∀ x ∈ l, okG c dp x = true) (a : (c + 2) * l.length + 3 ≤ c') (b : dp + 1 ≤ dp') : okG c' dp' (.tuple l) = true := by
  obtain ⟨h1, h2, h3⟩ := okG_all h
  refine okG_iff.mpr ⟨by simpa only [okD] using h1, ?_, ?_⟩
  · simp only [cost]
    omega
  · simp only [PyData.depth]
    omega
theorem okG_lst {c dp c' dp' : Nat} {l : List PyData} (h : ∀ x ∈ l, okG c dp x = true) (a : (c + 2) * l.length + 3 ≤ c') (b : dp + 1 ≤ dp') : okG c' dp' (.list l) = true := by
  obtain ⟨h1, h2, h3⟩ := okG_all h
  refine okG_iff.mpr ⟨by simpa only [okD] using h1, ?_, ?_⟩
  · simp only [cost]
    omega
  · simp only [PyData.depth]
    omega
theorem okG_sh {c dp : Nat} {d : PyData} (h : okG c dp d = true) (a : c ≤ 16000000) (b : dp ≤ 60) : ShV d := by
  obtain ⟨h1, h2, h3⟩ := okG_iff.mp h
  exact ⟨.inl ⟨h1, by omega, by omega⟩⟩
/-- things in the place of a size or a wire -/
def okI (d : PyData) : Bool := okG 10000 3 d
theorem isSz_ok {d : PyData} (h : isSz d = true) : okI d = true := by
  unfold isSz at h
  split at h
  · rename_i n
    simp only [Bool.and_eq_true, decide_eq_true_eq] at h
    refine okG_iff.mpr ⟨?_, by simp only [cost]; decide, by simp only [PyData.depth]; decide⟩
    simp only [okD]
    refine decide_eq_true (small_log ?_)
    have a := h.1.1
    have b := h.1.2
    have : n.natAbs ≤ 10 ^ 30 := by omega
    exact Nat.lt_of_le_of_lt this (by decide)
  · cases h
theorem isWr_ok {m : Nat} (hm : m ≤ 6) {d : PyData} (h : isWr m d = true) : okI d = true := by
  obtain ⟨a, b, rfl, a1, b1⟩ := isWr_shape h
  have s : ∀ k : Nat, k < 6 → okG 2000 1 (.int (k : Int)) = true := fun k hk => by
    refine okG_iff.mpr ⟨?_, by simp only [cost]; decide, by simp only [PyData.depth]; decide⟩
    simp only [okD]
    refine decide_eq_true (small_log ?_)
    rw [Int.natAbs_natCast]
    exact Nat.lt_trans hk (by decide)
  refine okG_tup (c := 2000) (dp := 1) (fun x hx => ?_) (by show (2000 + 2) * 2 + 3 ≤ 10000; decide) (by decide)
  rcases List.mem_cons.mp hx with e | hx
  · rw [e]
    exact s a (by omega)
  · rw [List.mem_singleton.mp hx]
    exact s b (by omega)
theorem ShV.len {l : List PyData} (h : ShV (.tuple l)) : 2 * l.length ≤ 16000000 := by
  rcases h.ok with h | h
  · have z := h.cost
    simp only [cost] at z
    have : ∀ l : List PyData, 2 * l.length ≤ costAll l := by
      intro l
      induction l with
      | nil => exact Nat.le_refl _
      | cons x l ih =>
        simp only [costAll, List.length_cons]
        omega
    have := this l
    omega
  · cases h
theorem ShV.sub {l : List PyData} (h : ShV (.tuple l)) {x : PyData} (hx : x ∈ l) : ShV x := by
  rcases h.ok with h | h
  · have z1 := h.ok
    have z2 := h.cost
    have z3 := h.depth
    simp only [okD] at z1
    simp only [cost] at z2
    simp only [PyData.depth] at z3
    have : ∀ l : List PyData, okAll l = true → x ∈ l → okD x = true ∧ cost x ≤ costAll l ∧ x.depth ≤ PyData.depthAll l := by
      intro l
      induction l with
      | nil => intro _ m; cases m
      | cons y l ih =>
        intro o m
        simp only [okAll, Bool.and_eq_true] at o
        simp only [costAll, PyData.depthAll]
        rcases List.mem_cons.mp m with e | m
        · subst e
          exact ⟨o.1, by omega, by omega⟩
        · obtain ⟨a, b, c⟩ := ih o.2 m
          exact ⟨a, by omega, by omega⟩
    obtain ⟨a, b, c⟩ := this l z1 hx
    exact ⟨.inl ⟨a, by omega, by omega⟩⟩
  · cases h
theorem pi_enumTK {X : Cx} (K : PySem.W.Frag) (hK : X.K = K) {e : Expr} {ta : TA} {p pos tpos : Pos} {elts : List Expr} {kk : Nat} (hg : Gl X "enumerate") (hm : X.mg "enumerate" = none) (ha : PA X [e] ta) (hs : starEach [e] X.env = [(false, eval e X.env)] := by rfl) :
    PI X (.Tuple elts kk tpos) (.Call (.Name "enumerate" p) [e] [] pos) (iEnumT K ta) := hK ▸ pi_enumT hg hm ha hs
theorem op_leTK {X : Cx} (K : PySem.W.Frag) (hK : X.K = K) (hu : X.A.units < cLine) : OpR X (compareOp CmpOp.LtE) (rLeT K) := hK ▸ op_leT hu
theorem pg_tupK {X : Cx} (K : PySem.W.Frag) (hK : X.K = K) {pos : Pos} {es : List Expr} {k : Nat} {t : TGs} {n : Nat} (hc : X.calm = true) (h : PGs X es t) (h1 : (assignEach es X.env).length = n := by rfl) (h2 : List.findIdx? (fun x => x.fst) (assignEach es X.env) = none := by rfl) :
    PG X (.Tuple es k pos) (gTup K n t) := hK ▸ pg_tup hc h h1 h2
theorem keepN {H : Hp} {a c : Addr} {o o' : HO} (h : H a = some o) (n : H c = none) : (upd H c o') a = some o := by
  rw [upd_ne (ne_of_none h n)]
  exact h
/-! ### promises -/
theorem room_lt {k : Nat} {A : Around} (hr : Room k A) : A.units < cLine := by
  have := hr.units
  omega
abbrev An : Addr → Prop := fun _ => True
def Np (p q : Addr) : Addr → Prop := fun a => a ≠ p ∧ a ≠ q
def spB (f : PyData → Bool) : Sp := fun vs H Q _ => ∃ (v : V) (d : PyData), vs = [v] ∧ Dv An H v d ∧ ShV d ∧ ∀ H', Same H H' → Q (.bl (f d)) H'
def isInt0 : PyData → Bool
  | .int _ => true
  | _ => false
def isPr : PyData → Bool
  | .tuple [_, _] => true
  | _ => false
def spBelow : Sp := fun vs H Q _ => ∃ (v : V) (d : PyData) (m : Nat), vs = [v, .int m] ∧ Dv An H v d ∧ ∀ H', Same H H' → Q (.bl (isBl m d)) H'
def spWireB : Sp := fun vs H Q _ => ∃ (v : V) (d : PyData) (m : Nat), vs = [v, .int m] ∧ Dv An H v d ∧ ShV d ∧ ∀ H', Same H H' → Q (.bl (isWr m d)) H'
def spMerr : Sp := fun vs H Q _ => ∃ (v : V) (d : PyData), vs = [v] ∧ Dv An H v d ∧ ShV d ∧ ∀ (u : V) (H' : Hp), Im H' u (merr d) → Same H H' → Q u H'
def spOddS : Sp := fun vs H Q _ => ∃ (p q : Addr), vs = [.ref p] ∧ Pt H p q ∧ ∀ (v : V) (d : PyData) (H' : Hp), Dg (Np p q) H' v d → okI d = true → Pt H' p q → Kp p q H H' → Q v H'
def spOddW : Sp := fun vs H Q _ => ∃ (p q : Addr) (m : Nat), vs = [.ref p, .int m] ∧ m ≤ 6 ∧ Pt H p q ∧ ∀ (v : V) (d : PyData) (H' : Hp), Dg (Np p q) H' v d → okI d = true → Pt H' p q → Kp p q H H' → Q v H'
def loB : PyData → Bool
  | .tuple [.tuple _, .tuple W] => decide (W.length ≤ 100)
  | _ => true
theorem lo_ok {S W : List PyData} (h : loB (.tuple [.tuple S, .tuple W]) = true) : W.length ≤ 100 := of_decide_eq_true h
theorem lo_no {S : List PyData} (h : ∀ x ∈ S, isT x = false) : loB (.tuple S) = true := by
  unfold loB
  split
  · rename_i e
    injection e with e
    have := h _ (e ▸ List.mem_cons_self)
    cases this
  · rfl
theorem sz_isT {d : PyData} (h : isSz d = true) : isT d = false := by cases d <;> first | rfl | cases h
def Fit (d : PyData) : Prop := ShV d ∧ loB d = true
def spSpoilt : Sp := fun vs H Q _ => ∃ (p q : Addr) (v : V) (d : PyData) (S W : List PyData), vs = [.ref p, v] ∧ Pt H p q ∧ Dg (Np p q) H v d ∧ Almost d S W ∧ W.length ≤ 36 ∧
  ∀ (v : V) (d : PyData) (H' : Hp), Dv (Np p q) H' v d → Fit d → Pt H' p q → Kp p q H H' → Q v H'
end NA
namespace NA
open PySem PySem.Spec PyProof.Rows L2
/-! ### zip of two or three, lists or tuples as they come -/
inductive Sk
  | l
  | t
def SqS (K : PySem.W.Frag) (k : Sk) (H : Hp) (a : Addr) (xs : List V) : Prop := match k with
  | .l => SqL K H a xs
  | .t => SqT K H a xs
def ItS (k : Sk) (h : Heap) (it a : Addr) (i : Nat) : Prop := match k with
  | .l => h.IsListIter it a i
  | .t => h.IsTupleIter it a i
def OfS (k : Sk) (h : Heap) (a : Addr) (its : Array Value) : Prop := match k with
  | .l => h.IsList a its
  | .t => h.IsTuple a its
def itO (k : Sk) (a : Addr) : Obj := match k with
  | .l => { cls := .type "list_iterator", data := .fields #[.ref a, .int 0 0] }
  | .t => { cls := .type "tuple_iterator", data := .fields #[.ref a, .int 0 0] }
theorem SqS.of_l {K : PySem.W.Frag} {H : Hp} {a : Addr} {xs : List V} (h : H a = some (.lst xs)) : SqS K .l H a xs := SqL.of h
theorem SqS.of_t {K : PySem.W.Frag} {H : Hp} {a : Addr} {xs : List V} (h : H a = some (.tup xs)) : SqS K .t H a xs := SqT.of h
theorem srcDraws {prog : Program} {w : World} {A : Around} (k : Sk) (hA : A.handled = none) (it a : Addr) (ne : a ≠ it) (its : Array Value) :
    Draws prog w A it [it, a] its.size (fun i v => its[i]? = some v) (fun i h => ItS k h it a i ∧ OfS k h a its) := by
  cases k with
  | l => exact Draws.list hA it a ne its
  | t => exact Draws.tuple hA it a ne its
theorem src_of {X : Cx} {pins : List (Addr × Obj)} {σ : L2.St} {H : Hp} {s : Shared} {k : Sk} {a : Addr} {xs : List V} (I : Inv X pins σ H s) (h : SqS X.K k H a xs) : ∃ its : List Value, Vals xs its ∧ OfS k s.heap a its.toArray := by
  cases k with
  | l =>
    obtain ⟨its, rv, tp, _⟩ := I.list h
    exact ⟨its, rv, tp.isList⟩
  | t =>
    obtain ⟨its, rv, tp, _⟩ := I.tuple h
    exact ⟨its, rv, tp⟩
theorem src_inj {X : Cx} {pins : List (Addr × Obj)} {σ : L2.St} {H : Hp} {s : Shared} {k : Sk} {a : Addr} {xs ys : List V} (I : Inv X pins σ H s) (h : SqS X.K k H a xs) (h2 : SqS X.K k H a ys) : xs = ys := by
  cases k with
  | l => exact I.list_inj h h2
  | t => exact I.tuple_inj h h2
theorem OfS.lt {k : Sk} {h : Heap} {a : Addr} {its : Array Value} (e : OfS k h a its) : a < h.objs.size := by
  cases k with
  | l => obtain ⟨o, h, _⟩ := e; exact Heap.lt_size h
  | t => obtain ⟨o, h, _⟩ := e; exact Heap.lt_size h
theorem OfS.at {k : Sk} {h h' : Heap} {a : Addr} {its : Array Value} (e : OfS k h a its) (f : ∀ o, h.get? a = some o → h'.get? a = some o) : OfS k h' a its := by
  cases k with
  | l => exact Heap.IsList.at e f
  | t => exact Heap.IsTuple.at e f
theorem ItS.at {k : Sk} {h h' : Heap} {it a : Addr} {i : Nat} (e : ItS k h it a i) (f : ∀ o, h.get? it = some o → h'.get? it = some o) : ItS k h' it a i := by
  cases k with
  | l => exact Heap.IsListIter.at e f
  | t => exact Heap.IsTupleIter.at e f
theorem ItS.obj {k : Sk} {h : Heap} {it a : Addr} {i : Nat} (e : ItS k h it a i) : ∃ o, h.get? it = some o ∧ ∀ v : Option Value, o.data ≠ .cell v := by
  cases k with
  | l =>
    obtain ⟨o, a, _, c⟩ := e
    exact ⟨o, a, fun v q => by rw [c] at q; cases q⟩
  | t =>
    obtain ⟨o, a, _, c⟩ := e
    exact ⟨o, a, fun v q => by rw [c] at q; cases q⟩
theorem itO_is (k : Sk) {h : Heap} {it a : Addr} (e : h.get? it = some (itO k a)) : ItS k h it a 0 := by
  cases k with
  | l => exact ⟨_, e, rfl, rfl⟩
  | t => exact ⟨_, e, rfl, rfl⟩
theorem begins (k : Sk) (a : Addr) (its : Array Value) : Begins (.ref a) (itO k a) (fun h => OfS k h a its) := by
  cases k with
  | l => exact ⟨fun prog w A E s Q h q => wpAny_pyIter_list h q, fun h h' e f => OfS.at (k := .l) e fun o q => f _ o q, rfl⟩
  | t => exact ⟨fun prog w A E s Q h q => wpAny_pyIter_tuple h q, fun h h' e f => OfS.at (k := .t) e fun o q => f _ o q, rfl⟩
def ItzG (K : PySem.W.Frag) (k1 : Sk) (a : Addr) (k2 : Sk) (b : Addr) : It :=
  ⟨fun i H => ∃ (xs ys : List V) (x y : V), SqS K k1 H a xs ∧ SqS K k2 H b ys ∧ xs[i]? = some x ∧ ys[i]? = some y,
   fun i H v H' => ∃ T x y, v = .ref T ∧ H T = none ∧ H' = upd H T (.tup [x, y]) ∧ (∀ xs, SqS K k1 H a xs → xs[i]? = some x) ∧ ∀ ys, SqS K k2 H b ys → ys[i]? = some y,
   fun i H => ∃ xs ys : List V, SqS K k1 H a xs ∧ SqS K k2 H b ys ∧ i = min xs.length ys.length⟩
theorem ge5 {n c : Nat} (e : c = n + 4 ∨ c = n + 2 ∨ c = n + 3 ∨ c = n ∨ c = n + 1) : n ≤ c := by omega
theorem lt5 {n m c : Nat} (h : n + 4 < m) (e : c = n + 4 ∨ c = n + 2 ∨ c = n + 3 ∨ c = n ∨ c = n + 1) : c < m := by omega
theorem nn {a b : Nat} (h : a < b ∨ b < a) : a ≠ b := by omega
theorem nm2 {x a b : Nat} (h1 : x ≠ a) (h2 : x ≠ b) : ¬ x ∈ [a, b] := by
  intro h
  rcases List.mem_cons.mp h with e | h
  · exact h1 e
  · exact h2 (List.mem_singleton.mp h)
theorem sep2 {n a b : Nat} (la : a < n) (lb : b < n) : ZipSep2 (n + 4) (n + 2) (n + 3) n (n + 1) [n, a] [n + 1, b] :=
  ⟨(show (n + 2 : Nat) ≠ n + 4 by omega), (show (n + 3 : Nat) ≠ n + 4 by omega), (show (n + 2 : Nat) ≠ n + 3 by omega), (show (n + 2 : Nat) ≠ n by omega), List.mem_cons_self, nm2 (by omega) (by omega), nm2 (by omega) (by omega),
   (show (n + 2 : Nat) ≠ n + 1 by omega), List.mem_cons_self, nm2 (by omega) (by omega), nm2 (by omega) (by omega), nm2 (by omega) (by omega), nm2 (by omega) (by omega)⟩
theorem turn_zipG {P : Program} {w : World} {K : PySem.W.Frag} {elts : List Expr} {kk : Nat} {tpos : Pos} (k1 : Sk) (a : Nat) (k2 : Sk) (b n : Nat) (la : a < n) (lb : b < n) :
    Turn P w K (.Tuple elts kk tpos) (ItzG K k1 a k2 b) [n + 4, n + 2, n + 3, n, n + 1] (n + 4) (fun i h => IsZip h (n + 4) (n + 2) (n + 3) .none ∧ IsTupOf2 h (n + 2) (.ref n) (.ref (n + 1)) ∧ (∃ x y, IsTupOf2 h (n + 3) x y) ∧ ItS k1 h n a i ∧ ItS k2 h (n + 1) b i) where
  mem := by simp
  obj := fun i h st c hc => by
    obtain ⟨s1, s2, ⟨x, y, s3⟩, s4, s5⟩ := st
    rcases (show c = n + 4 ∨ c = n + 2 ∨ c = n + 3 ∨ c = n ∨ c = n + 1 by simpa using hc) with e | e | e | e | e <;> subst e
    · exact ⟨_, s1, fun v q => nomatch q⟩
    · exact ⟨_, s2, fun v q => nomatch q⟩
    · exact ⟨_, s3, fun v q => nomatch q⟩
    · exact s4.obj
    · exact s5.obj
  keep := fun i h h' st k => by
    obtain ⟨s1, s2, ⟨x, y, s3⟩, s4, s5⟩ := st
    exact ⟨k _ (by simp) _ s1, k _ (by simp) _ s2, ⟨x, y, k _ (by simp) _ s3⟩, s4.at fun o q => k _ (by simp) o q, s5.at fun o q => k _ (by simp) o q⟩
  item := by
    intro X hP hw hK hc i pins s σ H E I hf st hg
    subst hP hw hK
    obtain ⟨s1, s2, ⟨p0, p1, s3⟩, s4, s5⟩ := st
    obtain ⟨xs, ys, x, y, hx, hy, ex, ey⟩ := hg
    obtain ⟨its, rv, o1⟩ := src_of I hx
    obtain ⟨jts, rw2, o2⟩ := src_of I hy
    obtain ⟨u, hu, ru⟩ := rv.get ex
    obtain ⟨v, hv, rv2⟩ := rw2.get ey
    have lz : n + 4 < s.heap.objs.size := Heap.lt_size s1
    have sep := sep2 la lb
    have D1 := srcDraws (prog := X.prog) (w := X.w) (A := X.A.in1) k1 (I.ok.hd hc) n a (nn (by omega)) its.toArray
    have D2 := srcDraws (prog := X.prog) (w := X.w) (A := X.A.in1) k2 (I.ok.hd hc) (n + 1) b (nn (by omega)) jts.toArray
    refine wpAny_pyNext_zipD2_item sep D1 D2 s1 s2 s3 ⟨s4, o1⟩ ⟨s5, o2⟩ (by have := (List.getElem?_eq_some_iff.mp hu).1; simpa using this) (by have := (List.getElem?_eq_some_iff.mp hv).1; simpa using this) fun y1 y2 h' tk q1 q2 z1 z2 z3 z4 hT hsz hk => ?_
    have e1 : y1 = u := Option.some.inj (q1.symm.trans (by simpa using hu))
    have e2 : y2 = v := Option.some.inj (q2.symm.trans (by simpa using hv))
    subst e1 e2
    refine ⟨_, rfl, wpAny_letOwnedTupleGo_zip (s := { s with heap := h', toks := tk }) z1 fun h'' hz'' sb => ?_⟩
    have sb' : ∀ c o, c ≠ n + 4 → h'.get? c = some o → h''.get? c = some o := fun c o hc q => (sb.2 c hc).trans q
    have hT2 : h''.get? s.heap.objs.size = some { cls := .type "tuple", data := .seq #[y1, y2] } := sb' _ _ (nn (by omega)) hT
    have new : ObjOk X.prog X.w (upd H s.heap.objs.size (.tup [x, y])) h'' s.heap.objs.size (.tup [x, y]) :=
      ⟨by show 2 ≤ sizeLine; decide, [y1, y2], .cons ru (.cons rv2 .nil), ⟨_, hT2, rfl, _, rfl⟩⟩
    have I1 : Inv X pins σ (upd H s.heap.objs.size (.tup [x, y])) { s with heap := h'', toks := tk } :=
      I.turnedNew (ch := [n + 4, n + 2, n + 3, n, n + 1]) (fun c ob hc q => by
        have hc' : c ≠ n + 4 ∧ c ≠ n + 2 ∧ c ≠ n + 3 ∧ c ≠ n ∧ c ≠ n + 1 := by simpa using hc
        exact sb' _ _ hc'.1 (hk c ob hc'.1 hc'.2.2.1 hc'.2.2.2.1 hc'.2.2.2.2 q)) hf (Nat.le_refl _) new
    refine ⟨.ref s.heap.objs.size, _, I1, rfl, ⟨_, x, y, rfl, I.hok.fresh (Nat.le_refl _), rfl, fun zs hz => by rw [src_inj I hz hx]; exact ex, fun zs hz => by rw [src_inj I hz hy]; exact ey⟩, ⟨hz'', sb' _ _ (nn (by omega)) (hk _ _ (nn (by omega)) (nn (by omega)) (nn (by omega)) (nn (by omega)) s2), ⟨_, _, sb' _ _ (nn (by omega)) z2⟩, z3.1.at fun o q => sb' _ _ (nn (by omega)) q, z4.1.at fun o q => sb' _ _ (nn (by omega)) q⟩, fun c hc => ?_⟩
    have lt : c < s.heap.objs.size := lt5 lz (by simpa using hc)
    rw [upd_ne (Nat.ne_of_lt lt)]
    exact (hf c hc).1
  done := by
    intro X hP hw hK hc i pins s σ H E I hf st hg
    subst hP hw hK
    obtain ⟨s1, s2, ⟨p0, p1, s3⟩, s4, s5⟩ := st
    obtain ⟨xs, ys, hx, hy, ei⟩ := hg
    obtain ⟨its, rv, o1⟩ := src_of I hx
    obtain ⟨jts, rw2, o2⟩ := src_of I hy
    have l1 := rv.length
    have l2 := rw2.length
    have sep := sep2 la lb
    have D1 := srcDraws (prog := X.prog) (w := X.w) (A := X.A.in1) k1 (I.ok.hd hc) n a (nn (by omega)) its.toArray
    have D2 := srcDraws (prog := X.prog) (w := X.w) (A := X.A.in1) k2 (I.ok.hd hc) (n + 1) b (nn (by omega)) jts.toArray
    refine wpAny_pyNext_zipD2_end sep D1 D2 s1 s2 s3 ⟨s4, o1⟩ ⟨s5, o2⟩ (by simp; omega) (by simp; omega) (by simp; omega) fun h' tk hk => ⟨rfl, ?_⟩
    exact I.turnedL (ch := [n + 4, n + 2, n + 3, n, n + 1]) (fun c o hc q => by
      have hc' : c ≠ n + 4 ∧ c ≠ n + 2 ∧ c ≠ n + 3 ∧ c ≠ n ∧ c ≠ n + 1 := by simpa using hc
      exact hk c o hc'.1 hc'.2.2.1 hc'.2.2.2.1 hc'.2.2.2.2 q) hf
  self := fun A i s Q E st h => wpAny_pyIter_zip st.1 h
def iZipG (K : PySem.W.Frag) (k1 k2 : Sk) (ta : TA) : TI := fun σ H R => ta σ H fun vs H1 => ∃ a b xs ys, vs = [.ref a, .ref b] ∧ SqS K k1 H1 a xs ∧ SqS K k2 H1 b ys ∧ R (ItzG K k1 a k2 b) H1
theorem zipG_call {prog : Program} {w : World} {A : Around} {E : Value → Shared → Prop} {s : Shared} {k1 k2 : Sk} {a b : Addr} {its jts : Array Value} {Q : Value → Shared → Prop} (h1 : OfS k1 s.heap a its) (h2 : OfS k2 s.heap b jts)
    (h : ∀ h', IsZip h' (s.heap.objs.size + 4) (s.heap.objs.size + 2) (s.heap.objs.size + 3) .none → IsTupOf2 h' (s.heap.objs.size + 2) (.ref s.heap.objs.size) (.ref (s.heap.objs.size + 1)) → IsTupOf2 h' (s.heap.objs.size + 3) .none .none →
      ItS k1 h' s.heap.objs.size a 0 → ItS k2 h' (s.heap.objs.size + 1) b 0 → (∀ c o, s.heap.get? c = some o → h'.get? c = some o) → Q (.ref (s.heap.objs.size + 4)) { s with heap := h' }) :
    wpAny (model prog w) A (call (.type "zip") [.ref a, .ref b]) Q E s := by
  refine callType_new F.called_zip (by decide) (F.typeCall_zip_2 _ _) (F.newCall_zip_2 _ _) (fun obj => F.args_object_init_3 obj _ _) F.entry_zip_new (meets_zip_newB2 (begins k1 a its) (begins k2 b jts)) ⟨⟨h1, h2⟩, ?_⟩
  have f1 : (itO k1 a).isFreed = false := by cases k1 <;> rfl
  have f2 : (itO k2 b).isFreed = false := by cases k2 <;> rfl
  have z1 : (s.heap.push (itO k1 a)).objs.size = s.heap.objs.size + 1 := Heap.size_push ..
  have z2 : ((s.heap.push (itO k1 a)).push (itO k2 b)).objs.size = s.heap.objs.size + 2 := by rw [Heap.size_push, z1]
  have z3 : (gzT2 s.heap (itO k1 a) (itO k2 b)).objs.size = s.heap.objs.size + 3 := by rw [gzT2, Heap.size_push, z2]
  have z4 : (gzO2 s.heap (itO k1 a) (itO k2 b)).objs.size = s.heap.objs.size + 4 := by rw [gzO2, Heap.size_push, z3]
  have g1 : (s.heap.push (itO k1 a)).get? s.heap.objs.size = some (itO k1 a) := Heap.get?_push_size s.heap f1
  have g2 : ((s.heap.push (itO k1 a)).push (itO k2 b)).get? (s.heap.objs.size + 1) = some (itO k2 b) := by
    have z := Heap.get?_push_size (s.heap.push (itO k1 a)) f2
    rwa [z1] at z
  have g3 : IsTupOf2 (gzT2 s.heap (itO k1 a) (itO k2 b)) (s.heap.objs.size + 2) (.ref s.heap.objs.size) (.ref (s.heap.objs.size + 1)) := by
    have z := Heap.get?_push_size ((s.heap.push (itO k1 a)).push (itO k2 b)) (o := { cls := .type "tuple", data := .seq #[.ref s.heap.objs.size, .ref (s.heap.push (itO k1 a)).objs.size] }) rfl
    rw [z2, z1] at z
    show (Heap.push _ { cls := .type "tuple", data := .seq #[.ref s.heap.objs.size, .ref (s.heap.push (itO k1 a)).objs.size] }).get? _ = _
    rw [z1]
    exact z
  have g4 : IsTupOf2 (gzO2 s.heap (itO k1 a) (itO k2 b)) (s.heap.objs.size + 3) .none .none := by
    have z := Heap.get?_push_size (gzT2 s.heap (itO k1 a) (itO k2 b)) (o := { cls := .type "tuple", data := .seq #[.none, .none] }) rfl
    rwa [z3] at z
  have g5 : IsZip (gzZ2 s.heap (itO k1 a) (itO k2 b)) (s.heap.objs.size + 4) (s.heap.objs.size + 2) (s.heap.objs.size + 3) .none := by
    have z := Heap.get?_push_size (gzO2 s.heap (itO k1 a) (itO k2 b)) (o := { cls := .type "zip", data := .fields #[.none, .bool false, .bool false, .ref ((s.heap.push (itO k1 a)).push (itO k2 b)).objs.size, .ref (gzT2 s.heap (itO k1 a) (itO k2 b)).objs.size] }) rfl
    show (Heap.push _ { cls := .type "zip", data := .fields #[.none, .bool false, .bool false, .ref ((s.heap.push (itO k1 a)).push (itO k2 b)).objs.size, .ref (gzT2 s.heap (itO k1 a) (itO k2 b)).objs.size] }).get? _ = _
    rw [z4, z2, z3] at z
    rw [z2, z3]
    exact z
  show _ ∧ _
  rw [z4]
  exact ⟨⟨_, g5, rfl⟩, h _ g5 (Heap.get?_push_of_some _ (Heap.get?_push_of_some _ g3)) (Heap.get?_push_of_some _ g4)
    (itO_is k1 (Heap.get?_push_of_some _ (Heap.get?_push_of_some _ (Heap.get?_push_of_some _ (Heap.get?_push_of_some _ g1)))))
    (itO_is k2 (Heap.get?_push_of_some _ (Heap.get?_push_of_some _ (Heap.get?_push_of_some _ g2))))
    fun c o q => Heap.get?_push_of_some _ (Heap.get?_push_of_some _ (Heap.get?_push_of_some _ (Heap.get?_push_of_some _ (Heap.get?_push_of_some _ q))))⟩
theorem pi_zipG {X : Cx} (K : PySem.W.Frag) (hK : X.K = K) (k1 k2 : Sk) {e e2 : Expr} {ta : TA} {p pos tpos : Pos} {elts : List Expr} {kk : Nat} (hg : Gl X "zip") (hm : X.mg "zip" = none) (ha : PA X [e, e2] ta) (hs : starEach [e, e2] X.env = (false, eval e X.env) :: starEach [e2] X.env := by rfl) (hs2 : ((backTo pos (starEach [e2] X.env)).any fun x => x.fst) = false := by rfl) :
    PI X (.Tuple elts kk tpos) (.Call (.Name "zip" p) [e, e2] [] pos) (iZipG K k1 k2 ta) := by
  subst hK
  refine ⟨fun pins s σ H R I h => ?_⟩
  refine Call_ (ld_blt I hg hm boot_zip (PyProof.Rows.callWith_type1 (thn (ha.run pos pins s σ H _ I h) fun us s1 ⟨vs, H1, I1, r1, q1⟩ => ?_) hs hs2))
  obtain ⟨a, b, xs, ys, ex, hx, hy, q⟩ := q1
  subst ex
  obtain ⟨u, v, rfl, ru, rv⟩ := vals2 r1
  cases (show u = Value.ref a from ru)
  cases (show v = Value.ref b from rv)
  obtain ⟨its, _, o1⟩ := src_of I1 hx
  obtain ⟨jts, _, o2⟩ := src_of I1 hy
  refine zipG_call o1 o2 fun h' z1 z2 z3 z4 z5 kept => wpAny_pyIter_zip z1 ?_
  have I2 := I1.kept (t' := s1.toks) kept
  refine ⟨s1.heap.objs.size + 4, [s1.heap.objs.size + 4, s1.heap.objs.size + 2, s1.heap.objs.size + 3, s1.heap.objs.size, s1.heap.objs.size + 1], _, _, H1, rfl, I2, turn_zipG k1 a k2 b s1.heap.objs.size o1.lt o2.lt, ⟨z1, z2, ⟨_, _, z3⟩, z4, z5⟩, fun c hc => ?_, q⟩
  have le : s1.heap.objs.size ≤ c := ge5 (by simpa using hc)
  exact I1.fpOk le (I1.hok.fresh le)
theorem walk_zipG {K : PySem.W.Frag} {k1 k2 : Sk} {a b : Addr} {xs ys : List V} {n : Nat} (hn : n = min xs.length ys.length) : Walk (ItzG K k1 a k2 b) n (fun H => SqS K k1 H a xs ∧ SqS K k2 H b ys) (YPair (fun i => xs[i]?) (fun i => ys[i]?)) := by
  refine ⟨fun i H hi q => ⟨xs, ys, xs[i]'(by omega), ys[i]'(by omega), q.1, q.2, by simp, by simp⟩, fun H q => ⟨xs, ys, q.1, q.2, hn⟩, fun i H v H' _ q y => ?_⟩
  obtain ⟨T, x, z, y1, y2, y3, y4, y5⟩ := y
  exact ⟨T, x, z, y1, y2, y3, y4 xs q.1, y5 ys q.2⟩
end NA
namespace NA
open PySem PySem.Spec PyProof.Rows L2
/-! ### zip of three -/
def ItzG3 (K : PySem.W.Frag) (k1 : Sk) (a : Addr) (k2 : Sk) (b : Addr) (k3 : Sk) (c : Addr) : It :=
  ⟨fun i H => ∃ (xs ys zs : List V) (x y z : V), SqS K k1 H a xs ∧ SqS K k2 H b ys ∧ SqS K k3 H c zs ∧ xs[i]? = some x ∧ ys[i]? = some y ∧ zs[i]? = some z,
   fun i H v H' => ∃ T x y z, v = .ref T ∧ H T = none ∧ H' = upd H T (.tup [x, y, z]) ∧ (∀ xs, SqS K k1 H a xs → xs[i]? = some x) ∧ (∀ ys, SqS K k2 H b ys → ys[i]? = some y) ∧ ∀ zs, SqS K k3 H c zs → zs[i]? = some z,
   fun i H => ∃ xs ys zs : List V, SqS K k1 H a xs ∧ SqS K k2 H b ys ∧ SqS K k3 H c zs ∧ i = min (min xs.length ys.length) zs.length⟩
theorem sep3 {n a b c : Nat} (la : a < n) (lb : b < n) (lc : c < n) : ZipSep3 (n + 5) (n + 3) (n + 4) n (n + 1) (n + 2) [n, a] [n + 1, b] [n + 2, c] :=
  ⟨nn (by omega), nn (by omega), nn (by omega), nn (by omega), List.mem_cons_self, nm2 (by omega) (by omega), nm2 (by omega) (by omega),
   nn (by omega), List.mem_cons_self, nm2 (by omega) (by omega), nm2 (by omega) (by omega), nn (by omega), List.mem_cons_self, nm2 (by omega) (by omega), nm2 (by omega) (by omega),
   nm2 (by omega) (by omega), nm2 (by omega) (by omega), nm2 (by omega) (by omega), nm2 (by omega) (by omega), nm2 (by omega) (by omega), nm2 (by omega) (by omega)⟩
theorem lt6 {n m c : Nat} (h : n + 5 < m) (e : c = n + 5 ∨ c = n + 3 ∨ c = n + 4 ∨ c = n ∨ c = n + 1 ∨ c = n + 2) : c < m := by omega
theorem ge6 {n c : Nat} (e : c = n + 5 ∨ c = n + 3 ∨ c = n + 4 ∨ c = n ∨ c = n + 1 ∨ c = n + 2) : n ≤ c := by omega
theorem turn_zipG3 {P : Program} {w : World} {K : PySem.W.Frag} {elts : List Expr} {kk : Nat} {tpos : Pos} (k1 : Sk) (a : Nat) (k2 : Sk) (b : Nat) (k3 : Sk) (c n : Nat) (la : a < n) (lb : b < n) (lc : c < n) :
    Turn P w K (.Tuple elts kk tpos) (ItzG3 K k1 a k2 b k3 c) [n + 5, n + 3, n + 4, n, n + 1, n + 2] (n + 5) (fun i h => IsZip h (n + 5) (n + 3) (n + 4) .none ∧ IsTupOf3 h (n + 3) (.ref n) (.ref (n + 1)) (.ref (n + 2)) ∧ (∃ x y z, IsTupOf3 h (n + 4) x y z) ∧ ItS k1 h n a i ∧ ItS k2 h (n + 1) b i ∧ ItS k3 h (n + 2) c i) where
  mem := by simp
  obj := fun i h st d hd => by
    obtain ⟨s1, s2, ⟨x, y, z, s3⟩, s4, s5, s6⟩ := st
    rcases (show d = n + 5 ∨ d = n + 3 ∨ d = n + 4 ∨ d = n ∨ d = n + 1 ∨ d = n + 2 by simpa using hd) with e | e | e | e | e | e <;> subst e
    · exact ⟨_, s1, fun v q => nomatch q⟩
    · exact ⟨_, s2, fun v q => nomatch q⟩
    · exact ⟨_, s3, fun v q => nomatch q⟩
    · exact s4.obj
    · exact s5.obj
    · exact s6.obj
  keep := fun i h h' st k => by
    obtain ⟨s1, s2, ⟨x, y, z, s3⟩, s4, s5, s6⟩ := st
    exact ⟨k _ (by simp) _ s1, k _ (by simp) _ s2, ⟨x, y, z, k _ (by simp) _ s3⟩, s4.at fun o q => k _ (by simp) o q, s5.at fun o q => k _ (by simp) o q, s6.at fun o q => k _ (by simp) o q⟩
  item := by
    intro X hP hw hK hc i pins s σ H E I hf st hg
    subst hP hw hK
    obtain ⟨s1, s2, ⟨p0, p1, p2, s3⟩, s4, s5, s6⟩ := st
    obtain ⟨xs, ys, zs, x, y, z, hx, hy, hz, ex, ey, ez⟩ := hg
    obtain ⟨its, rv, o1⟩ := src_of I hx
    obtain ⟨jts, rw2, o2⟩ := src_of I hy
    obtain ⟨kts, rw3, o3⟩ := src_of I hz
    obtain ⟨u, hu, ru⟩ := rv.get ex
    obtain ⟨v, hv, rv2⟩ := rw2.get ey
    obtain ⟨w3, hw3, rv3⟩ := rw3.get ez
    have lz : n + 5 < s.heap.objs.size := Heap.lt_size s1
    have sep := sep3 la lb lc
    have D1 := srcDraws (prog := X.prog) (w := X.w) (A := X.A.in1) k1 (I.ok.hd hc) n a (nn (by omega)) its.toArray
    have D2 := srcDraws (prog := X.prog) (w := X.w) (A := X.A.in1) k2 (I.ok.hd hc) (n + 1) b (nn (by omega)) jts.toArray
    have D3 := srcDraws (prog := X.prog) (w := X.w) (A := X.A.in1) k3 (I.ok.hd hc) (n + 2) c (nn (by omega)) kts.toArray
    refine wpAny_pyNext_zipD3_item sep D1 D2 D3 s1 s2 s3 ⟨s4, o1⟩ ⟨s5, o2⟩ ⟨s6, o3⟩ (by have := (List.getElem?_eq_some_iff.mp hu).1; simpa using this) (by have := (List.getElem?_eq_some_iff.mp hv).1; simpa using this) (by have := (List.getElem?_eq_some_iff.mp hw3).1; simpa using this) fun y1 y2 y3 h' tk q1 q2 q3 z1 z2 z3 z4 z5 hT hsz hk => ?_
    have e1 : y1 = u := Option.some.inj (q1.symm.trans (by simpa using hu))
    have e2 : y2 = v := Option.some.inj (q2.symm.trans (by simpa using hv))
    have e3 : y3 = w3 := Option.some.inj (q3.symm.trans (by simpa using hw3))
    subst e1 e2 e3
    refine ⟨_, rfl, wpAny_letOwnedTupleGo_zip (s := { s with heap := h', toks := tk }) z1 fun h'' hz'' sb => ?_⟩
    have sb' : ∀ d o, d ≠ n + 5 → h'.get? d = some o → h''.get? d = some o := fun d o hd q => (sb.2 d hd).trans q
    have hT2 : h''.get? s.heap.objs.size = some { cls := .type "tuple", data := .seq #[y1, y2, y3] } := sb' _ _ (nn (by omega)) hT
    have new : ObjOk X.prog X.w (upd H s.heap.objs.size (.tup [x, y, z])) h'' s.heap.objs.size (.tup [x, y, z]) :=
      ⟨by show 3 ≤ sizeLine; decide, [y1, y2, y3], .cons ru (.cons rv2 (.cons rv3 .nil)), ⟨_, hT2, rfl, _, rfl⟩⟩
    have I1 : Inv X pins σ (upd H s.heap.objs.size (.tup [x, y, z])) { s with heap := h'', toks := tk } :=
      I.turnedNew (ch := [n + 5, n + 3, n + 4, n, n + 1, n + 2]) (fun d ob hd q => by
        have hd' : d ≠ n + 5 ∧ d ≠ n + 3 ∧ d ≠ n + 4 ∧ d ≠ n ∧ d ≠ n + 1 ∧ d ≠ n + 2 := by simpa using hd
        exact sb' _ _ hd'.1 (hk d ob hd'.1 hd'.2.2.1 hd'.2.2.2.1 hd'.2.2.2.2.1 hd'.2.2.2.2.2 q)) hf (Nat.le_refl _) new
    refine ⟨.ref s.heap.objs.size, _, I1, rfl, ⟨_, x, y, z, rfl, I.hok.fresh (Nat.le_refl _), rfl, fun ws hw => by rw [src_inj I hw hx]; exact ex, fun ws hw => by rw [src_inj I hw hy]; exact ey, fun ws hw => by rw [src_inj I hw hz]; exact ez⟩,
      ⟨hz'', sb' _ _ (nn (by omega)) (hk _ _ (nn (by omega)) (nn (by omega)) (nn (by omega)) (nn (by omega)) (nn (by omega)) s2), ⟨_, _, _, sb' _ _ (nn (by omega)) z2⟩, z3.1.at fun o q => sb' _ _ (nn (by omega)) q, z4.1.at fun o q => sb' _ _ (nn (by omega)) q, z5.1.at fun o q => sb' _ _ (nn (by omega)) q⟩, fun d hd => ?_⟩
    have lt : d < s.heap.objs.size := lt6 lz (by simpa using hd)
    rw [upd_ne (Nat.ne_of_lt lt)]
    exact (hf d hd).1
  done := by
    intro X hP hw hK hc i pins s σ H E I hf st hg
    subst hP hw hK
    obtain ⟨s1, s2, ⟨p0, p1, p2, s3⟩, s4, s5, s6⟩ := st
    obtain ⟨xs, ys, zs, hx, hy, hz, ei⟩ := hg
    obtain ⟨its, rv, o1⟩ := src_of I hx
    obtain ⟨jts, rw2, o2⟩ := src_of I hy
    obtain ⟨kts, rw3, o3⟩ := src_of I hz
    have l1 := rv.length
    have l2 := rw2.length
    have l3 := rw3.length
    have sep := sep3 la lb lc
    have D1 := srcDraws (prog := X.prog) (w := X.w) (A := X.A.in1) k1 (I.ok.hd hc) n a (nn (by omega)) its.toArray
    have D2 := srcDraws (prog := X.prog) (w := X.w) (A := X.A.in1) k2 (I.ok.hd hc) (n + 1) b (nn (by omega)) jts.toArray
    have D3 := srcDraws (prog := X.prog) (w := X.w) (A := X.A.in1) k3 (I.ok.hd hc) (n + 2) c (nn (by omega)) kts.toArray
    refine wpAny_pyNext_zipD3_end sep D1 D2 D3 s1 s2 s3 ⟨s4, o1⟩ ⟨s5, o2⟩ ⟨s6, o3⟩ (by simp; omega) (by simp; omega) (by simp; omega) (by simp; omega) fun h' tk hk => ⟨rfl, ?_⟩
    exact I.turnedL (ch := [n + 5, n + 3, n + 4, n, n + 1, n + 2]) (fun d o hd q => by
      have hd' : d ≠ n + 5 ∧ d ≠ n + 3 ∧ d ≠ n + 4 ∧ d ≠ n ∧ d ≠ n + 1 ∧ d ≠ n + 2 := by simpa using hd
      exact hk d o hd'.1 hd'.2.2.1 hd'.2.2.2.1 hd'.2.2.2.2.1 hd'.2.2.2.2.2 q) hf
  self := fun A i s Q E st h => wpAny_pyIter_zip st.1 h
def iZipG3 (K : PySem.W.Frag) (k1 k2 k3 : Sk) (ta : TA) : TI := fun σ H R => ta σ H fun vs H1 => ∃ a b c xs ys zs, vs = [.ref a, .ref b, .ref c] ∧ SqS K k1 H1 a xs ∧ SqS K k2 H1 b ys ∧ SqS K k3 H1 c zs ∧ R (ItzG3 K k1 a k2 b k3 c) H1
theorem zipG3_call {prog : Program} {w : World} {A : Around} {E : Value → Shared → Prop} {s : Shared} {k1 k2 k3 : Sk} {a b c : Addr} {its jts kts : Array Value} {Q : Value → Shared → Prop} (h1 : OfS k1 s.heap a its) (h2 : OfS k2 s.heap b jts) (h3 : OfS k3 s.heap c kts)
    (h : ∀ h', IsZip h' (s.heap.objs.size + 5) (s.heap.objs.size + 3) (s.heap.objs.size + 4) .none → IsTupOf3 h' (s.heap.objs.size + 3) (.ref s.heap.objs.size) (.ref (s.heap.objs.size + 1)) (.ref (s.heap.objs.size + 2)) → IsTupOf3 h' (s.heap.objs.size + 4) .none .none .none →
      ItS k1 h' s.heap.objs.size a 0 → ItS k2 h' (s.heap.objs.size + 1) b 0 → ItS k3 h' (s.heap.objs.size + 2) c 0 → (∀ c o, s.heap.get? c = some o → h'.get? c = some o) → Q (.ref (s.heap.objs.size + 5)) { s with heap := h' }) :
    wpAny (model prog w) A (call (.type "zip") [.ref a, .ref b, .ref c]) Q E s := by
  refine callType_new F.called_zip (by decide) (F.typeCall_zip_3 _ _ _) (F.newCall_zip_3 _ _ _) (fun obj => F.args_object_init_4 obj _ _ _) F.entry_zip_new (meets_zip_newB3 (begins k1 a its) (begins k2 b jts) (begins k3 c kts)) ⟨⟨h1, h2, h3⟩, ?_⟩
  have f1 : (itO k1 a).isFreed = false := by cases k1 <;> rfl
  have f2 : (itO k2 b).isFreed = false := by cases k2 <;> rfl
  have f3 : (itO k3 c).isFreed = false := by cases k3 <;> rfl
  have z1 : (s.heap.push (itO k1 a)).objs.size = s.heap.objs.size + 1 := Heap.size_push ..
  have z2 : ((s.heap.push (itO k1 a)).push (itO k2 b)).objs.size = s.heap.objs.size + 2 := by rw [Heap.size_push, z1]
  have z3 : (((s.heap.push (itO k1 a)).push (itO k2 b)).push (itO k3 c)).objs.size = s.heap.objs.size + 3 := by rw [Heap.size_push, z2]
  have z4 : (gzT3 s.heap (itO k1 a) (itO k2 b) (itO k3 c)).objs.size = s.heap.objs.size + 4 := by rw [gzT3, Heap.size_push, z3]
  have z5 : (gzO3 s.heap (itO k1 a) (itO k2 b) (itO k3 c)).objs.size = s.heap.objs.size + 5 := by rw [gzO3, Heap.size_push, z4]
  have g1 : (s.heap.push (itO k1 a)).get? s.heap.objs.size = some (itO k1 a) := Heap.get?_push_size s.heap f1
  have g2 : ((s.heap.push (itO k1 a)).push (itO k2 b)).get? (s.heap.objs.size + 1) = some (itO k2 b) := by
    have z := Heap.get?_push_size (s.heap.push (itO k1 a)) f2
    rwa [z1] at z
  have g2' : (((s.heap.push (itO k1 a)).push (itO k2 b)).push (itO k3 c)).get? (s.heap.objs.size + 2) = some (itO k3 c) := by
    have z := Heap.get?_push_size ((s.heap.push (itO k1 a)).push (itO k2 b)) f3
    rwa [z2] at z
  have g3 : IsTupOf3 (gzT3 s.heap (itO k1 a) (itO k2 b) (itO k3 c)) (s.heap.objs.size + 3) (.ref s.heap.objs.size) (.ref (s.heap.objs.size + 1)) (.ref (s.heap.objs.size + 2)) := by
    have z := Heap.get?_push_size (((s.heap.push (itO k1 a)).push (itO k2 b)).push (itO k3 c)) (o := { cls := .type "tuple", data := .seq #[.ref s.heap.objs.size, .ref (s.heap.push (itO k1 a)).objs.size, .ref ((s.heap.push (itO k1 a)).push (itO k2 b)).objs.size] }) rfl
    rw [z3, z2, z1] at z
    show (Heap.push _ { cls := .type "tuple", data := .seq #[.ref s.heap.objs.size, .ref (s.heap.push (itO k1 a)).objs.size, .ref ((s.heap.push (itO k1 a)).push (itO k2 b)).objs.size] }).get? _ = _
    rw [z2, z1]
    exact z
  have g4 : IsTupOf3 (gzO3 s.heap (itO k1 a) (itO k2 b) (itO k3 c)) (s.heap.objs.size + 4) .none .none .none := by
    have z := Heap.get?_push_size (gzT3 s.heap (itO k1 a) (itO k2 b) (itO k3 c)) (o := { cls := .type "tuple", data := .seq #[.none, .none, .none] }) rfl
    rwa [z4] at z
  have g5 : IsZip (gzZ3 s.heap (itO k1 a) (itO k2 b) (itO k3 c)) (s.heap.objs.size + 5) (s.heap.objs.size + 3) (s.heap.objs.size + 4) .none := by
    have z := Heap.get?_push_size (gzO3 s.heap (itO k1 a) (itO k2 b) (itO k3 c)) (o := { cls := .type "zip", data := .fields #[.none, .bool false, .bool false, .ref (((s.heap.push (itO k1 a)).push (itO k2 b)).push (itO k3 c)).objs.size, .ref (gzT3 s.heap (itO k1 a) (itO k2 b) (itO k3 c)).objs.size] }) rfl
    show (Heap.push _ { cls := .type "zip", data := .fields #[.none, .bool false, .bool false, .ref (((s.heap.push (itO k1 a)).push (itO k2 b)).push (itO k3 c)).objs.size, .ref (gzT3 s.heap (itO k1 a) (itO k2 b) (itO k3 c)).objs.size] }).get? _ = _
    rw [z5, z3, z4] at z
    rw [z3, z4]
    exact z
  show _ ∧ _
  rw [z5]
  exact ⟨⟨_, g5, rfl⟩, h _ g5 (Heap.get?_push_of_some _ (Heap.get?_push_of_some _ g3)) (Heap.get?_push_of_some _ g4)
    (itO_is k1 (Heap.get?_push_of_some _ (Heap.get?_push_of_some _ (Heap.get?_push_of_some _ (Heap.get?_push_of_some _ (Heap.get?_push_of_some _ g1))))))
    (itO_is k2 (Heap.get?_push_of_some _ (Heap.get?_push_of_some _ (Heap.get?_push_of_some _ (Heap.get?_push_of_some _ g2)))))
    (itO_is k3 (Heap.get?_push_of_some _ (Heap.get?_push_of_some _ (Heap.get?_push_of_some _ g2'))))
    fun c o q => Heap.get?_push_of_some _ (Heap.get?_push_of_some _ (Heap.get?_push_of_some _ (Heap.get?_push_of_some _ (Heap.get?_push_of_some _ (Heap.get?_push_of_some _ q)))))⟩
theorem vals3 {x y z : V} {us : List Value} (h : Vals [x, y, z] us) : ∃ u v w, us = [u, v, w] ∧ RelV x u ∧ RelV y v ∧ RelV z w := by
  cases h with
  | cons a h =>
    cases h with
    | cons b h =>
      cases h with
      | cons c h =>
        cases h
        exact ⟨_, _, _, rfl, a, b, c⟩
theorem pi_zipG3 {X : Cx} (K : PySem.W.Frag) (hK : X.K = K) (k1 k2 k3 : Sk) {e e2 e3 : Expr} {ta : TA} {p pos tpos : Pos} {elts : List Expr} {kk : Nat} (hg : Gl X "zip") (hm : X.mg "zip" = none) (ha : PA X [e, e2, e3] ta) (hs : starEach [e, e2, e3] X.env = (false, eval e X.env) :: starEach [e2, e3] X.env := by rfl) (hs2 : ((backTo pos (starEach [e2, e3] X.env)).any fun x => x.fst) = false := by rfl) :
    PI X (.Tuple elts kk tpos) (.Call (.Name "zip" p) [e, e2, e3] [] pos) (iZipG3 K k1 k2 k3 ta) := by
  subst hK
  refine ⟨fun pins s σ H R I h => ?_⟩
  refine Call_ (ld_blt I hg hm boot_zip (PyProof.Rows.callWith_type1 (thn (ha.run pos pins s σ H _ I h) fun us s1 ⟨vs, H1, I1, r1, q1⟩ => ?_) hs hs2))
  obtain ⟨a, b, c, xs, ys, zs, ex, hx, hy, hz, q⟩ := q1
  subst ex
  obtain ⟨u, v, w3, rfl, ru, rv, rw3⟩ := vals3 r1
  cases (show u = Value.ref a from ru)
  cases (show v = Value.ref b from rv)
  cases (show w3 = Value.ref c from rw3)
  obtain ⟨its, _, o1⟩ := src_of I1 hx
  obtain ⟨jts, _, o2⟩ := src_of I1 hy
  obtain ⟨kts, _, o3⟩ := src_of I1 hz
  refine zipG3_call o1 o2 o3 fun h' z1 z2 z3 z4 z5 z6 kept => wpAny_pyIter_zip z1 ?_
  have I2 := I1.kept (t' := s1.toks) kept
  refine ⟨s1.heap.objs.size + 5, [s1.heap.objs.size + 5, s1.heap.objs.size + 3, s1.heap.objs.size + 4, s1.heap.objs.size, s1.heap.objs.size + 1, s1.heap.objs.size + 2], _, _, H1, rfl, I2, turn_zipG3 k1 a k2 b k3 c s1.heap.objs.size o1.lt o2.lt o3.lt, ⟨z1, z2, ⟨_, _, _, z3⟩, z4, z5, z6⟩, fun d hd => ?_, q⟩
  have le : s1.heap.objs.size ≤ d := ge6 (by simpa using hd)
  exact I1.fpOk le (I1.hok.fresh le)
def YTri (xs ys zs : Nat → Option V) : Nat → Hp → V → Hp → Prop := fun i H v H' => ∃ T x y z, v = .ref T ∧ H T = none ∧ H' = upd H T (.tup [x, y, z]) ∧ xs i = some x ∧ ys i = some y ∧ zs i = some z
theorem walk_zipG3 {K : PySem.W.Frag} {k1 k2 k3 : Sk} {a b c : Addr} {xs ys zs : List V} {n : Nat} (hn : n = min (min xs.length ys.length) zs.length) : Walk (ItzG3 K k1 a k2 b k3 c) n (fun H => SqS K k1 H a xs ∧ SqS K k2 H b ys ∧ SqS K k3 H c zs) (YTri (fun i => xs[i]?) (fun i => ys[i]?) (fun i => zs[i]?)) := by
  refine ⟨fun i H hi q => ⟨xs, ys, zs, xs[i]'(by omega), ys[i]'(by omega), zs[i]'(by omega), q.1, q.2.1, q.2.2, by simp, by simp, by simp⟩, fun H q => ⟨xs, ys, zs, q.1, q.2.1, q.2.2, hn⟩, fun i H v H' _ q y => ?_⟩
  obtain ⟨T, x, z, u, y1, y2, y3, y4, y5, y6⟩ := y
  exact ⟨T, x, z, u, y1, y2, y3, y4 xs q.1, y5 ys q.2.1, y6 zs q.2.2⟩
end NA
namespace NA
open PySem PySem.Spec PyProof.Rows L2
/-! ### deeds, programs, contents: data and promises of what draws them -/
theorem ix_anyK {X : Cx} (K : PySem.W.Frag) (hK : X.K = K) : IxR X (fun x y H Q => rIxL K x y H Q ∨ rIxT K x y H Q) := fun value slice pins s σ H x y v u Q I rx ry h e =>
  h.elim (fun h => ix_listK K hK value slice pins s σ H x y v u Q I rx ry h e) (fun h => ix_tupK K hK value slice pins s σ H x y v u Q I rx ry h e)
theorem cr_sumK {X : Cx} (K : PySem.W.Frag) (hK : X.K = K) (hc : X.calm = true) : CallR X (.builtin "sum") (rSum K) := hK ▸ cr_sum hc
theorem Cal.weak {P : Program} {w : World} {K : PySem.W.Frag} {mg : Str → Option Value} {base : Heap} {x : Str} {k : Nat} {sp sp' : Sp} (c : Cal P w K mg base k x sp) (f : ∀ vs H Q E, sp' vs H Q E → sp vs H Q E) : Cal P w K mg base k x sp' := by
  obtain ⟨a, fd, ps, F, r⟩ := c.ex
  exact ⟨a, fd, ps, ⟨fun vs H Q E h => F.len vs H Q E (f vs H Q E h), fun A outer s H args us vs Q E hr he hb hv h => F.run A outer s H args us vs Q E hr he hb hv (f vs H Q E h)⟩, r⟩
def spDipW : Sp := fun vs H Q _ => ∃ (p q : Addr) (n : Int), vs = [.ref p, .int n] ∧ Pt H p q ∧ 0 < n ∧ n.natAbs < 2 ^ 4000 ∧ ∀ (r : Int) (H' : Hp), 0 ≤ r → r < n → Pt H' p q → Kp p q H H' → Q (.int r) H'
theorem dip_of {vs : List V} {H : Hp} {Q : VK} {E : XK} (h : spDip vs H Q E) : spDipW vs H Q E := by
  obtain ⟨p, q, n, e, hP, n0, n1, k⟩ := h
  exact ⟨p, q, n, e, hP, n0, Nat.lt_trans (show n.natAbs < 1073741824 by omega) (by decide), k⟩
def spPickA : Sp := fun vs H Q _ => ∃ (p q a : Addr) (xs : List V) (o : HO), vs = [.ref p, .ref a] ∧ Pt H p q ∧ H a = some o ∧ ((o = .lst xs ∧ a ≠ p ∧ a ≠ q) ∨ o = .tup xs) ∧ xs ≠ [] ∧ xs.length < 1000 ∧
  ∀ (v : V) (H' : Hp), v ∈ xs → Pt H' p q → Kp p q H H' → Q v H'
theorem pick_of {vs : List V} {H : Hp} {Q : VK} {E : XK} (h : spPick vs H Q E) : spPickA vs H Q E := by
  obtain ⟨p, q, a, xs, e, hP, ha, n1, n2, ne, lt, k⟩ := h
  exact ⟨p, q, a, xs, _, e, hP, ha, .inl ⟨rfl, n1, n2⟩, ne, lt, k⟩
def dD (d : Nat × Nat × Int) : PyData := .tuple [.int d.1, .int d.2.1, .int d.2.2]
def pD (l : List (Nat × Nat × Int)) : PyData := .tuple (l.map dD)
/-- a deed of a machine -/
structure DOk (ss : List Int) (ws : List (Nat × Nat)) (d : Nat × Nat × Int) : Prop where
  wire : (d.1, d.2.1) ∈ ws
  most : d.2.2.natAbs ≤ 10 ^ 60
  step : ∃ a b : Nat, ss[d.1]? = some (a : Int) ∧ ss[d.2.1]? = some (b : Int) ∧ ((stp a b : Nat) : Int) ∣ d.2.2
/-- contents of sizes -/
structure COk (ss hs : List Int) : Prop where
  len : hs.length = ss.length
  low : ∀ (i : Nat) (h s : Int), hs[i]? = some h → ss[i]? = some s → 0 ≤ h ∧ h < s
def spDeed : Sp := fun vs H Q _ => ∃ (p q : Addr) (v : V) (ss : List Int) (ws : List (Nat × Nat)), vs = [.ref p, v] ∧ Pt H p q ∧ Im H v (mD ss ws) ∧ MOk ss ws ∧ ws ≠ [] ∧
  ∀ (u : V) (d : Nat × Nat × Int) (H' : Hp), Im H' u (dD d) → DOk ss ws d → Pt H' p q → Kp p q H H' → Q u H'
def spProgram : Sp := fun vs H Q _ => ∃ (p q : Addr) (v : V) (ss : List Int) (ws : List (Nat × Nat)) (m : Nat), vs = [.ref p, v, .int m] ∧ Pt H p q ∧ Im H v (mD ss ws) ∧ MOk ss ws ∧ m ≤ 900 ∧
  ∀ (u : V) (l : List (Nat × Nat × Int)) (H' : Hp), Im H' u (pD l) → (∀ d ∈ l, DOk ss ws d) → l.length ≤ m → Pt H' p q → Kp p q H H' → Q u H'
def spContents : Sp := fun vs H Q _ => ∃ (p q : Addr) (v : V) (ss : List Int), vs = [.ref p, v] ∧ Pt H p q ∧ Im H v (sD ss) ∧ (∀ s ∈ ss, SizeOk s) ∧ ss.length ≤ 900 ∧
  ∀ (u : V) (hs : List Int) (H' : Hp), Im H' u (sD hs) → COk ss hs → Pt H' p q → Kp p q H H' → Q u H'
theorem SizeOk.nat {s : Int} (h : SizeOk s) : ∃ m : Nat, s = (m : Int) ∧ 2 ≤ m ∧ m ≤ 10 ^ 30 := by
  obtain ⟨m, e, a, b, _⟩ := h
  exact ⟨m, e, a, b⟩
theorem stp_le {a b : Nat} (hb : 0 < b) : 0 < stp a b ∧ stp a b ≤ b := ⟨stp_pos hb, Nat.div_le_self _ _⟩
/-- the law's own deed by deed, of any integers -/
def addI (ns : List Int) (d : Nat × Nat × Int) : List Int := ns.set d.2.1 (ns.getD d.2.1 0 + d.2.2 * ns.getD d.1 0)
def farI (l : List (Nat × Nat × Int)) (ns : List Int) : List Int := l.foldl addI ns
def remI (ns ss : List Int) : List Int := List.zipWith (fun n s => n % s) ns ss
def runI (ss : List Int) (l : List (Nat × Nat × Int)) (ns : List Int) : List Int := remI (farI l ns) ss
theorem addI_len (ns : List Int) (d : Nat × Nat × Int) : (addI ns d).length = ns.length := List.length_set ..
theorem farI_next {l : List (Nat × Nat × Int)} {ns : List Int} {i : Nat} {d : Nat × Nat × Int} (h : l[i]? = some d) : farI (l.take (i + 1)) ns = addI (farI (l.take i) ns) d := by
  unfold farI
  rw [List.take_add_one, h, List.foldl_append]
  rfl
def mostI (B : Nat) (ns : List Int) : Prop := ∀ n ∈ ns, n.natAbs < 2 ^ B
theorem getD_most {B : Nat} {ns : List Int} (h : mostI B ns) (i : Nat) : (ns.getD i 0).natAbs < 2 ^ B := by
  rw [List.getD_eq_getElem?_getD]
  cases e : ns[i]? with
  | none => exact Nat.pow_pos (by decide)
  | some x => exact h x (List.mem_of_getElem? e)
theorem addI_most {B : Nat} {ns : List Int} {d : Nat × Nat × Int} (h : mostI B ns) (hd : d.2.2.natAbs < 2 ^ 200) : mostI (B + 201) (addI ns d) := by
  intro n hn
  have up : 2 ^ B ≤ 2 ^ (B + 200) := Nat.pow_le_pow_right (by decide) (by omega)
  have e2 : 2 ^ (B + 201) = 2 ^ (B + 200) + 2 ^ (B + 200) := by rw [show B + 201 = B + 200 + 1 by omega, Nat.pow_succ]; omega
  rcases List.mem_or_eq_of_mem_set hn with m | e
  · have := h n m
    omega
  · have a := getD_most h d.2.1
    have b := getD_most h d.1
    have c : (d.2.2 * ns.getD d.1 0).natAbs < 2 ^ (B + 200) := by
      rw [Int.natAbs_mul, Nat.pow_add, Nat.mul_comm]
      exact Nat.mul_lt_mul'' b hd
    rw [e]
    have := Int.natAbs_add_le (ns.getD d.2.1 0) (d.2.2 * ns.getD d.1 0)
    omega
def spRunI (K : PySem.W.Frag) : Sp := fun vs H Q _ => ∃ (v u : V) (a : Addr) (ss ns : List Int) (l : List (Nat × Nat × Int)), vs = [v, u, .ref a] ∧ Im H v (sD ss) ∧ Im H u (pD l) ∧ (SqL K H a (ns.map V.int) ∨ SqT K H a (ns.map V.int)) ∧
  ns.length = ss.length ∧ ss.length ≤ 100 ∧ (∀ s ∈ ss, SizeOk s) ∧ (∀ d ∈ l, d.1 < ss.length ∧ d.2.1 < ss.length ∧ d.2.2.natAbs ≤ 10 ^ 60) ∧ l.length ≤ 1000 ∧ mostI 5000 ns ∧
  ∀ (y : V) (H' : Hp), Im H' y (sD (runI ss l ns)) → Same H H' → Q y H'
end NA
namespace NA
open PySem PySem.Spec PyProof.Rows L2
/-! ### tables: data and promises -/
def tD (t : List (List Int)) : PyData := .tuple (t.map sD)
def dot (row hs : List Int) : Int := (List.zipWith (fun e h => e * h) row hs).sum
def ledI (ss : List Int) (t : List (List Int)) (hs : List Int) : List Int := List.zipWith (fun row s => dot row hs % s) t ss
def colI (one : List (List Int)) (j : Nat) : List Int := one.map fun r => r.getD j 0
def bothI (ss : List Int) (one other : List (List Int)) : List (List Int) := List.zipWith (fun row s => (List.range ss.length).map fun j => dot row (colI one j) % s) other ss
def stillI (n : Nat) : List (List Int) := (List.range n).map fun i => (List.range n).map fun j => if i = j then 1 else 0
/-- as many rows as sizes, each as long, entries not too great -/
structure TSh (n : Nat) (t : List (List Int)) : Prop where
  len : t.length = n
  row : ∀ r ∈ t, r.length = n
  most : ∀ r ∈ t, mostI 300 r
/-- a table of sizes -/
structure TOk (ss : List Int) (t : List (List Int)) : Prop where
  len : t.length = ss.length
  row : ∀ r ∈ t, r.length = ss.length
  low : ∀ (i j : Nat) (r : List Int) (e s : Int), t[i]? = some r → r[j]? = some e → ss[i]? = some s → 0 ≤ e ∧ e < s
  step : ∀ (i j : Nat) (r : List Int) (e : Int), t[i]? = some r → r[j]? = some e → i ≠ j → ∃ a b : Nat, ss[j]? = some (a : Int) ∧ ss[i]? = some (b : Int) ∧ ((stp a b : Nat) : Int) ∣ e
theorem Im.row {H : Hp} {vs : List V} {t : List (List Int)} {i : Nat} {r : List Int} (h : ImAll H vs (t.map sD)) (e : t[i]? = some r) : ∃ a, vs[i]? = some (.ref a) ∧ H a = some (.tup (r.map V.int)) := by
  obtain ⟨v, h1, h2⟩ := h.get (i := i) (d := sD r) (by rw [List.getElem?_map, e]; rfl)
  obtain ⟨a, xs, rfl, ha, ix⟩ := h2.tuple
  have := ix.ints
  subst this
  exact ⟨a, h1, ha⟩
def spLed : Sp := fun vs H Q _ => ∃ (x y z : V) (ss : List Int) (t : List (List Int)) (hs : List Int), vs = [x, y, z] ∧ Im H x (sD ss) ∧ Im H y (tD t) ∧ Im H z (sD hs) ∧ (∀ s ∈ ss, SizeOk s) ∧ ss.length ≤ 100 ∧ TSh ss.length t ∧ hs.length = ss.length ∧ mostI 300 hs ∧
  ∀ (u : V) (H' : Hp), Im H' u (sD (ledI ss t hs)) → Same H H' → Q u H'
def spBoth : Sp := fun vs H Q _ => ∃ (x y z : V) (ss : List Int) (one other : List (List Int)), vs = [x, y, z] ∧ Im H x (sD ss) ∧ Im H y (tD one) ∧ Im H z (tD other) ∧ (∀ s ∈ ss, SizeOk s) ∧ ss.length ≤ 100 ∧ TSh ss.length one ∧ TSh ss.length other ∧
  ∀ (u : V) (H' : Hp), Im H' u (tD (bothI ss one other)) → Same H H' → Q u H'
def spStill : Sp := fun vs H Q _ => ∃ (x : V) (ss : List Int), vs = [x] ∧ Im H x (sD ss) ∧ ss.length ≤ 100 ∧ ∀ (u : V) (H' : Hp), Im H' u (tD (stillI ss.length)) → Same H H' → Q u H'
def spTable : Sp := fun vs H Q _ => ∃ (p q : Addr) (v : V) (ss : List Int), vs = [.ref p, v] ∧ Pt H p q ∧ Im H v (sD ss) ∧ (∀ s ∈ ss, SizeOk s) ∧ ss.length ≤ 100 ∧
  ∀ (u : V) (t : List (List Int)) (H' : Hp), Im H' u (tD t) → TOk ss t → Pt H' p q → Kp p q H H' → Q u H'
theorem mul_wide {a b : Int} {A B : Nat} (ha : a.natAbs < 2 ^ A) (hb : b.natAbs < 2 ^ B) (h : A + B + 2 ≤ 900000) : CMulW a b :=
  wide_mul (a := A + 1) (b := B + 1) (Nat.lt_of_lt_of_le ha (Nat.pow_le_pow_right (by decide) (by omega))) (Nat.lt_of_lt_of_le hb (Nat.pow_le_pow_right (by decide) (by omega))) (by omega) (by omega) (by omega)
/-! rows that are lists yet -/
structure Rws (p q R : Addr) (H : Hp) (rs : List Addr) (t : List (List Int)) : Prop where
  top : H R = some (.lst (rs.map V.ref))
  len : rs.length = t.length
  row : ∀ (i : Nat) (a : Addr), rs[i]? = some a → ∃ r, t[i]? = some r ∧ H a = some (.lst (r.map V.int))
  nd : rs.Nodup
  off : ∀ a ∈ rs, a ≠ R ∧ a ≠ p ∧ a ≠ q
theorem Rws.kp {p q R : Addr} {H H' : Hp} {rs : List Addr} {t : List (List Int)} (h : Rws p q R H rs t) (nR : R ≠ p ∧ R ≠ q) (k : Kp p q H H') : Rws p q R H' rs t :=
  ⟨k _ _ nR.1 nR.2 h.top, h.len, fun i a e => by
    obtain ⟨r, h1, h2⟩ := h.row i a e
    have o := h.off a (List.mem_of_getElem? e)
    exact ⟨r, h1, k _ _ o.2.1 o.2.2 h2⟩, h.nd, h.off⟩
theorem Rws.same {p q R : Addr} {H H' : Hp} {rs : List Addr} {t : List (List Int)} (h : Rws p q R H rs t) (k : Same H H') : Rws p q R H' rs t :=
  ⟨k _ _ h.top, h.len, fun i a e => by
    obtain ⟨r, h1, h2⟩ := h.row i a e
    exact ⟨r, h1, k _ _ h2⟩, h.nd, h.off⟩
theorem Rws.set {p q R : Addr} {H : Hp} {rs : List Addr} {t : List (List Int)} (h : Rws p q R H rs t) {i : Nat} {a : Addr} (e : rs[i]? = some a) (r : List Int) : Rws p q R (upd H a (.lst (r.map V.int))) rs (t.set i r) := by
  have o := h.off a (List.mem_of_getElem? e)
  refine ⟨?_, by rw [List.length_set]; exact h.len, fun j b eb => ?_, h.nd, h.off⟩
  · rw [upd_ne (Ne.symm o.1)]
    exact h.top
  · have li : i < t.length := by rw [← h.len]; exact (List.getElem?_eq_some_iff.mp e).1
    by_cases ij : i = j
    · subst ij
      rw [e] at eb
      cases eb
      exact ⟨r, by rw [List.getElem?_set_self li], upd_same⟩
    · obtain ⟨r', h1, h2⟩ := h.row j b eb
      refine ⟨r', by rw [List.getElem?_set_ne ij]; exact h1, ?_⟩
      have nb : b ≠ a := fun z => by
        subst z
        obtain ⟨l1, g1⟩ := List.getElem?_eq_some_iff.mp e
        obtain ⟨l2, g2⟩ := List.getElem?_eq_some_iff.mp eb
        rcases Nat.lt_or_gt_of_ne ij with lt | lt
        · exact (List.pairwise_iff_getElem.mp h.nd i j l1 l2 lt) (g1.trans g2.symm)
        · exact (List.pairwise_iff_getElem.mp h.nd j i l2 l1 lt) (g2.trans g1.symm)
      rw [upd_ne nb]
      exact h2
theorem Rws.put {p q R a : Addr} {H : Hp} {rs : List Addr} {t : List (List Int)} {r : List Int} (h : Rws p q R H rs t) (nR : R ≠ p ∧ R ≠ q) (ha : H a = some (.lst (r.map V.int))) (n1 : a ∉ rs) (n2 : a ≠ R ∧ a ≠ p ∧ a ≠ q) : Rws p q R (upd H R (.lst (rs.map V.ref ++ [.ref a]))) (rs ++ [a]) (t ++ [r]) := by
  refine ⟨by rw [upd_same, List.map_append]; rfl, by rw [List.length_append, List.length_append, h.len]; rfl, fun i b eb => ?_, ?_, fun b hb => ?_⟩
  · by_cases e : i < rs.length
    · rw [List.getElem?_append_left e] at eb
      obtain ⟨r', h1, h2⟩ := h.row i b eb
      have o := h.off b (List.mem_of_getElem? eb)
      exact ⟨r', by rw [List.getElem?_append_left (by rw [← h.len]; exact e)]; exact h1, by rw [upd_ne o.1]; exact h2⟩
    · rw [List.getElem?_append_right (by omega)] at eb
      have z : i - rs.length = 0 := by
        have := (List.getElem?_eq_some_iff.mp eb).1
        rw [List.length_singleton] at this
        omega
      rw [z] at eb
      cases eb
      refine ⟨r, by rw [List.getElem?_append_right (by have := h.len; omega), ← h.len, z]; rfl, by rw [upd_ne n2.1]; exact ha⟩
  · refine List.nodup_append.mpr ⟨h.nd, List.pairwise_singleton _ a, fun x hx y hy e => ?_⟩
    rw [List.mem_singleton.mp hy] at e
    exact n1 (e ▸ hx)
  · rcases List.mem_append.mp hb with hb | hb
    · exact h.off b hb
    · rw [List.mem_singleton.mp hb]
      exact n2
theorem stp_dvd (a b : Nat) : stp a b ∣ b := Nat.div_dvd_of_dvd (Nat.gcd_dvd_left b a)
theorem TOk.still {ss : List Int} (ok : ∀ s ∈ ss, SizeOk s) : TOk ss (stillI ss.length) := by
  have g : ∀ (i j : Nat) (r : List Int) (e : Int), (stillI ss.length)[i]? = some r → r[j]? = some e → i < ss.length ∧ j < ss.length ∧ e = if i = j then 1 else 0 := fun i j r e h1 h2 => by
    unfold stillI at h1
    rw [List.getElem?_map] at h1
    have li : i < ss.length := Nat.lt_of_not_le fun z => by
      rw [List.getElem?_eq_none (by rw [List.length_range]; exact z)] at h1
      cases h1
    rw [List.getElem?_eq_getElem (by rw [List.length_range]; exact li), List.getElem_range] at h1
    cases h1
    rw [List.getElem?_map] at h2
    have lj : j < ss.length := Nat.lt_of_not_le fun z => by
      rw [List.getElem?_eq_none (by rw [List.length_range]; exact z)] at h2
      cases h2
    rw [List.getElem?_eq_getElem (by rw [List.length_range]; exact lj), List.getElem_range] at h2
    cases h2
    exact ⟨li, lj, rfl⟩
  refine ⟨by unfold stillI; rw [List.length_map, List.length_range], fun r hr => ?_, fun i j r e s h1 h2 h3 => ?_, fun i j r e h1 h2 n => ?_⟩
  · obtain ⟨i, _, rfl⟩ := List.mem_map.mp hr
    rw [List.length_map, List.length_range]
  · obtain ⟨li, lj, rfl⟩ := g i j r e h1 h2
    obtain ⟨m, rfl, m2, _⟩ := (ok s (List.mem_of_getElem? h3)).nat
    split <;> omega
  · obtain ⟨li, lj, rfl⟩ := g i j r e h1 h2
    rw [if_neg n]
    obtain ⟨m, em, _⟩ := (ok ss[j] (List.getElem_mem lj)).nat
    obtain ⟨k, ek, _⟩ := (ok ss[i] (List.getElem_mem li)).nat
    exact ⟨m, k, by rw [List.getElem?_eq_getElem lj, em], by rw [List.getElem?_eq_getElem li, ek], Int.dvd_zero _⟩
theorem TOk.set {ss : List Int} {t : List (List Int)} (h : TOk ss t) {i j : Nat} {r : List Int} {e : Int} (hi : t[i]? = some r) (low : ∀ s, ss[i]? = some s → 0 ≤ e ∧ e < s) (st : i ≠ j → ∃ a b : Nat, ss[j]? = some (a : Int) ∧ ss[i]? = some (b : Int) ∧ ((stp a b : Nat) : Int) ∣ e) : TOk ss (t.set i (r.set j e)) := by
  have li : i < t.length := (List.getElem?_eq_some_iff.mp hi).1
  have g : ∀ (k l : Nat) (r' : List Int) (e' : Int), (t.set i (r.set j e))[k]? = some r' → r'[l]? = some e' → (k = i ∧ l = j ∧ e' = e) ∨ ∃ r'', t[k]? = some r'' ∧ r''[l]? = some e' := fun k l r' e' h1 h2 => by
    by_cases ik : i = k
    · subst ik
      rw [List.getElem?_set_self li] at h1
      cases h1
      by_cases jl : j = l
      · subst jl
        have lj : j < r.length := Nat.lt_of_not_le fun z => by
          rw [List.getElem?_eq_none (by rw [List.length_set]; exact z)] at h2
          cases h2
        rw [List.getElem?_set_self lj] at h2
        cases h2
        exact .inl ⟨rfl, rfl, rfl⟩
      · rw [List.getElem?_set_ne jl] at h2
        exact .inr ⟨r, hi, h2⟩
    · rw [List.getElem?_set_ne ik] at h1
      exact .inr ⟨r', h1, h2⟩
  refine ⟨by rw [List.length_set]; exact h.len, fun r' hr => ?_, fun k l r' e' s h1 h2 h3 => ?_, fun k l r' e' h1 h2 n => ?_⟩
  · rcases List.mem_or_eq_of_mem_set hr with m | m
    · exact h.row r' m
    · rw [m, List.length_set]
      exact h.row r (List.mem_of_getElem? hi)
  · rcases g k l r' e' h1 h2 with ⟨rfl, rfl, rfl⟩ | ⟨r'', a, b⟩
    · exact low s h3
    · exact h.low k l r'' e' s a b h3
  · rcases g k l r' e' h1 h2 with ⟨rfl, rfl, rfl⟩ | ⟨r'', a, b⟩
    · exact st n
    · exact h.step k l r'' e' a b n
end NA
namespace NA
/-! ### the mathematics of deeds -/
theorem mod_eq {a b s : Int} : a % s = b % s ↔ s ∣ a - b := by
  rw [Int.emod_eq_emod_iff_emod_sub_eq_zero, Int.dvd_iff_emod_eq_zero]
theorem stp_hit {a b : Nat} {c : Int} (h : ((stp a b : Nat) : Int) ∣ c) : (b : Int) ∣ c * (a : Int) := by
  obtain ⟨k, rfl⟩ := h
  have e : b ∣ stp a b * a := by
    unfold stp
    obtain ⟨t, ht⟩ := Nat.gcd_dvd_right b a
    refine ⟨t, ?_⟩
    have d := Nat.div_mul_cancel (Nat.gcd_dvd_left b a)
    calc b / Nat.gcd b a * a = b / Nat.gcd b a * (Nat.gcd b a * t) := by rw [← ht]
      _ = b / Nat.gcd b a * Nat.gcd b a * t := by rw [Nat.mul_assoc]
      _ = b * t := by rw [d]
  have e2 : (b : Int) ∣ ((stp a b : Nat) : Int) * (a : Int) := by
    rw [← Int.natCast_mul]
    exact Int.natCast_dvd_natCast.mpr e
  rw [Int.mul_assoc, Int.mul_comm k, ← Int.mul_assoc]
  exact Int.dvd_trans e2 (Int.dvd_mul_right _ _)
/-- alike modulo the sizes -/
structure Cg (ss ns ms : List Int) : Prop where
  l1 : ns.length = ss.length
  l2 : ms.length = ss.length
  alike : ∀ (i : Nat) (s : Int), ss[i]? = some s → s ∣ ns.getD i 0 - ms.getD i 0
theorem Cg.refl {ss ns : List Int} (h : ns.length = ss.length) : Cg ss ns ns := ⟨h, h, fun i s _ => by rw [Int.sub_self]; exact Int.dvd_zero _⟩
theorem Cg.symm {ss ns ms : List Int} (h : Cg ss ns ms) : Cg ss ms ns := ⟨h.l2, h.l1, fun i s e => by
  have := h.alike i s e
  rw [← Int.neg_sub]
  exact Int.dvd_neg.mpr this⟩
theorem Cg.trans {ss ns ms ks : List Int} (h : Cg ss ns ms) (g : Cg ss ms ks) : Cg ss ns ks := ⟨h.l1, g.l2, fun i s e => by
  have a := h.alike i s e
  have b := g.alike i s e
  have := Int.dvd_add a b
  rwa [show ns.getD i 0 - ms.getD i 0 + (ms.getD i 0 - ks.getD i 0) = ns.getD i 0 - ks.getD i 0 by omega] at this⟩
theorem getD_set {ns : List Int} {i j : Nat} {x : Int} (h : i < ns.length) : (ns.set i x).getD j 0 = if i = j then x else ns.getD j 0 := by
  rw [List.getD_eq_getElem?_getD, List.getD_eq_getElem?_getD]
  by_cases e : i = j
  · subst e
    rw [List.getElem?_set_self h, if_pos rfl]
    rfl
  · rw [List.getElem?_set_ne e, if_neg e]
/-- a deed with its places among the sizes -/
structure DIn (ss : List Int) (d : Nat × Nat × Int) : Prop where
  lj : d.1 < ss.length
  li : d.2.1 < ss.length
  ne : d.1 ≠ d.2.1
  hit : ∀ a b : Int, ss[d.1]? = some a → ss[d.2.1]? = some b → b ∣ d.2.2 * a
theorem DOk.din {ss : List Int} {ws : List (Nat × Nat)} {d : Nat × Nat × Int} (h : DOk ss ws d) (ok : MOk ss ws) : DIn ss d := by
  obtain ⟨a, b, c⟩ := ok.wires.low _ h.wire
  obtain ⟨x, y, hx, hy, st⟩ := h.step
  refine ⟨a, b, c, fun p q hp hq => ?_⟩
  rw [hx] at hp
  rw [hy] at hq
  cases hp
  cases hq
  exact stp_hit st
theorem addI_getD {ns : List Int} {d : Nat × Nat × Int} (h : d.2.1 < ns.length) (j : Nat) : (addI ns d).getD j 0 = if d.2.1 = j then ns.getD d.2.1 0 + d.2.2 * ns.getD d.1 0 else ns.getD j 0 := getD_set h
theorem get_some {ss : List Int} {i : Nat} (h : i < ss.length) : ∃ s, ss[i]? = some s := ⟨ss[i], List.getElem?_eq_getElem h⟩
theorem Cg.add {ss ns ms : List Int} {d : Nat × Nat × Int} (h : Cg ss ns ms) (hd : DIn ss d) : Cg ss (addI ns d) (addI ms d) := by
  refine ⟨by rw [addI_len, h.l1], by rw [addI_len, h.l2], fun k s e => ?_⟩
  rw [addI_getD (by rw [h.l1]; exact hd.li), addI_getD (by rw [h.l2]; exact hd.li)]
  by_cases z : d.2.1 = k
  · subst z
    rw [if_pos rfl, if_pos rfl]
    obtain ⟨a, ha⟩ := get_some hd.lj
    obtain ⟨t, ht⟩ := h.alike d.1 a ha
    have e1 := h.alike _ s e
    have e2 : s ∣ d.2.2 * (ns.getD d.1 0 - ms.getD d.1 0) := by
      rw [ht, ← Int.mul_assoc]
      exact Int.dvd_trans (hd.hit a s ha e) (Int.dvd_mul_right _ _)
    have := Int.dvd_add e1 e2
    rwa [show ns.getD d.2.1 0 - ms.getD d.2.1 0 + d.2.2 * (ns.getD d.1 0 - ms.getD d.1 0) = ns.getD d.2.1 0 + d.2.2 * ns.getD d.1 0 - (ms.getD d.2.1 0 + d.2.2 * ms.getD d.1 0) by rw [Int.mul_sub]; omega] at this
  · rw [if_neg z, if_neg z]
    exact h.alike k s e
theorem Cg.far {ss : List Int} {l : List (Nat × Nat × Int)} (hl : ∀ d ∈ l, DIn ss d) : ∀ {ns ms : List Int}, Cg ss ns ms → Cg ss (farI l ns) (farI l ms) := by
  induction l with
  | nil => exact fun h => h
  | cons d l ih => exact fun h => ih (fun x hx => hl x (List.mem_cons_of_mem _ hx)) (h.add (hl d List.mem_cons_self))
theorem remI_getD {ns ss : List Int} {i : Nat} {s : Int} (h : ns.length = ss.length) (e : ss[i]? = some s) : (remI ns ss).getD i 0 = ns.getD i 0 % s := by
  have li := (List.getElem?_eq_some_iff.mp e).1
  have z : ns[i]? = some (ns.getD i 0) := by
    rw [List.getD_eq_getElem?_getD, List.getElem?_eq_getElem (by omega)]
    rfl
  rw [List.getD_eq_getElem?_getD]
  unfold remI
  rw [List.getElem?_zipWith, z, e]
  rfl
theorem remI_length {ns ss : List Int} (h : ns.length = ss.length) : (remI ns ss).length = ss.length := by
  unfold remI
  rw [List.length_zipWith]
  omega
theorem ext_getD {ns ms : List Int} (h : ns.length = ms.length) (e : ∀ i, i < ns.length → ns.getD i 0 = ms.getD i 0) : ns = ms := by
  refine List.ext_getElem h fun i h1 h2 => ?_
  have := e i h1
  rwa [List.getD_eq_getElem?_getD, List.getD_eq_getElem?_getD, List.getElem?_eq_getElem h1, List.getElem?_eq_getElem h2] at this
theorem Cg.rem {ss ns ms : List Int} (h : Cg ss ns ms) : remI ns ss = remI ms ss := by
  refine ext_getD (by rw [remI_length h.l1, remI_length h.l2]) fun i hi => ?_
  rw [remI_length h.l1] at hi
  obtain ⟨s, hs⟩ := get_some hi
  rw [remI_getD h.l1 hs, remI_getD h.l2 hs]
  exact mod_eq.mpr (h.alike i s hs)
theorem cg_rem {ss ns : List Int} (h : ns.length = ss.length) : Cg ss (remI ns ss) ns := ⟨remI_length h, h, fun i s e => by
  rw [remI_getD h e, Int.emod_def]
  exact ⟨-(ns.getD i 0 / s), by rw [Int.mul_neg]; omega⟩⟩
theorem rem_of {ss hs : List Int} (h : COk ss hs) : remI hs ss = hs := by
  refine ext_getD (by rw [remI_length h.len, h.len]) fun i hi => ?_
  rw [remI_length h.len] at hi
  obtain ⟨s, es⟩ := get_some hi
  rw [remI_getD h.len es]
  obtain ⟨x, ex⟩ := get_some (show i < hs.length by rw [h.len]; exact hi)
  obtain ⟨a, b⟩ := h.low i x s ex es
  rw [List.getD_eq_getElem?_getD, ex]
  exact Int.emod_eq_of_lt a b
theorem rem_cok {ss ns : List Int} (ok : ∀ s ∈ ss, SizeOk s) (h : ns.length = ss.length) : COk ss (remI ns ss) := by
  refine ⟨remI_length h, fun i x s ex es => ?_⟩
  have := remI_getD h es
  rw [List.getD_eq_getElem?_getD, ex] at this
  obtain ⟨m, rfl, m2, _⟩ := (ok s (List.mem_of_getElem? es)).nat
  have e : x = ns.getD i 0 % (m : Int) := this
  rw [e]
  exact ⟨Int.emod_nonneg _ (by omega), Int.emod_lt_of_pos _ (by omega)⟩
/-- deed by deed, each register modulo its size -/
def doneI (ss hs : List Int) (d : Nat × Nat × Int) : List Int := remI (addI hs d) ss
def runP (ss : List Int) (l : List (Nat × Nat × Int)) (hs : List Int) : List Int := l.foldl (doneI ss) hs
theorem runP_cg {ss : List Int} {l : List (Nat × Nat × Int)} (hl : ∀ d ∈ l, DIn ss d) : ∀ {hs ns : List Int}, Cg ss hs ns → Cg ss (runP ss l hs) (farI l ns) := by
  induction l with
  | nil => exact fun h => h
  | cons d l ih =>
    intro hs ns h
    have a := h.add (hl d List.mem_cons_self)
    exact ih (fun x hx => hl x (List.mem_cons_of_mem _ hx)) ((cg_rem a.l1).trans a)
theorem runP_cok {ss : List Int} (ok : ∀ s ∈ ss, SizeOk s) {l : List (Nat × Nat × Int)} : ∀ {hs : List Int}, COk ss hs → COk ss (runP ss l hs) := by
  induction l with
  | nil => exact fun h => h
  | cons d l ih => exact fun h => ih (rem_cok ok (by rw [addI_len, h.len]))
/-- what deeds do one by one is what they do in the whole -/
theorem runP_eq {ss : List Int} (ok : ∀ s ∈ ss, SizeOk s) {l : List (Nat × Nat × Int)} (hl : ∀ d ∈ l, DIn ss d) {hs ns : List Int} (h : COk ss hs) (g : Cg ss hs ns) : runP ss l hs = runI ss l ns := by
  have a := runP_cg hl g
  have b := rem_of (runP_cok (l := l) ok h)
  rw [← b]
  exact a.rem
/-- backward -/
def backI (l : List (Nat × Nat × Int)) : List (Nat × Nat × Int) := (l.map fun d => (d.1, d.2.1, -d.2.2)).reverse
theorem DIn.neg {ss : List Int} {d : Nat × Nat × Int} (h : DIn ss d) : DIn ss (d.1, d.2.1, -d.2.2) := ⟨h.lj, h.li, h.ne, fun a b ha hb => by
  rw [Int.neg_mul]
  exact Int.dvd_neg.mpr (h.hit a b ha hb)⟩
theorem add_back {ns : List Int} {d : Nat × Nat × Int} (hj : d.2.1 < ns.length) (ne : d.1 ≠ d.2.1) : addI (addI ns d) (d.1, d.2.1, -d.2.2) = ns := by
  refine ext_getD (by rw [addI_len, addI_len]) fun k hk => ?_
  rw [addI_getD (by rw [addI_len]; exact hj)]
  by_cases e : d.2.1 = k
  · rw [if_pos e, addI_getD hj, addI_getD hj, if_pos rfl, if_neg (Ne.symm ne), ← e, Int.neg_mul]
    dsimp only
    omega
  · rw [if_neg e, addI_getD hj, if_neg e]
theorem far_app (l m : List (Nat × Nat × Int)) (ns : List Int) : farI (l ++ m) ns = farI m (farI l ns) := List.foldl_append
theorem far_back {ss : List Int} {l : List (Nat × Nat × Int)} (hl : ∀ d ∈ l, DIn ss d) : ∀ {ns : List Int}, ns.length = ss.length → farI (backI l) (farI l ns) = ns := by
  induction l with
  | nil => exact fun _ => rfl
  | cons d l ih =>
    intro ns h
    have a := ih (fun x hx => hl x (List.mem_cons_of_mem _ hx)) (ns := addI ns d) (by rw [addI_len, h])
    have dd := hl d List.mem_cons_self
    have e : backI (d :: l) = backI l ++ [(d.1, d.2.1, -d.2.2)] := by
      unfold backI
      rw [List.map_cons, List.reverse_cons]
    rw [e, far_app]
    show addI (farI (backI l) (farI l (addI ns d))) _ = ns
    rw [a]
    exact add_back (by rw [h]; exact dd.li) dd.ne
theorem back_din {ss : List Int} {l : List (Nat × Nat × Int)} (hl : ∀ d ∈ l, DIn ss d) : ∀ d ∈ backI l, DIn ss d := fun d hd => by
  unfold backI at hd
  obtain ⟨x, hx, rfl⟩ := List.mem_map.mp (List.mem_reverse.mp hd)
  exact (hl x hx).neg
theorem runP_back {ss : List Int} (ok : ∀ s ∈ ss, SizeOk s) {l : List (Nat × Nat × Int)} (hl : ∀ d ∈ l, DIn ss d) {hs : List Int} (h : COk ss hs) : runP ss (backI l) (runP ss l hs) = hs := by
  have a := runP_cg hl (Cg.refl h.len)
  rw [runP_eq ok (back_din hl) (runP_cok ok h) a]
  unfold runI
  rw [far_back hl h.len, rem_of h]
/-- sums -/
def sumI (ns ms : List Int) : List Int := List.zipWith (fun a b => a + b) ns ms
theorem sumI_len {ns ms : List Int} {n : Nat} (h : ns.length = n) (g : ms.length = n) : (sumI ns ms).length = n := by
  unfold sumI
  rw [List.length_zipWith]
  omega
theorem sumI_getD {ns ms : List Int} (h : ns.length = ms.length) (i : Nat) : (sumI ns ms).getD i 0 = ns.getD i 0 + ms.getD i 0 := by
  rw [List.getD_eq_getElem?_getD, List.getD_eq_getElem?_getD, List.getD_eq_getElem?_getD]
  unfold sumI
  rw [List.getElem?_zipWith]
  by_cases e : i < ns.length
  · rw [List.getElem?_eq_getElem e, List.getElem?_eq_getElem (by omega)]
    rfl
  · rw [List.getElem?_eq_none (by omega), List.getElem?_eq_none (by omega)]
    rfl
theorem add_sum {ns ms : List Int} {d : Nat × Nat × Int} (h : ns.length = ms.length) (hi : d.2.1 < ns.length) : addI (sumI ns ms) d = sumI (addI ns d) (addI ms d) := by
  have l1 : (sumI ns ms).length = ns.length := sumI_len rfl h.symm
  refine ext_getD (by rw [addI_len, l1, sumI_len (addI_len ns d) (by rw [addI_len, h])]) fun k hk => ?_
  rw [addI_getD (by omega), sumI_getD (ns := addI ns d) (ms := addI ms d) (by rw [addI_len, addI_len, h]), addI_getD hi, addI_getD (ns := ms) (by omega), sumI_getD h, sumI_getD h, sumI_getD h, Int.mul_add]
  split <;> omega
theorem far_sum {l : List (Nat × Nat × Int)} : ∀ {ns ms : List Int}, ns.length = ms.length → (∀ d ∈ l, d.2.1 < ns.length) → farI l (sumI ns ms) = sumI (farI l ns) (farI l ms) := by
  induction l with
  | nil => exact fun _ _ => rfl
  | cons d l ih =>
    intro ns ms h hl
    show farI l (addI (sumI ns ms) d) = sumI (farI l (addI ns d)) (farI l (addI ms d))
    rw [add_sum h (hl d List.mem_cons_self)]
    exact ih (by rw [addI_len, addI_len, h]) fun x hx => by rw [addI_len]; exact hl x (List.mem_cons_of_mem _ hx)
end NA
namespace NA
/-! ### sums -/
def sumF : Nat → (Nat → Int) → Int
  | 0, _ => 0
  | n + 1, F => F 0 + sumF n fun k => F (k + 1)
theorem sumF_congr : ∀ {n : Nat} {F G : Nat → Int}, (∀ k, k < n → F k = G k) → sumF n F = sumF n G
  | 0, _, _, _ => rfl
  | n + 1, F, G, h => by
    show F 0 + _ = G 0 + _
    rw [h 0 (by omega), sumF_congr fun k hk => h (k + 1) (by omega)]
theorem sumF_add : ∀ (n : Nat) (F G : Nat → Int), sumF n (fun k => F k + G k) = sumF n F + sumF n G
  | 0, _, _ => rfl
  | n + 1, F, G => by
    show F 0 + G 0 + sumF n (fun k => F (k + 1) + G (k + 1)) = F 0 + sumF n _ + (G 0 + sumF n _)
    rw [sumF_add n]
    omega
theorem sumF_mul (c : Int) : ∀ (n : Nat) (F : Nat → Int), sumF n (fun k => c * F k) = c * sumF n F
  | 0, _ => by show (0 : Int) = c * 0; rw [Int.mul_zero]
  | n + 1, F => by
    show c * F 0 + sumF n (fun k => c * F (k + 1)) = c * (F 0 + sumF n _)
    rw [sumF_mul c n, Int.mul_add]
theorem sumF_zero : ∀ (n : Nat), sumF n (fun _ => 0) = 0
  | 0 => rfl
  | n + 1 => by
    show (0 : Int) + sumF n (fun _ => 0) = 0
    rw [sumF_zero n]
    rfl
theorem sumF_swap : ∀ (n m : Nat) (F : Nat → Nat → Int), sumF n (fun j => sumF m fun k => F j k) = sumF m (fun k => sumF n fun j => F j k)
  | 0, m, F => (sumF_zero m).symm
  | n + 1, m, F => by
    show sumF m (fun k => F 0 k) + sumF n (fun j => sumF m fun k => F (j + 1) k) = sumF m (fun k => F 0 k + sumF n fun j => F (j + 1) k)
    rw [sumF_add, sumF_swap n]
theorem sumF_dvd {s : Int} : ∀ {n : Nat} {F : Nat → Int}, (∀ k, k < n → s ∣ F k) → s ∣ sumF n F
  | 0, _, _ => Int.dvd_zero _
  | n + 1, F, h => Int.dvd_add (h 0 (by omega)) (sumF_dvd fun k hk => h (k + 1) (by omega))
theorem sumF_alike {s : Int} {n : Nat} {F G : Nat → Int} (h : ∀ k, k < n → s ∣ F k - G k) : s ∣ sumF n F - sumF n G := by
  have := sumF_dvd h
  rw [show sumF n (fun k => F k - G k) = sumF n F - sumF n G from ?_] at this
  · exact this
  · have e := sumF_add n (fun k => F k - G k) G
    rw [show (fun k => F k - G k + G k) = F from funext fun k => by omega] at e
    omega
theorem sumF_one (n i : Nat) (F : Nat → Int) (h : i < n) : sumF n (fun k => (if i = k then 1 else 0) * F k) = F i := by
  induction n generalizing i F with
  | zero => omega
  | succ n ih =>
    show (if i = 0 then 1 else 0) * F 0 + sumF n (fun k => (if i = k + 1 then 1 else 0) * F (k + 1)) = F i
    cases i with
    | zero =>
      rw [if_pos rfl, sumF_congr (G := fun _ => 0) fun k _ => by rw [if_neg (by omega), Int.zero_mul], sumF_zero]
      omega
    | succ i =>
      rw [if_neg (by omega), sumF_congr (G := fun k => (if i = k then 1 else 0) * F (k + 1)) fun k _ => by
        by_cases e : i = k
        · rw [if_pos e, if_pos (by omega)]
        · rw [if_neg e, if_neg (by omega)], ih i (fun k => F (k + 1)) (by omega)]
      omega
theorem dot_sum : ∀ {row hs : List Int} {n : Nat}, row.length = n → hs.length = n → dot row hs = sumF n fun k => row.getD k 0 * hs.getD k 0
  | [], [], _, e, _ => by subst e; rfl
  | r :: row, h :: hs, n + 1, e1, e2 => by
    have a := dot_sum (row := row) (hs := hs) (n := n) (by simpa using e1) (by simpa using e2)
    unfold dot at a ⊢
    rw [List.zipWith_cons_cons, List.sum_cons, a]
    rfl
  | [], _ :: _, _, e1, e2 => by rw [← e1] at e2; cases e2
  | _ :: _, [], _, e1, e2 => by rw [← e1] at e2; cases e2
  | _ :: _, _ :: _, 0, e1, _ => by cases e1
/-! ### tables by their entries -/
def en (t : List (List Int)) (i j : Nat) : Int := (t.getD i []).getD j 0
theorem en_of {t : List (List Int)} {i : Nat} {r : List Int} (h : t[i]? = some r) (j : Nat) : en t i j = r.getD j 0 := by
  unfold en
  have e : t.getD i [] = r := by
    rw [List.getD_eq_getElem?_getD, h]
    rfl
  rw [e]
/-- of the right form -/
structure Sq (n : Nat) (t : List (List Int)) : Prop where
  len : t.length = n
  row : ∀ r ∈ t, r.length = n
theorem TOk.sq {ss : List Int} {t : List (List Int)} (h : TOk ss t) : Sq ss.length t := ⟨h.len, h.row⟩
theorem Sq.get {n : Nat} {t : List (List Int)} (h : Sq n t) {i : Nat} (hi : i < n) : ∃ r, t[i]? = some r ∧ r.length = n := by
  have hi' : i < t.length := by rw [h.len]; exact hi
  exact ⟨t[i], List.getElem?_eq_getElem hi', h.row _ (List.getElem_mem hi')⟩
theorem sq_ext {n : Nat} {t u : List (List Int)} (a : Sq n t) (b : Sq n u) (e : ∀ i j, i < n → j < n → en t i j = en u i j) : t = u := by
  refine List.ext_getElem (by rw [a.len, b.len]) fun i h1 h2 => ?_
  have hi : i < n := by rw [← a.len]; exact h1
  refine ext_getD (by rw [a.row _ (List.getElem_mem h1), b.row _ (List.getElem_mem h2)]) fun j hj => ?_
  have := e i j hi (by rw [← a.row _ (List.getElem_mem h1)]; exact hj)
  rwa [en_of (List.getElem?_eq_getElem h1), en_of (List.getElem?_eq_getElem h2)] at this
theorem led_getD {ss : List Int} {t : List (List Int)} {hs : List Int} (q : Sq ss.length t) (lh : hs.length = ss.length) {i : Nat} {s : Int} (e : ss[i]? = some s) : (ledI ss t hs).getD i 0 = (sumF ss.length fun j => en t i j * hs.getD j 0) % s := by
  have hi := (List.getElem?_eq_some_iff.mp e).1
  obtain ⟨r, hr, rl⟩ := q.get hi
  rw [List.getD_eq_getElem?_getD]
  unfold ledI
  rw [List.getElem?_zipWith, hr, e]
  show dot r hs % s = _
  rw [dot_sum rl lh]
  congr 1
  exact sumF_congr fun j _ => by rw [en_of hr]
theorem led_len {ss : List Int} {t : List (List Int)} {hs : List Int} (q : Sq ss.length t) : (ledI ss t hs).length = ss.length := by
  unfold ledI
  rw [List.length_zipWith, q.len, Nat.min_self]
theorem both_get {ss : List Int} {one other : List (List Int)} {i : Nat} {r : List Int} {s : Int} (hr : other[i]? = some r) (e : ss[i]? = some s) : (bothI ss one other)[i]? = some ((List.range ss.length).map fun j => dot r (colI one j) % s) := by
  unfold bothI
  rw [List.getElem?_zipWith, hr, e]
theorem both_sq {ss : List Int} {one other : List (List Int)} (q : Sq ss.length other) : Sq ss.length (bothI ss one other) := by
  have l : (bothI ss one other).length = ss.length := by
    unfold bothI
    rw [List.length_zipWith, q.len, Nat.min_self]
  refine ⟨l, fun r hr => ?_⟩
  obtain ⟨i, hi, rfl⟩ := List.getElem_of_mem hr
  obtain ⟨s, es⟩ := get_some (show i < ss.length by omega)
  obtain ⟨r0, hr0, _⟩ := q.get (show i < ss.length by omega)
  have := both_get (one := one) hr0 es
  rw [List.getElem?_eq_getElem hi] at this
  rw [Option.some.inj this, List.length_map, List.length_range]
theorem both_en {ss : List Int} {one other : List (List Int)} (q1 : Sq ss.length one) (q2 : Sq ss.length other) {i j : Nat} {s : Int} (e : ss[i]? = some s) (hj : j < ss.length) : en (bothI ss one other) i j = (sumF ss.length fun k => en other i k * en one k j) % s := by
  have hi := (List.getElem?_eq_some_iff.mp e).1
  obtain ⟨r, hr, rl⟩ := q2.get hi
  rw [en_of (both_get hr e), List.getD_eq_getElem?_getD, List.getElem?_map, List.getElem?_eq_getElem (by rw [List.length_range]; exact hj), List.getElem_range]
  show dot r (colI one j) % s = _
  rw [dot_sum (n := ss.length) rl (by unfold colI; rw [List.length_map, q1.len])]
  congr 1
  refine sumF_congr fun k hk => ?_
  obtain ⟨r1, hr1, _⟩ := q1.get hk
  rw [en_of hr, en_of hr1]
  congr 1
  rw [List.getD_eq_getElem?_getD]
  unfold colI
  rw [List.getElem?_map, hr1]
  rfl
/-- entries that give what they must -/
def Hit (ss : List Int) (t : List (List Int)) : Prop := ∀ (i j : Nat) (s r : Int), ss[i]? = some s → ss[j]? = some r → s ∣ en t i j * r
theorem TOk.hit {ss : List Int} {t : List (List Int)} (h : TOk ss t) : Hit ss t := by
  intro i j s r hs hr
  by_cases e : i = j
  · subst e
    rw [hs] at hr
    cases hr
    exact Int.dvd_mul_left _ _
  · obtain ⟨row, hrow, rl⟩ := h.sq.get (List.getElem?_eq_some_iff.mp hs).1
    have hj := (List.getElem?_eq_some_iff.mp hr).1
    have ej : row[j]? = some (row.getD j 0) := by
      rw [List.getD_eq_getElem?_getD, List.getElem?_eq_getElem (by omega)]
      rfl
    obtain ⟨a, b, ha, hb, st⟩ := h.step i j row _ hrow ej e
    rw [hr] at ha
    rw [hs] at hb
    cases ha
    cases hb
    rw [en_of hrow]
    exact stp_hit st
/-- the sums over rests are alike the sums over what left them -/
theorem hit_sum {ss : List Int} {t : List (List Int)} (h : Hit ss t) {i : Nat} {s : Int} (e : ss[i]? = some s) {F G : Nat → Int} (fg : ∀ (k : Nat) (r : Int), ss[k]? = some r → r ∣ F k - G k) : s ∣ (sumF ss.length fun k => en t i k * F k) - sumF ss.length fun k => en t i k * G k := by
  refine sumF_alike fun k hk => ?_
  obtain ⟨r, hr⟩ := get_some hk
  obtain ⟨x, hx⟩ := fg k r hr
  rw [← Int.mul_sub, hx, ← Int.mul_assoc]
  exact Int.dvd_trans (h i k s r e hr) (Int.dvd_mul_right _ _)
theorem mod_sub (a s : Int) : s ∣ a % s - a := by
  rw [Int.emod_def]
  exact ⟨-(a / s), by rw [Int.mul_neg]; omega⟩
theorem dvd_sub_comm {a b s : Int} (h : s ∣ a - b) : s ∣ b - a := by
  rw [← Int.neg_sub]
  exact Int.dvd_neg.mpr h
theorem mod_congr {a b s : Int} (h : s ∣ a - b) : a % s = b % s := mod_eq.mpr h
/-- one table behind another leads as the one and then the other -/
theorem led_both {ss : List Int} {one other : List (List Int)} {hs : List Int} (q1 : Sq ss.length one) (q2 : Sq ss.length other) (h2 : Hit ss other) (lh : hs.length = ss.length) : ledI ss (bothI ss one other) hs = ledI ss other (ledI ss one hs) := by
  refine ext_getD (by rw [led_len (both_sq q2), led_len q2]) fun i hi => ?_
  rw [led_len (both_sq q2)] at hi
  obtain ⟨s, es⟩ := get_some hi
  rw [led_getD (both_sq q2) lh es, led_getD q2 (led_len q1) es]
  refine mod_congr ?_
  -- both are alike the double sum
  have a : s ∣ (sumF ss.length fun j => en (bothI ss one other) i j * hs.getD j 0) - sumF ss.length fun j => (sumF ss.length fun k => en other i k * en one k j) * hs.getD j 0 := by
    refine sumF_alike fun j hj => ?_
    rw [both_en q1 q2 es hj, ← Int.sub_mul]
    exact Int.dvd_trans (mod_sub _ _) (Int.dvd_mul_right _ _)
  have b : s ∣ (sumF ss.length fun k => en other i k * (ledI ss one hs).getD k 0) - sumF ss.length fun k => en other i k * sumF ss.length fun j => en one k j * hs.getD j 0 :=
    hit_sum h2 es fun k r hr => by
      rw [led_getD q1 lh hr]
      exact mod_sub _ _
  have c : (sumF ss.length fun j => (sumF ss.length fun k => en other i k * en one k j) * hs.getD j 0) = sumF ss.length fun k => en other i k * sumF ss.length fun j => en one k j * hs.getD j 0 := by
    rw [sumF_congr (G := fun j => sumF ss.length fun k => en other i k * (en one k j * hs.getD j 0)) fun j _ => by
      rw [Int.mul_comm, ← sumF_mul]
      exact sumF_congr fun k _ => by rw [Int.mul_comm, Int.mul_assoc], sumF_swap]
    exact sumF_congr fun k _ => sumF_mul _ _ _
  rw [c] at a
  have := Int.dvd_add a (dvd_sub_comm b)
  rwa [show ∀ x y z : Int, x - y + (y - z) = x - z from fun x y z => by omega] at this
theorem both_hit {ss : List Int} {one other : List (List Int)} (q1 : Sq ss.length one) (q2 : Sq ss.length other) (h1 : Hit ss one) (h2 : Hit ss other) : Hit ss (bothI ss one other) := by
  intro i j s r hs hr
  have hj := (List.getElem?_eq_some_iff.mp hr).1
  rw [both_en q1 q2 hs hj]
  have a : s ∣ (sumF ss.length fun k => en other i k * en one k j) * r := by
    rw [Int.mul_comm, ← sumF_mul]
    refine sumF_dvd fun k hk => ?_
    obtain ⟨x, hx⟩ := get_some hk
    obtain ⟨y, hy⟩ := h1 k j x r hx hr
    have e : r * (en other i k * en one k j) = en other i k * x * y := by
      rw [Int.mul_comm, Int.mul_assoc, hy, Int.mul_assoc]
    rw [e]
    exact Int.dvd_trans (h2 i k s x hs hx) (Int.dvd_mul_right _ _)
  have b : s ∣ ((sumF ss.length fun k => en other i k * en one k j) % s - sumF ss.length fun k => en other i k * en one k j) * r := Int.dvd_trans (mod_sub _ _) (Int.dvd_mul_right _ _)
  rw [Int.sub_mul] at b
  have := Int.dvd_add b a
  rwa [show ∀ x y : Int, x - y + y = x from fun x y => by omega] at this
theorem both_assoc {ss : List Int} {one other third : List (List Int)} (q1 : Sq ss.length one) (q2 : Sq ss.length other) (q3 : Sq ss.length third) (h3 : Hit ss third) : bothI ss (bothI ss one other) third = bothI ss one (bothI ss other third) := by
  refine sq_ext (both_sq q3) (both_sq (both_sq q3)) fun i j hi hj => ?_
  obtain ⟨s, es⟩ := get_some hi
  rw [both_en (both_sq q2) q3 es hj, both_en q1 (both_sq q3) es hj]
  refine mod_congr ?_
  have a : s ∣ (sumF ss.length fun k => en third i k * en (bothI ss one other) k j) - sumF ss.length fun k => en third i k * sumF ss.length fun l => en other k l * en one l j :=
    hit_sum h3 es fun k r hr => by
      rw [both_en q1 q2 hr hj]
      exact mod_sub _ _
  have b : s ∣ (sumF ss.length fun l => en (bothI ss other third) i l * en one l j) - sumF ss.length fun l => (sumF ss.length fun k => en third i k * en other k l) * en one l j := by
    refine sumF_alike fun l hl => ?_
    rw [both_en q2 q3 es hl, ← Int.sub_mul]
    exact Int.dvd_trans (mod_sub _ _) (Int.dvd_mul_right _ _)
  have c : (sumF ss.length fun l => (sumF ss.length fun k => en third i k * en other k l) * en one l j) = sumF ss.length fun k => en third i k * sumF ss.length fun l => en other k l * en one l j := by
    rw [sumF_congr (G := fun l => sumF ss.length fun k => en third i k * (en other k l * en one l j)) fun l _ => by
      rw [Int.mul_comm, ← sumF_mul]
      exact sumF_congr fun k _ => by rw [Int.mul_comm, Int.mul_assoc], sumF_swap]
    exact sumF_congr fun k _ => sumF_mul _ _ _
  rw [c] at b
  have := Int.dvd_add a (dvd_sub_comm b)
  rwa [show ∀ x y z : Int, x - y + (y - z) = x - z from fun x y z => by omega] at this
theorem still_sq (n : Nat) : Sq n (stillI n) := ⟨by unfold stillI; rw [List.length_map, List.length_range], fun r hr => by
  unfold stillI at hr
  obtain ⟨i, _, rfl⟩ := List.mem_map.mp hr
  rw [List.length_map, List.length_range]⟩
theorem still_en {n i j : Nat} (hi : i < n) (hj : j < n) : en (stillI n) i j = if i = j then 1 else 0 := by
  have e : (stillI n)[i]? = some ((List.range n).map fun j => if i = j then 1 else 0) := by
    unfold stillI
    rw [List.getElem?_map, List.getElem?_eq_getElem (by rw [List.length_range]; exact hi), List.getElem_range]
    rfl
  rw [en_of e, List.getD_eq_getElem?_getD, List.getElem?_map, List.getElem?_eq_getElem (by rw [List.length_range]; exact hj), List.getElem_range]
  rfl
theorem led_still {ss hs : List Int} (h : COk ss hs) : ledI ss (stillI ss.length) hs = hs := by
  refine ext_getD (by rw [led_len (still_sq _), h.len]) fun i hi => ?_
  rw [led_len (still_sq _)] at hi
  obtain ⟨s, es⟩ := get_some hi
  rw [led_getD (still_sq _) h.len es, sumF_congr (G := fun j => (if i = j then 1 else 0) * hs.getD j 0) fun j hj => by rw [still_en hi hj], sumF_one _ _ _ hi]
  obtain ⟨x, ex⟩ := get_some (show i < hs.length by rw [h.len]; exact hi)
  obtain ⟨a, b⟩ := h.low i x s ex es
  rw [List.getD_eq_getElem?_getD, ex]
  exact Int.emod_eq_of_lt a b
/-- entries from 0 below the size of their row -/
def Low (ss : List Int) (t : List (List Int)) : Prop := ∀ (i j : Nat) (s : Int), ss[i]? = some s → j < ss.length → 0 ≤ en t i j ∧ en t i j < s
theorem TOk.lowE {ss : List Int} {t : List (List Int)} (h : TOk ss t) : Low ss t := by
  intro i j s hs hj
  obtain ⟨row, hrow, rl⟩ := h.sq.get (List.getElem?_eq_some_iff.mp hs).1
  have ej : row[j]? = some (row.getD j 0) := by
    rw [List.getD_eq_getElem?_getD, List.getElem?_eq_getElem (by omega)]
    rfl
  rw [en_of hrow]
  exact h.low i j row _ s hrow ej hs
theorem both_low {ss : List Int} {one other : List (List Int)} (ok : ∀ s ∈ ss, SizeOk s) (q1 : Sq ss.length one) (q2 : Sq ss.length other) : Low ss (bothI ss one other) := by
  intro i j s hs hj
  rw [both_en q1 q2 hs hj]
  obtain ⟨m, rfl, m2, _⟩ := (ok s (List.mem_of_getElem? hs)).nat
  exact ⟨Int.emod_nonneg _ (by omega), Int.emod_lt_of_pos _ (by omega)⟩
theorem both_still {ss : List Int} {t : List (List Int)} (q : Sq ss.length t) (l : Low ss t) : bothI ss t (stillI ss.length) = t := by
  refine sq_ext (both_sq (still_sq _)) q fun i j hi hj => ?_
  obtain ⟨s, es⟩ := get_some hi
  rw [both_en q (still_sq _) es hj, sumF_congr (G := fun k => (if i = k then 1 else 0) * en t k j) fun k hk => by rw [still_en hi hk], sumF_one _ _ _ hi]
  obtain ⟨a, b⟩ := l i j s es hj
  exact Int.emod_eq_of_lt a b
theorem still_both {ss : List Int} {t : List (List Int)} (q : Sq ss.length t) (l : Low ss t) : bothI ss (stillI ss.length) t = t := by
  refine sq_ext (both_sq q) q fun i j hi hj => ?_
  obtain ⟨s, es⟩ := get_some hi
  rw [both_en (still_sq _) q es hj, sumF_congr (G := fun k => (if j = k then 1 else 0) * en t i k) fun k hk => by
    rw [still_en hk hj, Int.mul_comm]
    by_cases e : k = j
    · rw [if_pos e, if_pos e.symm]
    · rw [if_neg e, if_neg (Ne.symm e)], sumF_one _ _ _ hj]
  obtain ⟨a, b⟩ := l i j s es hj
  exact Int.emod_eq_of_lt a b
/-- the table of a deed -/
def deedI (ss : List Int) (d : Nat × Nat × Int) : List (List Int) := (stillI ss.length).set d.2.1 (((stillI ss.length).getD d.2.1 []).set d.1 (d.2.2 % ss.getD d.2.1 1))
theorem still_row {n i : Nat} (hi : i < n) : (stillI n).getD i [] = (List.range n).map fun j => if i = j then 1 else 0 := by
  rw [List.getD_eq_getElem?_getD]
  unfold stillI
  rw [List.getElem?_map, List.getElem?_eq_getElem (by rw [List.length_range]; exact hi), List.getElem_range]
  rfl
theorem deed_sq {ss : List Int} {d : Nat × Nat × Int} (h : DIn ss d) : Sq ss.length (deedI ss d) := by
  have q := still_sq ss.length
  refine ⟨by unfold deedI; rw [List.length_set, q.len], fun r hr => ?_⟩
  unfold deedI at hr
  rcases List.mem_or_eq_of_mem_set hr with m | m
  · exact q.row r m
  · rw [m, List.length_set, still_row h.li, List.length_map, List.length_range]
theorem deed_en {ss : List Int} {d : Nat × Nat × Int} (h : DIn ss d) {i j : Nat} {s : Int} (es : ss[i]? = some s) (hj : j < ss.length) : en (deedI ss d) i j = if i = d.2.1 ∧ j = d.1 then d.2.2 % s else if i = j then 1 else 0 := by
  have hi := (List.getElem?_eq_some_iff.mp es).1
  by_cases e : d.2.1 = i
  · subst e
    have a : (deedI ss d)[d.2.1]? = some (((stillI ss.length).getD d.2.1 []).set d.1 (d.2.2 % ss.getD d.2.1 1)) := by
      unfold deedI
      rw [List.getElem?_set_self (by rw [(still_sq _).len]; exact hi)]
    rw [en_of a, getD_set (by rw [still_row hi, List.length_map, List.length_range]; exact h.lj)]
    have b : ss.getD d.2.1 1 = s := by
      rw [List.getD_eq_getElem?_getD, es]
      rfl
    rw [b]
    by_cases z : d.1 = j
    · rw [if_pos z, if_pos ⟨rfl, z.symm⟩]
    · rw [if_neg z, if_neg (fun q => z q.2.symm)]
      exact still_en hi hj
  · rw [if_neg (fun q => e q.1.symm)]
    have a : (deedI ss d)[i]? = (stillI ss.length)[i]? := by
      unfold deedI
      rw [List.getElem?_set_ne e]
    obtain ⟨r, hr, _⟩ := (still_sq ss.length).get hi
    rw [hr] at a
    rw [en_of a, ← en_of hr]
    exact still_en hi hj
/-- it leads as the deed does -/
theorem led_deed {ss hs : List Int} {d : Nat × Nat × Int} (h : DIn ss d) (c : COk ss hs) : ledI ss (deedI ss d) hs = doneI ss hs d := by
  unfold doneI
  refine ext_getD (by rw [led_len (deed_sq h), remI_length (by rw [addI_len, c.len])]) fun i hi => ?_
  rw [led_len (deed_sq h)] at hi
  obtain ⟨s, es⟩ := get_some hi
  rw [led_getD (deed_sq h) c.len es, remI_getD (by rw [addI_len, c.len]) es, addI_getD (by rw [c.len]; exact h.li)]
  refine mod_congr ?_
  by_cases e : d.2.1 = i
  · subst e
    rw [if_pos rfl]
    have f : ∀ j, j < ss.length → en (deedI ss d) d.2.1 j * hs.getD j 0 = (if d.2.1 = j then 1 else 0) * hs.getD j 0 + (if d.1 = j then 1 else 0) * (d.2.2 % s * hs.getD j 0) := fun j hj => by
      rw [deed_en h es hj]
      by_cases z : j = d.1
      · subst z
        rw [if_pos ⟨rfl, rfl⟩, if_neg (Ne.symm h.ne), if_pos rfl]
        omega
      · rw [if_neg (fun q => z q.2), if_neg (c := d.1 = j) (Ne.symm z)]
        omega
    rw [sumF_congr f, sumF_add, sumF_one _ _ (fun j => hs.getD j 0) h.li, sumF_one _ _ (fun j => d.2.2 % s * hs.getD j 0) h.lj]
    rw [show ∀ x y z : Int, x + y - (x + z) = y - z from fun x y z => by omega, ← Int.sub_mul]
    exact Int.dvd_trans (mod_sub _ _) (Int.dvd_mul_right _ _)
  · rw [if_neg e, sumF_congr (G := fun j => (if i = j then 1 else 0) * hs.getD j 0) fun j hj => by rw [deed_en h es hj, if_neg (fun q => e q.1.symm)], sumF_one _ _ _ hi, Int.sub_self]
    exact Int.dvd_zero _
theorem deed_hit {ss : List Int} {d : Nat × Nat × Int} (h : DIn ss d) : Hit ss (deedI ss d) := by
  intro i j s r hs hr
  rw [deed_en h hs (List.getElem?_eq_some_iff.mp hr).1]
  by_cases e : i = d.2.1 ∧ j = d.1
  · rw [if_pos e]
    obtain ⟨rfl, rfl⟩ := e
    have a := h.hit r s hr hs
    have b : s ∣ (d.2.2 % s - d.2.2) * r := Int.dvd_trans (mod_sub _ _) (Int.dvd_mul_right _ _)
    rw [Int.sub_mul] at b
    have := Int.dvd_add b a
    rwa [show ∀ x y : Int, x - y + y = x from fun x y => by omega] at this
  · rw [if_neg e]
    by_cases z : i = j
    · subst z
      rw [hs] at hr
      cases hr
      exact Int.dvd_mul_left _ _
    · rw [if_neg z, Int.zero_mul]
      exact Int.dvd_zero _
theorem still_hit (ss : List Int) : Hit ss (stillI ss.length) := by
  intro i j s r hs hr
  rw [still_en (List.getElem?_eq_some_iff.mp hs).1 (List.getElem?_eq_some_iff.mp hr).1]
  by_cases z : i = j
  · subst z
    rw [hs] at hr
    cases hr
    exact Int.dvd_mul_left _ _
  · rw [if_neg z, Int.zero_mul]
    exact Int.dvd_zero _
/-- the table of a program, deed by deed -/
def tabI (ss : List Int) (l : List (Nat × Nat × Int)) : List (List Int) := l.foldl (fun t d => bothI ss t (deedI ss d)) (stillI ss.length)
theorem tab_from {ss : List Int} {l : List (Nat × Nat × Int)} (hl : ∀ d ∈ l, DIn ss d) : ∀ {t : List (List Int)}, Sq ss.length t → Hit ss t → Sq ss.length (l.foldl (fun t d => bothI ss t (deedI ss d)) t) ∧ Hit ss (l.foldl (fun t d => bothI ss t (deedI ss d)) t) ∧ ∀ hs, COk ss hs → (∀ s ∈ ss, SizeOk s) → ledI ss (l.foldl (fun t d => bothI ss t (deedI ss d)) t) hs = runP ss l (ledI ss t hs) := by
  induction l with
  | nil => exact fun q h => ⟨q, h, fun _ _ _ => rfl⟩
  | cons d l ih =>
    intro t q h
    have dd := hl d List.mem_cons_self
    obtain ⟨a, b, c⟩ := ih (fun x hx => hl x (List.mem_cons_of_mem _ hx)) (t := bothI ss t (deedI ss d)) (both_sq (deed_sq dd)) (both_hit q (deed_sq dd) h (deed_hit dd))
    refine ⟨a, b, fun hs ch ok => ?_⟩
    have lc : COk ss (ledI ss t hs) := by
      refine ⟨led_len q, fun i x s ex es => ?_⟩
      have := led_getD q ch.len es
      rw [List.getD_eq_getElem?_getD, ex] at this
      obtain ⟨m, rfl, m2, _⟩ := (ok s (List.mem_of_getElem? es)).nat
      have e : x = (sumF ss.length fun j => en t i j * hs.getD j 0) % (m : Int) := this
      rw [e]
      exact ⟨Int.emod_nonneg _ (by omega), Int.emod_lt_of_pos _ (by omega)⟩
    show ledI ss (l.foldl (fun t d => bothI ss t (deedI ss d)) (bothI ss t (deedI ss d))) hs = runP ss l (doneI ss (ledI ss t hs) d)
    rw [c hs ch ok, led_both q (deed_sq dd) (deed_hit dd) ch.len, led_deed dd lc]
/-- the table of a program leads as the program does -/
theorem led_tab {ss : List Int} {l : List (Nat × Nat × Int)} (ok : ∀ s ∈ ss, SizeOk s) (hl : ∀ d ∈ l, DIn ss d) {hs : List Int} (h : COk ss hs) : ledI ss (tabI ss l) hs = runP ss l hs := by
  obtain ⟨_, _, c⟩ := tab_from hl (still_sq ss.length) (still_hit ss)
  unfold tabI
  rw [c hs h ok, led_still h]
end NA
namespace PySem
open Sem (wp)
open PyProof.Rows
open AutoSeq1 (wpAny_loadPart')
/-! ### t[::-1], t a tuple -/
section
variable {prog : Program} {w : World} {A : Around} {E : Value → Shared → Prop} {s : Shared}
theorem fields_ {sl : Addr} {o : Obj} {a b c : Value} {Q : Value × Value × Value → Shared → Prop} (ho : s.heap.get? sl = some o) (hd : o.data = .fields #[a, b, c]) (q : Q (a, b, c) s) : wpAny (model prog w) A (Builtin.Slice.sliceFields (.ref sl)) Q E s := by
  unfold Builtin.Slice.sliceFields
  obtain ⟨hp, gg, dr, tk, os⟩ := s
  obtain ⟨oc, od, odt, osl⟩ := o
  cases (show odt = _ from hd)
  wp_walk using wpAny_loadPart' ho
  exact q
theorem applied_rev {sl : Addr} {u : Tok} {n : Nat} {Q : Int × Int × Nat → Shared → Prop} (h : s.heap.IsSliceOf sl .none .none (.int (-1) u)) (q : Q ((n : Int) - 1, -1, n) s) :
    wpAny (model prog w) A (Builtin.Slice.sliceApplied (.ref sl) (pure (n : Int))) Q E s := by
  obtain ⟨o, ho, hc, hd⟩ := h
  unfold Builtin.Slice.sliceApplied
  refine wpAny_bind (fields_ ho hd ?_)
  dsimp only
  refine wpAny_bind (slicePart_int ?_)
  dsimp only [Option.getD]
  rw [if_neg (by decide)]
  refine wpAny_bind (slicePart_none (wpAny_bind (slicePart_none ?_)))
  refine wpAny_bind (wpAny_pure ?_)
  have e : Builtin.Slice.slicePlaces ((n : Int) - 1) (-1) (-1) = n := by
    unfold Builtin.Slice.slicePlaces
    rw [if_neg (by decide)]
    by_cases h : (n : Int) - 1 > -1
    · rw [if_pos h, show - (-1 : Int) = 1 from rfl, Int.ediv_one]
      omega
    · rw [if_neg h]
      omega
  have e2 : Builtin.Slice.sliceAdjust none none (-1) (n : Int) = ((n : Int) - 1, -1) := by
    unfold Builtin.Slice.sliceAdjust
    rfl
  rw [e2]
  dsimp only
  rw [e]
  exact wpAny_pure q
theorem fm_map {α β : Type} {f : α → Option β} {g : α → β} : ∀ (l : List α), (∀ k ∈ l, f k = some (g k)) → List.filterMap f l = l.map g
  | [], _ => rfl
  | x :: l, h => by
    rw [List.filterMap_cons, h x List.mem_cons_self, List.map_cons, fm_map l fun k hk => h k (List.mem_cons_of_mem _ hk)]
theorem rev_pick (items : Array Value) : (List.filterMap (fun k : Nat => items[((items.size : Int) - 1 + (k : Int) * -1).toNat]?) (List.range items.size)) = items.toList.reverse := by
  rw [fm_map (g := fun k => (items[items.size - 1 - k]?).getD .none)]
  · refine List.ext_getElem? fun i => ?_
    rw [List.getElem?_map]
    by_cases h : i < items.size
    · rw [List.getElem?_eq_getElem (by rw [List.length_range]; exact h), List.getElem_range, List.getElem?_reverse (by simpa using h), Array.getElem?_toList, Array.length_toList]
      show some ((items[items.size - 1 - i]?).getD .none) = _
      rw [Array.getElem?_eq_getElem (show items.size - 1 - i < items.size by omega)]
      rfl
    · rw [List.getElem?_eq_none (by rw [List.length_range]; omega), List.getElem?_eq_none (by simp; omega)]
      rfl
  · intro k hk
    have := List.mem_range.mp hk
    have z : ((items.size : Int) - 1 + (k : Int) * -1).toNat = items.size - 1 - k := by omega
    rw [z, Array.getElem?_eq_getElem (show items.size - 1 - k < items.size by omega)]
    rfl
theorem tuple_rev_meets (t sl : Addr) (items : Array Value) (u : Tok) (hl : items.size ≤ sizeLine) : Meets (Builtin.«tuple.__getitem__» ⟨[.ref t, .ref sl], []⟩)
    (fun _ R s => (IsTup s.heap t items ∧ s.heap.IsSliceOf sl .none .none (.int (-1) u)) ∧ R (.ok (.ret (.ref s.heap.objs.size))) { s with heap := s.heap.push { cls := .type "tuple", data := .seq items.toList.reverse.toArray } }) :=
  .of_wp fun prog w A R s h => by
    obtain ⟨⟨T, hs⟩, h⟩ := h
    have S := hs
    obtain ⟨o2, ho2, hc2, hd2⟩ := hs
    obtain ⟨oc, od, odt, osl⟩ := o2
    cases (show oc = _ from hc2)
    cases (show odt = _ from hd2)
    obtain ⟨hp, gg, dr, tk, os⟩ := s
    wp_walk using tupleItemsOf_ T, applied_rev S, wpAny_loadPart' ho2
    rw [rev_pick, if_neg (by simp; exact hl)]
    wp_walk
    exact ⟨_, rfl, h⟩
theorem getItem_tuple_rev {t sl : Addr} {items : Array Value} {u : Tok} {Q : Value → Shared → Prop} (T : IsTup s.heap t items) (hs : s.heap.IsSliceOf sl .none .none (.int (-1) u)) (hl : items.size ≤ sizeLine)
    (q : Q (.ref s.heap.objs.size) { s with heap := s.heap.push { cls := .type "tuple", data := .seq items.toList.reverse.toArray } }) : wpAny (model prog w) A (getItem (.ref t) (.ref sl)) Q E s := by
  have T2 := T
  obtain ⟨o, ho, hc, n, hd⟩ := T2
  exact getItem_meets (T := "tuple") ⟨o, ho, hc⟩ (by decide) slot_tuple_getitem entry_tuple_getitem (args_tuple_getitem _ _) (tuple_rev_meets t sl items u hl) ⟨⟨T, hs⟩, q⟩
end
end PySem
namespace NA
open PySem PySem.Spec PyProof.Rows L2
def tRevT (K : PySem.W.Frag) (te : TE) : TE := fun σ H Q => te σ H fun x H1 => ∃ a xs, x = .ref a ∧ SqT K H1 a xs ∧ ∀ p, H1 p = none → Q (.ref p) (upd H1 p (.tup xs.reverse))
theorem vals_app {xs ys : List V} {us vs : List Value} (a : Vals xs us) (b : Vals ys vs) : Vals (xs ++ ys) (us ++ vs) := by
  induction a with
  | nil => exact b
  | cons h _ ih => exact .cons h ih
theorem vals_rev {xs : List V} {us : List Value} (a : Vals xs us) : Vals xs.reverse us.reverse := by
  induction a with
  | nil => exact .nil
  | cons h _ ih =>
    rw [List.reverse_cons, List.reverse_cons]
    exact vals_app ih (.cons h .nil)
theorem pe_revT {X : Cx} (K : PySem.W.Frag) (hK : X.K = K) {e st : Expr} {te : TE} {pos p2 : Pos} (he : PE X e te) (hst : PE X st (tC (.int (-1)))) (hl : ∀ o r : Value, letTemporaryGo e o r = pure () := by intro _ _; rfl) : PE X (.Subscript e (.Slice none none (some st) p2) pos) (tRevT K te) := by
  subst hK
  refine ⟨fun pins s σ H Q I h => ?_⟩
  rw [arm_eval_Subscript]
  refine wpAny_bind (thn (he.run pins s σ H _ I h) fun v s1 ⟨x, H1, I1, rx, q1⟩ => ?_)
  obtain ⟨a, xs, rfl, ha, q⟩ := q1
  cases (show v = Value.ref a from rx)
  refine wpAny_bind (wpAny_holding (wpAny_Slice ?_))
  refine (show wpAny _ _ (pure Value.none) _ _ _ from wpAny_pure ?_)
  refine (show wpAny _ _ (pure Value.none) _ _ _ from wpAny_pure ?_)
  refine (show wpAny _ _ (eval st X.env) _ _ _ from thn (hst.run pins s1 σ H1 (fun y H2 => y = .int (-1) ∧ H2 = H1) I1 ⟨rfl, rfl⟩) fun u s2 ⟨y, H2, I2, ry, ey, eh⟩ => ?_)
  subst ey eh
  obtain ⟨t, rfl⟩ := (show ∃ t, u = Value.int (-1) t from ry)
  refine wpAny_bind (wpAny_standAt ?_)
  obtain ⟨its, rv, tp, hz⟩ := I2.tuple ha
  have T1 : IsTup s2.heap a its.toArray := tp
  have k1 : ∀ b o, s2.heap.get? b = some o → (s2.heap.push { cls := .type "slice", data := .fields #[.none, .none, .int (-1) t] }).get? b = some o := fun b o q => Heap.get?_push_of_some _ q
  have I3 := I2.kept (t' := s2.toks) k1
  obtain ⟨o, ho, hc, n, hd⟩ := T1
  have T3 : IsTup (s2.heap.push { cls := .type "slice", data := .fields #[.none, .none, .int (-1) t] }) a its.toArray := ⟨o, k1 _ _ ho, hc, n, hd⟩
  have hs : (s2.heap.push { cls := .type "slice", data := .fields #[.none, .none, .int (-1) t] }).IsSliceOf s2.heap.objs.size .none .none (.int (-1) t) := ⟨_, Heap.get?_push_size _ rfl, rfl, rfl⟩
  have lx := rv.length
  have hn : H2 (s2.heap.push { cls := .type "slice", data := .fields #[.none, .none, .int (-1) t] }).objs.size = none := I3.hok.fresh (Nat.le_refl _)
  have new : ObjOk X.prog X.w (upd H2 (s2.heap.push { cls := .type "slice", data := .fields #[.none, .none, .int (-1) t] }).objs.size (.tup xs.reverse)) ((s2.heap.push { cls := .type "slice", data := .fields #[.none, .none, .int (-1) t] }).push { cls := .type "tuple", data := .seq its.toArray.toList.reverse.toArray }) (s2.heap.push { cls := .type "slice", data := .fields #[.none, .none, .int (-1) t] }).objs.size (.tup xs.reverse) :=
    ⟨by rw [List.length_reverse]; exact hz, its.reverse, vals_rev rv, ⟨_, Heap.get?_push_size _ rfl, rfl, _, rfl⟩⟩
  have I4 := I3.turnedNew (t' := s2.toks) (ch := []) (h' := (s2.heap.push { cls := .type "slice", data := .fields #[.none, .none, .int (-1) t] }).push { cls := .type "tuple", data := .seq its.toArray.toList.reverse.toArray }) (fun b o _ q => Heap.get?_push_of_some _ q) (fun b hb => nomatch hb) (Nat.le_refl _) new
  exact tail_of_ItemOn (value := e) (slice := .Slice none none (some st) p2) (ops := [.ref a, .ref s2.heap.objs.size]) ⟨"tuple", "tuple.__getitem__", slot_tuple_getitem.1, ⟨o, k1 _ _ ho, hc⟩, getItem_tuple_rev T3 hs (by rw [List.size_toArray]; omega) ⟨V.ref (s2.heap.push { cls := .type "slice", data := .fields #[.none, .none, .int (-1) t] }).objs.size, _, I4, rfl, q _ hn⟩⟩ rfl (fun r => hl _ _)
theorem pe_m1 {X : Cx} {a : Expr} {pos : Pos} (ha : PE X a (tC (.int 1))) : PE X (.UnaryOp .USub a pos) (tC (.int (-1))) :=
  ⟨fun pins s σ H Q I h => (pe_un un_neg ha).run pins s σ H Q I ⟨1, rfl, h⟩⟩
end NA
namespace PySem
open Sem (wp)
open PyProof.Rows
open AutoSeq1 (wpAny_loadPart')
theorem tuple_mul1 (l : Addr) (items : Array Value) (n : Nat) (dd : Option Addr) (sl : Array (Option Value)) (u : Tok) : Meets (Builtin.«tuple.__mul__» ⟨[.ref l, .int 1 u], []⟩)
    (fun _ R s => s.heap.get? l = some { cls := .type "tuple", dict := dd, data := .seq items n, slots := sl } ∧ R (.ok (.ret (.ref l))) s) :=
  .of_wp fun prog w A R s h => by
    obtain ⟨ho, h⟩ := h
    have T : IsTup s.heap l items := ⟨_, ho, rfl, n, rfl⟩
    obtain ⟨hp, gg, dr, tk, os⟩ := s
    wp_walk using tupleItemsOf_ T, wpAny_loadPart' ho
    exact ⟨_, rfl, h⟩
end PySem
namespace NA
open PySem PySem.Spec PyProof.Rows L2
/-- t * k for k from 1 on: t itself, or a new tuple -/
def rRepA (K : PySem.W.Frag) : R2 := fun x y H Q => ∃ l k xs, x = .ref l ∧ y = .int k ∧ SqT K H l xs ∧ xs ≠ [] ∧ 1 ≤ k ∧ k ≤ 1000 ∧ xs.length ≤ 1000 ∧ (k = 1 → Q (.ref l) H) ∧ (k ≠ 1 → ∀ p, H p = none → Q (.ref p) (upd H p (.tup (List.replicate k.toNat xs).flatten)))
theorem op_repA {X : Cx} (K : PySem.W.Frag) (hK : X.K = K) : OpR X (binaryOp .Mult) (rRepA K) := by
  subst hK
  intro pins s σ H x y v u Q I rx ry h
  obtain ⟨l, k, xs, rfl, rfl, hT, ne, k1, k2, l2, q1, q2⟩ := h
  by_cases e : k = 1
  · subst e
    cases (show v = Value.ref l from rx)
    obtain ⟨t, rfl⟩ := (show ∃ t, u = Value.int 1 t from ry)
    obtain ⟨its, rv, tp, hz⟩ := I.tuple hT
    obtain ⟨o, ho, hc, n, hd⟩ := tp
    obtain ⟨oc, dd, odt, sl⟩ := o
    cases (show oc = _ from hc)
    cases (show odt = _ from hd)
    refine wpAny_binaryOp_repeat_ref (T := "tuple") (U := "int") (by decide) ⟨_, ho, rfl⟩ (fun s' => typeIs_int s' 1 t) noFill_tuple_mul F.fills_int_mul F.slot_int_rmul repeat_tuple F.slot_int_index.lookup ?_
    refine call_meets F.slot_int_rmul (typeIs_int s 1 t) F.entry_int_rmul (F.args_int_rmul_2 _ _) (int_rmul_tuple 1 t l its.toArray n dd sl) ⟨ho, rfl, ⟨_, ho, rfl⟩, ?_⟩
    exact call_meets F.slot_tuple_mul ⟨_, ho, rfl⟩ F.entry_tuple_mul (F.args_tuple_mul_2 _ _) (tuple_mul1 l its.toArray n dd sl t) ⟨ho, .ref l, H, I, rfl, q1 rfl⟩
  · exact op_repT pins s σ H (.ref l) (.int k) v u Q I rx ry ⟨l, k, xs, rfl, rfl, hT, ne, by omega, k2, l2, q2 e⟩
theorem rep_any {K : PySem.W.Frag} {l : Addr} {k : Int} {xs : List V} {H : Hp} {Q : VK} (h : H l = some (.tup xs)) (ne : xs ≠ []) (k1 : 1 ≤ k) (k2 : k ≤ 1000) (l2 : xs.length ≤ 1000) (q : ∀ c H', Same H H' → H' c = some (.tup (List.replicate k.toNat xs).flatten) → Q (.ref c) H') : rRepA K (.ref l) (.int k) H Q :=
  ⟨l, k, xs, rfl, rfl, SqT.of h, ne, k1, k2, l2, fun e => q l H (Same.refl H) (by
    subst e
    rw [h]
    simp), fun _ p n => q p _ (Same.new (Same.refl H) n) upd_same⟩
end NA
namespace NA
theorem take_get2 {α : Type} {l : List α} {i : Nat} {x : α} (h : l[i]? = some x) : l.take (i + 1) = l.take i ++ [x] := by
  rw [List.take_add_one, h]
  rfl
/-! ### sums and multiples of contents, deeds put together -/
def mulI (ns : List Int) (c : Int) : List Int := ns.map fun n => n * c
theorem mulI_getD (ns : List Int) (c : Int) (i : Nat) : (mulI ns c).getD i 0 = ns.getD i 0 * c := by
  unfold mulI
  rw [List.getD_eq_getElem?_getD, List.getD_eq_getElem?_getD, List.getElem?_map]
  cases ns[i]? with
  | none => show (0 : Int) = 0 * c; rw [Int.zero_mul]
  | some x => rfl
theorem mulI_len (ns : List Int) (c : Int) : (mulI ns c).length = ns.length := List.length_map ..
theorem add_mulI {ns : List Int} {d : Nat × Nat × Int} {c : Int} (hi : d.2.1 < ns.length) : addI (mulI ns c) d = mulI (addI ns d) c := by
  refine ext_getD (by rw [addI_len, mulI_len, mulI_len, addI_len]) fun k hk => ?_
  rw [addI_getD (by rw [mulI_len]; exact hi), mulI_getD, mulI_getD, mulI_getD, mulI_getD, addI_getD hi]
  by_cases e : d.2.1 = k
  · rw [if_pos e, if_pos e, Int.add_mul, Int.mul_assoc]
  · rw [if_neg e, if_neg e]
theorem far_mul {l : List (Nat × Nat × Int)} {c : Int} : ∀ {ns : List Int}, (∀ d ∈ l, d.2.1 < ns.length) → farI l (mulI ns c) = mulI (farI l ns) c := by
  induction l with
  | nil => exact fun _ => rfl
  | cons d l ih =>
    intro ns hl
    show farI l (addI (mulI ns c) d) = mulI (farI l (addI ns d)) c
    rw [add_mulI (hl d List.mem_cons_self)]
    exact ih fun x hx => by rw [addI_len]; exact hl x (List.mem_cons_of_mem _ hx)
theorem cg_sum {ss ns ms ks ls : List Int} (a : Cg ss ns ks) (b : Cg ss ms ls) : Cg ss (sumI ns ms) (sumI ks ls) := by
  refine ⟨sumI_len a.l1 b.l1, sumI_len a.l2 b.l2, fun i s e => ?_⟩
  rw [sumI_getD (by rw [a.l1, b.l1]), sumI_getD (by rw [a.l2, b.l2])]
  have := Int.dvd_add (a.alike i s e) (b.alike i s e)
  rwa [show ∀ x y z u : Int, x - y + (z - u) = x + z - (y + u) from fun x y z u => by omega] at this
theorem cg_mul {ss ns ms : List Int} (a : Cg ss ns ms) (c : Int) : Cg ss (mulI ns c) (mulI ms c) := by
  refine ⟨by rw [mulI_len, a.l1], by rw [mulI_len, a.l2], fun i s e => ?_⟩
  rw [mulI_getD, mulI_getD, ← Int.sub_mul]
  exact Int.dvd_trans (a.alike i s e) (Int.dvd_mul_right _ _)
/-- of a sum the sum -/
theorem runP_sum {ss : List Int} (ok : ∀ s ∈ ss, SizeOk s) {l : List (Nat × Nat × Int)} (hl : ∀ d ∈ l, DIn ss d) {a b : List Int} (ha : COk ss a) (hb : COk ss b) : runP ss l (remI (sumI a b) ss) = remI (sumI (runP ss l a) (runP ss l b)) ss := by
  have ls := sumI_len ha.len hb.len
  rw [runP_eq ok hl (rem_cok ok ls) (cg_rem ls)]
  unfold runI
  rw [far_sum (by rw [ha.len, hb.len]) fun d hd => by rw [ha.len]; exact (hl d hd).li]
  exact (cg_sum (runP_cg hl (Cg.refl ha.len)) (runP_cg hl (Cg.refl hb.len))).symm.rem
/-- of a multiple the multiple -/
theorem runP_mul {ss : List Int} (ok : ∀ s ∈ ss, SizeOk s) {l : List (Nat × Nat × Int)} (hl : ∀ d ∈ l, DIn ss d) {a : List Int} (ha : COk ss a) (c : Int) : runP ss l (remI (mulI a c) ss) = remI (mulI (runP ss l a) c) ss := by
  have ls : (mulI a c).length = ss.length := by rw [mulI_len, ha.len]
  rw [runP_eq ok hl (rem_cok ok ls) (cg_rem ls)]
  unfold runI
  rw [far_mul fun d hd => by rw [ha.len]; exact (hl d hd).li]
  exact (cg_mul (runP_cg hl (Cg.refl ha.len)) c).symm.rem
/-- of noughts noughts -/
theorem runP_zero {ss : List Int} (ok : ∀ s ∈ ss, SizeOk s) {l : List (Nat × Nat × Int)} (hl : ∀ d ∈ l, DIn ss d) : runP ss l (List.replicate ss.length 0) = List.replicate ss.length 0 := by
  have z : COk ss (List.replicate ss.length 0) := ⟨List.length_replicate .., fun i h s e1 e2 => by
    have li := (List.getElem?_eq_some_iff.mp e2).1
    rw [List.getElem?_replicate, if_pos li] at e1
    cases e1
    obtain ⟨m, rfl, m2, _⟩ := (ok s (List.mem_of_getElem? e2)).nat
    omega⟩
  have e : remI (mulI (List.replicate ss.length 0) 0) ss = List.replicate ss.length 0 := by
    have : mulI (List.replicate ss.length 0) 0 = List.replicate ss.length 0 := by
      unfold mulI
      rw [List.map_replicate]
      rfl
    rw [this]
    exact rem_of z
  have h := runP_mul ok hl z 0
  rw [e] at h
  rw [h]
  refine ext_getD ?_ fun i hi => ?_
  · rw [remI_length (by rw [mulI_len, (runP_cok ok z).len]), List.length_replicate]
  · rw [remI_length (by rw [mulI_len, (runP_cok ok z).len])] at hi
    obtain ⟨s, es⟩ := get_some hi
    rw [remI_getD (by rw [mulI_len, (runP_cok ok z).len]) es, mulI_getD, Int.mul_zero, Int.zero_emod, List.getD_eq_getElem?_getD, List.getElem?_replicate, if_pos hi]
    rfl
/-- only the rest of the factor counts -/
theorem done_more {ss hs : List Int} {j i : Nat} {c k s : Int} (h : DIn ss (j, i, c)) (ch : COk ss hs) (es : ss[i]? = some s) : doneI ss hs (j, i, c + k * s) = doneI ss hs (j, i, c) := by
  unfold doneI
  refine Cg.rem ⟨by rw [addI_len, ch.len], by rw [addI_len, ch.len], fun t r e => ?_⟩
  rw [addI_getD (by rw [ch.len]; exact h.li), addI_getD (by rw [ch.len]; exact h.li)]
  by_cases z : i = t
  · subst z
    rw [es] at e
    cases e
    rw [if_pos rfl, if_pos rfl]
    refine ⟨k * hs.getD j 0, ?_⟩
    show hs.getD i 0 + (c + k * s) * hs.getD j 0 - (hs.getD i 0 + c * hs.getD j 0) = s * (k * hs.getD j 0)
    rw [Int.add_mul, show s * (k * hs.getD j 0) = k * s * hs.getD j 0 by rw [Int.mul_comm k s, Int.mul_assoc]]
    omega
  · rw [if_neg z, if_neg z, Int.sub_self]
    exact Int.dvd_zero _
/-- two deeds on one wire do what one with the sum does -/
theorem run_two {ss hs : List Int} (ok : ∀ s ∈ ss, SizeOk s) {j i : Nat} {c e : Int} (h1 : DIn ss (j, i, c)) (h2 : DIn ss (j, i, e)) (ch : COk ss hs) : runP ss [(j, i, c), (j, i, e)] hs = doneI ss hs (j, i, c + e) := by
  rw [runP_eq ok (fun d hd => by
    rcases List.mem_cons.mp hd with z | hd
    · rw [z]; exact h1
    · rw [List.mem_singleton.mp hd]; exact h2) ch (Cg.refl ch.len)]
  unfold runI doneI
  congr 1
  show addI (addI hs (j, i, c)) (j, i, e) = _
  have li : i < hs.length := by rw [ch.len]; exact h1.li
  refine ext_getD (by rw [addI_len, addI_len, addI_len]) fun k hk => ?_
  rw [addI_getD (by rw [addI_len]; exact li), addI_getD li, addI_getD li, addI_getD li, addI_getD li]
  have ne : i ≠ j := Ne.symm h1.ne
  by_cases z : i = k
  · rw [if_pos z, if_pos rfl, if_neg ne, if_pos z]
    show hs.getD i 0 + c * hs.getD j 0 + e * hs.getD j 0 = hs.getD i 0 + (c + e) * hs.getD j 0
    rw [Int.add_mul]
    omega
  · rw [if_neg z, if_neg z, if_neg z]
/-- deeds neither of which takes where the other gives change places -/
theorem run_swap {ss hs : List Int} (ok : ∀ s ∈ ss, SizeOk s) {d e : Nat × Nat × Int} (h1 : DIn ss d) (h2 : DIn ss e) (n1 : e.2.1 ≠ d.1) (n2 : e.1 ≠ d.2.1) (ch : COk ss hs) : runP ss [d, e] hs = runP ss [e, d] hs := by
  have two : ∀ {a b : Nat × Nat × Int}, DIn ss a → DIn ss b → ∀ x ∈ [a, b], DIn ss x := fun ha hb x hx => by
    rcases List.mem_cons.mp hx with z | hx
    · rw [z]; exact ha
    · rw [List.mem_singleton.mp hx]; exact hb
  rw [runP_eq ok (two h1 h2) ch (Cg.refl ch.len), runP_eq ok (two h2 h1) ch (Cg.refl ch.len)]
  unfold runI
  congr 1
  show addI (addI hs d) e = addI (addI hs e) d
  have l1 : d.2.1 < hs.length := by rw [ch.len]; exact h1.li
  have l2 : e.2.1 < hs.length := by rw [ch.len]; exact h2.li
  refine ext_getD (by rw [addI_len, addI_len, addI_len, addI_len]) fun k hk => ?_
  rw [addI_getD (by rw [addI_len]; exact l2), addI_getD (ns := addI hs e) (by rw [addI_len]; exact l1), addI_getD l1, addI_getD l1, addI_getD l1, addI_getD l2, addI_getD l2, addI_getD l2]
  rw [if_neg (c := d.2.1 = e.1) (Ne.symm n2), if_neg (c := e.2.1 = d.1) n1]
  by_cases a : d.2.1 = k <;> by_cases b : e.2.1 = k
  · have z : d.2.1 = e.2.1 := a.trans b.symm
    rw [if_pos b, if_pos a, if_pos z, if_pos z.symm, z]
    omega
  · have z : ¬ d.2.1 = e.2.1 := fun q => b (q ▸ a)
    rw [if_neg b, if_pos a, if_pos a, if_neg (fun q => z q.symm)]
  · have z : ¬ d.2.1 = e.2.1 := fun q => a (q ▸ b)
    rw [if_pos b, if_neg z, if_neg a, if_pos b]
  · rw [if_neg b, if_neg a, if_neg a, if_neg b]
end NA
namespace NA
/-! ### good tables, powers -/
structure GT (ss : List Int) (t : List (List Int)) : Prop where
  sq : Sq ss.length t
  low : Low ss t
  hit : Hit ss t
theorem TOk.gt {ss : List Int} {t : List (List Int)} (h : TOk ss t) : GT ss t := ⟨h.sq, h.lowE, h.hit⟩
theorem GT.still {ss : List Int} (ok : ∀ s ∈ ss, SizeOk s) : GT ss (stillI ss.length) := (TOk.still ok).gt
theorem GT.both {ss : List Int} {one other : List (List Int)} (ok : ∀ s ∈ ss, SizeOk s) (a : GT ss one) (b : GT ss other) : GT ss (bothI ss one other) := ⟨both_sq b.sq, both_low ok a.sq b.sq, both_hit a.sq b.sq a.hit b.hit⟩
theorem GT.deed {ss : List Int} (ok : ∀ s ∈ ss, SizeOk s) {d : Nat × Nat × Int} (h : DIn ss d) : GT ss (deedI ss d) := by
  refine ⟨deed_sq h, fun i j s hs hj => ?_, deed_hit h⟩
  rw [deed_en h hs hj]
  obtain ⟨m, rfl, m2, _⟩ := (ok s (List.mem_of_getElem? hs)).nat
  split
  · exact ⟨Int.emod_nonneg _ (by omega), Int.emod_lt_of_pos _ (by omega)⟩
  · split <;> omega
theorem GT.led {ss : List Int} {t : List (List Int)} {hs : List Int} (ok : ∀ s ∈ ss, SizeOk s) (h : GT ss t) (c : COk ss hs) : COk ss (ledI ss t hs) := by
  refine ⟨led_len h.sq, fun i x s ex es => ?_⟩
  have := led_getD h.sq c.len es
  rw [List.getD_eq_getElem?_getD, ex] at this
  obtain ⟨m, rfl, m2, _⟩ := (ok s (List.mem_of_getElem? es)).nat
  have e : x = (sumF ss.length fun j => en t i j * hs.getD j 0) % (m : Int) := this
  rw [e]
  exact ⟨Int.emod_nonneg _ (by omega), Int.emod_lt_of_pos _ (by omega)⟩
theorem GT.sh {ss : List Int} {t : List (List Int)} (ok : ∀ s ∈ ss, SizeOk s) (h : GT ss t) : TSh ss.length t := by
  refine ⟨h.sq.len, h.sq.row, fun r hr n hn => ?_⟩
  obtain ⟨i, hi, rfl⟩ := List.getElem_of_mem hr
  obtain ⟨j, hj, rfl⟩ := List.getElem_of_mem hn
  have li : i < ss.length := by rw [← h.sq.len]; exact hi
  have lj : j < ss.length := by rw [← h.sq.row _ (List.getElem_mem hi)]; exact hj
  obtain ⟨s, es⟩ := get_some li
  have e : en t i j = t[i][j] := by
    rw [en_of (List.getElem?_eq_getElem hi), List.getD_eq_getElem?_getD, List.getElem?_eq_getElem hj]
    rfl
  obtain ⟨a, b⟩ := h.low i j s es lj
  obtain ⟨m, rfl, _, m30⟩ := (ok s (List.mem_of_getElem? es)).nat
  rw [e] at a b
  exact Nat.lt_of_le_of_lt (show t[i][j].natAbs ≤ 10 ^ 30 by omega) (by decide)
def powI (ss : List Int) (t : List (List Int)) : Nat → List (List Int)
  | 0 => stillI ss.length
  | k + 1 => bothI ss (powI ss t k) t
section
variable {ss : List Int} {t : List (List Int)}
theorem powI_gt (ok : ∀ s ∈ ss, SizeOk s) (h : GT ss t) : ∀ k, GT ss (powI ss t k)
  | 0 => GT.still ok
  | k + 1 => GT.both ok (powI_gt ok h k) h
theorem powI_add (ok : ∀ s ∈ ss, SizeOk s) (h : GT ss t) (a : Nat) : ∀ b, bothI ss (powI ss t a) (powI ss t b) = powI ss t (a + b)
  | 0 => both_still (powI_gt ok h a).sq (powI_gt ok h a).low
  | b + 1 => by
    show bothI ss (powI ss t a) (bothI ss (powI ss t b) t) = bothI ss (powI ss t (a + b)) t
    rw [← both_assoc (powI_gt ok h a).sq (powI_gt ok h b).sq h.sq h.hit, powI_add ok h a b]
theorem powI_one (ok : ∀ s ∈ ss, SizeOk s) (h : GT ss t) : powI ss t 1 = t := still_both h.sq h.low
theorem powI_mul (ok : ∀ s ∈ ss, SizeOk s) (h : GT ss t) (k : Nat) : ∀ m, powI ss (powI ss t k) m = powI ss t (k * m)
  | 0 => by rw [Nat.mul_zero]; rfl
  | m + 1 => by
    show bothI ss (powI ss (powI ss t k) m) (powI ss t k) = _
    rw [powI_mul ok h k m, powI_add ok h, Nat.mul_succ]
theorem powI_two (ok : ∀ s ∈ ss, SizeOk s) (h : GT ss t) (m : Nat) : powI ss (bothI ss t t) m = powI ss t (2 * m) := by
  have e : bothI ss t t = powI ss t 2 := by
    show bothI ss t t = bothI ss (powI ss t 1) t
    rw [powI_one ok h]
  rw [e, powI_mul ok h]
theorem powI_succ' (ok : ∀ s ∈ ss, SizeOk s) (h : GT ss t) (k : Nat) : bothI ss t (powI ss t k) = powI ss t (k + 1) := by
  have := powI_add ok h 1 k
  rw [powI_one ok h] at this
  rw [this, Nat.add_comm]
theorem led_pow (ok : ∀ s ∈ ss, SizeOk s) (h : GT ss t) (k : Nat) {hs : List Int} (c : COk ss hs) : ledI ss (powI ss t (k + 1)) hs = ledI ss t (ledI ss (powI ss t k) hs) := led_both (powI_gt ok h k).sq h.sq h.hit c.len
/-- one deed more in front of the table -/
theorem tabI_gt (ok : ∀ s ∈ ss, SizeOk s) {l : List (Nat × Nat × Int)} (hl : ∀ d ∈ l, DIn ss d) : GT ss (tabI ss l) := by
  unfold tabI
  have : ∀ (l : List (Nat × Nat × Int)), (∀ d ∈ l, DIn ss d) → ∀ t, GT ss t → GT ss (l.foldl (fun t d => bothI ss t (deedI ss d)) t) := by
    intro l
    induction l with
    | nil => exact fun _ t h => h
    | cons d l ih => exact fun hl t h => ih (fun x hx => hl x (List.mem_cons_of_mem _ hx)) _ (GT.both ok h (GT.deed ok (hl d List.mem_cons_self)))
  exact this l hl _ (GT.still ok)
theorem tab_from2 (ok : ∀ s ∈ ss, SizeOk s) : ∀ {l : List (Nat × Nat × Int)}, (∀ d ∈ l, DIn ss d) → ∀ {t : List (List Int)}, GT ss t → l.foldl (fun t d => bothI ss t (deedI ss d)) t = bothI ss t (tabI ss l)
  | [], _, t, h => (both_still h.sq h.low).symm
  | d :: l, hl, t, h => by
    have dd := GT.deed ok (hl d List.mem_cons_self)
    have hl' : ∀ x ∈ l, DIn ss x := fun x hx => hl x (List.mem_cons_of_mem _ hx)
    have gt := tabI_gt ok hl'
    show l.foldl (fun t d => bothI ss t (deedI ss d)) (bothI ss t (deedI ss d)) = bothI ss t (l.foldl (fun t d => bothI ss t (deedI ss d)) (bothI ss (stillI ss.length) (deedI ss d)))
    rw [tab_from2 ok hl' (GT.both ok h dd), tab_from2 ok hl' (GT.both ok (GT.still ok) dd), still_both dd.sq dd.low, both_assoc h.sq dd.sq gt.sq gt.hit]
/-- the table of two programs one behind the other -/
theorem tab_app (ok : ∀ s ∈ ss, SizeOk s) {l m : List (Nat × Nat × Int)} (hl : ∀ d ∈ l, DIn ss d) (hm : ∀ d ∈ m, DIn ss d) : tabI ss (l ++ m) = bothI ss (tabI ss l) (tabI ss m) := by
  have e : tabI ss (l ++ m) = m.foldl (fun t d => bothI ss t (deedI ss d)) (tabI ss l) := List.foldl_append
  rw [e, tab_from2 ok hm (tabI_gt ok hl)]
end
end NA
namespace NA
open PySem PySem.Spec PyProof.Rows L2
/-! ### the program's functions: small facts, levels -/
theorem Cal.up {P : Program} {w : World} {K : PySem.W.Frag} {mg : Str → Option Value} {base : Heap} {x : Str} {k j : Nat} {sp : Sp} (h : k ≤ j) (c : Cal P w K mg base k x sp) : Cal P w K mg base j x sp := by
  obtain ⟨a, fd, ps, F, r⟩ := c.ex
  exact ⟨a, fd, ps, ⟨F.len, fun A outer s H args us vs Q E hr he hb hv h' => F.run A outer s H args us vs Q E (hr.mono h) he hb hv h'⟩, r⟩
theorem CalK.up {P : Program} {w : World} {K : PySem.W.Frag} {mg : Str → Option Value} {base : Heap} {x : Str} {k j : Nat} {sp : Sp} {ks : List Str} {gV : List V → List V → List V} (h : k ≤ j) (c : CalK P w K mg base k x sp ks gV) : CalK P w K mg base j x sp ks gV := by
  obtain ⟨a, fd, ps, g, F, r⟩ := c.ex
  exact ⟨a, fd, ps, g, ⟨F.len, fun A outer s H args us vs Q E hr he hb hv h' => F.run A outer s H args us vs Q E (hr.mono h) he hb hv h'⟩, r⟩
theorem doneI_set {ss hs : List Int} (ok : ∀ s ∈ ss, SizeOk s) (h : COk ss hs) {d : Nat × Nat × Int} {s : Int} (e : ss[d.2.1]? = some s) : doneI ss hs d = hs.set d.2.1 ((hs.getD d.2.1 0 + d.2.2 * hs.getD d.1 0) % s) := by
  have li := (List.getElem?_eq_some_iff.mp e).1
  have l1 : (addI hs d).length = ss.length := by rw [addI_len, h.len]
  unfold doneI
  refine ext_getD (by rw [remI_length l1, List.length_set, h.len]) fun i hi => ?_
  rw [remI_length l1] at hi
  obtain ⟨t, et⟩ := get_some hi
  rw [remI_getD l1 et, addI_getD (by rw [h.len]; exact li), getD_set (by rw [h.len]; exact li)]
  by_cases z : d.2.1 = i
  · subst z
    rw [if_pos rfl, if_pos rfl]
    rw [e] at et
    cases et
    rfl
  · rw [if_neg z, if_neg z]
    obtain ⟨x, ex⟩ := get_some (show i < hs.length by rw [h.len]; exact hi)
    obtain ⟨a, b⟩ := h.low i x t ex et
    rw [List.getD_eq_getElem?_getD, ex]
    exact Int.emod_eq_of_lt a b
theorem runP_next {ss : List Int} {l : List (Nat × Nat × Int)} {hs : List Int} {i : Nat} {d : Nat × Nat × Int} (h : l[i]? = some d) : runP ss (l.take (i + 1)) hs = doneI ss (runP ss (l.take i) hs) d := by
  unfold runP
  rw [List.take_add_one, h, List.foldl_append]
  rfl
theorem COk.most {ss hs : List Int} (ok : ∀ s ∈ ss, SizeOk s) (h : COk ss hs) (i : Nat) : (hs.getD i 0).natAbs < 2 ^ 110 := by
  rw [List.getD_eq_getElem?_getD]
  cases e : hs[i]? with
  | none => exact Nat.pow_pos (by decide)
  | some x =>
    have li := (List.getElem?_eq_some_iff.mp e).1
    obtain ⟨s, es⟩ := get_some (show i < ss.length by rw [← h.len]; exact li)
    obtain ⟨a, b⟩ := h.low i x s e es
    obtain ⟨m, rfl, _, d⟩ := (ok s (List.mem_of_getElem? es)).nat
    exact Nat.lt_of_le_of_lt (show x.natAbs ≤ 10 ^ 30 by omega) (by decide)
end NA
namespace NA
open PySem
open Sem (wp)
abbrev ZObj (f0 : Value) (b : Bool) (TI TO : Addr) : Obj := { cls := .type "zip", dict := none, data := .fields #[f0, .bool b, .bool false, .ref TI, .ref TO], slots := #[] }
abbrev IsTupN (h : Heap) (T : Addr) (vs : List Value) : Prop := h.get? T = some { cls := .type "tuple", data := .seq vs.toArray }
def Srcs (h : Heap) (B : Addr) (ts : List (Addr × Array Value)) (i m : Nat) : Prop := ∀ (k : Nat) (t : Addr) (its : Array Value), ts[k]? = some (t, its) → t < B ∧ h.IsTupleIter (B + k) t (if k < m then i + 1 else i) ∧ h.IsTuple t its
abbrev itRefs (B : Addr) (n : Nat) : List Value := (List.range n).map fun k => Value.ref (B + k)
def colV (ts : List (Addr × Array Value)) (i : Nat) : List Value := ts.map fun t => t.2.getD i .none
section
variable {prog : Program} {w : World} {A : Around} {E : Value → Shared → Prop} {s : Shared}
theorem wpAny_loadAlive {a : Addr} {Q : Option Obj → Shared → Prop} (h : Q (s.heap.get? a) s) : wpAny (model prog w) A (loadIfAlive a) Q E s := fun Γ p hΓ => by
  unfold loadIfAlive
  rw [Sem.wp_loadIfAlive]
  exact (wpAny_pure h) Γ p hΓ
theorem srcs_get {h : Heap} {B : Addr} {ts : List (Addr × Array Value)} {i m k : Nat} (S : Srcs h B ts i m) (hk : k < ts.length) : ∃ t its, ts[k]? = some (t, its) ∧ t < B ∧ h.IsTupleIter (B + k) t (if k < m then i + 1 else i) ∧ h.IsTuple t its :=
  ⟨ts[k].1, ts[k].2, by rw [List.getElem?_eq_getElem hk], S k _ _ (by rw [List.getElem?_eq_getElem hk])⟩
theorem drop_refs {B n m : Nat} {x : Value} {rest : List Value} (h : x :: rest = (itRefs B n).drop m) : m < n ∧ x = .ref (B + m) ∧ rest = (itRefs B n).drop (m + 1) := by
  have l : m < n := Nat.lt_of_not_le fun z => by
    rw [List.drop_eq_nil_of_le (by simp [itRefs]; exact z)] at h
    cases h
  rw [List.drop_eq_getElem_cons (by simp [itRefs]; exact l)] at h
  cases h
  exact ⟨l, by simp [itRefs], rfl⟩
theorem srcs_step {h h' : Heap} {B : Addr} {ts : List (Addr × Array Value)} {i m : Nat} {t : Addr} {its : Array Value} (S : Srcs h B ts i m) (e : ts[m]? = some (t, its)) (hi : h'.IsTupleIter (B + m) t (i + 1)) (hs : Heap.SameBut (B + m) h h') : Srcs h' B ts i (m + 1) := fun k t' its' e' => by
  obtain ⟨a, b, c⟩ := S k t' its' e'
  have lt : t' ≠ B + m := Nat.ne_of_lt (Nat.lt_of_lt_of_le a (Nat.le_add_right B m))
  refine ⟨a, ?_, c.extBut hs.extBut lt⟩
  by_cases q : k = m
  · subst q
    rw [e] at e'
    cases e'
    rw [if_pos (Nat.lt_succ_self k)]
    exact hi
  · have b' := b.extBut hs.extBut (fun z => q (Nat.add_left_cancel z))
    by_cases z : k < m
    · rw [if_pos z] at b'
      rw [if_pos (by omega)]
      exact b'
    · rw [if_neg z] at b'
      rw [if_neg (by omega)]
      exact b'
theorem srcs_all {h : Heap} {B : Addr} {ts : List (Addr × Array Value)} {i : Nat} (S : Srcs h B ts i ts.length) : Srcs h B ts (i + 1) 0 := fun k t its e => by
  obtain ⟨a, b, c⟩ := S k t its e
  rw [if_pos (List.getElem?_eq_some_iff.mp e).1] at b
  exact ⟨a, by rw [if_neg (Nat.not_lt_zero k)]; exact b, c⟩
theorem srcs_keep {h h' : Heap} {B : Addr} {ts : List (Addr × Array Value)} {i m : Nat} (S : Srcs h B ts i m) (hk : ∀ c o, c < B + ts.length → h.get? c = some o → h'.get? c = some o) : Srcs h' B ts i m := fun k t its e => by
  obtain ⟨a, b, c⟩ := S k t its e
  have lk := (List.getElem?_eq_some_iff.mp e).1
  exact ⟨a, b.at fun o q => hk _ _ (Nat.add_lt_add_left lk B) q, c.at fun o q => hk _ _ (Nat.lt_of_lt_of_le a (Nat.le_add_right B _)) q⟩
theorem colV_take {ts : List (Addr × Array Value)} {i m : Nat} {t : Addr} {its : Array Value} {x : Value} (e : ts[m]? = some (t, its)) (hx : its[i]? = some x) : (colV ts i).take (m + 1) = (colV ts i).take m ++ [x] := by
  unfold colV
  rw [List.take_add_one, List.getElem?_map, e]
  simp [Array.getD, hx]
  obtain ⟨l, g⟩ := Array.getElem?_eq_some_iff.mp hx
  simp [l, g]
theorem zipN_slow {B z TI TO a : Addr} {b : Bool} {ts : List (Addr × Array Value)} {i n : Nat} {Q : Value → Shared → Prop}
    (hz : s.heap.get? z = some (ZObj (rawInt a) b TI TO)) (hTI : IsTupN s.heap TI (itRefs B ts.length)) (ha : ∃ o, s.heap.get? a = some o) (S : Srcs s.heap B ts i 0) (hi : i < n) (hn : ∀ t ∈ ts, t.2.size = n)
    (hlen : ts.length ≤ sizeLine) (ne : ts ≠ []) (hzB : B + ts.length ≤ z) (hTB : B + ts.length ≤ TI) (zT : TI ≠ z)
    (hQ : ∀ h', h'.get? z = some (ZObj (rawInt a) true TI TO) → Srcs h' B ts (i + 1) 0 → IsTupN h' s.heap.objs.size (colV ts i) → h'.objs.size = s.heap.objs.size + 1 →
      (∀ c o, c ≠ z → (c < B ∨ B + ts.length ≤ c) → s.heap.get? c = some o → h'.get? c = some o) → Q (.ref s.heap.objs.size) { s with heap := h' }) :
    wpAny (model prog w) A (Builtin.«zip.__next__» ⟨[.ref z], []⟩) (fun fin s' => ∃ v, fin = .done (.ret v) ∧ Q v s') E s := by
  show wpAny _ _ (field (.ref z) 2 >>= _) _ _ _
  refine wpAny_bind (wpAny_field hz rfl (x := .bool false) rfl ?_)
  show wpAny _ _ (field (.ref z) 3 >>= _) _ _ _
  refine wpAny_bind (wpAny_field hz rfl (x := .ref TI) rfl ?_)
  refine wpAny_bind (wpAny_seqItems hTI rfl ?_)
  dsimp only
  have hne : (itRefs B ts.length).toArray.isEmpty = false := by
    cases ts with
    | nil => exact absurd rfl ne
    | cons x xs => simp [itRefs]
  rw [if_neg (by rw [hne]; exact Bool.false_ne_true)]
  have free : wpAny (model prog w) A (Builtin.SmallTypes.ownedTupleIsFree (.ref z)) (fun r s' => r = false ∧ ∃ h1, s' = { s with heap := h1 } ∧ h1.get? z = some (ZObj (rawInt a) true TI TO) ∧ Heap.SameBut z s.heap h1) E s := by
    unfold Builtin.SmallTypes.ownedTupleIsFree
    refine wpAny_bind (wpAny_field hz rfl (x := rawInt a) rfl ?_)
    unfold rawInt
    dsimp only
    refine wpAny_bind (wpAny_loadAlive ?_)
    obtain ⟨oa, hoa⟩ := ha
    rw [Int.toNat_natCast, hoa]
    simp only [Option.isNone_some, Bool.false_eq_true, if_false]
    refine wpAny_bind (wpAny_field hz rfl (x := .bool b) rfl ?_)
    cases b with
    | true => exact wpAny_pure ⟨rfl, s.heap, rfl, hz, Heap.SameBut.refl ..⟩
    | false =>
      rw [if_pos (by decide)]
      refine wpAny_bind (wpAny_setField_rec hz (by simp) fun h1 hz1 hs1 => wpAny_pure ⟨rfl, h1, rfl, hz1, hs1⟩)
  refine wpAny_bind (wpAny_mono free (fun r s' hr => ?_) fun _ _ h => h)
  obtain ⟨rfl, h1, rfl, hz1, hs1⟩ := hr
  rw [if_neg Bool.false_ne_true]
  have S1 : Srcs h1 B ts i 0 := srcs_keep S fun c o hc q => hs1.extBut _ _ (fun e => by subst e; exact absurd hzB (Nat.not_le_of_lt hc)) q
  refine wpAny_bind (MeetsSeq2.wpAny_forIn_array _ (fun rest b s' => b.1 = none ∧ ∃ m h2, s' = { s with heap := h2 } ∧ rest = (itRefs B ts.length).drop m ∧ m ≤ ts.length ∧ b.2.toList = (colV ts i).take m ∧ Srcs h2 B ts i m ∧ h2.objs.size = h1.objs.size ∧
    ∀ c o, (c < B ∨ B + ts.length ≤ c) → h1.get? c = some o → h2.get? c = some o) _ (fun x rest b s' hI => ?_) (fun b s' hI => ?_) _ _ ⟨rfl, 0, h1, rfl, rfl, Nat.zero_le _, rfl, S1, rfl, fun _ _ _ q => q⟩)
  · obtain ⟨b1, m, h2, rfl, er, lm, eb, S2, z2, k2⟩ := hI
    obtain ⟨l, rfl, rfl⟩ := drop_refs er
    obtain ⟨t, its, et, a1, a2, a3⟩ := srcs_get S2 l
    rw [if_neg (Nat.lt_irrefl m)] at a2
    have hsz : its.size = n := hn _ (List.mem_of_getElem? et)
    have hx : its[i]? = some its[i] := Array.getElem?_eq_getElem (by omega)
    refine wpAny_bind (wpAny_holding ?_)
    show wpAny _ _ (Builtin.SmallTypes.nextOf (.ref (B + m)) >>= _) _ _ _
    refine wpAny_bind (wpAny_nextOf_tuple_item a2 a3 hx fun h3 i3 s3 => wpAny_pure ?_)
    refine wpAny_pure ⟨rfl, m + 1, h3, rfl, rfl, l, ?_, srcs_step S2 et i3 s3, s3.1.trans z2, fun c o hc q => s3.extBut _ _ (fun e => ?_) (k2 c o hc q)⟩
    · rw [Array.toList_push, eb, colV_take et hx]
    · subst e
      rcases hc with hc | hc
      · exact absurd hc (Nat.not_lt_of_le (Nat.le_add_right B m))
      · exact absurd l (Nat.not_lt_of_le (Nat.le_of_add_le_add_left hc))
  · obtain ⟨b1, m, h2, rfl, er, lm, eb, S2, z2, k2⟩ := hI
    have em : m = ts.length := by
      have := congrArg List.length er
      rw [List.length_drop, List.length_nil] at this
      simp [itRefs] at this
      omega
    subst em
    rw [b1]
    dsimp only
    refine wpAny_bind (wpAny_newTuple ?_ ?_)
    · have hz2 := k2 z _ (.inr hzB) hz1
      have sz : h2.objs.size = s.heap.objs.size := z2.trans hs1.1
      refine wpAny_pure ⟨_, rfl, ?_⟩
      show Q (.ref h2.objs.size) _
      rw [sz]
      refine hQ _ (Heap.get?_push_of_some _ hz2) (srcs_keep (srcs_all S2) fun c o _ q => Heap.get?_push_of_some _ q) ?_ (by rw [Heap.size_push, sz]) fun c o cz hc q => Heap.get?_push_of_some _ (k2 c o hc (hs1.extBut _ _ cz q))
      have e : b.snd.toList = colV ts i := by rw [eb, List.take_of_length_le (by unfold colV; rw [List.length_map]; exact Nat.le_refl _)]
      rw [← sz]
      show (Heap.push h2 _).get? _ = _
      rw [e]
      exact Heap.get?_push_size _ rfl
    · rw [eb]
      have : ts.length ≤ sizeLine := hlen
      unfold colV
      rw [List.length_take, List.length_map]
      omega
theorem drop_zip {B n m : Nat} {x : Value × Nat} {rest : List (Value × Nat)} (h : x :: rest = ((itRefs B n).zipIdx).drop m) : m < n ∧ x = (.ref (B + m), m) ∧ rest = ((itRefs B n).zipIdx).drop (m + 1) := by
  have l : m < n := Nat.lt_of_not_le fun z => by
    rw [List.drop_eq_nil_of_le (by simp [itRefs]; exact z)] at h
    cases h
  rw [List.drop_eq_getElem_cons (by simp [itRefs]; exact l)] at h
  cases h
  exact ⟨l, by simp [itRefs], rfl⟩
theorem zipN_first {B z TI TO : Addr} {ts : List (Addr × Array Value)} {i n : Nat} {os : List Value} {Q : Value → Shared → Prop}
    (hz : s.heap.get? z = some (ZObj .none false TI TO)) (hTI : IsTupN s.heap TI (itRefs B ts.length)) (hTO : IsTupN s.heap TO os) (los : os.length = ts.length) (S : Srcs s.heap B ts i 0) (hi : i < n) (hn : ∀ t ∈ ts, t.2.size = n)
    (hlen : ts.length ≤ sizeLine) (ne : ts ≠ []) (hzB : B + ts.length ≤ z) (hTB : B + ts.length ≤ TI) (hOB : B + ts.length ≤ TO) (zT : TI ≠ z) (zO : TO ≠ z) (TO' : TI ≠ TO)
    (hQ : ∀ h', h'.get? z = some (ZObj (rawInt s.heap.objs.size) false TI TO) → Srcs h' B ts (i + 1) 0 → IsTupN h' s.heap.objs.size (colV ts i) → h'.objs.size = s.heap.objs.size + 1 →
      (∀ c o, c ≠ z → c ≠ TO → (c < B ∨ B + ts.length ≤ c) → s.heap.get? c = some o → h'.get? c = some o) → Q (.ref s.heap.objs.size) { s with heap := h' }) :
    wpAny (model prog w) A (Builtin.«zip.__next__» ⟨[.ref z], []⟩) (fun fin s' => ∃ v, fin = .done (.ret v) ∧ Q v s') E s := by
  show wpAny _ _ (field (.ref z) 2 >>= _) _ _ _
  refine wpAny_bind (wpAny_field hz rfl (x := .bool false) rfl ?_)
  show wpAny _ _ (field (.ref z) 3 >>= _) _ _ _
  refine wpAny_bind (wpAny_field hz rfl (x := .ref TI) rfl ?_)
  refine wpAny_bind (wpAny_seqItems hTI rfl ?_)
  dsimp only
  have hne : (itRefs B ts.length).toArray.isEmpty = false := by
    cases ts with
    | nil => exact absurd rfl ne
    | cons x xs => simp [itRefs]
  rw [if_neg (by rw [hne]; exact Bool.false_ne_true)]
  refine wpAny_bind ?_
  unfold Builtin.SmallTypes.ownedTupleIsFree
  refine wpAny_bind (wpAny_field hz rfl (x := .none) rfl (wpAny_pure ?_))
  simp only [if_true]
  refine wpAny_bind (wpAny_rule ?_)
  refine wpAny_bind (wpAny_field hz rfl (x := .ref TO) rfl ?_)
  refine wpAny_bind (wpAny_setField_rec hz (by simp) fun h1 hz1 hs1 => ?_)
  replace hz1 : h1.get? z = some (ZObj .ellipsis false TI TO) := hz1
  replace hs1 : Heap.SameBut z s.heap h1 := hs1
  have S1 : Srcs h1 B ts i 0 := srcs_keep S fun c o hc q => hs1.extBut _ _ (fun e => by subst e; exact absurd hzB (Nat.not_le_of_lt hc)) q
  have hO1 : IsTupN h1 TO os := hs1.extBut _ _ zO hTO
  refine wpAny_bind (wpAny_forIn_list _ (fun rest b s' => b.1 = none ∧ ∃ m h2 vs, s' = { s with heap := h2 } ∧ rest = ((itRefs B ts.length).zipIdx).drop m ∧ m ≤ ts.length ∧ IsTupN h2 TO vs ∧ vs.length = ts.length ∧ vs.take m = (colV ts i).take m ∧ Srcs h2 B ts i m ∧ h2.objs.size = h1.objs.size ∧
    ∀ c o, c ≠ TO → (c < B ∨ B + ts.length ≤ c) → h1.get? c = some o → h2.get? c = some o) _ (fun x rest b s' hI => ?_) (fun b s' hI => ?_) _ _ ⟨rfl, 0, h1, os, rfl, rfl, Nat.zero_le _, hO1, los, rfl, S1, rfl, fun _ _ _ _ q => q⟩)
  · obtain ⟨b1, m, h2, vs, rfl, er, lm, hO2, lv, ev, S2, z2, k2⟩ := hI
    obtain ⟨l, rfl, rfl⟩ := drop_zip er
    obtain ⟨t, its, et, a1, a2, a3⟩ := srcs_get S2 l
    rw [if_neg (Nat.lt_irrefl m)] at a2
    have hsz : its.size = n := hn _ (List.mem_of_getElem? et)
    have hx : its[i]? = some its[i] := Array.getElem?_eq_getElem (by omega)
    have nO : TO ≠ B + m := fun e => by subst e; exact absurd l (Nat.not_lt_of_le (Nat.le_of_add_le_add_left hOB))
    dsimp only
    refine wpAny_bind (wpAny_onRaise ?_)
    show wpAny _ _ (Builtin.SmallTypes.nextOf (.ref (B + m)) >>= _) _ _ _
    refine wpAny_bind (wpAny_nextOf_tuple_item a2 a3 hx fun h3 i3 s3 => wpAny_pure ?_)
    replace s3 : Heap.SameBut (B + m) h2 h3 := s3
    have hO3 : IsTupN h3 TO vs := s3.extBut _ _ nO hO2
    dsimp only
    refine wpAny_bind (wpAny_seqItems (s := { s with heap := h3 }) hO3 rfl ?_)
    dsimp only
    refine wpAny_bind (wpAny_updateSeq (s := { s with heap := h3 }) hO3 rfl ?_)
    have hO4 := Heap.get?_update_self (Obj.mapSeq (·.setIfInBounds m its[i])) hO3 rfl
    have s4 : Heap.SameBut TO h3 (h3.update TO (Obj.mapSeq (·.setIfInBounds m its[i]))) := Heap.SameBut.update ..
    refine wpAny_bind (wpAny_letGo (wpAny_pure ⟨rfl, m + 1, _, vs.set m its[i], rfl, rfl, l, ?_, by rw [List.length_set, lv], ?_, ?_, s4.1.trans (s3.1.trans z2), fun c o cO hc q => s4.extBut _ _ cO (s3.extBut _ _ (fun e => ?_) (k2 c o cO hc q))⟩))
    · refine hO4.trans ?_
      simp [Obj.mapSeq]
    · have hm : m < vs.length := by omega
      rw [List.take_succ_eq_append_getElem (by rw [List.length_set]; exact hm), List.take_set_of_le (Nat.le_refl m), ev, colV_take et hx, List.getElem_set_self]
    · refine srcs_keep (srcs_step S2 et i3 s3) fun c o hc q => s4.extBut _ _ (fun e => ?_) q
      subst e
      exact absurd hOB (Nat.not_le_of_lt hc)
    · subst e
      rcases hc with hc | hc
      · exact absurd hc (Nat.not_lt_of_le (Nat.le_add_right B m))
      · exact absurd l (Nat.not_lt_of_le (Nat.le_of_add_le_add_left hc))
  · obtain ⟨b1, m, h2, vs, rfl, er, lm, hO2, lv, ev, S2, z2, k2⟩ := hI
    have em : m = ts.length := by
      have := congrArg List.length er
      rw [List.length_drop, List.length_nil] at this
      simp [itRefs] at this
      omega
    subst em
    have evs : vs = colV ts i := by
      rw [List.take_of_length_le (by omega), List.take_of_length_le (by unfold colV; rw [List.length_map]; exact Nat.le_refl _)] at ev
      exact ev
    subst evs
    rw [b1]
    dsimp only
    refine wpAny_bind (wpAny_seqItems (s := { s with heap := h2 }) hO2 rfl ?_)
    dsimp only
    have hz2 := k2 z _ (Ne.symm zO) (.inr hzB) hz1
    have sz : h2.objs.size = s.heap.objs.size := z2.trans hs1.1
    refine wpAny_bind (wpAny_newTuple ?_ ?_)
    · show wpAny _ _ (Builtin.SmallTypes.ownedTupleHandOut (.ref z) (.ref h2.objs.size) >>= _) _ _ _
      refine wpAny_bind ?_
      unfold Builtin.SmallTypes.ownedTupleHandOut
      have hz3 : (h2.push { cls := .type "tuple", data := .seq (colV ts i).toArray }).get? z = some (ZObj .ellipsis false TI TO) := Heap.get?_push_of_some _ hz2
      refine wpAny_bind (wpAny_setField_rec (s := { s with heap := h2.push { cls := .type "tuple", data := .seq (colV ts i).toArray } }) hz3 (by simp) fun h4 hz4 hs4 => ?_)
      replace hz4 : h4.get? z = some (ZObj (rawInt h2.objs.size) false TI TO) := hz4
      replace hs4 : Heap.SameBut z (h2.push { cls := .type "tuple", data := .seq (colV ts i).toArray }) h4 := hs4
      refine wpAny_setField_rec (s := { s with heap := h4 }) hz4 (by simp) fun h5 hz5 hs5 => ?_
      replace hz5 : h5.get? z = some (ZObj (rawInt h2.objs.size) false TI TO) := hz5
      replace hs5 : Heap.SameBut z h4 h5 := hs5
      have lz : z < h2.objs.size := Heap.lt_size hz2
      have up : ∀ c o, c ≠ z → h2.get? c = some o → h5.get? c = some o := fun c o c1 e => hs5.extBut _ _ c1 (hs4.extBut _ _ c1 (Heap.get?_push_of_some _ e))
      have hT5 : IsTupN h5 h2.objs.size (colV ts i) := hs5.extBut _ _ (Nat.ne_of_gt lz) (hs4.extBut _ _ (Nat.ne_of_gt lz) (Heap.get?_push_size _ rfl))
      have s5 : h5.objs.size = h2.objs.size + 1 := by rw [hs5.1, hs4.1, Heap.size_push]
      rw [sz] at hz5 hT5 s5
      refine wpAny_pure ⟨_, rfl, ?_⟩
      show Q (.ref h2.objs.size) _
      rw [sz]
      exact hQ h5 hz5 (srcs_keep (srcs_all S2) fun c o hc q => up c o (fun e => by subst e; exact absurd hzB (Nat.not_le_of_lt hc)) q) hT5 s5 fun c o cz cO hc q => up c o cz (k2 c o cO hc (hs1.extBut _ _ cz q))
    · have : ts.length ≤ sizeLine := hlen
      unfold colV
      simp
      omega
theorem zipN_end {B z TI TO a : Addr} {b : Bool} {ts : List (Addr × Array Value)} {n : Nat} {Q : Fin → Shared → Prop} (hh : A.handled = none)
    (hz : s.heap.get? z = some (ZObj (rawInt a) b TI TO)) (hTI : IsTupN s.heap TI (itRefs B ts.length)) (ha : ∃ o, s.heap.get? a = some o) (S : Srcs s.heap B ts n 0) (hn : ∀ t ∈ ts, t.2.size = n)
    (ne : ts ≠ []) (hzB : B + ts.length ≤ z)
    (hE : ∀ h' e, (∀ c o, c ≠ z → (c < B ∨ B + ts.length ≤ c) → s.heap.get? c = some o → h'.get? c = some o) → (∃ o, h'.get? e = some o ∧ o.cls = .type "StopIteration") → E (.ref e) { s with heap := h' }) :
    wpAny (model prog w) A (Builtin.«zip.__next__» ⟨[.ref z], []⟩) Q E s := by
  show wpAny _ _ (field (.ref z) 2 >>= _) _ _ _
  refine wpAny_bind (wpAny_field hz rfl (x := .bool false) rfl ?_)
  show wpAny _ _ (field (.ref z) 3 >>= _) _ _ _
  refine wpAny_bind (wpAny_field hz rfl (x := .ref TI) rfl ?_)
  refine wpAny_bind (wpAny_seqItems hTI rfl ?_)
  dsimp only
  obtain ⟨src, ts', rfl⟩ := List.exists_cons_of_ne_nil ne
  have hne : (itRefs B (src :: ts').length).toArray.isEmpty = false := by simp [itRefs]
  rw [if_neg (by rw [hne]; exact Bool.false_ne_true)]
  have free : wpAny (model prog w) A (Builtin.SmallTypes.ownedTupleIsFree (.ref z)) (fun r s' => r = false ∧ ∃ h1, s' = { s with heap := h1 } ∧ h1.get? z = some (ZObj (rawInt a) true TI TO) ∧ Heap.SameBut z s.heap h1) E s := by
    unfold Builtin.SmallTypes.ownedTupleIsFree
    refine wpAny_bind (wpAny_field hz rfl (x := rawInt a) rfl ?_)
    unfold rawInt
    dsimp only
    refine wpAny_bind (wpAny_loadAlive ?_)
    obtain ⟨oa, hoa⟩ := ha
    rw [Int.toNat_natCast, hoa]
    simp only [Option.isNone_some, Bool.false_eq_true, if_false]
    refine wpAny_bind (wpAny_field hz rfl (x := .bool b) rfl ?_)
    cases b with
    | true => exact wpAny_pure ⟨rfl, s.heap, rfl, hz, Heap.SameBut.refl ..⟩
    | false =>
      rw [if_pos (by decide)]
      refine wpAny_bind (wpAny_setField_rec hz (by simp) fun h1 hz1 hs1 => wpAny_pure ⟨rfl, h1, rfl, hz1, hs1⟩)
  refine wpAny_bind (wpAny_mono free (fun r s' hr => ?_) fun _ _ h => h)
  obtain ⟨rfl, h1, rfl, hz1, hs1⟩ := hr
  rw [if_neg Bool.false_ne_true]
  have S1 : Srcs h1 B (src :: ts') n 0 := srcs_keep S fun c o hc q => hs1.extBut _ _ (fun e => by subst e; exact absurd hzB (Nat.not_le_of_lt hc)) q
  obtain ⟨a1, a2, a3⟩ := S1 0 src.1 src.2 rfl
  rw [if_neg (Nat.lt_irrefl 0)] at a2
  refine wpAny_bind ?_
  rw [← Array.forIn_toList, List.toList_toArray, show itRefs B (src :: ts').length = .ref (B + 0) :: (itRefs B (src :: ts').length).drop 1 from by simp [itRefs, List.range_succ_eq_map], List.forIn_cons]
  refine wpAny_bind (wpAny_bind (wpAny_holding ?_))
  show wpAny _ _ (Builtin.SmallTypes.nextOf (.ref (B + 0)) >>= _) _ _ _
  refine wpAny_bind (wpAny_nextOf_tuple_end (s := { s with heap := h1 }) hh a2 a3 ?_ fun h2 e k2 he => ?_)
  · exact Array.getElem?_eq_none (by rw [hn src List.mem_cons_self]; exact Nat.le_refl _)
  · refine hE h2 e (fun c o cz hc q => k2 _ _ (fun z => ?_) (hs1.extBut _ _ cz q)) he
    rw [z] at hc
    rcases hc with hc | hc
    · exact absurd hc (Nat.not_lt_of_le (Nat.le_add_right B 0))
    · exact absurd hc (Nat.not_le_of_lt (Nat.add_lt_add_left (by rw [List.length_cons]; exact Nat.succ_pos _) B))
end
end NA
namespace NA
open PySem PySem.Spec PyProof.Rows L2
theorem F_zip_no_len : typeLookup (.type "zip") "__len__" = pure none := by rw [typeLookup_type, builtinLookup_eq_fast]; kernel_rfl
theorem F_zip_no_hint : typeLookup (.type "zip") "__length_hint__" = pure none := by rw [typeLookup_type, builtinLookup_eq_fast]; kernel_rfl
theorem typeCall_zipN (us : List Value) : checkTypeCall "zip" ⟨us, []⟩ = pure () := by kernel_rfl
theorem newCall_zip1 (a : Value) : checkBuiltinCall "zip.__new__" ⟨[.type "zip", a], []⟩ = pure () := by kernel_rfl
theorem newCall_zip3 (a b c : Value) : checkBuiltinCall "zip.__new__" ⟨[.type "zip", a, b, c], []⟩ = pure () := by kernel_rfl
theorem newCall_zip4 (a b c d : Value) : checkBuiltinCall "zip.__new__" ⟨[.type "zip", a, b, c, d], []⟩ = pure () := by kernel_rfl
theorem newCall_zip5 (a b c d e : Value) : checkBuiltinCall "zip.__new__" ⟨[.type "zip", a, b, c, d, e], []⟩ = pure () := by kernel_rfl
theorem newCall_zip6 (a b c d e f : Value) : checkBuiltinCall "zip.__new__" ⟨[.type "zip", a, b, c, d, e, f], []⟩ = pure () := by kernel_rfl
theorem newCall_zipN : ∀ us : List Value, us ≠ [] → us.length ≤ 6 → checkBuiltinCall "zip.__new__" ⟨.type "zip" :: us, []⟩ = pure ()
  | [], h, _ => absurd rfl h
  | [a], _, _ => newCall_zip1 a
  | [a, b], _, _ => F.newCall_zip_2 a b
  | [a, b, c], _, _ => newCall_zip3 a b c
  | [a, b, c, d], _, _ => newCall_zip4 a b c d
  | [a, b, c, d, e], _, _ => newCall_zip5 a b c d e
  | [a, b, c, d, e, f], _, _ => newCall_zip6 a b c d e f
  | _ :: _ :: _ :: _ :: _ :: _ :: _ :: _, _, h => by simp at h
theorem args_init_N (obj : Value) (us : List Value) : argsOk "object.__init__" ⟨obj :: us, []⟩ := by
  unfold argsOk; rw [signature?_of (id := "object.__init__") (n := ['_', '_', 't', 'i', 'n', 'i', '_', '_']) (o := ['t', 'c', 'e', 'j', 'b', 'o']) (by kernel_rfl) F.owner_object]; kernel_rfl
end NA
namespace NA
open PySem PySem.Spec PyProof.Rows L2
/-- as many new iterators, one behind the other -/
def pushIts (h : Heap) : List Addr → Heap
  | [] => h
  | t :: ts => pushIts (h.push { cls := .type "tuple_iterator", data := .fields #[.ref t, .int 0 0] }) ts
theorem pushIts_size : ∀ (ts : List Addr) (h : Heap), (pushIts h ts).objs.size = h.objs.size + ts.length
  | [], _ => rfl
  | t :: ts, h => by
    show (pushIts (h.push _) ts).objs.size = _
    rw [pushIts_size ts, Heap.size_push, List.length_cons]
    exact Nat.add_right_comm _ _ _
theorem pushIts_keep : ∀ (ts : List Addr) (h : Heap) (b : Addr) (o : Obj), h.get? b = some o → (pushIts h ts).get? b = some o
  | [], _, _, _, e => e
  | t :: ts, h, b, o, e => pushIts_keep ts _ b o (Heap.get?_push_of_some _ e)
theorem pushIts_at : ∀ (ts : List Addr) (h : Heap) (k : Nat) (t : Addr), ts[k]? = some t → (pushIts h ts).IsTupleIter (h.objs.size + k) t 0
  | [], _, _, _, e => by simp at e
  | t :: ts, h, 0, t', e => by
    cases Option.some.inj e
    exact ⟨_, pushIts_keep ts _ _ _ (Heap.get?_push_size h rfl), rfl, rfl⟩
  | t :: ts, h, k + 1, t', e => by
    have q := pushIts_at ts (h.push { cls := .type "tuple_iterator", data := .fields #[.ref t, .int 0 0] }) k t' (by simpa using e)
    rw [Heap.size_push] at q
    rwa [show h.objs.size + (k + 1) = h.objs.size + 1 + k from (by omega : h.objs.size + (k + 1) = h.objs.size + 1 + k)]
section
variable {prog : Program} {w : World} {A : Around} {E : Value → Shared → Prop} {s : Shared}
theorem iterAll_tuples {ts : List (Addr × Array Value)} {Q : List Value → Shared → Prop} (ht : ∀ t ∈ ts, s.heap.IsTuple t.1 t.2) (hQ : Q (itRefs s.heap.objs.size ts.length) { s with heap := pushIts s.heap (ts.map (·.1)) }) :
    wpAny (model prog w) A (Builtin.SmallTypes.iterAll (ts.map fun t => .ref t.1)) Q E s := by
  unfold Builtin.SmallTypes.iterAll
  refine wpAny_bind (wpAny_forIn_list _ (fun rest b s' => ∃ m, m ≤ ts.length ∧ rest = (ts.drop m).map (fun t => Value.ref t.1) ∧ b.toList = itRefs s.heap.objs.size m ∧ s' = { s with heap := pushIts s.heap ((ts.take m).map (·.1)) }) _ (fun x rest b s' hI => ?_) (fun b s' hI => ?_) _ _ ⟨0, Nat.zero_le _, rfl, rfl, rfl⟩)
  · obtain ⟨m, lm, er, eb, rfl⟩ := hI
    have l : m < ts.length := Nat.lt_of_not_le fun z => by
      rw [List.drop_eq_nil_of_le z] at er
      cases er
    rw [List.drop_eq_getElem_cons l, List.map_cons] at er
    cases er
    have hm : ts[m]? = some ts[m] := List.getElem?_eq_getElem l
    obtain ⟨o, ho, r⟩ := ht _ (List.getElem_mem l)
    refine wpAny_bind (wpAny_holding (wpAny_pyIter_tuple (s := { s with heap := pushIts s.heap ((ts.take m).map (·.1)) }) ⟨o, pushIts_keep _ _ _ _ ho, r⟩ (wpAny_pure ⟨m + 1, l, rfl, ?_, ?_⟩)))
    · show (b.push _).toList = _
      rw [Array.toList_push, eb, pushIts_size, List.length_map, List.length_take, Nat.min_eq_left lm]
      simp [itRefs, List.range_succ]
    · show (⟨Heap.push (pushIts s.heap _) _, _, _, _, _⟩ : Shared) = _
      have e : ∀ (l : List Addr) (h : Heap) (t : Addr), (pushIts h l).push { cls := .type "tuple_iterator", data := .fields #[.ref t, .int 0 0] } = pushIts h (l ++ [t]) := by
        intro l
        induction l with
        | nil => intro h t; rfl
        | cons y l ih => intro h t; exact ih _ t
      rw [e, List.take_add_one, hm, List.map_append]
      rfl
  · obtain ⟨m, lm, er, eb, rfl⟩ := hI
    have em : m = ts.length := by
      have := congrArg List.length er
      rw [List.length_map, List.length_drop, List.length_nil] at this
      omega
    subst em
    rw [List.take_length]
    show wpAny _ _ (pure b.toList) _ _ _
    rw [eb]
    exact wpAny_pure hQ
theorem newClass_zip (us : List Value) : Builtin.SmallTypes.newClass "zip" ⟨.type "zip" :: us, []⟩ = pure (.type "zip", us) := by
  unfold Builtin.SmallTypes.newClass
  simp only [isType, sub_zip, pure_bind, Bool.not_true, Bool.false_eq_true, if_false]
/-- the heap behind zip(*ts) -/
def zipHp (h : Heap) (ts : List (Addr × Array Value)) : Heap :=
  (((pushIts h (ts.map (·.1))).push { cls := .type "tuple", data := .seq (itRefs h.objs.size ts.length).toArray }).push { cls := .type "tuple", data := .seq (List.replicate ts.length Value.none).toArray }).push
    { cls := .type "zip", data := .fields #[.none, .bool false, .bool false, .ref (h.objs.size + ts.length), .ref (h.objs.size + ts.length + 1)] }
theorem zip_new_N (ts : List (Addr × Array Value)) (l6 : ts.length ≤ 6) : Meets (Builtin.«zip.__new__» ⟨.type "zip" :: ts.map (fun t => Value.ref t.1), []⟩)
    (fun _ R s => (∀ t ∈ ts, s.heap.IsTuple t.1 t.2) ∧ R (.ok (.ret (.ref (s.heap.objs.size + ts.length + 2)))) { s with heap := zipHp s.heap ts }) :=
  .of_wp fun prog w A R s h => by
    obtain ⟨ht, h⟩ := h
    unfold Builtin.«zip.__new__»
    refine wpAny_bind (wpAny_of_eq (newClass_zip _) ?_)
    dsimp only
    rw [if_neg (by decide)]
    refine wpAny_bind (iterAll_tuples ht ?_)
    have z0 : (pushIts s.heap (ts.map (·.1))).objs.size = s.heap.objs.size + ts.length := by rw [pushIts_size, List.length_map]
    refine wpAny_bind (wpAny_newTuple ?_ (by simp [itRefs]; exact Nat.le_trans l6 (by decide)))
    rw [show (itRefs s.heap.objs.size ts.length).map (fun _ => Value.none) = List.replicate ts.length Value.none from by rw [List.map_map]; exact List.ext_getElem (by simp) (by simp)]
    refine wpAny_bind (wpAny_newTuple ?_ (by simp; exact Nat.le_trans l6 (by decide)))
    show wpAny _ _ (newObj (.type "zip") (.fields #[.none, .bool false, .bool false, _, _]) >>= _) _ _ _
    refine wpAny_bind (wpAny_newObj_type ?_)
    refine wpAny_pure ⟨_, rfl, ?_⟩
    have z1 : ((pushIts s.heap (ts.map (·.1))).push { cls := .type "tuple", data := .seq (itRefs s.heap.objs.size ts.length).toArray }).objs.size = s.heap.objs.size + ts.length + 1 := by rw [Heap.size_push, z0]
    have z2 : (((pushIts s.heap (ts.map (·.1))).push { cls := .type "tuple", data := .seq (itRefs s.heap.objs.size ts.length).toArray }).push { cls := .type "tuple", data := .seq (List.replicate ts.length Value.none).toArray }).objs.size = s.heap.objs.size + ts.length + 2 := by rw [Heap.size_push, z1]
    rw [z2, z1, z0]
    exact h
theorem call_zipN {ts : List (Addr × Array Value)} {Q : Value → Shared → Prop} (ne : ts ≠ []) (l6 : ts.length ≤ 6) (ht : ∀ t ∈ ts, s.heap.IsTuple t.1 t.2)
    (h : ∀ h', h'.get? (s.heap.objs.size + ts.length + 2) = some (ZObj .none false (s.heap.objs.size + ts.length) (s.heap.objs.size + ts.length + 1)) → IsTupN h' (s.heap.objs.size + ts.length) (itRefs s.heap.objs.size ts.length) → IsTupN h' (s.heap.objs.size + ts.length + 1) (List.replicate ts.length Value.none) →
      Srcs h' s.heap.objs.size ts 0 0 → h'.objs.size = s.heap.objs.size + ts.length + 3 → (∀ c o, s.heap.get? c = some o → h'.get? c = some o) → Q (.ref (s.heap.objs.size + ts.length + 2)) { s with heap := h' }) :
    wpAny (model prog w) A (call (.type "zip") (ts.map fun t => Value.ref t.1)) Q E s := by
  refine callType_new F.called_zip (by decide) (typeCall_zipN _) (newCall_zipN _ (by simpa using ne) (by rw [List.length_map]; exact l6)) (fun obj => args_init_N obj _) F.entry_zip_new (zip_new_N ts l6) ⟨ht, ?_⟩
  have z0 : (pushIts s.heap (ts.map (·.1))).objs.size = s.heap.objs.size + ts.length := by rw [pushIts_size, List.length_map]
  have z1 : ((pushIts s.heap (ts.map (·.1))).push { cls := .type "tuple", data := .seq (itRefs s.heap.objs.size ts.length).toArray }).objs.size = s.heap.objs.size + ts.length + 1 := by rw [Heap.size_push, z0]
  have z2 : (((pushIts s.heap (ts.map (·.1))).push { cls := .type "tuple", data := .seq (itRefs s.heap.objs.size ts.length).toArray }).push { cls := .type "tuple", data := .seq (List.replicate ts.length Value.none).toArray }).objs.size = s.heap.objs.size + ts.length + 2 := by rw [Heap.size_push, z1]
  have g1 : IsTupN (zipHp s.heap ts) (s.heap.objs.size + ts.length) (itRefs s.heap.objs.size ts.length) := by
    have z := Heap.get?_push_size (pushIts s.heap (ts.map (·.1))) (o := { cls := .type "tuple", data := .seq (itRefs s.heap.objs.size ts.length).toArray }) rfl
    rw [z0] at z
    exact Heap.get?_push_of_some _ (Heap.get?_push_of_some _ z)
  have g2 : IsTupN (zipHp s.heap ts) (s.heap.objs.size + ts.length + 1) (List.replicate ts.length Value.none) := by
    have z := Heap.get?_push_size ((pushIts s.heap (ts.map (·.1))).push { cls := .type "tuple", data := .seq (itRefs s.heap.objs.size ts.length).toArray }) (o := { cls := .type "tuple", data := .seq (List.replicate ts.length Value.none).toArray }) rfl
    rw [z1] at z
    exact Heap.get?_push_of_some _ z
  have g3 : (zipHp s.heap ts).get? (s.heap.objs.size + ts.length + 2) = some (ZObj .none false (s.heap.objs.size + ts.length) (s.heap.objs.size + ts.length + 1)) := by
    have z := Heap.get?_push_size (((pushIts s.heap (ts.map (·.1))).push { cls := .type "tuple", data := .seq (itRefs s.heap.objs.size ts.length).toArray }).push { cls := .type "tuple", data := .seq (List.replicate ts.length Value.none).toArray }) (o := { cls := .type "zip", data := .fields #[.none, .bool false, .bool false, .ref (s.heap.objs.size + ts.length), .ref (s.heap.objs.size + ts.length + 1)] }) rfl
    rw [z2] at z
    exact z
  have kp : ∀ c o, (pushIts s.heap (ts.map (·.1))).get? c = some o → (zipHp s.heap ts).get? c = some o := fun c o e => Heap.get?_push_of_some _ (Heap.get?_push_of_some _ (Heap.get?_push_of_some _ e))
  show _ ∧ _
  refine ⟨⟨_, g3, rfl⟩, h _ g3 g1 g2 (fun k t its e => ?_) (by unfold zipHp; rw [Heap.size_push, z2]) fun c o e => kp c o (pushIts_keep _ _ _ _ e)⟩
  obtain ⟨o, ho, r⟩ := ht _ (List.mem_of_getElem? e)
  rw [if_neg (Nat.not_lt_zero k)]
  exact ⟨Heap.lt_size ho, (pushIts_at (ts.map (·.1)) s.heap k t (by rw [List.getElem?_map, e]; rfl)).at fun o q => kp _ o q, ⟨o, kp _ _ (pushIts_keep _ _ _ _ ho), r⟩⟩
/-- a turn of a zip, whatever turn it is -/
structure ZSt (h : Heap) (B : Addr) (ts : List (Addr × Array Value)) (i : Nat) : Prop where
  z : (i = 0 ∧ h.get? (B + ts.length + 2) = some (ZObj .none false (B + ts.length) (B + ts.length + 1)) ∧ ∃ os, os.length = ts.length ∧ IsTupN h (B + ts.length + 1) os) ∨ ∃ (a : Addr) (b : Bool), B + ts.length + 2 < a ∧ (∃ o, h.get? a = some o) ∧ h.get? (B + ts.length + 2) = some (ZObj (rawInt ((a : Nat) : Int)) b (B + ts.length) (B + ts.length + 1))
  ti : IsTupN h (B + ts.length) (itRefs B ts.length)
  src : Srcs h B ts i 0
theorem ZSt.typeIs {B : Addr} {ts : List (Addr × Array Value)} {i : Nat} (Z : ZSt s.heap B ts i) : s.TypeIs (.ref (B + ts.length + 2)) "zip" := by
  rcases Z.z with ⟨_, e, _⟩ | ⟨a, b, _, _, e⟩
  · exact ⟨_, e, rfl⟩
  · exact ⟨_, e, rfl⟩
theorem ZSt.keep {h h' : Heap} {B : Addr} {ts : List (Addr × Array Value)} {i : Nat} (Z : ZSt h B ts i) (k : ∀ c o, h.get? c = some o → h'.get? c = some o) : ZSt h' B ts i := by
  refine ⟨?_, k _ _ Z.ti, srcs_keep Z.src fun c o _ q => k c o q⟩
  rcases Z.z with ⟨e0, e, os, lo, e2⟩ | ⟨a, b, ab, ⟨o, ho⟩, e⟩
  · exact .inl ⟨e0, k _ _ e, os, lo, k _ _ e2⟩
  · exact .inr ⟨a, b, ab, ⟨o, k _ _ ho⟩, k _ _ e⟩
theorem ZSt.next {B : Addr} {ts : List (Addr × Array Value)} {i n : Nat} {Q : Option Value → Shared → Prop} (Z : ZSt s.heap B ts i) (hi : i < n) (hn : ∀ t ∈ ts, t.2.size = n) (l6 : ts.length ≤ 6) (ne : ts ≠ [])
    (hQ : ∀ h', ZSt h' B ts (i + 1) → IsTupN h' s.heap.objs.size (colV ts i) → h'.objs.size = s.heap.objs.size + 1 → (∀ c o, (c < B ∨ B + ts.length + 2 < c) → s.heap.get? c = some o → h'.get? c = some o) → Q (some (.ref s.heap.objs.size)) { s with heap := h' }) :
    wpAny (model prog w) A (pyNext (.ref (B + ts.length + 2))) Q E s := by
  have hT := Z.typeIs
  have l7 : ts.length ≤ sizeLine := Nat.le_trans l6 (by decide)
  have c1 : B + ts.length ≤ B + ts.length + 2 := Nat.le_add_right _ _
  have c2 : B + ts.length ≤ B + ts.length + 1 := Nat.le_add_right _ _
  have n1 : B + ts.length ≠ B + ts.length + 2 := Nat.ne_of_lt (Nat.lt_add_of_pos_right (by decide))
  have n2 : B + ts.length + 1 ≠ B + ts.length + 2 := Nat.ne_of_lt (Nat.lt_succ_self _)
  have n3 : B + ts.length ≠ B + ts.length + 1 := Nat.ne_of_lt (Nat.lt_succ_self _)
  have lz : B + ts.length + 2 < s.heap.objs.size := by
    obtain ⟨o, e, _⟩ := hT
    exact Heap.lt_size e
  have off : ∀ c, (c < B ∨ B + ts.length + 2 < c) → c ≠ B + ts.length + 2 ∧ c ≠ B + ts.length + 1 ∧ (c < B ∨ B + ts.length ≤ c) := fun c hc => by
    rcases hc with hc | hc
    · have a : c < B + ts.length := Nat.lt_of_lt_of_le hc (Nat.le_add_right B ts.length)
      exact ⟨Nat.ne_of_lt (Nat.lt_of_lt_of_le a c1), Nat.ne_of_lt (Nat.lt_of_lt_of_le a c2), .inl hc⟩
    · exact ⟨Nat.ne_of_gt hc, Nat.ne_of_gt (Nat.lt_trans (Nat.lt_succ_self _) hc), .inr (Nat.le_of_lt (Nat.lt_of_le_of_lt c1 hc))⟩
  unfold pyNext
  refine wpAny_bind (wpAny_attempt (wpAny_callSpecial?_slot (name := Str.ofString "__next__") hT F.slot_zip_next (wpAny_call_entry F.slot_zip_next hT F.entry_zip_next ?_ (F.args_zip_next_1 _))))
  rcases Z.z with ⟨e0, e, os, lo, e2⟩ | ⟨a, b, ab, ha, e⟩
  · subst e0
    refine zipN_first e Z.ti e2 lo Z.src hi hn l7 ne c1 (Nat.le_refl _) c2 n1 n2 n3 fun h' q1 q2 q3 q4 q5 => wpAny_pure (hQ h' ⟨.inr ⟨_, _, lz, ⟨_, q3⟩, q1⟩, q5 _ _ n1 n3 (.inr (Nat.le_refl _)) Z.ti, q2⟩ q3 q4 fun c o hc q => ?_)
    obtain ⟨d1, d2, d3⟩ := off c hc
    exact q5 c o d1 d2 d3 q
  · refine zipN_slow e Z.ti ha Z.src hi hn l7 ne c1 (Nat.le_refl _) n1 fun h' q1 q2 q3 q4 q5 => wpAny_pure (hQ h' ⟨.inr ⟨a, true, ab, ?_, q1⟩, q5 _ _ n1 (.inr (Nat.le_refl _)) Z.ti, q2⟩ q3 q4 fun c o hc q => ?_)
    · obtain ⟨o, ho⟩ := ha
      obtain ⟨d1, d2, d3⟩ := off a (.inr ab)
      exact ⟨o, q5 _ _ d1 d3 ho⟩
    · obtain ⟨d1, d2, d3⟩ := off c hc
      exact q5 c o d1 d3 q
theorem ZSt.stop {B : Addr} {ts : List (Addr × Array Value)} {n : Nat} {Q : Option Value → Shared → Prop} (hh : A.handled = none) (Z : ZSt s.heap B ts n) (n0 : n ≠ 0) (hn : ∀ t ∈ ts, t.2.size = n) (ne : ts ≠ [])
    (hQ : ∀ h', (∀ c o, (c < B ∨ B + ts.length + 2 < c) → s.heap.get? c = some o → h'.get? c = some o) → Q none { s with heap := h' }) :
    wpAny (model prog w) A (pyNext (.ref (B + ts.length + 2))) Q E s := by
  have hT := Z.typeIs
  unfold pyNext
  refine wpAny_bind (wpAny_attempt (wpAny_callSpecial?_slot (name := Str.ofString "__next__") hT F.slot_zip_next (wpAny_call_entry F.slot_zip_next hT F.entry_zip_next ?_ (F.args_zip_next_1 _))))
  rcases Z.z with ⟨e0, _⟩ | ⟨a, b, ab, ha, e⟩
  · exact absurd e0 n0
  · refine zipN_end hh e Z.ti ha Z.src hn ne (Nat.le_add_right _ _) fun h' x k hx => ?_
    obtain ⟨o, ho, hc⟩ := hx
    refine wpAny_bind (wpAny_isInstance (T := "StopIteration") (b := true) ⟨o, ho, hc⟩ isSubtype_stop ?_)
    refine wpAny_pure (hQ _ fun c o hc q => k c o ?_ ?_ q)
    · rcases hc with hc | hc
      · exact Nat.ne_of_lt (Nat.lt_of_lt_of_le hc (Nat.le_trans (Nat.le_add_right _ _) (Nat.le_add_right _ _)))
      · exact Nat.ne_of_gt hc
    · exact hc.elim .inl fun hc => .inr (Nat.le_of_lt (Nat.lt_of_le_of_lt (Nat.le_add_right _ _) hc))
/-- the refs of what is made, one behind the other -/
abbrev madeRefs (L : Addr) (n : Nat) : List Value := (List.range n).map fun k => Value.ref (L + 1 + k)
theorem codeAny_extendZ {R : Result → Shared → Prop} {B L : Addr} {ts : List (Addr × Array Value)} {n : Nat} (hh : A.handled = none) (n0 : n ≠ 0) (n9 : n ≤ 1000) (hn : ∀ t ∈ ts, t.2.size = n) (l6 : ts.length ≤ 6) (ne : ts ≠ []) (hL : B + ts.length + 2 < L) (res : Value) :
    ∀ (k i : Nat) (s : Shared), n - i = k → i ≤ n → ZSt s.heap B ts i → s.heap.objs.size = L + 1 + i → (∃ c, s.heap.get? L = some { cls := .type "list", dict := none, data := .seq (madeRefs L i).toArray c, slots := #[] }) →
      (∀ j, j < i → IsTupN s.heap (L + 1 + j) (colV ts j)) →
      (∀ h' c', h'.get? L = some { cls := .type "list", dict := none, data := .seq (madeRefs L n).toArray c', slots := #[] } → (∀ j, j < n → IsTupN h' (L + 1 + j) (colV ts j)) → (∀ b o, b < B → s.heap.get? b = some o → h'.get? b = some o) → R (.ok (.ret res)) { s with heap := h' }) →
      codeAny (model prog w) A (.builtin "list.extend.loop" ⟨[.ref L, .ref (B + ts.length + 2), res], []⟩) R s := by
  have bL : ∀ b, b < B → b ≠ L := fun b hb => Nat.ne_of_lt (Nat.lt_trans (Nat.lt_of_lt_of_le hb (Nat.le_trans (Nat.le_add_right B ts.length) (Nat.le_add_right _ 2))) hL)
  intro k
  induction k with
  | zero =>
    intro i s hk hi Z hsz ⟨c, hS⟩ hm hR
    have hin : i = n := by omega
    subst hin
    refine codeAny_builtin F.entry_extend_loop ?_
    rw [Around.under_plainId F.plain_extend_loop _]
    show wpAny _ A.in1 (pyNext (.ref (B + ts.length + 2)) >>= _) _ _ s
    refine wpAny_bind (Z.stop (A := A.in1) hh n0 hn ne fun h' kp => ?_)
    exact wpAny_pure (hR h' c (kp _ _ (.inr hL) hS) (fun j hj => kp _ _ (.inr (Nat.lt_trans hL (Nat.lt_of_lt_of_le (Nat.lt_succ_self L) (Nat.le_add_right _ _)))) (hm j hj)) fun b o hb q => kp b o (.inl hb) q)
  | succ k ih =>
    intro i s hk hi Z hsz ⟨c, hS⟩ hm hR
    have hlt : i < n := by omega
    refine codeAny_builtin F.entry_extend_loop ?_
    rw [Around.under_plainId F.plain_extend_loop _]
    show wpAny _ A.in1 (pyNext (.ref (B + ts.length + 2)) >>= _) _ _ s
    refine wpAny_bind (Z.next (A := A.in1) hlt hn l6 ne fun h1 Z1 q2 q3 kp => ?_)
    have hS1 := kp _ _ (.inr hL) hS
    have len : (madeRefs L i).length = i := by simp [madeRefs]
    show wpAny _ A.in1 (updateSeq L (·.push (.ref s.heap.objs.size)) >>= _) _ _ _
    refine wpAny_bind ?_
    have oth : ∀ b o, b ≠ L → h1.get? b = some o → (h1.update L (Obj.mapSeq (·.push (.ref s.heap.objs.size)))).get? b = some o := fun b o hb e => (Heap.get?_update_other _ _ (Ne.symm hb)).trans e
    have hS5 := (Heap.get?_update_self (Obj.mapSeq (·.push (.ref s.heap.objs.size))) hS1 rfl).trans (congrArg some (show Obj.mapSeq (·.push (.ref s.heap.objs.size)) { cls := .type "list", dict := none, data := .seq (madeRefs L i).toArray c, slots := #[] } = { cls := .type "list", dict := none, data := .seq ((madeRefs L i).toArray.push (.ref s.heap.objs.size)) _, slots := #[] } from rfl))
    have zL : ∀ j, L + 1 + j ≠ L := fun j => Nat.ne_of_gt (Nat.lt_of_lt_of_le (Nat.lt_succ_self L) (Nat.le_add_right _ _))
    refine wpAny_updateSeq (s := { s with heap := h1 }) hS1 rfl (wpAny_pure ⟨plainId_quiet F.plain_extend_loop _, ih (i + 1) { s with heap := h1.update L (Obj.mapSeq (·.push (.ref s.heap.objs.size))) } (by omega) hlt ?_ ?_ ?_ ?_ fun h2 c' e1 e2 e3 => ?_⟩) (by rw [List.size_toArray, len]; exact Nat.le_trans (Nat.le_of_lt hlt) (Nat.le_trans n9 (by decide))) (by show ((madeRefs L i).toArray.push _).size ≤ sizeLine + 1; rw [Array.size_push, List.size_toArray, len]; exact Nat.succ_le_succ (Nat.le_trans (Nat.le_of_lt hlt) (Nat.le_trans n9 (by decide))))
    · refine ⟨?_, oth _ _ ?_ Z1.ti, srcs_keep Z1.src fun c o hc q => oth c o ?_ q⟩
      · rcases Z1.z with ⟨e0, _⟩ | ⟨a, b, ab, ⟨o, ho⟩, e⟩
        · exact absurd e0 (Nat.succ_ne_zero i)
        · refine .inr ⟨a, b, ab, ?_, oth _ _ (Nat.ne_of_lt hL) e⟩
          by_cases z : a = L
          · subst z
            exact ⟨_, Heap.get?_update_self _ hS1 rfl⟩
          · exact ⟨o, oth _ _ z ho⟩
      · exact Nat.ne_of_lt (Nat.lt_of_le_of_lt (Nat.le_add_right _ 2) hL)
      · exact Nat.ne_of_lt (Nat.lt_trans (Nat.lt_of_lt_of_le hc (Nat.le_add_right _ 2)) hL)
    · show (h1.update _ _).objs.size = _
      rw [(Heap.SameBut.update ..).1, q3, hsz]
      exact Nat.add_assoc _ _ _
    · have e : (madeRefs L (i + 1)).toArray = (madeRefs L i).toArray.push (.ref s.heap.objs.size) := by
        rw [hsz]
        simp [madeRefs, List.range_succ]
      rw [e]
      exact ⟨_, hS5⟩
    · intro j hj
      by_cases e : j = i
      · subst e
        have := q2
        rw [hsz] at this
        exact oth _ _ (zL j) this
      · exact oth _ _ (zL j) (kp _ _ (.inr (Nat.lt_trans hL (Nat.lt_of_lt_of_le (Nat.lt_succ_self L) (Nat.le_add_right _ _)))) (hm j (by omega)))
    · exact hR h2 c' e1 e2 fun b o hb q => e3 b o hb (oth b o (bL b hb) (kp b o (.inl hb) q))
/-- list(z), z a zip that was just made -/
theorem call_listZ {B : Addr} {ts : List (Addr × Array Value)} {n : Nat} {Q : Value → Shared → Prop} (hh : A.handled = none) (n0 : n ≠ 0) (n9 : n ≤ 1000) (hn : ∀ t ∈ ts, t.2.size = n) (l6 : ts.length ≤ 6) (ne : ts ≠ []) (Z : ZSt s.heap B ts 0) (hsz : s.heap.objs.size = B + ts.length + 3)
    (hQ : ∀ h' c, h'.get? (B + ts.length + 3) = some { cls := .type "list", dict := none, data := .seq (madeRefs (B + ts.length + 3) n).toArray c, slots := #[] } → (∀ j, j < n → IsTupN h' (B + ts.length + 3 + 1 + j) (colV ts j)) → (∀ b o, b < B → s.heap.get? b = some o → h'.get? b = some o) → Q (.ref (B + ts.length + 3)) { s with heap := h' }) :
    wpAny (model prog w) A (call (.type "list") [.ref (B + ts.length + 2)]) Q E s := by
  refine callType_codes (Q₁ := fun obj s₁ => obj = .ref s.heap.objs.size ∧ s₁ = { s with heap := s.heap.push { cls := .type "list", data := .seq #[] } }) F.called_list (F.typeCall_list_1 _) F.entry_list_init
    (code_list_new _ ⟨rfl, rfl⟩) fun obj s₁ h₁ => ?_
  obtain ⟨rfl, rfl⟩ := h₁
  have hS : (s.heap.push { cls := .type "list", data := .seq #[] }).get? s.heap.objs.size = some { cls := .type "list", data := .seq #[] } := Heap.get?_push_size _ rfl
  refine ⟨⟨_, hS, rfl⟩, F.args_list_init_2 _ _, ?_⟩
  have hSa : s.heap.objs.size ≠ B + ts.length + 2 := by rw [hsz]; exact Nat.ne_of_gt (Nat.lt_succ_self _)
  show wpAny _ A.in1.in1 (do let old ← Builtin.List.listItems (.ref s.heap.objs.size); Builtin.List.listUpdate (.ref s.heap.objs.size) (fun _ => #[]); letGo old.toList.reverse; Builtin.List.listExtendWith (.ref s.heap.objs.size) (.ref (B + ts.length + 2)) .none) _ _ _
  refine wpAny_bind ?_
  unfold Builtin.List.listItems
  refine wpAny_bind (wpAny_seqItems hS rfl (wpAny_pure ?_))
  show wpAny _ A.in1.in1 (updateSeq s.heap.objs.size (fun _ => #[]) >>= fun _ => letGo (#[] : Array Value).toList.reverse >>= fun _ => Builtin.List.listExtendWith (.ref s.heap.objs.size) (.ref (B + ts.length + 2)) .none) _ _ _
  refine wpAny_bind (wpAny_updateSeq hS rfl ?_)
  have hS2 := Heap.get?_update_self (Obj.mapSeq (fun _ => (#[] : Array Value))) hS rfl
  refine wpAny_bind (wpAny_letGo ?_)
  unfold Builtin.List.listExtendWith
  have up : ∀ (h : Heap) (f : Obj → Obj), (∀ b o, s.heap.get? b = some o → h.get? b = some o) → ∀ b o, s.heap.get? b = some o → (h.update s.heap.objs.size f).get? b = some o := fun h f q b o e =>
    (Heap.get?_update_other _ _ (Ne.symm (Nat.ne_of_lt (Heap.lt_size e)))).trans (q b o e)
  have k1 : ∀ b o, s.heap.get? b = some o → (s.heap.push { cls := .type "list", data := .seq #[] }).get? b = some o := fun b o e => Heap.get?_push_of_some _ e
  have k2 := up _ (Obj.mapSeq (fun _ => (#[] : Array Value))) k1
  refine wpAny_bind (wpAny_typeOf (ZSt.typeIs (s := { s with heap := _ }) (Z.keep k2)) ?_)
  have h1 : Builtin.List.listSameRef (.ref s.heap.objs.size) (.ref (B + ts.length + 2)) = false := by simp [Builtin.List.listSameRef, hSa]
  have h2 : (Value.type "zip" == Value.type "list") = false := by decide
  have h3 : (Value.type "zip" == Value.type "tuple") = false := by decide
  simp only [h1, h2, h3, Bool.or_false, Bool.false_eq_true, if_false]
  have zobj := (Z.keep k2).z
  have goIter : ∀ {Q' : Value → Shared → Prop} {E' : Value → Shared → Prop} {A' : Around} {h : Heap}, ZSt h B ts 0 → Q' (.ref (B + ts.length + 2)) { s with heap := h } → wpAny (model prog w) A' (pyIter (.ref (B + ts.length + 2))) Q' E' { s with heap := h } := fun {Q' E' A' h} z q => by
    have hT : (({ s with heap := h } : Shared)).TypeIs (.ref (B + ts.length + 2)) "zip" := ZSt.typeIs (s := { s with heap := h }) z
    refine wpAny_pyIter_slot hT F.slot_zip_iter (wpAny_call_entry F.slot_zip_iter hT F.entry_zip_iter ?_ (F.args_zip_iter_1 _))
    show wpAny _ _ (ret (.ref (B + ts.length + 2))) _ _ _
    exact wpAny_pure ⟨_, rfl, "zip", _, hT, F.slot_zip_next.lookup, q⟩
  refine wpAny_bind (goIter (Z.keep k2) ?_)
  refine wpAny_bind (wpAny_holding ?_)
  unfold Builtin.List.listLengthHint
  refine wpAny_bind (wpAny_specialOf (ZSt.typeIs (s := { s with heap := _ }) (Z.keep k2)) F_zip_no_len ?_)
  show wpAny _ A.in1.in1 (specialOf (Value.ref (B + ts.length + 2)) (Str.ofString "__length_hint__") >>= _) _ _ _
  refine wpAny_bind (wpAny_specialOf (ZSt.typeIs (s := { s with heap := _ }) (Z.keep k2)) F_zip_no_hint ?_)
  refine wpAny_pure ?_
  show wpAny _ A.in1.in1 (rule "list.extend.makes-room" >>= fun _ => Builtin.List.listTouch (.ref s.heap.objs.size) >>= fun _ =>
    again (.builtin "list.extend.loop" ⟨[.ref s.heap.objs.size, .ref (B + ts.length + 2), .none], []⟩)) _ _ _
  refine wpAny_bind (wpAny_rule ?_)
  refine wpAny_bind ?_
  show wpAny _ A.in1.in1 (updateSeq s.heap.objs.size (·.push .none) >>= fun _ => updateSeq s.heap.objs.size (·.pop)) _ _ _
  refine wpAny_bind (wpAny_updateSeq hS2 rfl ?_)
  have hS3 := Heap.get?_update_self (Obj.mapSeq (·.push Value.none)) hS2 rfl
  refine wpAny_updateSeq (hz := by seq_fits) hS3 rfl ?_
  have hS4 := Heap.get?_update_self (Obj.mapSeq (·.pop)) hS3 rfl
  have k4 := up _ (Obj.mapSeq (·.pop)) (up _ (Obj.mapSeq (·.push Value.none)) k2)
  refine wpAny_pure ⟨plainId_quiet F.plain_extend_loop _, ?_⟩
  refine codeAny_extendZ (A := A.in1) (L := s.heap.objs.size) hh n0 n9 hn l6 ne (by rw [hsz]; exact Nat.lt_succ_self _) _ n 0 _ rfl (Nat.zero_le _) (Z.keep k4) ?_ ⟨_, hS4⟩ (fun j hj => absurd hj (Nat.not_lt_zero j)) fun h' c' e1 e2 e3 => ⟨rfl, ?_⟩
  · show (Heap.update (Heap.update (Heap.update (Heap.push s.heap _) _ _) _ _) _ _).objs.size = _
    rw [(Heap.SameBut.update ..).1, (Heap.SameBut.update ..).1, (Heap.SameBut.update ..).1, Heap.size_push]
  · rw [hsz] at e1 e2 ⊢
    exact hQ h' c' e1 e2 fun b o hb q => e3 b o hb (k4 b o q)
end
end NA
namespace NA
open PySem PySem.Spec PyProof.Rows L2
/-! ### list(zip(*t)), t a tuple of tuples of one length -/
theorem Inv.many {X : Cx} {pins : List (Addr × Obj)} {σ : L2.St} {H : Hp} {s : Shared} {h' : Heap} {tk : Nat} (I : Inv X pins σ H s) (N : Addr → Option HO)
    (hk : ∀ b o, s.heap.get? b = some o → h'.get? b = some o) (hN : ∀ b u, N b = some u → s.heap.objs.size ≤ b) (new : ∀ (H' : Hp) b u, N b = some u → ObjOk X.prog X.w H' h' b u) :
    Inv X pins σ (fun b => (N b).or (H b)) { s with heap := h', toks := tk } := by
  have low : ∀ b o, s.heap.get? b = some o → N b = none := fun b o e => by
    cases z : N b with
    | none => rfl
    | some u => exact absurd (Heap.lt_size e) (Nat.not_lt.mpr (hN b u z))
  have fr : ∀ b u, N b = some u → H b = none := fun b u z => I.hok.fresh (hN b u z)
  have kp : ∀ b u, H b = some u → ((N b).or (H b)) = some u := fun b u e => by
    cases z : N b with
    | none => exact e
    | some v => rw [fr b v z] at e; cases e
  refine I.call' (ch := []) rfl ⟨fun b o q _ _ _ => hk b o q, fun b o q _ _ _ => ⟨o.slots, hk b o q⟩, fun b o q n _ => ?_, fun b o q _ => ⟨o, hk b o q⟩, fun b xs q => kp b _ q, fun b o u q => kp b _ q, fun b ps q => ⟨#[], by rw [kp b _ q]; simp⟩⟩ (fun b u q => ?_) I.bare fun b z => by simp at z
  · show (N b).or (H b) = none
    rw [low b o q]
    exact n
  · cases z : N b with
    | none =>
      have q' : H b = some u := by
        have : (N b).or (H b) = some u := q
        rw [z] at this
        exact this
      exact (I.hok b u q').stay (fun d v _ y => hk d v y) (fun d y => kp d _ y) fun d xs y => kp d _ y
    | some v =>
      have q' : (N b).or (H b) = some u := q
      rw [z] at q'
      cases q'
      exact new _ b _ z
/-- the column j of rows -/
def colOf (rows : List (Addr × List V)) (j : Nat) : List V := rows.map fun r => r.2.getD j .non
def tLZ (K : PySem.W.Frag) (te : TE) : TE := fun σ H Q => te σ H fun y H1 => ∃ (a : Addr) (rows : List (Addr × List V)) (n : Nat), y = .ref a ∧ SqT K H1 a (rows.map fun r => V.ref r.1) ∧ (∀ r ∈ rows, SqT K H1 r.1 r.2 ∧ r.2.length = n) ∧ n ≠ 0 ∧ n ≤ 1000 ∧ rows ≠ [] ∧ rows.length ≤ 6 ∧
  ∀ (as : List Addr) (l : Addr) (H2 : Hp), as.length = n → Same H1 H2 → H1 l = none → (∀ b ∈ as, H1 b = none) → H2 l = some (.lst (as.map V.ref)) → (∀ (j : Nat) (b : Addr), as[j]? = some b → H2 b = some (.tup (colOf rows j))) → Q (.ref l) H2
theorem rows_src {X : Cx} {pins : List (Addr × Obj)} {σ : L2.St} {H : Hp} {s : Shared} {n : Nat} (I : Inv X pins σ H s) : ∀ (rows : List (Addr × List V)), (∀ r ∈ rows, SqT X.K H r.1 r.2 ∧ r.2.length = n) →
    ∃ ts : List (Addr × Array Value), ts.map (·.1) = rows.map (·.1) ∧ (∀ t ∈ ts, s.heap.IsTuple t.1 t.2 ∧ t.2.size = n) ∧ ∀ (j : Nat), j < n → Vals (colOf rows j) (colV ts j)
  | [], _ => ⟨[], rfl, (fun t h => absurd h List.not_mem_nil), fun j _ => .nil⟩
  | r :: rows, h => by
    obtain ⟨ts, e1, e2, e3⟩ := rows_src I rows fun x hx => h x (List.mem_cons_of_mem _ hx)
    obtain ⟨sq, ln⟩ := h r List.mem_cons_self
    obtain ⟨its, rv, o⟩ := src_of (k := .t) I sq
    have lv := rv.length
    refine ⟨(r.1, its.toArray) :: ts, by rw [List.map_cons, List.map_cons, e1], fun t ht => ?_, fun j hj => ?_⟩
    · rcases List.mem_cons.mp ht with e | ht
      · rw [e]
        exact ⟨o, by show its.toArray.size = n; rw [List.size_toArray]; omega⟩
      · exact e2 t ht
    · refine .cons ?_ (e3 j hj)
      have hj' : r.2[j]? = some r.2[j] := List.getElem?_eq_getElem (by omega)
      obtain ⟨u, hu, ru⟩ := rv.get hj'
      show RelV (r.2.getD j .non) (its.toArray.getD j .none)
      have a1 : r.2.getD j .non = r.2[j] := by rw [List.getD_eq_getElem?_getD, hj']; rfl
      obtain ⟨l, g⟩ := List.getElem?_eq_some_iff.mp hu
      have a2 : its.toArray.getD j .none = u := by simp [Array.getD, l, g]
      rw [a1, a2]
      exact ru
theorem vals_refs_eq : ∀ {as : List Addr} {us : List Value}, Vals (as.map V.ref) us → us = as.map Value.ref
  | [], _, h => by cases h; rfl
  | a :: as, _, h => by
    cases h with
    | cons r t =>
      have e : _ = Value.ref a := r
      rw [e, vals_refs_eq t]
      rfl
theorem pe_listZipS {X : Cx} (K : PySem.W.Frag) (hK : X.K = K) {e : Expr} {te : TE} {p p2 p3 sp pos : Pos} (hc : X.calm = true) (hg : Gl X "list") (hm : X.mg "list" = none) (hg2 : Gl X "zip") (hm2 : X.mg "zip" = none) (he : PE X e te)
    (hs : starEach [.Call (.Name "zip" p2) [.Starred e sp] [] p3] X.env = (false, eval (.Call (.Name "zip" p2) [.Starred e sp] [] p3) X.env) :: starEach [] X.env := by rfl)
    (hst : starEach [.Starred e sp] X.env = [(true, eval e X.env)] := by rfl) :
    PE X (.Call (.Name "list" p) [.Call (.Name "zip" p2) [.Starred e sp] [] p3] [] pos) (tLZ K te) := by
  subst hK
  refine ⟨fun pins s σ H Q I h => ?_⟩
  refine wpAny_Call_Name_kw (ld_blt I hg hm (show bootBuiltins "list" = some (.type "list") by decide +kernel) ?_)
  refine PyProof.Rows.callWith_type1 ?_ hs rfl
  rw [hs]
  show wpAny _ _ (spliced ((false, eval (.Call (.Name "zip" p2) [.Starred e sp] [] p3) X.env) :: backTo pos (starEach [] X.env))) _ _ s
  refine Calls.spliced_cons ?_
  refine wpAny_Call_Name_kw (ld_blt I hg2 hm2 boot_zip ?_)
  rw [hst]
  refine PySem.W.ks_call (P := fun _ => True) rfl (fun h _ => ⟨.machine, .inr (.inl rfl), PySem.W.Looks.of_pure rfl⟩) (PySem.W.ks_lone (thn (he.run pins s σ H _ I h) fun v s1 ⟨y, H1, I1, ry, a, rows, n, ey, hx, hr, n0, n9, ne, l6, q⟩ => ?_))
  subst ey
  obtain rfl : v = Value.ref a := ry
  refine StX.star_any I1 (.inl hx) fun us s2 I2 rv => ⟨trivial, ?_⟩
  obtain ⟨ts, t1, t2, t3⟩ := rows_src I2 rows hr
  have eus : us = ts.map fun t => Value.ref t.1 := by
    have : rows.map (fun r => V.ref r.1) = (rows.map (·.1)).map V.ref := by rw [List.map_map]; rfl
    rw [this] at rv
    rw [vals_refs_eq rv, ← t1, List.map_map]
    rfl
  have lts : ts.length = rows.length := by
    have := congrArg List.length t1
    rwa [List.length_map, List.length_map] at this
  have nets : ts ≠ [] := fun z => by
    rw [z] at lts
    exact ne (List.eq_nil_of_length_eq_zero lts.symm)
  subst eus
  refine call_zipN nets (by omega) (fun t ht => (t2 t ht).1) fun h1 z1 z2 z3 z4 z5 kp => ?_
  refine Calls.spliced_nil ?_
  have Z : ZSt h1 s2.heap.objs.size ts 0 := ⟨.inl ⟨rfl, z1, _, List.length_replicate .., z3⟩, z2, z4⟩
  refine call_listZ (s := { s2 with heap := h1 }) (I.ok.hd hc) n0 n9 (fun t ht => (t2 t ht).2) (by omega) nets Z z5 fun h2 c e1 e2 e3 => ?_
  have kp2 : ∀ b o, s2.heap.get? b = some o → h2.get? b = some o := fun b o e => e3 b o (Heap.lt_size e) (kp b o e)
  generalize hL : s2.heap.objs.size + ts.length + 3 = L at *
  have lL : s2.heap.objs.size ≤ L := by rw [← hL]; exact Nat.le_trans (Nat.le_add_right _ _) (Nat.le_add_right _ _)
  -- what is new
  have hN : ∃ N : Addr → Option HO, N L = some (.lst ((List.range n).map fun k => V.ref (L + 1 + k))) ∧ (∀ j, j < n → N (L + 1 + j) = some (.tup (colOf rows j))) ∧ ∀ b u, N b = some u → (b = L ∧ u = .lst ((List.range n).map fun k => V.ref (L + 1 + k))) ∨ ∃ j, j < n ∧ b = L + 1 + j ∧ u = .tup (colOf rows j) := by
    refine ⟨fun b => if b = L then some (.lst ((List.range n).map fun k => V.ref (L + 1 + k))) else if L < b ∧ b < L + 1 + n then some (.tup (colOf rows (b - L - 1))) else none, if_pos rfl, fun j hj => ?_, fun b u hb => ?_⟩
    · have a1 : L + 1 + j ≠ L := Nat.ne_of_gt (Nat.lt_of_lt_of_le (Nat.lt_succ_self L) (Nat.le_add_right _ _))
      have a2 : L < L + 1 + j := Nat.lt_of_lt_of_le (Nat.lt_succ_self L) (Nat.le_add_right _ _)
      have a3 : L + 1 + j < L + 1 + n := Nat.add_lt_add_left hj _
      have a4 : L + 1 + j - L - 1 = j := by rw [Nat.sub_sub, Nat.add_sub_cancel_left]
      simp only [if_neg a1, if_pos (And.intro a2 a3), a4]
    · dsimp only at hb
      by_cases b1 : b = L
      · rw [if_pos b1] at hb
        exact .inl ⟨b1, (Option.some.inj hb).symm⟩
      · rw [if_neg b1] at hb
        by_cases b2 : L < b ∧ b < L + 1 + n
        · rw [if_pos b2] at hb
          refine .inr ⟨b - L - 1, ?_, ?_, (Option.some.inj hb).symm⟩
          · rw [Nat.sub_sub]
            exact Nat.sub_lt_left_of_lt_add b2.1 b2.2
          · rw [Nat.sub_sub, Nat.add_sub_cancel' b2.1]
        · rw [if_neg b2] at hb
          cases hb
  obtain ⟨N, N1, N2, N3⟩ := hN
  have lowN : ∀ b u, N b = some u → s2.heap.objs.size ≤ b := fun b u z => by
    rcases N3 b u z with ⟨rfl, _⟩ | ⟨j, _, rfl, _⟩
    · exact lL
    · exact Nat.le_trans lL (Nat.le_trans (Nat.le_succ L) (Nat.le_add_right _ _))
  have J := Inv.many (tk := s2.toks) I2 N kp2 lowN (fun H' b u z => by
    rcases N3 b u z with ⟨eb, rfl⟩ | ⟨j, hj, rfl, rfl⟩
    · rw [eb]
      refine ⟨by rw [List.length_map, List.length_range]; exact Nat.le_trans n9 (by decide), madeRefs L n, c, ?_, ?_⟩
      · have : ∀ m, Vals ((List.range m).map fun k => V.ref (L + 1 + k)) ((List.range m).map fun k => Value.ref (L + 1 + k)) := fun m => by
          have := LiI.vals_refs ((List.range m).map fun k => L + 1 + k)
          rw [List.map_map, List.map_map] at this
          exact this
        exact this n
      · exact e1
    · have lc : (colOf rows j).length ≤ sizeLine := by
        unfold colOf
        rw [List.length_map]
        exact Nat.le_trans l6 (by decide)
      exact ⟨lc, colV ts j, t3 j hj, ⟨_, e2 j hj, rfl, _, rfl⟩⟩)
  have fr : ∀ b u, N b = some u → H1 b = none := fun b u z => I2.hok.fresh (lowN b u z)
  refine ⟨.ref L, _, J, rfl, ?_⟩
  have q' := q ((List.range n).map fun k => L + 1 + k) L (fun b => (N b).or (H1 b)) (by rw [List.length_map, List.length_range]) (fun b u e => by
    show (N b).or (H1 b) = some u
    cases z : N b with
    | none => exact e
    | some v => rw [fr b v z] at e; cases e) (fr L _ N1) (fun b hb => by
      obtain ⟨j, hj, rfl⟩ := List.mem_map.mp hb
      exact fr _ _ (N2 j (List.mem_range.mp hj))) (by
      show (N L).or (H1 L) = _
      rw [N1, List.map_map]
      rfl) (fun j b hb => by
      rw [List.getElem?_map] at hb
      have lj : j < n := Nat.lt_of_not_le fun z => by
        rw [List.getElem?_eq_none (by rw [List.length_range]; exact z)] at hb
        cases hb
      rw [List.getElem?_eq_getElem (by rw [List.length_range]; exact lj), List.getElem_range] at hb
      cases hb
      show (N (L + 1 + j)).or _ = _
      rw [N2 j lj]
      rfl)
  exact q'
end NA
namespace NA
open PySem PySem.Spec PyProof.Rows L2
/-! ### a range kept in a name -/
theorem cr_rangeV1 {X : Cx} : CallR X (.type "range") (fun vs H Q => ∃ j, vs = [V.int j] ∧ ∀ p, H p = none → Q (.ref p) (upd H p (.rng 0 j))) := by
  intro pins s σ H vs us Q I r h
  obtain ⟨j, rfl, q⟩ := h
  obtain ⟨u, rfl, rv⟩ := r.one
  obtain ⟨t, rfl⟩ := (show ∃ t, u = Value.int j t from rv)
  refine call_range_1 ⟨.ref s.heap.objs.size, upd H s.heap.objs.size (.rng 0 j), I.laid (t' := s.toks + 1 + 1) (fun b o e => Heap.get?_push_of_some _ e) (Nat.le_refl _) ?_, rfl, q _ (I.hok.fresh (Nat.le_refl _))⟩
  exact ⟨s.toks, t, s.toks + 1, Heap.get?_push_size _ rfl⟩
def iRngV (te : TE) : TI := fun σ H R => te σ H fun v H1 => ∃ (a : Addr) (lo hi : Int), v = .ref a ∧ H1 a = some (.rng lo hi) ∧ (-(2 ^ 62) ≤ lo ∧ lo < 2 ^ 62 ∧ -(2 ^ 62) ≤ hi ∧ hi < 2 ^ 62) ∧ R (Itr lo (hi - lo).toNat) H1
theorem pi_rngVK {X : Cx} (K : PySem.W.Frag) (hK : X.K = K) {tg e : Expr} {te : TE} (he : PE X e te) : PI X tg e (iRngV te) := by
  refine ⟨fun pins s σ H R I h => ?_⟩
  refine thn (he.run pins s σ H _ I h) fun v s1 ⟨x, H1, I1, r1, q1⟩ => ?_
  obtain ⟨a, lo, hi, e, ha, ⟨b1, b2, b3, b4⟩, q⟩ := q1
  subst e
  cases r1
  obtain ⟨t, u, v, hr⟩ := I1.hok a _ ha
  refine wpAny_pyIter_range (show IsRange s1.heap a lo hi 1 t u v from hr) (small_one b1 b2 b3 b4) ?_
  refine ⟨s1.heap.objs.size, [s1.heap.objs.size], _, _, H1, rfl, I1.kept (t' := s1.toks) fun b o e => Heap.get?_push_of_some _ e, turn_range _ lo (hi - lo).toNat, ?_, fun b hb => ?_, q⟩
  · have e1 : lo + ((0 : Nat) : Int) * 1 = lo := by simp
    have e2 : (((hi - lo).toNat : Nat) : Int) - ((0 : Nat) : Int) = Builtin.Range.rangeSize lo hi 1 := by rw [rangeSize_one]; split <;> omega
    show IsRangeIter _ _ (lo + ((0 : Nat) : Int) * 1) ((((hi - lo).toNat : Nat) : Int) - ((0 : Nat) : Int)) 1
    rw [e1, e2]
    exact Heap.get?_push_size _ rfl
  · have e : b = s1.heap.objs.size := by simpa using hb
    subst e
    exact I1.fpOk (Nat.le_refl _) (I1.hok.fresh (Nat.le_refl _))
end NA
namespace NA
open PySem PySem.Spec PyProof.Rows L2
/-! ### max of a tuple of ints -/
section
variable {prog : Program} {w : World} {A : Around} {E : Value → Shared → Prop} {s : Shared} {l : Addr}
theorem max_intTup {xs : Array (Int × Tok)} {Q : Value → Shared → Prop} (hh : A.handled = none) (hl : s.heap.IsTuple l (intItems xs)) (hne : 0 < xs.size)
    (h : ∀ v h' tk, (intItems xs)[argBest (fun i j => decide (numAt xs i > numAt xs j)) (xs.size - 1)]? = some v → (∀ b o, s.heap.get? b = some o → h'.get? b = some o) → Q v { s with heap := h', toks := tk }) :
    wpAny (model prog w) A (call (.builtin "max") [.ref l]) Q E s := by
  have hlt : l < s.heap.objs.size := by obtain ⟨_, e, _⟩ := hl; exact Heap.lt_size e
  refine call_max_walk (wpAny_pyIter_tuple hl ?_)
  refine ⟨_, [_, l], [_], _, _, _, _, rfl, Walks.tuple (A := A.in1) hh _ l (Nat.ne_of_lt hlt) (intItems xs), ⟨⟨_, Heap.get?_push_size _ rfl, rfl, rfl⟩, hl.push _⟩, fun b hb => ?_, by simpa [intItems] using hne, CmpOf.ints_gt (numAt xs) (fun _ _ => intItems_at), fun v h' tk hP hk => ?_⟩
  · show b < (s.heap.push _).objs.size
    rw [Heap.size_push]
    rcases List.mem_cons.mp hb with rfl | hb
    · exact Nat.lt_succ_self _
    · rw [List.mem_singleton.mp hb]
      exact Nat.lt_succ_of_lt hlt
  · refine h v h' tk (by simpa [intItems] using hP) fun b o e => hk b o (fun hm => ?_) (Heap.get?_push_of_some _ e)
    rw [List.mem_singleton.mp hm] at e
    exact absurd (Heap.lt_size e) (Nat.lt_irrefl _)
theorem max_rawT {its : List Value} {ns : List Int} {Q : Value → Shared → Prop} (hh : A.handled = none) (hl : s.heap.IsTuple l its.toArray) (hi : IntsAre its ns) (hne : 0 < ns.length)
    (h : ∀ h' tk M t', (∀ b o, s.heap.get? b = some o → h'.get? b = some o) → M ∈ ns → (∀ a, a ∈ ns → a ≤ M) → Q (.int M t') { s with heap := h', toks := tk }) : wpAny (model prog w) A (call (.builtin "max") [.ref l]) Q E s := by
  obtain ⟨xs, e⟩ := hi.allInts.items
  have hn : numsOf (intItems xs).toList = ns := by rw [← e]; exact hi.numsOf
  rw [nums_intItems] at hn
  subst hn
  rw [e] at hl
  have hsz : 0 < xs.size := by simpa using hne
  refine max_intTup hh hl hsz fun v h' tk hv hk => ?_
  obtain ⟨t, rfl⟩ := intItems_at hv
  obtain ⟨h1, h2⟩ := argBest_gt (numAt xs) (xs.size - 1)
  refine h h' tk _ t hk ?_ fun a ha => ?_
  · rw [numAt_eq]; exact PySem.getD_mem (by rw [List.length_map, Array.length_toList]; omega)
  · obtain ⟨j, hj, rfl⟩ := mem_getD ha
    rw [List.length_map, Array.length_toList] at hj
    rw [← numAt_eq]; exact h2 j (by omega)
end
def rMaxT (K : PySem.W.Frag) : List V → Hp → VK → Prop := fun vs H Q => ∃ (a : Addr) (ns : List Int), vs = [V.ref a] ∧ SqT K H a (ns.map V.int) ∧ 0 < ns.length ∧ ∀ m, m ∈ ns → (∀ y, y ∈ ns → y ≤ m) → Q (.int m) H
theorem cr_maxTK {X : Cx} (K : PySem.W.Frag) (hK : X.K = K) (hc : X.calm = true) : CallR X (.builtin "max") (rMaxT K) := by
  subst hK
  intro pins s σ H vs us Q I r h
  obtain ⟨a, ns, rfl, hs, hne, q⟩ := h
  obtain ⟨its, rv, hl⟩ := src_of (k := .t) I hs
  rw [Vals.ref1 r]
  exact max_rawT (I.ok.hd hc) hl rv.ints hne fun h' tk m t' hk h1 h2 => ⟨.int _, H, I.kept hk, ⟨_, rfl⟩, q m h1 h2⟩
end NA
namespace NA
open PySem PySem.Spec PyProof.Rows L2
/-! ### all contents of a small machine -/
def exI (s : Int) (found : List (List Int)) : List (List Int) := found.flatMap fun h => (List.range s.toNat).map fun i : Nat => h ++ [(i : Int)]
def everyI (ss : List Int) : List (List Int) := ss.foldl (fun found s => exI s found) [[]]
def prodN (ss : List Int) : Nat := ss.foldl (fun a s => a * s.toNat) 1
theorem every_next {ss : List Int} {i : Nat} {s : Int} (h : ss[i]? = some s) : everyI (ss.take (i + 1)) = exI s (everyI (ss.take i)) := by
  unfold everyI
  rw [List.take_add_one, h, List.foldl_append]
  rfl
theorem prod_next {ss : List Int} {i : Nat} {s : Int} (h : ss[i]? = some s) : prodN (ss.take (i + 1)) = prodN (ss.take i) * s.toNat := by
  unfold prodN
  rw [List.take_add_one, h, List.foldl_append]
  rfl
theorem prod_snoc (ss : List Int) (s : Int) : prodN (ss ++ [s]) = prodN ss * s.toNat := by
  unfold prodN
  rw [List.foldl_append]
  rfl
theorem ex_len (s : Int) (f : List (List Int)) : (exI s f).length = f.length * s.toNat := by
  unfold exI
  rw [List.length_flatMap]
  have : ∀ l : List (List Int), (l.map fun h => ((List.range s.toNat).map fun i : Nat => h ++ [(i : Int)]).length).sum = l.length * s.toNat := by
    intro l
    induction l with
    | nil => rw [List.map_nil, List.length_nil, Nat.zero_mul]; rfl
    | cons h l ih =>
      rw [List.map_cons, List.sum_cons, ih, List.length_map, List.length_range, List.length_cons, Nat.succ_mul, Nat.add_comm]
  exact this f
structure EvOk (ss : List Int) (f : List (List Int)) : Prop where
  cok : ∀ h ∈ f, COk ss h
  nd : f.Nodup
  len : f.length = prodN ss
theorem every_ok (ss : List Int) (ok : ∀ s ∈ ss, SizeOk s) : ∀ i, i ≤ ss.length → EvOk (ss.take i) (everyI (ss.take i)) := by
  intro i
  induction i with
  | zero =>
    intro _
    refine ⟨fun h hh => ?_, List.pairwise_singleton _ _, rfl⟩
    rw [List.take_zero] at hh ⊢
    rw [List.mem_singleton.mp hh]
    exact ⟨rfl, fun i h s e _ => by simp at e⟩
  | succ i ih =>
    intro hi
    have e := ih (by omega)
    obtain ⟨s, hs⟩ := get_some (ss := ss) (show i < ss.length by omega)
    rw [every_next hs]
    refine ⟨fun h hh => ?_, ?_, by rw [ex_len, e.len, prod_next hs]⟩
    · obtain ⟨g, hg, hx⟩ := List.mem_flatMap.mp hh
      obtain ⟨x, hx', rfl⟩ := List.mem_map.mp hx
      have cg := e.cok g hg
      have lx := List.mem_range.mp hx'
      have lt : (ss.take i).length = i := by rw [List.length_take]; omega
      refine ⟨by rw [List.length_append, cg.len, lt, List.length_take, List.length_singleton]; omega, fun k y t hy ht => ?_⟩
      by_cases z : k < i
      · rw [List.getElem?_append_left (by rw [cg.len, lt]; exact z)] at hy
        refine cg.low k y t hy ?_
        rw [List.getElem?_take_of_lt z]
        rwa [List.getElem?_take_of_lt (by omega)] at ht
      · have lk : k < i + 1 := by
          have := (List.getElem?_eq_some_iff.mp ht).1
          rw [List.length_take] at this
          omega
        have ek : k = i := by omega
        subst ek
        rw [List.getElem?_append_right (by rw [cg.len, lt]; exact Nat.le_refl _), cg.len, lt, Nat.sub_self] at hy
        cases Option.some.inj hy
        rw [List.getElem?_take_of_lt (by omega), hs] at ht
        cases Option.some.inj ht
        omega
    · unfold exI
      refine List.pairwise_flatMap.mpr ⟨fun h _ => ?_, ?_⟩
      · rw [List.pairwise_map]
        refine List.Pairwise.imp (fun {a b} (z : a < b) q => ?_) List.pairwise_lt_range
        have q' := List.append_cancel_left q
        have q'' : (a : Int) = b := List.head_eq_of_cons_eq q'
        omega
      · refine List.Pairwise.imp_of_mem (fun {a b} ha hb z x hx y hy q => z ?_) e.nd
        obtain ⟨i1, _, rfl⟩ := List.mem_map.mp hx
        obtain ⟨i2, _, rfl⟩ := List.mem_map.mp hy
        exact (List.append_inj q (by rw [(e.cok a ha).len, (e.cok b hb).len])).1
theorem every_full (ss : List Int) (ok : ∀ s ∈ ss, SizeOk s) : EvOk ss (everyI ss) := by
  have := every_ok ss ok ss.length (Nat.le_refl _)
  rwa [List.take_length] at this
theorem prod_pos {ss : List Int} (ok : ∀ s ∈ ss, SizeOk s) : ∀ i, i ≤ ss.length → 0 < prodN (ss.take i) := by
  intro i
  induction i with
  | zero => intro _; exact Nat.one_pos
  | succ i ih =>
    intro hi
    obtain ⟨s, hs⟩ := get_some (ss := ss) (show i < ss.length by omega)
    rw [prod_next hs]
    obtain ⟨m, rfl, m2, _⟩ := (ok s (List.mem_of_getElem? hs)).nat
    exact Nat.mul_pos (ih (by omega)) (by omega)
theorem prod_le {ss : List Int} (ok : ∀ s ∈ ss, SizeOk s) : ∀ k i, i + k ≤ ss.length → prodN (ss.take i) ≤ prodN (ss.take (i + k)) := by
  intro k
  induction k with
  | zero => intro i _; exact Nat.le_refl _
  | succ k ih =>
    intro i hi
    obtain ⟨s, hs⟩ := get_some (ss := ss) (show i + k < ss.length by omega)
    rw [show i + (k + 1) = i + k + 1 by omega, prod_next hs]
    obtain ⟨m, rfl, m2, _⟩ := (ok s (List.mem_of_getElem? hs)).nat
    exact Nat.le_trans (ih i (by omega)) (Nat.le_mul_of_pos_right _ (by omega))
def spEvery : Sp := fun vs H Q _ => ∃ (x : V) (ss : List Int), vs = [x] ∧ Im H x (sD ss) ∧ (∀ s ∈ ss, SizeOk s) ∧ prodN ss ≤ 1000 ∧
  ∀ (a : Addr) (us : List V) (H' : Hp), H a = none → H' a = some (.lst us) → ImAll H' us ((everyI ss).map sD) → Same H H' → Q (.ref a) H'
def spSmall : Sp := fun vs H Q _ => ∃ (p q : Addr) (m : Nat), vs = [.ref p, .int (m : Int)] ∧ Pt H p q ∧ 2 ≤ m ∧ m ≤ 1000 ∧
  ∀ (v : V) (ss : List Int) (ws : List (Nat × Nat)) (H' : Hp), Im H' v (mD ss ws) → MOk ss ws → prodN ss ≤ m → Pt H' p q → Kp p q H H' → Q v H'
theorem pow_prod {ss : List Int} (ok : ∀ s ∈ ss, SizeOk s) : ∀ k, k ≤ ss.length → 2 ^ k ≤ prodN (ss.take k) := by
  intro k
  induction k with
  | zero => intro _; exact Nat.le_refl _
  | succ k ih =>
    intro hk
    obtain ⟨s', hs'⟩ := get_some (ss := ss) (show k < ss.length by omega)
    rw [prod_next hs', Nat.pow_succ]
    obtain ⟨m', rfl, m2', _⟩ := (ok s' (List.mem_of_getElem? hs')).nat
    exact Nat.mul_le_mul (ih (by omega)) (by omega)
theorem op_catAK {X : Cx} (K : PySem.W.Frag) (hK : X.K = K) : OpR X (binaryOp .Add) (rCatA K) := hK ▸ op_catA
end NA
namespace NA
open PySem PySem.Spec PyProof.Rows L2
/-! ### unlike tables have unlike texts -/
abbrev sg (t : Str) : List Nat := t.cps.toList
theorem sg_app (a b : Str) : sg (a ++ b) = sg a ++ sg b := by
  show (a.cps ++ b.cps).toList = _
  rw [Array.toList_append]
def dig (c : Nat) : Bool := decide (48 ≤ c ∧ c ≤ 57)
def runsGo : List Nat → List Nat → List (List Nat)
  | cur, [] => if cur = [] then [] else [cur.reverse]
  | cur, c :: cs => if dig c = true then runsGo (c :: cur) cs else (if cur = [] then [] else [cur.reverse]) ++ runsGo [] cs
theorem runs_dig : ∀ (d cur rest : List Nat), (∀ c ∈ d, dig c = true) → runsGo cur (d ++ rest) = runsGo (d.reverse ++ cur) rest
  | [], _, _, _ => rfl
  | c :: d, cur, rest, h => by
    show runsGo cur (c :: (d ++ rest)) = _
    rw [runsGo, if_pos (h c List.mem_cons_self), runs_dig d _ _ fun x hx => h x (List.mem_cons_of_mem _ hx), List.reverse_cons, List.append_assoc]
    rfl
theorem runs_no {c : Nat} (h : dig c = false) (rest : List Nat) : runsGo [] (c :: rest) = runsGo [] rest := by
  rw [runsGo, if_neg (by rw [h]; decide), if_pos rfl, List.nil_append]
/-- whatever sign but a digit follows: these runs of digits, then what is behind -/
def Gives (t : Str) (e : List (List Nat)) : Prop := ∀ (c : Nat) (rest : List Nat), dig c = false → runsGo [] (sg t ++ c :: rest) = e ++ runsGo [] rest
theorem gives_int {n : Int} (h : 0 ≤ n) : Gives (PyData.int n).shown [sg (PyData.int n).shown] := by
  intro c rest hc
  have dg : ∀ x ∈ sg (PyData.int n).shown, dig x = true := fun x hx => by
    obtain ⟨m, rfl⟩ : ∃ m : Nat, n = (m : Int) := ⟨n.toNat, by omega⟩
    rw [PyData.shown_int] at hx
    have e : (toString (m : Int) : String) = Nat.repr m := rfl
    rw [e] at hx
    have hx' : x ∈ (Str.ofString (Nat.repr m)).cps.toList := hx
    rw [signs_ofString] at hx'
    obtain ⟨ch, hch, rfl⟩ := List.mem_map.mp hx'
    rw [Nat.toList_repr] at hch
    have := digit_range (Nat.isDigit_of_mem_toDigits (by decide) (by decide) hch)
    exact decide_eq_true this
  have ne : sg (PyData.int n).shown ≠ [] := fun z => by
    obtain ⟨m, rfl⟩ : ∃ m : Nat, n = (m : Int) := ⟨n.toNat, by omega⟩
    rw [PyData.shown_int] at z
    have z' : (Str.ofString (Nat.repr m)).cps.toList = [] := z
    rw [signs_ofString, Nat.toList_repr, List.map_eq_nil_iff] at z'
    exact Nat.toDigits_ne_nil z'
  rw [runs_dig _ _ _ dg, List.append_nil, runsGo, if_neg (by rw [hc]; decide), if_neg (fun z => ne (List.reverse_eq_nil_iff.mp z)), List.reverse_reverse]
theorem gives_join : ∀ (ts : List Str) (es : List (List (List Nat))), ts ≠ [] → Paired (fun t e => Gives t e) ts es → Gives (Str.join ", " ts) es.flatten
  | [t], [e], _, h => by
    cases h with
    | cons a b =>
      intro c rest hc
      have := a c rest hc
      rw [show Str.join ", " [t] = t from rfl, this]
      simp
  | t :: t2 :: ts, e :: e2 :: es, _, h => by
    cases h with
    | cons a b =>
      intro c rest hc
      have ih := gives_join (t2 :: ts) (e2 :: es) (List.cons_ne_nil _ _) b c rest hc
      have j : Str.join ", " (t :: t2 :: ts) = t ++ ", " ++ Str.join ", " (t2 :: ts) := rfl
      have cm : sg (", " : Str) = [44, 32] := by decide
      rw [j, sg_app, sg_app, cm, List.append_assoc, List.append_assoc]
      show runsGo [] (sg t ++ (44 :: (32 :: (sg (Str.join ", " (t2 :: ts)) ++ c :: rest)))) = _
      rw [a 44 _ (by decide), runs_no (by decide), ih]
      simp [List.append_assoc]
  | [], _, h, _ => absurd rfl h
  | [_], [], _, h => by cases h
  | [_], _ :: _ :: _, _, h => by cases h with | cons a b => cases b
  | _ :: _ :: _, [], _, h => by cases h
  | _ :: _ :: _, [_], _, h => by cases h with | cons a b => cases b
theorem gives_tuple {ts : List Str} {es : List (List (List Nat))} (ne : ts ≠ []) (h : Paired (fun t e => Gives t e) ts es) : Gives (tupleText ts) es.flatten := by
  intro c rest hc
  have j := gives_join ts es ne h
  have p : sg ("(" : Str) = [40] := by decide
  unfold tupleText
  rw [sg_app, sg_app, p, List.append_assoc, List.append_assoc]
  show runsGo [] (40 :: (sg (Str.join ", " ts) ++ (sg _ ++ c :: rest))) = _
  rw [runs_no (by decide)]
  by_cases l : (ts.length == 1) = true
  · rw [if_pos l]
    have q : sg ((",)" : String) : Str) = [44, 41] := by decide
    rw [q]
    show runsGo [] (sg (Str.join ", " ts) ++ 44 :: (41 :: (c :: rest))) = _
    rw [j 44 _ (by decide), runs_no (by decide), runs_no hc]
  · rw [if_neg l]
    have q : sg ((")" : String) : Str) = [41] := by decide
    rw [q]
    show runsGo [] (sg (Str.join ", " ts) ++ 41 :: (c :: rest)) = _
    rw [j 41 _ (by decide), runs_no hc]
def rowSg (r : List Int) : List (List Nat) := r.map fun n => sg (PyData.int n).shown
theorem shownAll_map {α : Type} (f : α → PyData) : ∀ l : List α, PyData.shownAll (l.map f) = l.map fun x => (f x).shown
  | [] => rfl
  | x :: l => by
    rw [List.map_cons, List.map_cons, ← shownAll_map f l]
    rfl
theorem gives_row {r : List Int} (ne : r ≠ []) (h : ∀ n ∈ r, 0 ≤ n) : Gives (sD r).shown (rowSg r) := by
  have p : Paired (fun t e => Gives t e) (r.map fun n => (PyData.int n).shown) (r.map fun n => [sg (PyData.int n).shown]) := by
    clear ne
    induction r with
    | nil => exact .nil
    | cons n r ih => exact .cons (gives_int (h n List.mem_cons_self)) (ih fun x hx => h x (List.mem_cons_of_mem _ hx))
  have g := gives_tuple (by simpa using ne) p
  have e1 : (sD r).shown = tupleText (r.map fun n => (PyData.int n).shown) := by
    unfold sD
    rw [← shownAll_map PyData.int]
    simp only [PyData.shown]
  have e2 : ∀ l : List Int, (l.map fun n => [sg (PyData.int n).shown]).flatten = rowSg l := by
    intro l
    induction l with
    | nil => rfl
    | cons n l ih =>
      rw [List.map_cons, List.flatten_cons, ih]
      rfl
  rw [e1, ← e2]
  exact g
theorem gives_tab {t : List (List Int)} (ne : t ≠ []) (h : ∀ r ∈ t, r ≠ [] ∧ ∀ n ∈ r, 0 ≤ n) : Gives (tD t).shown (t.map rowSg).flatten := by
  have p : Paired (fun t e => Gives t e) (t.map fun r => (sD r).shown) (t.map rowSg) := by
    clear ne
    induction t with
    | nil => exact .nil
    | cons r t ih =>
      obtain ⟨a, b⟩ := h r List.mem_cons_self
      exact .cons (gives_row a b) (ih fun x hx => h x (List.mem_cons_of_mem _ hx))
  have g := gives_tuple (by simpa using ne) p
  have e1 : (tD t).shown = tupleText (t.map fun r => (sD r).shown) := by
    unfold tD
    rw [← shownAll_map sD]
    simp only [PyData.shown]
  rw [e1]
  exact g
theorem sg_int_inj {a b : Int} (ha : 0 ≤ a) (hb : 0 ≤ b) (h : sg (PyData.int a).shown = sg (PyData.int b).shown) : a = b := by
  obtain ⟨m, rfl⟩ : ∃ m : Nat, a = (m : Int) := ⟨a.toNat, by omega⟩
  obtain ⟨k, rfl⟩ : ∃ m : Nat, b = (m : Int) := ⟨b.toNat, by omega⟩
  rw [PyData.shown_int, PyData.shown_int] at h
  have h' : (Str.ofString (Nat.repr m)).cps.toList = (Str.ofString (Nat.repr k)).cps.toList := h
  rw [signs_ofString, signs_ofString] at h'
  have inj : ∀ {x y : List Char}, x.map Char.toNat = y.map Char.toNat → x = y := by
    intro x
    induction x with
    | nil => intro y e; cases y with | nil => rfl | cons _ _ => cases e
    | cons c x ih =>
      intro y e
      cases y with
      | nil => cases e
      | cons d y =>
        rw [List.map_cons, List.map_cons, List.cons.injEq] at e
        rw [ih e.2, Char.ext (UInt32.toNat_inj.mp e.1)]
  have e := inj h'
  have : Nat.repr m = Nat.repr k := String.ext e
  rw [Nat.repr_injective this]
theorem rowSg_inj {r q : List Int} (hr : ∀ n ∈ r, 0 ≤ n) (hq : ∀ n ∈ q, 0 ≤ n) (h : rowSg r = rowSg q) : r = q := by
  induction r generalizing q with
  | nil => cases q with | nil => rfl | cons _ _ => cases h
  | cons n r ih =>
    cases q with
    | nil => cases h
    | cons m q =>
      have h' : sg (PyData.int n).shown :: rowSg r = sg (PyData.int m).shown :: rowSg q := h
      rw [List.cons.injEq] at h'
      rw [sg_int_inj (hr n List.mem_cons_self) (hq m List.mem_cons_self) h'.1, ih (fun x hx => hr x (List.mem_cons_of_mem _ hx)) (fun x hx => hq x (List.mem_cons_of_mem _ hx)) h'.2]
theorem tab_inj {t u : List (List Int)} {n : Nat} (n0 : 0 < n) (lt : t.length = n) (lu : u.length = n) (ht : ∀ r ∈ t, r.length = n ∧ ∀ x ∈ r, 0 ≤ x) (hu : ∀ r ∈ u, r.length = n ∧ ∀ x ∈ r, 0 ≤ x) (h : (tD t).shown = (tD u).shown) : t = u := by
  have nr : ∀ {v : List (List Int)}, (∀ r ∈ v, r.length = n ∧ ∀ x ∈ r, 0 ≤ x) → ∀ r ∈ v, r ≠ [] ∧ ∀ x ∈ r, 0 ≤ x := fun hv r hr => ⟨List.length_pos_iff.mp (by rw [(hv r hr).1]; exact n0), (hv r hr).2⟩
  have g1 := gives_tab (List.length_pos_iff.mp (by omega)) (nr ht) 32 [] (by decide)
  have g2 := gives_tab (List.length_pos_iff.mp (by omega)) (nr hu) 32 [] (by decide)
  rw [h, g2] at g1
  have e := List.append_cancel_right g1
  clear g1 g2 h
  have : ∀ (t u : List (List Int)), t.length = u.length → (∀ r ∈ t, r.length = n ∧ ∀ x ∈ r, 0 ≤ x) → (∀ r ∈ u, r.length = n ∧ ∀ x ∈ r, 0 ≤ x) → (u.map rowSg).flatten = (t.map rowSg).flatten → t = u := by
    intro t
    induction t with
    | nil => intro u l _ _ _; exact (List.eq_nil_of_length_eq_zero l.symm).symm
    | cons r t ih =>
      intro u l a b c
      cases u with
      | nil => cases l
      | cons q u =>
        rw [List.map_cons, List.map_cons, List.flatten_cons, List.flatten_cons] at c
        have ra := a r List.mem_cons_self
        have qa := b q List.mem_cons_self
        obtain ⟨c1, c2⟩ := List.append_inj c (by unfold rowSg; rw [List.length_map, List.length_map, ra.1, qa.1])
        rw [rowSg_inj qa.2 ra.2 c1, ih u (by simpa using l) (fun x hx => a x (List.mem_cons_of_mem _ hx)) (fun x hx => b x (List.mem_cons_of_mem _ hx)) c2]
  exact this t u (by omega) ht hu e
end NA
namespace NA
open PySem PySem.Spec PyProof.Rows L2

/-! ### repr of a machine beside a value that may be an empty dict -/
mutual
def flatT : PyData → Bool
  | .int _ => true
  | .tuple xs => flatTAll xs
  | _ => false
def flatTAll : List PyData → Bool
  | [] => true
  | x :: xs => flatT x && flatTAll xs
end
mutual
theorem reads_flat {h : Heap} : ∀ (d : PyData) {v : Value} {as : List Addr}, Reads h v d as → flatT d = true → as = []
  | .int _, _, _, r, _ => by cases r; rfl
  | .tuple xs, _, _, r, f => by
    cases r with
    | tuple _ _ _ ra => exact readsAll_flat xs ra (by simpa [flatT] using f)
  | .none, _, _, _, f => by simp [flatT] at f
  | .bool _, _, _, _, f => by simp [flatT] at f
  | .str _, _, _, _, f => by simp [flatT] at f
  | .list _, _, _, _, f => by simp [flatT] at f
  | .dict _, _, _, _, f => by simp [flatT] at f
theorem readsAll_flat {h : Heap} : ∀ (ds : List PyData) {vs : List Value} {as : List Addr}, ReadsAll h vs ds as → flatTAll ds = true → as = []
  | [], _, _, r, _ => by cases r; rfl
  | d :: ds, _, _, r, f => by
    simp only [flatTAll, Bool.and_eq_true] at f
    cases r with
    | cons a b => rw [reads_flat d a f.1, readsAll_flat ds b f.2]; rfl
end
theorem flat_ints : ∀ ns : List Int, flatTAll (ns.map PyData.int) = true
  | [] => rfl
  | _ :: ns => by simp only [List.map_cons, flatTAll, flatT, flat_ints ns, Bool.and_self]
theorem flat_wires : ∀ ws : List (Nat × Nat), flatTAll (ws.map wD) = true
  | [] => rfl
  | _ :: ws => by simp only [List.map_cons, flatTAll, flatT, wD, flat_wires ws, Bool.and_self]
theorem flat_mach (ss : List Int) (ws : List (Nat × Nat)) : flatT (mD ss ws) = true := by
  simp only [mD, sD, flatT, flatTAll, flat_wires, Bool.and_true, Bool.and_eq_true]
  exact flat_ints ss
section
variable {X : Cx} {es : List Expr} {t : TA} {pos : Pos}
def tLstN (t : TA) : TE := fun σ H Q => t σ H fun xs H1 => xs.length ≤ sizeLine ∧ ∀ p, H1 p = none → p ≠ sysModules → Q (.ref p) (upd H1 p (.lst xs))
theorem pe_lstN (h : PA X es t) : PE X (.List es pos) (tLstN t) := by
  refine ⟨fun pins s σ H Q I hq => ?_⟩
  refine wpAny_List_spliced (thn (h.run pos pins s σ H _ I hq) fun us s1 ⟨xs, H1, I1, r, z, q⟩ => ⟨by rw [← r.length]; exact z, ?_⟩)
  have hf : H1 s1.heap.objs.size = none := I1.hok.fresh (Nat.le_refl _)
  refine ⟨.ref s1.heap.objs.size, upd H1 s1.heap.objs.size (.lst xs), I1.laid (t' := s1.toks) (fun b u e => Heap.get?_push_of_some _ e) (Nat.le_refl _) ?_, rfl, q _ hf (Nat.ne_of_gt I1.big)⟩
  exact ⟨z, us, 0, r, Heap.get?_push_size _ rfl⟩
/-- the machine, and the value -/
def rReprN : List V → Hp → VK → Prop := fun xs H Q => ∃ (l : Addr) (x y : V) (d e : PyData), xs = [.ref l] ∧ l ≠ sysModules ∧ H l = some (.lst [x, y]) ∧ Dg An H x d ∧ flatT d = true ∧ Dv An H y e ∧ (Sh (.list [d, e]) ∨ (e = .dict [] ∧ Sh d ∧ cost d ≤ 4000000 ∧ d.depth ≤ 50)) ∧ Q (.str (PyData.list [d, e]).shown) H
theorem call_reprN {k : Nat} (hg : Bare X.A) (hr : Room k X.A) : CallR X (.builtin "repr") rReprN := by
  intro pins s σ H xs us Q I r h
  obtain ⟨l, x, y, d, e, rfl, nl, hl, hx, fl, hy, sh, q⟩ := h
  rcases hy with hy | ⟨a, rfl, h2, rfl⟩
  · rcases sh with sh | ⟨rfl, _⟩
    · exact call_reprD hg hr pins s σ H [.ref l] us Q I r ⟨.ref l, _, rfl, .lst (SqL.of hl) (.cons (Dg.toDp d x hx) (.cons (Dg.toDp e y hy) .nil)), sh, q⟩
    · cases hy
  · obtain ⟨u, rfl, ru⟩ := r.one
    cases (show u = Value.ref l from ru)
    have sh' : Sh d ∧ cost d ≤ 4000000 ∧ d.depth ≤ 50 := by
      rcases sh with sh | ⟨_, sh⟩
      · have := sh.ok
        simp [okD, okAll] at this
      · exact sh
    obtain ⟨sd, cd, dd⟩ := sh'
    have ok : ObjOk X.prog X.w H s.heap a (.dK []) := I.hok a _ h2
    obtain ⟨_, ns, vs, kv, o, es, ep, g1, g2, g3, g4, g5⟩ := ok
    have hu := hr.un
    have vs0 : vs = [] := by cases kv; rfl
    subst vs0
    have es0 : es.toList = [] := by
      have z := g5.1
      cases h : es.toList with
      | nil => rfl
      | cons x l =>
        rw [h] at z
        cases z
    have rd : Reads s.heap (.ref a) (.dict []) (a :: [] ++ []) := .dict g1 g2.1 g3 (by rw [es0]; exact .nil) (by rw [es0]; exact .nil)
    have nsm : sysModules ≠ a := fun z => by
      rw [z, beq_self_eq_true] at ns
      cases ns
    obtain ⟨its, rv, ⟨o2, n, ho, hc, _, hd⟩, _⟩ := I.list (SqL.of hl)
    obtain ⟨ux, uy, hits, rx, ry⟩ : ∃ ux uy, its = [ux, uy] ∧ RelV x ux ∧ RelV (.ref a) uy := by
      cases rv with
      | cons r1 r2 =>
        cases r2 with
        | cons r3 r4 =>
          cases r4
          exact ⟨_, _, rfl, r1, r3⟩
    subst hits
    cases (show uy = Value.ref a from ry)
    obtain ⟨as, rdx⟩ := Dp.reads I d x ux (Dg.toDp d x hx) rx
    have as0 := reads_flat d rdx fl
    subst as0
    have rl : Reads s.heap (.ref l) (.list [d, .dict []]) (l :: ([] ++ ((a :: [] ++ []) ++ []))) := .list ho hc hd (.cons rdx (.cons rd .nil))
    obtain ⟨f1, f2, f3⟩ := okD_facts d sd.ok
    have len := listText_len_le (PyData.shownAll [d, .dict []])
    refine repr_of_reads' rl (by simp [PyData.showable, PyData.showableAll, f1, PyData.showableKv]) (fun _ => ?_) hg ?_ (fun _ _ z => z) (fun h' u tk hk => ⟨.str _, H, I.kept (t' := tk) hk, ⟨_, rfl⟩, q⟩) ?_
    · intro hm
      simp at hm
      rcases hm with z | z
      · exact nl z.symm
      · exact nsm z
    · simp only [PyData.depth, PyData.depthAll, PyData.depthKv]
      omega
    · have e2 : (PyData.shown (.dict [])).length ≤ 10 := by decide +kernel
      have sz : 16000000 ≤ sizeLine := by decide
      simp only [PyData.shown]
      simp only [PyData.shownAll, List.map_cons, List.map_nil, List.sum_cons, List.sum_nil, List.length_cons, List.length_nil] at len ⊢
      omega
def rNotInE (K : PySem.W.Frag) : R2 := fun x y H Q => ∃ d xs, Dp K H x d ∧ Dp K H y (.tuple xs) ∧ SeqAt.shaped (.tuple xs) = true ∧ SeqAt.shaped d = true ∧ (∀ z ∈ xs, SeqAt.noMix z d = true) ∧ Q (.bl (!decide (countIn d xs ≠ 0))) H
theorem op_notInE (K : PySem.W.Frag) (hK : X.K = K) (hu : X.A.units + 65 < cLine) : OpR X (compareOp .NotIn) (rNotInE K) := by
  subst hK
  intro pins s σ H x y v u Q I rx ry h
  obtain ⟨d, xs, h1, h2, h3, h4, h5, q⟩ := h
  obtain ⟨as, r1⟩ := Dp.reads I d x v h1 rx
  obtain ⟨bs, r2⟩ := Dp.reads I _ y u h2 ry
  exact notIn_tuple_dataH r2 r1 h3 h4 hu h5 ⟨.bl _, H, I, rfl, q⟩
theorem room65K {k : Nat} {A : Around} (hr : Room k A) : A.units + 65 < cLine := by
  have := hr.un
  omega
end
end NA
set_option maxHeartbeats 4000000
namespace NA
open PySem PySem.Spec PyProof.Rows L2
/-! ### a tuple times 1 is the tuple -/
theorem tuple_mulOne (l : Addr) (items : Array Value) (n : Nat) (dd : Option Addr) (sl : Array (Option Value)) (u : Tok) :
    Meets (Builtin.«tuple.__mul__» ⟨[.ref l, .int 1 u], []⟩) (fun _ R s => s.heap.get? l = some { cls := .type "tuple", dict := dd, data := .seq items n, slots := sl } ∧
      R (.ok (.ret (Value.ref l))) s) :=
  .of_wp fun prog w A R s h => by
    obtain ⟨hp, g, d, tk, os⟩ := s
    obtain ⟨hl, h⟩ := h
    have f1 := AutoSeq1.idx_int
    wp_walk using wpAny_loadPart' hl
    exact ⟨_, rfl, h⟩
def rRepN (K : PySem.W.Frag) : R2 := fun x y H Q => ∃ l k xs, x = .ref l ∧ y = .int k ∧ SqT K H l xs ∧ H l = some (.tup xs) ∧ xs ≠ [] ∧ 1 ≤ k ∧ k ≤ 1000 ∧ xs.length ≤ 1000 ∧ ∀ p H', Same H H' → H' p = some (.tup (List.replicate k.toNat xs).flatten) → Q (.ref p) H'
theorem op_repN {X : Cx} (K : PySem.W.Frag) (hK : X.K = K) : OpR X (binaryOp .Mult) (rRepN K) := by
  subst hK
  intro pins s σ H x y v u Q I rx ry h
  obtain ⟨l, k, xs, rfl, rfl, hT, hT2, hne, h1, h2, hz, q⟩ := h
  by_cases k1 : k = 1
  · subst k1
    cases rx
    obtain ⟨t, rfl⟩ := ry
    obtain ⟨its, r, ⟨⟨cls, dd, data, sl⟩, ho, hc, n, hd⟩, hs⟩ := I.tuple hT
    simp only at hc hd
    subst hc hd
    refine wpAny_binaryOp_repeat_ref (T := "tuple") (U := "int") (by decide) ⟨_, ho, rfl⟩ (fun s' => typeIs_int s' 1 t) noFill_tuple_mul F.fills_int_mul F.slot_int_rmul repeat_tuple F.slot_int_index.lookup
      (call_meets F.slot_int_rmul (typeIs_int s 1 t) F.entry_int_rmul (F.args_int_rmul_2 _ _) (int_rmul_tuple 1 t l its.toArray n dd sl)
        ⟨ho, rfl, ⟨_, ho, rfl⟩, call_meets F.slot_tuple_mul ⟨_, ho, rfl⟩ F.entry_tuple_mul (F.args_tuple_mul_2 _ _) (tuple_mulOne l its.toArray n dd sl t) ⟨ho, ?_⟩⟩)
    refine ⟨.ref l, H, I, rfl, q l H (Same.refl H) ?_⟩
    rw [hT2, show (1 : Int).toNat = 1 from rfl, List.replicate_one, List.flatten_cons, List.flatten_nil, List.append_nil]
  · exact op_repT pins s σ H _ _ v u Q I rx ry ⟨l, k, xs, rfl, rfl, hT, hne, by omega, h2, hz, fun p np => q p _ (Same.new (Same.refl H) np) upd_same⟩
end NA
namespace NA
open PySem PySem.Spec PyProof.Rows L2

/-! ### data with lists and empty dicts at any depth; N: where lists may stand -/
mutual
inductive De (N : Addr → Prop) (H : Hp) : V → PyData → Prop
  | non : De N H .non .none
  | bl (b : Bool) : De N H (.bl b) (.bool b)
  | int (i : Int) : De N H (.int i) (.int i)
  | str (x : Str) : De N H (.str x) (.str x)
  | lst {a : Addr} {xs : List V} {ds : List PyData} (n : N a) (h : H a = some (.lst xs)) (t : DeAll N H xs ds) : De N H (.ref a) (.list ds)
  | tup {a : Addr} {xs : List V} {ds : List PyData} (h : H a = some (.tup xs)) (t : DeAll N H xs ds) : De N H (.ref a) (.tuple ds)
  | dic {a : Addr} (h : H a = some (.dK [])) : De N H (.ref a) (.dict [])
inductive DeAll (N : Addr → Prop) (H : Hp) : List V → List PyData → Prop
  | nil : DeAll N H [] []
  | cons {v : V} {vs : List V} {d : PyData} {ds : List PyData} (h : De N H v d) (t : DeAll N H vs ds) : DeAll N H (v :: vs) (d :: ds)
end
mutual
theorem De.wider {N M : Addr → Prop} {H J : Hp} (ks : Ks N H J) (wd : ∀ a, N a → M a) {v : V} : ∀ {d : PyData}, De N H v d → De M J v d
  | _, .non => .non
  | _, .bl b => .bl b
  | _, .int i => .int i
  | _, .str x => .str x
  | _, .lst n h t => .lst (wd _ n) (ks.lst _ _ n h) (DeAll.wider ks wd t)
  | _, .tup h t => .tup (ks.tup _ _ h) (DeAll.wider ks wd t)
  | _, .dic h => .dic (ks.dic _ _ h)
theorem DeAll.wider {N M : Addr → Prop} {H J : Hp} (ks : Ks N H J) (wd : ∀ a, N a → M a) {vs : List V} : ∀ {ds : List PyData}, DeAll N H vs ds → DeAll M J vs ds
  | _, .nil => .nil
  | _, .cons h t => .cons (De.wider ks wd h) (DeAll.wider ks wd t)
end
theorem De.k {N : Addr → Prop} {H J : Hp} {v : V} {d : PyData} (h : De N H v d) (ks : Ks N H J) : De N J v d := h.wider ks fun _ n => n
theorem DeAll.k {N : Addr → Prop} {H J : Hp} {v : List V} {d : List PyData} (h : DeAll N H v d) (ks : Ks N H J) : DeAll N J v d := h.wider ks fun _ n => n
theorem De.s {N : Addr → Prop} {H J : Hp} {v : V} {d : PyData} (h : De N H v d) (e : Same H J) : De N J v d := h.k (Ks.same e)
theorem DeAll.s {N : Addr → Prop} {H J : Hp} {v : List V} {d : List PyData} (h : DeAll N H v d) (e : Same H J) : DeAll N J v d := h.k (Ks.same e)
mutual
theorem De.of_dg {N : Addr → Prop} {H : Hp} {v : V} : ∀ {d : PyData}, Dg N H v d → De N H v d
  | _, .non => .non
  | _, .bl b => .bl b
  | _, .int i => .int i
  | _, .str x => .str x
  | _, .lst n h t => .lst n h (DeAll.of_dg t)
  | _, .tup h t => .tup h (DeAll.of_dg t)
theorem DeAll.of_dg {N : Addr → Prop} {H : Hp} {vs : List V} : ∀ {ds : List PyData}, DgAll N H vs ds → DeAll N H vs ds
  | _, .nil => .nil
  | _, .cons h t => .cons (De.of_dg h) (DeAll.of_dg t)
end
theorem De.of_im {N : Addr → Prop} {H : Hp} {v : V} {d : PyData} (h : Im H v d) : De N H v d := .of_dg h.dg
theorem DeAll.length {N : Addr → Prop} {H : Hp} {vs : List V} {ds : List PyData} (h : DeAll N H vs ds) : vs.length = ds.length := by
  induction vs generalizing ds with
  | nil => cases h; rfl
  | cons v vs ih =>
    cases h with
    | cons _ t => rw [List.length_cons, List.length_cons, ih t]
theorem DeAll.get {N : Addr → Prop} {H : Hp} {vs : List V} {ds : List PyData} {i : Nat} {v : V} (h : DeAll N H vs ds) (e : vs[i]? = some v) : ∃ d, ds[i]? = some d ∧ De N H v d := by
  induction vs generalizing ds i with
  | nil => simp at e
  | cons w vs ih =>
    cases h with
    | cons g t =>
      cases i with
      | zero =>
        simp at e
        subst e
        exact ⟨_, rfl, g⟩
      | succ i =>
        obtain ⟨d, q1, q2⟩ := ih t (by simpa using e)
        exact ⟨d, by simpa using q1, q2⟩
theorem DeAll.idx {N : Addr → Prop} {H : Hp} {vs : List V} {ds : List PyData} {i : Nat} {d : PyData} (h : DeAll N H vs ds) (e : ds[i]? = some d) : ∃ v, vs[i]? = some v ∧ De N H v d := by
  have lt := (List.getElem?_eq_some_iff.mp e).1
  obtain ⟨d', q1, q2⟩ := h.get (i := i) (List.getElem?_eq_getElem (by rw [h.length]; exact lt))
  rw [e] at q1
  cases q1
  exact ⟨_, List.getElem?_eq_getElem _, q2⟩
theorem DeAll.append {N : Addr → Prop} {H : Hp} {vs ws : List V} {ds es : List PyData} (h : DeAll N H vs ds) (g : DeAll N H ws es) : DeAll N H (vs ++ ws) (ds ++ es) := by
  induction vs generalizing ds with
  | nil => cases h; exact g
  | cons v vs ih =>
    cases h with
    | cons a t => exact .cons a (ih t)
theorem DeAll.take {N : Addr → Prop} {H : Hp} {vs : List V} {ds : List PyData} (h : DeAll N H vs ds) (n : Nat) : DeAll N H (vs.take n) (ds.take n) := by
  induction vs generalizing ds n with
  | nil => cases h; simpa using DeAll.nil
  | cons v vs ih =>
    cases h with
    | cons a t =>
      cases n with
      | zero => exact .nil
      | succ n => exact .cons a (ih t n)
theorem DeAll.drop {N : Addr → Prop} {H : Hp} {vs : List V} {ds : List PyData} (h : DeAll N H vs ds) (n : Nat) : DeAll N H (vs.drop n) (ds.drop n) := by
  induction vs generalizing ds n with
  | nil => cases h; simpa using DeAll.nil
  | cons v vs ih =>
    cases h with
    | cons a t =>
      cases n with
      | zero => exact .cons a t
      | succ n => exact ih t n
theorem De.ty {N : Addr → Prop} {K : PySem.W.Frag} {H : Hp} {v : V} {d : PyData} (h : De N H v d) : TyX K H v (.type (tyD d)) := by
  cases h with
  | non => exact .base .non
  | bl b => exact .base (.bl b)
  | int i => exact .base (.int i)
  | str x => exact .base (.str x)
  | lst _ h _ => exact .base (.lst h)
  | tup h _ => exact .base (.tup h)
  | dic h => exact .base (.dK h)
theorem De.tuple {N : Addr → Prop} {H : Hp} {v : V} {d : PyData} (h : De N H v d) (e : isT d = true) : ∃ a xs ds, v = .ref a ∧ d = .tuple ds ∧ H a = some (.tup xs) ∧ DeAll N H xs ds := by
  cases h with
  | tup a b => exact ⟨_, _, _, rfl, rfl, a, b⟩
  | _ => cases e
theorem De.int_of {N : Addr → Prop} {H : Hp} {v : V} {d : PyData} (h : De N H v d) (e : isI d = true) : ∃ i, v = .int i ∧ d = .int i := by
  cases h with
  | int i => exact ⟨i, rfl, rfl⟩
  | _ => cases e
/-! ### read, shown -/
theorem reads_dic {X : Cx} {pins : List (Addr × Obj)} {σ : L2.St} {H : Hp} {s : Shared} (I : Inv X pins σ H s) {a : Addr} (h : H a = some (.dK [])) : Reads s.heap (.ref a) (.dict []) (a :: ([] ++ [])) ∧ sysModules ≠ a := by
  obtain ⟨_, ns, vs, kv, o, es, ep, g1, g2, g3, g4, g5⟩ := (show ObjOk X.prog X.w H s.heap a (.dK []) from I.hok a _ h)
  cases kv
  have z := g5.1
  have e0 : es.toList = [] := by
    generalize es.toList = l at z
    cases l with
    | nil => rfl
    | cons _ _ => cases z
  exact ⟨.dict g1 g2.1 g3 (by rw [e0]; exact .nil) (by rw [e0]; exact .nil), fun q => by simp [q] at ns⟩
mutual
theorem De.reads {X : Cx} {pins : List (Addr × Obj)} {σ : L2.St} {H : Hp} {s : Shared} {N : Addr → Prop} (I : Inv X pins σ H s) (ns : ∀ a, N a → a ≠ sysModules) {v : V} {u : Value} : ∀ {d : PyData}, De N H v d → RelV v u → ∃ as, Reads s.heap u d as ∧ sysModules ∉ as
  | _, .non, r => by
    cases r
    exact ⟨_, .none, by simp⟩
  | _, .bl b, r => by
    cases r
    exact ⟨_, .bool b, by simp⟩
  | _, .int i, r => by
    obtain ⟨t, rfl⟩ := r
    exact ⟨_, .int i t, by simp⟩
  | _, .str x, r => by
    obtain ⟨t, rfl⟩ := r
    exact ⟨_, .str x t, by simp⟩
  | _, .dic h, r => by
    cases r
    obtain ⟨q1, q2⟩ := reads_dic I h
    exact ⟨_, q1, by simpa using q2⟩
  | _, .tup h t, r => by
    cases r
    obtain ⟨its, rv, ⟨o, ho, hc, n, hd⟩, _⟩ := I.tuple (SqT.of h)
    obtain ⟨as, q1, q2⟩ := DeAll.reads I ns t rv
    exact ⟨as, .tuple ho hc hd q1, q2⟩
  | _, .lst n h t, r => by
    cases r
    obtain ⟨its, rv, ⟨o, m, ho, hc, _, hd⟩, _⟩ := I.list (SqL.of h)
    obtain ⟨as, q1, q2⟩ := DeAll.reads I ns t rv
    refine ⟨_, .list ho hc hd q1, fun z => ?_⟩
    rcases List.mem_cons.mp z with z | z
    · exact ns _ n z.symm
    · exact q2 z
theorem DeAll.reads {X : Cx} {pins : List (Addr × Obj)} {σ : L2.St} {H : Hp} {s : Shared} {N : Addr → Prop} (I : Inv X pins σ H s) (ns : ∀ a, N a → a ≠ sysModules) {vs : List V} {us : List Value} : ∀ {ds : List PyData}, DeAll N H vs ds → Vals vs us → ∃ as, ReadsAll s.heap us ds as ∧ sysModules ∉ as
  | _, .nil, r => by
    cases r
    exact ⟨_, .nil, by simp⟩
  | _, .cons h t, r => by
    cases r with
    | cons r1 r2 =>
      obtain ⟨as, q1, q2⟩ := De.reads I ns h r1
      obtain ⟨bs, q3, q4⟩ := DeAll.reads I ns t r2
      refine ⟨_, .cons q1 q3, fun z => ?_⟩
      rcases List.mem_append.mp z with z | z
      · exact q2 z
      · exact q4 z
end
/-! ### how long what is shown may be -/
mutual
def okE : PyData → Bool
  | .none => true
  | .bool _ => true
  | .int i => decide (i.natAbs.log2 < 1920)
  | .str x => strSmall x
  | .list xs => okEAll xs
  | .tuple xs => okEAll xs
  | .dict kvs => kvs.isEmpty
def okEAll : List PyData → Bool
  | [] => true
  | x :: xs => okE x && okEAll xs
def wtE : PyData → Nat
  | .none => 4
  | .bool _ => 5
  | .int _ => 1921
  | .str x => 10 * x.length + 2
  | .list xs => wtEAll xs + 3
  | .tuple xs => wtEAll xs + 3
  | .dict _ => 2
def wtEAll : List PyData → Nat
  | [] => 0
  | x :: xs => wtE x + 2 + wtEAll xs
end
mutual
theorem okE_facts : ∀ d : PyData, okE d = true → d.showable = true ∧ d.shown.length ≤ wtE d
  | .none, _ => ⟨rfl, by decide +kernel⟩
  | .bool true, _ => ⟨rfl, by decide +kernel⟩
  | .bool false, _ => ⟨rfl, by decide +kernel⟩
  | .int i, h => by
    have z := okD_facts (.int i) (by simpa [okE, okD] using h)
    exact ⟨z.1, by simpa only [NA.cost, wtE] using z.2.2⟩
  | .str x, h => by
    have z := okD_facts (.str x) (by simpa [okE, okD] using h)
    exact ⟨z.1, by simpa only [NA.cost, wtE] using z.2.2⟩
  | .list xs, h => by
    obtain ⟨a, c⟩ := okEAll_facts xs (by simpa [okE] using h)
    have := listText_len_le (PyData.shownAll xs)
    refine ⟨by simpa [PyData.showable] using a, ?_⟩
    simp only [PyData.shown, wtE]
    omega
  | .tuple xs, h => by
    obtain ⟨a, c⟩ := okEAll_facts xs (by simpa [okE] using h)
    have := tupleText_len_le (PyData.shownAll xs)
    refine ⟨by simpa [PyData.showable] using a, ?_⟩
    simp only [PyData.shown, wtE]
    omega
  | .dict [], _ => ⟨by simp [PyData.showable, PyData.showableKv], by decide +kernel⟩
  | .dict (_ :: _), h => by simp [okE] at h
theorem okEAll_facts : ∀ xs : List PyData, okEAll xs = true → PyData.showableAll xs = true ∧ ((PyData.shownAll xs).map (·.length)).sum + 2 * (PyData.shownAll xs).length ≤ wtEAll xs
  | [], _ => ⟨rfl, Nat.le_refl _⟩
  | x :: xs, h => by
    simp only [okEAll, Bool.and_eq_true] at h
    obtain ⟨a, b⟩ := okE_facts x h.1
    obtain ⟨c, e⟩ := okEAll_facts xs h.2
    refine ⟨by simp only [PyData.showableAll, a, c, Bool.and_self], ?_⟩
    simp only [PyData.shownAll, wtEAll, List.map_cons, List.sum_cons, List.length_cons]
    omega
end
structure ShE (d : PyData) : Prop where
  ok : okE d = true
  wt : wtE d ≤ 16000000
  depth : d.depth ≤ 60
/-- in a scale: how heavy, how deep -/
def okEG (c dp : Nat) (d : PyData) : Bool := okE d && decide (wtE d ≤ c) && decide (d.depth ≤ dp)
theorem okEG_iff {c dp : Nat} {d : PyData} : okEG c dp d = true ↔ okE d = true ∧ wtE d ≤ c ∧ d.depth ≤ dp := by
  unfold okEG
  simp only [Bool.and_eq_true, decide_eq_true_eq, and_assoc]
theorem okEG_mono {c dp c' dp' : Nat} {d : PyData} (h : okEG c dp d = true) (a : c ≤ c') (b : dp ≤ dp') : okEG c' dp' d = true := by
  obtain ⟨x, y, z⟩ := okEG_iff.mp h
  exact okEG_iff.mpr ⟨x, by omega, by omega⟩
theorem okEG_all {c dp : Nat} {l : List PyData} (h : ∀ x ∈ l, okEG c dp x = true) : okEAll l = true ∧ wtEAll l ≤ (c + 2) * l.length ∧ PyData.depthAll l ≤ dp := by
  induction l with
  | nil => exact ⟨rfl, Nat.le_refl _, Nat.zero_le _⟩
  | cons x l ih =>
    obtain ⟨a, b, e⟩ := ih fun y hy => h y (List.mem_cons_of_mem _ hy)
    obtain ⟨a1, b1, e1⟩ := okEG_iff.mp (h x List.mem_cons_self)
    refine ⟨by simp only [okEAll, a, a1, Bool.and_self], ?_, ?_⟩
    · simp only [wtEAll, List.length_cons, Nat.mul_succ]
      omega
    · simp only [PyData.depthAll]
      omega
theorem okEG_tup {c dp c' dp' : Nat} {l : List PyData} (h : ∀ x ∈ l, okEG c dp x = true) (a : (c + 2) * l.length + 3 ≤ c') (b : dp + 1 ≤ dp') : okEG c' dp' (.tuple l) = true := by
  obtain ⟨h1, h2, h3⟩ := okEG_all h
  refine okEG_iff.mpr ⟨by simpa only [okE] using h1, ?_, ?_⟩
  · simp only [wtE]
    omega
  · simp only [PyData.depth]
    omega
theorem okEG_lst {c dp c' dp' : Nat} {l : List PyData} (h : ∀ x ∈ l, okEG c dp x = true) (a : (c + 2) * l.length + 3 ≤ c') (b : dp + 1 ≤ dp') : okEG c' dp' (.list l) = true := by
  obtain ⟨h1, h2, h3⟩ := okEG_all h
  refine okEG_iff.mpr ⟨by simpa only [okE] using h1, ?_, ?_⟩
  · simp only [wtE]
    omega
  · simp only [PyData.depth]
    omega
theorem okEG_sh {c dp : Nat} {d : PyData} (h : okEG c dp d = true) (a : c ≤ 16000000) (b : dp ≤ 60) : ShE d := by
  obtain ⟨h1, h2, h3⟩ := okEG_iff.mp h
  exact ⟨h1, by omega, by omega⟩
theorem okEG_int {n : Int} (h : n.natAbs ≤ 10 ^ 62) : okEG 1921 0 (.int n) = true := okEG_iff.mpr ⟨by simp only [okE]; exact decide_eq_true (small_log (Nat.lt_of_le_of_lt h (by decide))), by simp only [wtE]; decide, by simp only [PyData.depth]; decide⟩
/-- what is neither in the pot nor sys.modules -/
def Nq (p q : Addr) : Addr → Prop := fun a => a ≠ p ∧ a ≠ q ∧ a ≠ sysModules
theorem Ks.kq {p q : Addr} {H H' : Hp} (e : Kp p q H H') (P : Pt H p q) : Ks (Nq p q) H H' := by
  have z := Ks.kp e P
  exact ⟨z.tup, fun b xs n h => z.lst b xs ⟨n.1, n.2.1⟩ h, z.dic⟩
/-- repr of a list that was just made -/
def rReprE : List V → Hp → VK → Prop := fun xs H Q => ∃ (l : Addr) (vs : List V) (ds : List PyData) (N : Addr → Prop), xs = [.ref l] ∧ l ≠ sysModules ∧ H l = some (.lst vs) ∧ DeAll N H vs ds ∧ (∀ a, N a → a ≠ sysModules) ∧ ShE (.list ds) ∧ Q (.str (PyData.list ds).shown) H
theorem call_reprE {X : Cx} {k : Nat} (hg : Bare X.A) (hr : Room k X.A) : CallR X (.builtin "repr") rReprE := by
  intro pins s σ H xs us Q I r h
  obtain ⟨l, vs, ds, N, rfl, nl, hl, hd, ns, sh, q⟩ := h
  obtain ⟨u, rfl, ru⟩ := r.one
  cases (show u = Value.ref l from ru)
  obtain ⟨its, rv, ⟨o, n, ho, hc, _, hdt⟩, _⟩ := I.list (SqL.of hl)
  obtain ⟨as, q1, q2⟩ := DeAll.reads I ns hd rv
  obtain ⟨f1, f2⟩ := okE_facts _ sh.ok
  have hu := hr.un
  have dp := sh.depth
  refine repr_of_reads' (.list ho hc hdt q1) f1 (fun _ z => ?_) hg (by omega) (fun _ _ z => z) (fun h' u tk hk => ⟨.str _, H, I.kept (t' := tk) hk, ⟨_, rfl⟩, q⟩) (Nat.le_trans f2 (Nat.le_trans sh.wt (by decide)))
  rcases List.mem_cons.mp z with z | z
  · exact nl z.symm
  · exact q2 z
end NA
set_option maxHeartbeats 4000000
namespace NA
open PySem PySem.Spec PyProof.Rows L2

/-! ### {(a, b): v for target in iter}: a dict whose keys are tuples -/
theorem dictSetT {X : Cx} {pins : List (Addr × Obj)} {σ : L2.St} {H : Hp} {s : Shared} {E : Value → Shared → Prop} {D b : Addr} {kvs : List (List Key × V)} {k : List Key} {v : V} {u r : Value} {Q : Unit → Shared → Prop} (hu : X.A.units + 1 < cLine) (I : Inv X pins σ H s)
    (eD : H D = some (.dT kvs)) (eb : H b = some (.tup (k.map kV))) (small : kvs.length < sizeLine) (ru : RelV (.ref b) u) (rr : RelV v r) (done : ∀ s', Inv X pins σ (upd H D (.dT (putK kvs k v))) s' → Q () s') :
    wpAny (model X.prog X.w) X.A (dictSet D u r) Q E s := by
  cases (show u = Value.ref b from ru)
  obtain ⟨z, ns, xs, rel, dd⟩ := dt_of I.hok eD
  refine wpAny_dictSet_heap (hsz := by rw [← Paired.length rel]; exact z) (show X.A.units < cLine by omega) (key_of I.hok eb) dd fun h2 d2 sb => done _ ?_
  obtain ⟨o, es, ep, q1, q2, q3, q4, _, q5⟩ := d2
  have longer := length_putK kvs k v
  refine d_write I (by rw [eD]; trivial) sb ⟨o, q1⟩ ⟨by omega, ns, _, (rel.put k eb rr).keeps fun c ys ec => ?_, o, es, ep, q1, q2, q3, q4, q5⟩
  exact (upd_ne (ne_of ec eD (by intro w; cases w))).trans ec
/-- how such a dict is read -/
def tDcT (wi : TI) (g : TG) (tt : TT) (tk tv : TE) (vs : List Nat) : TE := fun σ H Q => wi σ H fun J H1 => ∀ D, H1 D = none → ∃ W : Nat → Nat → Hp → Prop, (∃ m, W 0 m (upd H1 D (.dT []))) ∧ ∀ i m H2, W i m H2 →
  (J.stop i H2 ∧ Q (.ref D) H2) ∨ (J.go i H2 ∧ ∃ Nx : Hp → Prop, (∀ H', Nx H' → ∃ m', m' < m ∧ W (i + 1) m' H') ∧ ∀ x H', J.yld i H2 x H' → g x (wipe σ vs) H' fun σ2 H3 => wipe σ2 vs = wipe σ vs ∧ tt σ2 H3 fun c H4 =>
    if c = true then tk σ2 H4 fun y H5 => tv σ2 H5 fun z H6 => ∃ (kvs : List (List Key × V)) (k : List Key) (b : Addr), y = .ref b ∧ H6 b = some (.tup (k.map kV)) ∧ H6 D = some (.dT kvs) ∧ kvs.length < sizeLine ∧ Nx (upd H6 D (.dT (putK kvs k z))) else Nx H4)
section
variable {X : Cx} {kx vx tg iter : Expr} {ifs : List Expr} {scope : Scope} {own : List (Str × Nat)} {pos : Pos} {wi : TI} {g : TG} {tt : TT} {tk tv : TE}
theorem pe_dcT (calm : X.calm = true) (nd : X.N.Nodup) (pi : PI X tg iter wi) (bk : BlkOk X.N X.env.scope scope own) (hu : X.A.units + 1 < cLine)
    (G : ∀ (s0 : Shared) (H0 : Hp) (C0 : Addr) (c0 : List (Str × Addr)) (p0 : List Addr), PG (X.blk s0 H0 scope (compEnvC scope c0 C0 X.env) p0) tg g)
    (U : ∀ (s0 : Shared) (H0 : Hp) (C0 : Addr) (c0 : List (Str × Addr)) (p0 : List Addr), PTs (X.blk s0 H0 scope (compEnvC scope c0 C0 X.env) p0) ifs tt)
    (A1 : ∀ (s0 : Shared) (H0 : Hp) (C0 : Addr) (c0 : List (Str × Addr)) (p0 : List Addr), PE (X.blk s0 H0 scope (compEnvC scope c0 C0 X.env) p0) kx tk)
    (A2 : ∀ (s0 : Shared) (H0 : Hp) (C0 : Addr) (c0 : List (Str × Addr)) (p0 : List Addr), PE (X.blk s0 H0 scope (compEnvC scope c0 C0 X.env) p0) vx tv)
    (plain : ∀ x, foldedSetIterable iter X.env x = pure x := by intro _; rfl) : PE X (.DictComp kx vx [⟨tg, iter, ifs, 0⟩] scope pos) (tDcT wi g tt tk tv (own.map (·.2))) := by
  refine ⟨fun pins s σ H Q I h => ?_⟩
  rw [arm_eval_DictComp]
  have cap : ∀ y ∈ scope.names, y.2 = .free → ∃ c, X.env.cells.lookup y.1 = some c := fun y m e => (bk.free y m e).elim (fun z => I.ok.has _ (.inl z)) (fun z => I.ok.has _ (.inr z))
  refine wpAny_comprehension_free (use := none) rfl plain (closure_ok cap) bk.kind (fun y m e => by rw [bk.uniq y m, e]) (thn (pi.run pins s σ H _ I h) fun _ s1 r1 => thn r1 fun _ s2 r2 => ?_)
  obtain ⟨ia, fp, tn, J, H2, rfl, I2, T, begun, fr, q⟩ := r2
  refine wpAny_newObj_type (newEnv_comp ?_)
  obtain ⟨W, ⟨m0, w0⟩, turn⟩ := q s2.heap.objs.size (I2.hok.fresh (Nat.le_refl _))
  have low : ∀ b ∈ fp, b < s2.heap.objs.size := fun b m => (T.obj _ _ begun b m).elim fun o z => Heap.lt_size z.1
  have J3 : Inv X pins σ (upd H2 s2.heap.objs.size (.dT [])) { s2 with heap := s2.heap.push { cls := .type "dict", data := .dict #[] } } :=
    I2.laid (t' := s2.toks) (fun _ _ z => Heap.get?_push_of_some _ z) (Nat.le_refl _) (dt_empty s2.heap I2.big)
  have own3 : ∀ b ∈ fp, FpOk X pins (upd H2 s2.heap.objs.size (.dT [])) b ∧ b < (s2.heap.push { cls := .type "dict", data := .dict #[] }).objs.size := fun b m =>
    ⟨⟨(upd_ne (Nat.ne_of_lt (low b m))).trans (fr b m).1, (fr b m).2⟩, by rw [Heap.size_push]; exact Nat.lt_succ_of_lt (low b m)⟩
  have begun3 : tn 0 (s2.heap.push { cls := .type "dict", data := .dict #[] }) := T.keep _ _ _ begun fun _ _ _ z => Heap.get?_push_of_some _ z
  generalize s2.heap.objs.size = D at w0 turn J3 own3 ⊢
  obtain ⟨s3, e3⟩ : ∃ x : Shared, x = { s2 with heap := s2.heap.push { cls := .type "dict", data := .dict #[] } } := ⟨_, rfl⟩
  have hp3 : s3.heap = s2.heap.push { cls := .type "dict", data := .dict #[] } := by rw [e3]
  rw [← e3] at J3
  rw [← hp3] at own3 begun3
  generalize upd H2 D (.dT []) = H3 at w0 J3 own3
  have B := block_start J3 bk nd own3
  have gP := G s3 H3 s3.heap.objs.size (cellsFrom (s3.heap.objs.size + 1) scope.names (cloFrom X.env.cells scope.names [])) fp
  have gU := U s3 H3 s3.heap.objs.size (cellsFrom (s3.heap.objs.size + 1) scope.names (cloFrom X.env.cells scope.names [])) fp
  have gK := A1 s3 H3 s3.heap.objs.size (cellsFrom (s3.heap.objs.size + 1) scope.names (cloFrom X.env.cells scope.names [])) fp
  have gV := A2 s3 H3 s3.heap.objs.size (cellsFrom (s3.heap.objs.size + 1) scope.names (cloFrom X.env.cells scope.names [])) fp
  rw [← e3]
  change codeAny _ _ (.compStart _ 0 (.ref ia) (.ref D) (compEnvC scope (cellsFrom (s3.heap.objs.size + 1) scope.names (cloFrom X.env.cells scope.names [])) s3.heap.objs.size X.env)) (compPost _ _ _ none _ (.ref D) s3.heap.objs.size) _
  obtain ⟨ce, ec⟩ : ∃ x : Env, x = compEnvC scope (cellsFrom (s3.heap.objs.size + 1) scope.names (cloFrom X.env.cells scope.names [])) s3.heap.objs.size X.env := ⟨_, rfl⟩
  have at3 : ce.locals = s3.heap.objs.size := by rw [ec]; rfl
  rw [← ec] at B gP gU gK gV ⊢
  have begun4 : tn 0 (pushCells (s3.heap.push { cls := .type "dict", data := .dict #[] }) scope.names) := T.keep _ _ _ begun3 fun _ _ _ z => pushCells_keeps _ _ _ _ (Heap.get?_push_of_some _ z)
  have bare3 : ∀ b ∈ fp, H3 b = none := fun b m => (own3 b m).1.1
  obtain ⟨s4, e4⟩ : ∃ x : Shared, x = { s3 with heap := pushCells (s3.heap.push { cls := .type "dict", data := .dict #[] }) scope.names } := ⟨_, rfl⟩
  have hp4 : s4.heap = pushCells (s3.heap.push { cls := .type "dict", data := .dict #[] }) scope.names := by rw [e4]
  rw [← e4] at B ⊢
  rw [← hp4] at begun4
  -- what the iterator owns, seen from the block
  have seen : ∀ {τ : L2.St} {K' : Hp} {z : Shared}, Inv (X.blk s3 H3 scope ce fp) [] τ K' z → (∀ b ∈ fp, K' b = none) → ∀ b ∈ fp, FpOk (X.blk s3 H3 scope ce fp) [] K' b := fun {τ K' z} i' n' b m =>
    ⟨n' b m, (i'.ok.exf b m).1, i'.ok.exfs b m, .inl m, fun x c e => (i'.ok.exf b m).2 x c e, fun w hw => absurd (show w ∈ ([] : List (Addr × Obj)) ++ [] from hw) (by simp)⟩
  have loop : codeAny (model X.prog X.w) X.A (.compLoop (.DictComp kx vx [⟨tg, iter, ifs, 0⟩] scope pos) 0 (.ref ia) (.ref D) ce) (compPost (model X.prog X.w) X.A X.xe none (EP X pins σ Q) (.ref D) s3.heap.objs.size) s4 := by
    refine compLoop_anyD (fun n z => ∃ i K', Inv (X.blk s3 H3 scope ce fp) [] (wipe σ (own.map (·.2))) K' z ∧ tn i z.heap ∧ (∀ b ∈ fp, K' b = none) ∧ W i n K') (fun n s5 hs5 => ?_) m0 ⟨0, H3, B, begun4, bare3, w0⟩
    obtain ⟨i, K5, I5, n5, bare5, w5⟩ := hs5
    rcases turn i n K5 w5 with ⟨halt, done⟩ | ⟨go, Nx, drop, body⟩
    · refine thnF (T.done (X.blk s3 H3 scope ce fp) rfl rfl rfl calm i [] s5 _ K5 (fun _ _ => False) I5 (seen I5 bare5) n5 halt) fun r s6 ⟨er, I6⟩ => ?_
      subst er
      have I7 : Inv X pins σ K5 s6 := J3.call' (ch := fp) I6.os I6.base I6.hok I6.bare fun b m => let z := (own3 b m).1.2; ⟨z.2.2.1, z.1, z.2.2.2.1, z.2.2.2.2⟩
      have open3 : K5 s3.heap.objs.size = none := at3 ▸ (show K5 ce.locals = none from I6.free)
      obtain ⟨m, names, _⟩ := I6.loc
      have names' : s6.heap.Ns s3.heap.objs.size m := at3 ▸ (show s6.heap.Ns ce.locals m from names)
      obtain ⟨p0, p1, p2, p3, p4, p5⟩ := J3.fpOk (H' := K5) (Nat.le_refl _) open3
      exact ⟨m, names', fun h8 sb => ⟨.ref D, K5, I7.turned (t' := s6.toks) (fun b o ne z => (sb.2 b ne).trans z) p0 p1 p3 p4 p5, rfl, done⟩⟩
    · refine thnF (T.item (X.blk s3 H3 scope ce fp) rfl rfl rfl calm i [] s5 _ K5 (fun _ _ => False) I5 (seen I5 bare5) n5 go) fun r s6 ⟨u, er, next⟩ => ?_
      subst er
      refine thnF next fun _ s7 ⟨x, K7, I7, rx, hy, n7, bare7⟩ => ?_
      refine thnF (gP.run _ s7 _ K7 x u _ (I7.pinned (seen I7 bare7) (T.obj _ _ n7)) rx (body x K7 hy)) fun _ s8 ⟨σ8, K8, I8, same8, test⟩ => ?_
      refine thnF (gU.run _ s8 σ8 K8 _ I8 test) fun c s9 ⟨K9, I9, rest⟩ => ?_
      have closing : ∀ {z : Shared} {K' : Hp}, Inv (X.blk s3 H3 scope ce fp) ([] ++ pinsAt fp s7.heap) σ8 K' z → Nx K' → ∃ m, m < n ∧ ∃ i K', Inv (X.blk s3 H3 scope ce fp) [] (wipe σ (own.map (·.2))) K' z ∧ tn i z.heap ∧ (∀ b ∈ fp, K' b = none) ∧ W i m K' := fun {z K'} i' nx => by
        obtain ⟨m, less, w'⟩ := drop K' nx
        have stay : ∀ b ∈ fp, ∀ o, s7.heap.get? b = some o → z.heap.get? b = some o ∧ K' b = none := fun b mb o eo => by
          have y := i'.pin (b, o) (List.mem_append_right _ (List.mem_append_right _ (mem_pinsAt mb eo)))
          exact ⟨y.1, y.2.1⟩
        refine ⟨m, less, i + 1, K', (i'.unpinned (pins := [])).weak (by rw [← same8, wipe_length]) (fun j v ej => ?_), T.keep _ _ _ n7 fun b mb o eo => (stay b mb o eo).1, fun b mb => ?_, w'⟩
        · exact (wipe_some (same8 ▸ ej)).1
        · exact (T.obj _ _ n7 b mb).elim fun o y => (stay b mb o y.1).2
      cases c with
      | false =>
        rw [if_neg (by decide)] at rest ⊢
        exact closing I9 rest
      | true =>
        rw [if_pos rfl] at rest ⊢
        refine thnF (gK.run _ s9 σ8 K9 _ I9 rest) fun _ s10 ⟨y1, K10, I10, r10, vals⟩ => ?_
        refine thnF (gV.run _ s10 σ8 K10 _ I10 vals) fun _ s11 ⟨y2, K11, I11, r11, kvs, k, b, ey, eb, eD, room, nx⟩ => ?_
        subst ey
        exact dictSetT (X := X.blk s3 H3 scope ce fp) hu I11 eD eb room r10 r11 fun s12 I12 => closing I12 nx
  exact codeAny_compStart_dict loop (T.self X.A 0 _ _ _ begun4 loop)
/-- over a tuple that stays -/
theorem dcT_tup {K : PySem.W.Frag} {a D : Addr} {xs : List V} {vs : List Nat} {σ : L2.St} {H1 : Hp} {Qd : Hp → Prop} (Pv : Nat → Hp → Prop) (first : Pv 0 (upd H1 D (.dT []))) (there : ∀ i H, i ≤ xs.length → Pv i H → SqT K H a xs)
    (each : ∀ i x H, xs[i]? = some x → Pv i H → g x (wipe σ vs) H fun σ2 H3 => wipe σ2 vs = wipe σ vs ∧ tt σ2 H3 fun c H4 => if c = true then tk σ2 H4 fun y H5 => tv σ2 H5 fun z H6 =>
      ∃ (kvs : List (List Key × V)) (k : List Key) (b : Addr), y = .ref b ∧ H6 b = some (.tup (k.map kV)) ∧ H6 D = some (.dT kvs) ∧ kvs.length < sizeLine ∧ Pv (i + 1) (upd H6 D (.dT (putK kvs k z))) else Pv (i + 1) H4) (last : ∀ H, Pv xs.length H → Qd H) :
    ∃ W : Nat → Nat → Hp → Prop, (∃ m, W 0 m (upd H1 D (.dT []))) ∧ ∀ i m H2, W i m H2 → ((Itt K a).stop i H2 ∧ Qd H2) ∨ ((Itt K a).go i H2 ∧ ∃ Nx : Hp → Prop, (∀ H', Nx H' → ∃ m', m' < m ∧ W (i + 1) m' H') ∧ ∀ x H', (Itt K a).yld i H2 x H' →
      g x (wipe σ vs) H' fun σ2 H3 => wipe σ2 vs = wipe σ vs ∧ tt σ2 H3 fun c H4 => if c = true then tk σ2 H4 fun y H5 => tv σ2 H5 fun z H6 =>
        ∃ (kvs : List (List Key × V)) (k : List Key) (b : Addr), y = .ref b ∧ H6 b = some (.tup (k.map kV)) ∧ H6 D = some (.dT kvs) ∧ kvs.length < sizeLine ∧ Nx (upd H6 D (.dT (putK kvs k z))) else Nx H4) := by
  refine ⟨fun i m H => m + i = xs.length ∧ Pv i H, ⟨xs.length, rfl, first⟩, fun i m H2 ⟨mi, p⟩ => ?_⟩
  have sq := there i H2 (by omega) p
  match m, mi with
  | 0, mi =>
    have e : i = xs.length := by omega
    subst e
    exact .inl ⟨⟨xs, sq, Nat.le_refl _⟩, last H2 p⟩
  | m + 1, mi =>
    have lt : i < xs.length := by omega
    refine .inr ⟨⟨xs, xs[i], sq, List.getElem?_eq_getElem lt⟩, Pv (i + 1), fun H' p' => ⟨m, Nat.lt_succ_self m, by omega, p'⟩, fun x H' hy => ?_⟩
    obtain ⟨e, y⟩ := hy
    subst e
    exact each i x _ (y xs sq) p
end
end NA
set_option maxHeartbeats 4000000
namespace NA
open PySem PySem.Spec PyProof.Rows L2
/-! ### a tuple times 0; list(..) is no sys.modules -/
theorem tuple_mulNought (l : Addr) (items : Array Value) (n : Nat) (dd : Option Addr) (sl : Array (Option Value)) (u : Tok) (ne : items.isEmpty = false) :
    Meets (Builtin.«tuple.__mul__» ⟨[.ref l, .int 0 u], []⟩) (fun _ R s => s.heap.get? l = some { cls := .type "tuple", dict := dd, data := .seq items n, slots := sl } ∧
      R (.ok (.ret (Value.ref s.heap.objs.size))) { s with heap := s.heap.push { cls := Value.type "tuple", data := Data.seq #[] }, toks := s.toks }) :=
  .of_wp fun prog w A R s h => by
    obtain ⟨hp, g, d, tk, os⟩ := s
    obtain ⟨hl, h⟩ := h
    have f1 := AutoSeq1.idx_int
    wp_walk using wpAny_loadPart' hl
    exact ⟨_, rfl, h⟩
def rRepZ (K : PySem.W.Frag) : R2 := fun x y H Q => ∃ l k xs, x = .ref l ∧ y = .int k ∧ SqT K H l xs ∧ H l = some (.tup xs) ∧ xs ≠ [] ∧ 0 ≤ k ∧ k ≤ 1000 ∧ xs.length ≤ 1000 ∧ ∀ p H', Same H H' → H' p = some (.tup (List.replicate k.toNat xs).flatten) → Q (.ref p) H'
theorem op_repZ {X : Cx} (K : PySem.W.Frag) (hK : X.K = K) : OpR X (binaryOp .Mult) (rRepZ K) := by
  intro pins s σ H x y v u Q I rx ry h
  obtain ⟨l, k, xs, rfl, rfl, hT, hT2, hne, h1, h2, hz, q⟩ := h
  by_cases k1 : k = 0
  · subst k1
    cases rx
    obtain ⟨t, rfl⟩ := ry
    obtain ⟨its, r, ⟨⟨cls, dd, data, sl⟩, ho, hc, n, hd⟩, hs⟩ := I.tuple (hK ▸ hT)
    simp only at hc hd
    subst hc hd
    have some1 : its.toArray.isEmpty = false := by
      cases its with
      | nil => exact absurd (List.eq_nil_of_length_eq_zero r.length) hne
      | cons _ _ => rfl
    refine wpAny_binaryOp_repeat_ref (T := "tuple") (U := "int") (by decide) ⟨_, ho, rfl⟩ (fun s' => typeIs_int s' 0 t) noFill_tuple_mul F.fills_int_mul F.slot_int_rmul repeat_tuple F.slot_int_index.lookup
      (call_meets F.slot_int_rmul (typeIs_int s 0 t) F.entry_int_rmul (F.args_int_rmul_2 _ _) (int_rmul_tuple 0 t l its.toArray n dd sl)
        ⟨ho, rfl, ⟨_, ho, rfl⟩, call_meets F.slot_tuple_mul ⟨_, ho, rfl⟩ F.entry_tuple_mul (F.args_tuple_mul_2 _ _) (tuple_mulNought l its.toArray n dd sl t some1) ⟨ho, ?_⟩⟩)
    have fr : H s.heap.objs.size = none := I.hok.fresh (Nat.le_refl _)
    refine ⟨.ref s.heap.objs.size, _, I.laid (t' := s.toks) (o := .tup []) (fun b ob w => Heap.get?_push_of_some _ w) (Nat.le_refl _) ⟨Nat.zero_le _, [], .nil, IsTup.new _ _⟩, rfl, q _ _ (Same.new (Same.refl H) fr) ?_⟩
    rw [upd_same]
    rfl
  · exact op_repN K hK pins s σ H _ _ v u Q I rx ry ⟨l, k, xs, rfl, rfl, hT, hT2, hne, by omega, h2, hz, q⟩
theorem call_listN {X : Cx} (K : PySem.W.Frag) (hK : X.K = K) : CallR X (.type "list") (fun xs H Q => ∃ p ys, xs = [.ref p] ∧ SqT K H p ys ∧ ∀ l, H l = none → l ≠ sysModules → Q (.ref l) (upd H l (.lst ys))) := by
  subst hK
  intro pins s σ H xs us Q I r h
  obtain ⟨p, ys, rfl, hq, q⟩ := h
  obtain ⟨u, rfl, rx⟩ := r.one
  cases (show u = Value.ref p from rx)
  obtain ⟨its, rv, ⟨o, ho, hc, n, hd⟩, hz⟩ := I.tuple hq
  have same := rv.length
  exact call_list_seq p (.inr rfl) ho hc hd (fun h2 c2 kp e => ⟨.ref s.heap.objs.size, _, I.laid (t' := s.toks) kp (Nat.le_refl _) (show ObjOk X.prog X.w _ h2 _ (.lst ys) from ⟨hz, its, c2, rv, e⟩), rfl, q _ (I.hok.fresh (Nat.le_refl _)) (Nat.ne_of_gt I.big)⟩) (by rw [List.size_toArray]; omega)
end NA
set_option maxHeartbeats 4000000
namespace NA
open PySem PySem.Spec PyProof.Rows L2
/-! ### a text times a number from 2 on -/
def repS (a : Str) (n : Nat) : Str := ⟨(List.replicate n a.cps).foldl (· ++ ·) #[]⟩
theorem foldl_size (cs : Array Nat) : ∀ (n : Nat) (b : Array Nat), ((List.replicate n cs).foldl (· ++ ·) b).size = b.size + n * cs.size
  | 0, b => by simp
  | n + 1, b => by
    rw [List.replicate_succ, List.foldl_cons, foldl_size cs n, Array.size_append, Nat.succ_mul]
    omega
theorem repS_len (a : Str) (n : Nat) : (repS a n).length = n * a.length := by
  have := foldl_size a.cps n #[]
  show ((List.replicate n a.cps).foldl (· ++ ·) #[]).size = n * a.cps.size
  simpa using this
def rRepS : R2 := fun x y H Q => ∃ a k, x = .str a ∧ y = .int k ∧ 2 ≤ k ∧ k ≤ 2000 ∧ 0 < a.length ∧ a.length ≤ 100 ∧ Q (.str (repS a k.toNat)) H
theorem op_repS {X : Cx} : OpR X (binaryOp .Mult) rRepS := by
  intro pins s σ H x y v u Q I rx ry h
  obtain ⟨a, k, rfl, rfl, k2, k3, a1, a2, q⟩ := h
  obtain ⟨t, rfl⟩ := rx
  obtain ⟨t', rfl⟩ := ry
  have ln : a.length * k.toNat ≤ 100 * 2000 := Nat.mul_le_mul a2 (by omega)
  refine PySem.P.mul_str (by rw [decide_eq_false (by omega), decide_eq_false (by omega)]; rfl) (fun _ _ z => ?_) (fun _ _ => ?_) ?_
  · have m1 : (a.length : Int) * k ≤ 100 * 2000 := Int.mul_le_mul (by omega) k3 (by omega) (by decide)
    have := (Int.le_ediv_iff_mul_le (a := (a.length : Int)) (b := 2 ^ 63 - 1) (c := k) (by omega)).mpr (by omega)
    omega
  · show decide (_ > sizeLine) = false
    exact decide_eq_false (Nat.not_lt.mpr (Nat.le_trans ln (by decide)))
  · have e1 : ((k == 1) || (a.length == 0)) = false := by
      rw [beq_eq_false_iff_ne.mpr (by omega), beq_eq_false_iff_ne.mpr (by omega)]
      rfl
    rw [if_neg (by omega), e1, if_neg Bool.false_ne_true]
    refine ⟨?_, .str (repS a k.toNat), H, I.tok _, ⟨_, rfl⟩, q⟩
    show (repS a k.toNat).length ≤ sizeLine
    rw [repS_len, Nat.mul_comm]
    exact Nat.le_trans ln (by decide)
end NA
namespace NA
open PySem PySem.Spec PyProof.Rows L2
/-! ### range(a, b) as a value; zip of two ranges -/
theorem cr_rangeV2 {X : Cx} : CallR X (.type "range") (fun vs H Q => ∃ i j, vs = [V.int i, V.int j] ∧ ∀ p, H p = none → Q (.ref p) (upd H p (.rng i j))) := by
  intro pins s σ H vs us Q I r h
  obtain ⟨i, j, rfl, q⟩ := h
  obtain ⟨u, v, rfl, ru, rv⟩ := vals2 r
  obtain ⟨t, rfl⟩ := (show ∃ t, u = Value.int i t from ru)
  obtain ⟨t2, rfl⟩ := (show ∃ t, v = Value.int j t from rv)
  refine call_range_2 ⟨.ref s.heap.objs.size, upd H s.heap.objs.size (.rng i j), I.laid (t' := s.toks + 1) (fun b o e => Heap.get?_push_of_some _ e) (Nat.le_refl _) ?_, rfl, q _ (I.hok.fresh (Nat.le_refl _))⟩
  exact ⟨t, t2, s.toks, Heap.get?_push_size _ rfl⟩
theorem Draws.rng {prog : Program} {w : World} {A : Around} (hA : A.handled = none) (it : Addr) (lo : Int) (n : Nat) :
    Draws prog w A it [it] n (fun i v => ∃ t, v = .int (lo + (i : Nat)) t) (fun i h => IsRangeIter h it (lo + (i : Nat) * 1) ((n : Int) - (i : Nat)) 1) where
  live := fun _ _ st => ⟨_, st⟩
  frame := fun i h h' st hk => hk it (by simp) _ st
  item := fun i s Q E hi st hQ => by
    unfold Builtin.SmallTypes.nextOf
    refine wpAny_bind (CpRep.range_item st (by omega) fun h' hit' hs => ?_)
    refine wpAny_pure (hQ _ _ _ ⟨_, by rw [Int.mul_one]⟩ ?_ hs)
    have e1 : lo + ((i : Nat) : Int) * 1 + 1 = lo + ((i + 1 : Nat) : Int) * 1 := by omega
    have e2 : (n : Int) - (i : Nat) - 1 = (n : Int) - ((i + 1 : Nat) : Int) := by omega
    rw [e1, e2] at hit'
    exact hit'
  done := fun s Q E st hE => by
    unfold Builtin.SmallTypes.nextOf
    refine wpAny_bind (CpRep.range_end hA st (by omega) fun e h' hs eb => ?_)
    obtain ⟨a, o, vs, rfl, ho, hc, _⟩ := hs
    exact hE _ _ eb ⟨_, ho, hc⟩
def rngO (lo : Int) (n : Int) : Obj := { cls := .type "range_iterator", data := .fields #[rawInt lo, rawInt n, rawInt 1] }
theorem begins_rng (a : Addr) (lo hi : Int) (b1 : -(2 ^ 62) ≤ lo) (b2 : lo < 2 ^ 62) (b3 : -(2 ^ 62) ≤ hi) (b4 : hi < 2 ^ 62) : Begins (.ref a) (rngO lo (Builtin.Range.rangeSize lo hi 1)) (fun h => ∃ t u v, IsRange h a lo hi 1 t u v) where
  iter := fun prog w A E s Q h q => by
    obtain ⟨t, u, v, h⟩ := h
    exact wpAny_pyIter_range h (small_one b1 b2 b3 b4) q
  keeps := fun h h' e f => by
    obtain ⟨t, u, v, e⟩ := e
    exact ⟨t, u, v, f _ _ e⟩
  free := rfl
def ItzR (l1 : Int) (n1 : Nat) (l2 : Int) (n2 : Nat) : It :=
  ⟨fun i H => i < n1 ∧ i < n2,
   fun i H v H' => ∃ T, v = .ref T ∧ H T = none ∧ H' = upd H T (.tup [.int (l1 + (i : Nat)), .int (l2 + (i : Nat))]),
   fun i H => i = min n1 n2⟩
theorem sepR {n : Nat} : ZipSep2 (n + 4) (n + 2) (n + 3) n (n + 1) [n] [n + 1] :=
  ⟨(show (n + 2 : Nat) ≠ n + 4 by omega), (show (n + 3 : Nat) ≠ n + 4 by omega), (show (n + 2 : Nat) ≠ n + 3 by omega), (show (n + 2 : Nat) ≠ n by omega), List.mem_cons_self, by simp, by simp,
   (show (n + 2 : Nat) ≠ n + 1 by omega), List.mem_cons_self, by simp, by simp, by simp, by simp⟩
theorem turn_zipR {P : Program} {w : World} {K : PySem.W.Frag} {elts : List Expr} {kk : Nat} {tpos : Pos} (l1 : Int) (n1 : Nat) (l2 : Int) (n2 n : Nat) :
    Turn P w K (.Tuple elts kk tpos) (ItzR l1 n1 l2 n2) [n + 4, n + 2, n + 3, n, n + 1] (n + 4) (fun i h => IsZip h (n + 4) (n + 2) (n + 3) .none ∧ IsTupOf2 h (n + 2) (.ref n) (.ref (n + 1)) ∧ (∃ x y, IsTupOf2 h (n + 3) x y) ∧ IsRangeIter h n (l1 + (i : Nat) * 1) ((n1 : Int) - (i : Nat)) 1 ∧ IsRangeIter h (n + 1) (l2 + (i : Nat) * 1) ((n2 : Int) - (i : Nat)) 1) where
  mem := by simp
  obj := fun i h st c hc => by
    obtain ⟨s1, s2, ⟨x, y, s3⟩, s4, s5⟩ := st
    rcases (show c = n + 4 ∨ c = n + 2 ∨ c = n + 3 ∨ c = n ∨ c = n + 1 by simpa using hc) with e | e | e | e | e <;> subst e
    · exact ⟨_, s1, fun v q => nomatch q⟩
    · exact ⟨_, s2, fun v q => nomatch q⟩
    · exact ⟨_, s3, fun v q => nomatch q⟩
    · exact ⟨_, s4, fun v q => nomatch q⟩
    · exact ⟨_, s5, fun v q => nomatch q⟩
  keep := fun i h h' st k => by
    obtain ⟨s1, s2, ⟨x, y, s3⟩, s4, s5⟩ := st
    exact ⟨k _ (by simp) _ s1, k _ (by simp) _ s2, ⟨x, y, k _ (by simp) _ s3⟩, k _ (by simp) _ s4, k _ (by simp) _ s5⟩
  item := by
    intro X hP hw hK hc i pins s σ H E I hf st hg
    subst hP hw hK
    obtain ⟨s1, s2, ⟨p0, p1, s3⟩, s4, s5⟩ := st
    obtain ⟨g1, g2⟩ := hg
    have lz : n + 4 < s.heap.objs.size := Heap.lt_size s1
    have D1 := Draws.rng (prog := X.prog) (w := X.w) (A := X.A.in1) (I.ok.hd hc) n l1 n1
    have D2 := Draws.rng (prog := X.prog) (w := X.w) (A := X.A.in1) (I.ok.hd hc) (n + 1) l2 n2
    refine wpAny_pyNext_zipD2_item sepR D1 D2 s1 s2 s3 s4 s5 g1 g2 fun y1 y2 h' tk q1 q2 z1 z2 z3 z4 hT hsz hk => ?_
    obtain ⟨t1, rfl⟩ := q1
    obtain ⟨t2, rfl⟩ := q2
    refine ⟨_, rfl, wpAny_letOwnedTupleGo_zip (s := { s with heap := h', toks := tk }) z1 fun h'' hz'' sb => ?_⟩
    have sb' : ∀ c o, c ≠ n + 4 → h'.get? c = some o → h''.get? c = some o := fun c o hc q => (sb.2 c hc).trans q
    have hT2 := sb' _ _ (nn (by omega)) hT
    have new : ObjOk X.prog X.w (upd H s.heap.objs.size (.tup [.int (l1 + (i : Nat)), .int (l2 + (i : Nat))])) h'' s.heap.objs.size (.tup [.int (l1 + (i : Nat)), .int (l2 + (i : Nat))]) :=
      ⟨by show 2 ≤ sizeLine; decide, [.int (l1 + (i : Nat)) t1, .int (l2 + (i : Nat)) t2], .cons ⟨_, rfl⟩ (.cons ⟨_, rfl⟩ .nil), ⟨_, hT2, rfl, _, rfl⟩⟩
    have I1 : Inv X pins σ (upd H s.heap.objs.size (.tup [.int (l1 + (i : Nat)), .int (l2 + (i : Nat))])) { s with heap := h'', toks := tk } :=
      I.turnedNew (ch := [n + 4, n + 2, n + 3, n, n + 1]) (fun c ob hc q => by
        have hc' : c ≠ n + 4 ∧ c ≠ n + 2 ∧ c ≠ n + 3 ∧ c ≠ n ∧ c ≠ n + 1 := by simpa using hc
        exact sb' _ _ hc'.1 (hk c ob hc'.1 hc'.2.2.1 hc'.2.2.2.1 hc'.2.2.2.2 q)) hf (Nat.le_refl _) new
    refine ⟨.ref s.heap.objs.size, _, I1, rfl, ⟨_, rfl, I.hok.fresh (Nat.le_refl _), rfl⟩, ⟨hz'', sb' _ _ (nn (by omega)) (hk _ _ (nn (by omega)) (nn (by omega)) (nn (by omega)) (nn (by omega)) s2), ⟨_, _, sb' _ _ (nn (by omega)) z2⟩, sb' _ _ (nn (by omega)) z3, sb' _ _ (nn (by omega)) z4⟩, fun c hc => ?_⟩
    have lt : c < s.heap.objs.size := lt5 lz (by simpa using hc)
    rw [upd_ne (Nat.ne_of_lt lt)]
    exact (hf c hc).1
  done := by
    intro X hP hw hK hc i pins s σ H E I hf st hg
    subst hP hw hK
    obtain ⟨s1, s2, ⟨p0, p1, s3⟩, s4, s5⟩ := st
    have ei : i = min n1 n2 := hg
    have D1 := Draws.rng (prog := X.prog) (w := X.w) (A := X.A.in1) (I.ok.hd hc) n l1 n1
    have D2 := Draws.rng (prog := X.prog) (w := X.w) (A := X.A.in1) (I.ok.hd hc) (n + 1) l2 n2
    refine wpAny_pyNext_zipD2_end sepR D1 D2 s1 s2 s3 s4 s5 (by omega) (by omega) (by omega) fun h' tk hk => ⟨rfl, ?_⟩
    exact I.turnedL (ch := [n + 4, n + 2, n + 3, n, n + 1]) (fun c o hc q => by
      have hc' : c ≠ n + 4 ∧ c ≠ n + 2 ∧ c ≠ n + 3 ∧ c ≠ n ∧ c ≠ n + 1 := by simpa using hc
      exact hk c o hc'.1 hc'.2.2.1 hc'.2.2.2.1 hc'.2.2.2.2 q) hf
  self := fun A i s Q E st h => wpAny_pyIter_zip st.1 h
def iZipR (ta : TA) : TI := fun σ H R => ta σ H fun vs H1 => ∃ a b l1 h1 l2 h2, vs = [.ref a, .ref b] ∧ H1 a = some (.rng l1 h1) ∧ H1 b = some (.rng l2 h2) ∧ (-(2 ^ 62) ≤ l1 ∧ l1 < 2 ^ 62 ∧ -(2 ^ 62) ≤ h1 ∧ h1 < 2 ^ 62) ∧ (-(2 ^ 62) ≤ l2 ∧ l2 < 2 ^ 62 ∧ -(2 ^ 62) ≤ h2 ∧ h2 < 2 ^ 62) ∧ R (ItzR l1 (h1 - l1).toNat l2 (h2 - l2).toNat) H1
theorem zipR_call {prog : Program} {w : World} {A : Around} {E : Value → Shared → Prop} {s : Shared} {a b : Addr} {l1 h1 l2 h2 : Int} {Q : Value → Shared → Prop} (c1 : -(2 ^ 62) ≤ l1 ∧ l1 < 2 ^ 62 ∧ -(2 ^ 62) ≤ h1 ∧ h1 < 2 ^ 62) (c2 : -(2 ^ 62) ≤ l2 ∧ l2 < 2 ^ 62 ∧ -(2 ^ 62) ≤ h2 ∧ h2 < 2 ^ 62)
    (o1 : ∃ t u v, IsRange s.heap a l1 h1 1 t u v) (o2 : ∃ t u v, IsRange s.heap b l2 h2 1 t u v)
    (h : ∀ h', IsZip h' (s.heap.objs.size + 4) (s.heap.objs.size + 2) (s.heap.objs.size + 3) .none → IsTupOf2 h' (s.heap.objs.size + 2) (.ref s.heap.objs.size) (.ref (s.heap.objs.size + 1)) → IsTupOf2 h' (s.heap.objs.size + 3) .none .none →
      h'.get? s.heap.objs.size = some (rngO l1 (Builtin.Range.rangeSize l1 h1 1)) → h'.get? (s.heap.objs.size + 1) = some (rngO l2 (Builtin.Range.rangeSize l2 h2 1)) → (∀ c o, s.heap.get? c = some o → h'.get? c = some o) → Q (.ref (s.heap.objs.size + 4)) { s with heap := h' }) :
    wpAny (model prog w) A (call (.type "zip") [.ref a, .ref b]) Q E s := by
  generalize e1 : rngO l1 (Builtin.Range.rangeSize l1 h1 1) = q1 at *
  generalize e2 : rngO l2 (Builtin.Range.rangeSize l2 h2 1) = q2 at *
  have B1 := begins_rng a l1 h1 c1.1 c1.2.1 c1.2.2.1 c1.2.2.2
  have B2 := begins_rng b l2 h2 c2.1 c2.2.1 c2.2.2.1 c2.2.2.2
  rw [e1] at B1
  rw [e2] at B2
  refine callType_new F.called_zip (by decide) (F.typeCall_zip_2 _ _) (F.newCall_zip_2 _ _) (fun obj => F.args_object_init_3 obj _ _) F.entry_zip_new (meets_zip_newB2 B1 B2) ⟨⟨o1, o2⟩, ?_⟩
  have f1 : q1.isFreed = false := by rw [← e1]; rfl
  have f2 : q2.isFreed = false := by rw [← e2]; rfl
  have z1 : (s.heap.push q1).objs.size = s.heap.objs.size + 1 := Heap.size_push ..
  have z2 : ((s.heap.push q1).push q2).objs.size = s.heap.objs.size + 2 := by rw [Heap.size_push, z1]
  have z3 : (gzT2 s.heap q1 q2).objs.size = s.heap.objs.size + 3 := by rw [gzT2, Heap.size_push, z2]
  have z4 : (gzO2 s.heap q1 q2).objs.size = s.heap.objs.size + 4 := by rw [gzO2, Heap.size_push, z3]
  have g1 : (s.heap.push q1).get? s.heap.objs.size = some q1 := Heap.get?_push_size s.heap f1
  have g2 : ((s.heap.push q1).push q2).get? (s.heap.objs.size + 1) = some q2 := by
    have z := Heap.get?_push_size (s.heap.push q1) f2
    rwa [z1] at z
  have g3 : IsTupOf2 (gzT2 s.heap q1 q2) (s.heap.objs.size + 2) (.ref s.heap.objs.size) (.ref (s.heap.objs.size + 1)) := by
    have z := Heap.get?_push_size ((s.heap.push q1).push q2) (o := { cls := .type "tuple", data := .seq #[.ref s.heap.objs.size, .ref (s.heap.push q1).objs.size] }) rfl
    rw [z2, z1] at z
    show (Heap.push _ { cls := .type "tuple", data := .seq #[.ref s.heap.objs.size, .ref (s.heap.push q1).objs.size] }).get? _ = _
    rw [z1]
    exact z
  have g4 : IsTupOf2 (gzO2 s.heap q1 q2) (s.heap.objs.size + 3) .none .none := by
    have z := Heap.get?_push_size (gzT2 s.heap q1 q2) (o := { cls := .type "tuple", data := .seq #[.none, .none] }) rfl
    rwa [z3] at z
  have g5 : IsZip (gzZ2 s.heap q1 q2) (s.heap.objs.size + 4) (s.heap.objs.size + 2) (s.heap.objs.size + 3) .none := by
    have z := Heap.get?_push_size (gzO2 s.heap q1 q2) (o := { cls := .type "zip", data := .fields #[.none, .bool false, .bool false, .ref ((s.heap.push q1).push q2).objs.size, .ref (gzT2 s.heap q1 q2).objs.size] }) rfl
    show (Heap.push _ { cls := .type "zip", data := .fields #[.none, .bool false, .bool false, .ref ((s.heap.push q1).push q2).objs.size, .ref (gzT2 s.heap q1 q2).objs.size] }).get? _ = _
    rw [z4, z2, z3] at z
    rw [z2, z3]
    exact z
  show _ ∧ _
  rw [z4]
  exact ⟨⟨_, g5, rfl⟩, h _ g5 (Heap.get?_push_of_some _ (Heap.get?_push_of_some _ g3)) (Heap.get?_push_of_some _ g4)
    (Heap.get?_push_of_some _ (Heap.get?_push_of_some _ (Heap.get?_push_of_some _ (Heap.get?_push_of_some _ g1))))
    (Heap.get?_push_of_some _ (Heap.get?_push_of_some _ (Heap.get?_push_of_some _ g2)))
    fun c o q => Heap.get?_push_of_some _ (Heap.get?_push_of_some _ (Heap.get?_push_of_some _ (Heap.get?_push_of_some _ (Heap.get?_push_of_some _ q))))⟩
theorem rng_size (lo hi : Int) : Builtin.Range.rangeSize lo hi 1 = (((hi - lo).toNat : Nat) : Int) := by rw [rangeSize_one]; split <;> omega
theorem pi_zipR {X : Cx} {e e2 : Expr} {ta : TA} {p pos tpos : Pos} {elts : List Expr} {kk : Nat} (hg : Gl X "zip") (hm : X.mg "zip" = none) (ha : PA X [e, e2] ta) (hs : starEach [e, e2] X.env = (false, eval e X.env) :: starEach [e2] X.env := by rfl) (hs2 : ((backTo pos (starEach [e2] X.env)).any fun x => x.fst) = false := by rfl) :
    PI X (.Tuple elts kk tpos) (.Call (.Name "zip" p) [e, e2] [] pos) (iZipR ta) := by
  refine ⟨fun pins s σ H R I h => ?_⟩
  refine Call_ (ld_blt I hg hm boot_zip (PyProof.Rows.callWith_type1 (thn (ha.run pos pins s σ H _ I h) fun us s1 ⟨vs, H1, I1, r1, q1⟩ => ?_) hs hs2))
  obtain ⟨a, b, l1, h1, l2, h2, ex, hx, hy, c1, c2, q⟩ := q1
  subst ex
  obtain ⟨u, v, rfl, ru, rv⟩ := vals2 r1
  cases (show u = Value.ref a from ru)
  cases (show v = Value.ref b from rv)
  have o1 : ∃ t u v, IsRange s1.heap a l1 h1 1 t u v := I1.hok a _ hx
  have o2 : ∃ t u v, IsRange s1.heap b l2 h2 1 t u v := I1.hok b _ hy
  refine zipR_call c1 c2 o1 o2 fun h' z1 z2 z3 z4 z5 kept => wpAny_pyIter_zip z1 ?_
  have I2 := I1.kept (t' := s1.toks) kept
  refine ⟨s1.heap.objs.size + 4, [s1.heap.objs.size + 4, s1.heap.objs.size + 2, s1.heap.objs.size + 3, s1.heap.objs.size, s1.heap.objs.size + 1], _, _, H1, rfl, I2, turn_zipR l1 (h1 - l1).toNat l2 (h2 - l2).toNat s1.heap.objs.size, ⟨z1, z2, ⟨_, _, z3⟩, ?_, ?_⟩, fun c hc => ?_, q⟩
  · rw [rng_size] at z4
    simpa [IsRangeIter, rngO] using z4
  · rw [rng_size] at z5
    simpa [IsRangeIter, rngO] using z5
  · have le : s1.heap.objs.size ≤ c := ge5 (by simpa using hc)
    exact I1.fpOk le (I1.hok.fresh le)
theorem walk_zipR {l1 l2 : Int} {n1 n2 n : Nat} (hn : n = min n1 n2) : Walk (ItzR l1 n1 l2 n2) n (fun _ => True) (fun i H v H' => ∃ T, v = .ref T ∧ H T = none ∧ H' = upd H T (.tup [.int (l1 + (i : Nat)), .int (l2 + (i : Nat))])) := by
  refine ⟨fun i H hi q => ⟨by omega, by omega⟩, fun H q => hn, fun i H v H' _ q y => y⟩
end NA
namespace NA
open PySem PySem.Spec PyProof.Rows L2
def rRepL : R2 := fun x y H Q => ∃ l k xs, x = .ref l ∧ y = .int k ∧ H l = some (.lst xs) ∧ -(2 ^ 63) ≤ k ∧ k < 2 ^ 63 ∧ xs.length * k.toNat ≤ sizeLine ∧ ∀ p, H p = none → p ≠ sysModules → Q (.ref p) (upd H p (.lst (List.replicate k.toNat xs).flatten))
theorem op_repL {X : Cx} : OpR X (binaryOp .Mult) rRepL := by
  intro pins s σ H x y v u Q I rx ry h
  obtain ⟨l, k, xs, rfl, rfl, hH, h1, h2, hz, q⟩ := h
  cases rx
  obtain ⟨t, rfl⟩ := ry
  obtain ⟨z, its, n, r, hl, e⟩ := I.lstM hH
  have hlen : its.toArray.size * k.toNat ≤ sizeLine := by rw [List.size_toArray, ← hl]; exact hz
  have hcap : ¬ its.toArray.size * k.toNat > (2 ^ 63 - 1) / 8 := by
    have : (sizeLine : Nat) ≤ (2 ^ 63 - 1) / 8 := by decide
    omega
  have hfit : ¬ (!Builtin.List.listFitsIndex k) = true := by
    rw [fitsIndex_both h1 h2]
    exact Bool.false_ne_true
  have hlong : ¬ Builtin.List.listTooLong (its.toArray.size * k.toNat) = true := by
    rw [notLongL hlen]
    exact Bool.false_ne_true
  have hnew : List.foldl (fun x1 x2 => x1 ++ x2) #[] (List.replicate (if its.toArray.isEmpty = true then 0 else k.toNat) its.toArray) = (List.replicate k.toNat its).flatten.toArray := by
    have f0 : ∀ m : Nat, List.foldl (fun x1 x2 => x1 ++ x2) #[] (List.replicate m its.toArray) = (List.replicate m its).flatten.toArray := fun m => by
      have := foldl_rep its m []
      rw [List.nil_append] at this
      exact this
    rw [f0]
    cases its with
    | nil => simp
    | cons a r' => rw [if_neg (by simp)]
  refine wpAny_binaryOp_repeat_ref (T := "list") (U := "int") (by decide) ⟨_, e, rfl⟩ (fun s' => typeIs_int s' k t) noFill_list_mul F.fills_int_mul F.slot_int_rmul repeat_list F.slot_int_index.lookup
    (call_meets F.slot_int_rmul (typeIs_int s k t) F.entry_int_rmul (F.args_int_rmul_2 _ _) (int___rmul___int_list k t l its.toArray n)
      ⟨e, rfl, ⟨_, e, rfl⟩, call_meets F.slot_list_mul ⟨_, e, rfl⟩ F.entry_list_mul (F.args_list_mul_2 _ _) (AutoListH.list___mul___list_int_3 l its.toArray n k t hfit hcap hlong) ⟨e, ?_⟩⟩)
  rw [hnew]
  exact ⟨.ref _, _, I.lnew (t' := s.toks) (r.rep k.toNat) (by rw [PyProof.Rows.lm_len_rep_flat, Nat.mul_comm]; exact hz), rfl, q _ I.fresh (Nat.ne_of_gt I.big)⟩


end NA
/-! ## the deck: a dict with a list and a state -/
namespace NA
open PySem PySem.Spec PyProof.Rows L2
theorem SizeOk.bnd {s : Int} (h : SizeOk s) : 2 ≤ s ∧ s ≤ 10 ^ 30 := by
  obtain ⟨m, rfl, a, b, _⟩ := h
  omega
theorem take_get {α : Type} {l : List α} {i : Nat} {x : α} (h : l[i]? = some x) : l.take (i + 1) = l.take i ++ [x] := by
  rw [List.take_add_one, h]
  rfl
theorem zw_get {α β γ : Type} {f : α → β → γ} {l : List α} {m : List β} {i : Nat} {x : α} {y : β} (h1 : l[i]? = some x) (h2 : m[i]? = some y) : (List.zipWith f l m)[i]? = some (f x y) := by
  rw [List.getElem?_zipWith, h1, h2]
theorem zw_len {α β γ : Type} {f : α → β → γ} {l : List α} {m : List β} {n : Nat} (h1 : l.length = n) (h2 : m.length = n) : (List.zipWith f l m).length = n := by
  rw [List.length_zipWith]
  omega
namespace DA
open PySem PySem.Spec PyProof.Rows L2
def dkK (q : Addr) (st : Int) : List (Key × V) := [(.inr "deep", .ref q), (.inr "state", .int st)]
def Pt (H : Hp) (p q : Addr) : Prop := ∃ (ds : List Int) (st : Int), H p = some (.dK (dkK q st)) ∧ H q = some (.lst (ds.map V.int)) ∧ (∀ x ∈ ds, 0 ≤ x) ∧ ds.length ≤ 70 ∧ 0 ≤ st ∧ st < 2305843009213693952
theorem val_deep (q : Addr) (st : Int) : valV (dkK q st) (.inr "deep") = some (.ref q) := valV_pos rfl
theorem val_state (q : Addr) (st : Int) : valV (dkK q st) (.inr "state") = some (.int st) := by
  have e : ¬ ((.inr "deep" : Key) = .inr "state") := by decide +kernel
  unfold dkK
  rw [valV_neg e, valV_pos rfl]
theorem merge_dk (q : Addr) (st : Int) : mergeK [] [((.inr "deep" : Key), V.ref q), ((.inr "state" : Key), V.int st)] = dkK q st := by
  have e : ¬ ((.inr "deep" : Key) = .inr "state") := by decide +kernel
  simp [mergeK, putK, dkK, e]
theorem put_deep (q q' : Addr) (st : Int) : putK (dkK q st) (.inr "deep") (.ref q') = dkK q' st := by
  have e : ¬ ((.inr "state" : Key) = .inr "deep") := by decide +kernel
  simp [putK, dkK, e]
theorem put_state (q : Addr) (st st' : Int) : putK (dkK q st) (.inr "state") (.int st') = dkK q st' := by
  have e : ¬ ((.inr "deep" : Key) = .inr "state") := by decide +kernel
  simp [putK, dkK, e]
theorem get_deep {H : Hp} {p q : Addr} {st : Int} (h : H p = some (.dK (dkK q st))) : DGet H p (.str "deep") (some (.ref q)) := by
  have z := DGet.k (k := .inr "deep") h
  rw [val_deep] at z
  exact z
theorem get_state {H : Hp} {p q : Addr} {st : Int} (h : H p = some (.dK (dkK q st))) : DGet H p (.str "state") (some (.int st)) := by
  have z := DGet.k (k := .inr "state") h
  rw [val_state] at z
  exact z
theorem dput_deep {H : Hp} {p q : Addr} {st : Int} (h : H p = some (.dK (dkK q st))) (q' : Addr) : DPut H p (.str "deep") (.ref q') (upd H p (.dK (dkK q' st))) := by
  have z := DPut.k (k := .inr "deep") (v := .ref q') h (by show 2 < sizeLine; decide)
  rw [put_deep] at z
  exact z
theorem dput_state {H : Hp} {p q : Addr} {st : Int} (h : H p = some (.dK (dkK q st))) (st' : Int) : DPut H p (.str "state") (.int st') (upd H p (.dK (dkK q st'))) := by
  have z := DPut.k (k := .inr "state") (v := .int st') h (by show 2 < sizeLine; decide)
  rw [put_state] at z
  exact z
theorem ifS_share {tt : TT} {ta tb : TS} {D : Ends} {σ : L2.St} {H : Hp} {N : L2.St → Hp → Prop} (h : (∀ σ' H', N σ' H' → tb D σ' H') → tSeq (tIfS tt ta tNext) tb D σ H) (rest : ∀ σ' H', N σ' H' → tb D σ' H') : tSeq (tIfS tt ta tNext) tb D σ H := h rest
theorem Pt.lp {H : Hp} {p q : Addr} (h : Pt H p q) : ∃ a kvs, H p = some (.dK (a :: kvs)) := by
  obtain ⟨ds, st, h1, _⟩ := h
  exact ⟨_, _, h1⟩
theorem Pt.lq {H : Hp} {p q : Addr} (h : Pt H p q) : ∃ xs, H q = some (.lst xs) := by
  obtain ⟨ds, st, _, h1, _⟩ := h
  exact ⟨_, h1⟩
theorem Pt.ne {H : Hp} {p q : Addr} (h : Pt H p q) : p ≠ q := by
  obtain ⟨a, kvs, h1⟩ := h.lp
  obtain ⟨xs, h2⟩ := h.lq
  exact ne_of h1 h2 (by intro z; cases z)
/-- all else stays -/
def Kp (p q : Addr) (H H' : Hp) : Prop := ∀ b o, b ≠ p → b ≠ q → H b = some o → H' b = some o
theorem Kp.refl (p q : Addr) (H : Hp) : Kp p q H H := fun _ _ _ _ h => h
theorem Kp.trans {p q : Addr} {H H1 H2 : Hp} (a : Kp p q H H1) (b : Kp p q H1 H2) : Kp p q H H2 := fun c o n1 n2 h => b c o n1 n2 (a c o n1 n2 h)
theorem Kp.new {p q c : Addr} {o : HO} {H H' : Hp} (e : Kp p q H H') (h : H' c = none) : Kp p q H (upd H' c o) := fun b u n1 n2 z => by
  have z' := e b u n1 n2 z
  rw [upd_ne (ne_of_none z' h)]
  exact z'
theorem Kp.same {p q : Addr} {H H' : Hp} (e : Same H H') : Kp p q H H' := fun b o _ _ z => e b o z
theorem Kp.put {p q c : Addr} {o : HO} {H H' : Hp} (e : Kp p q H H') (h : H c = none) : Kp p q H (upd H' c o) := fun b u n1 n2 z => by
  rw [upd_ne (ne_of_none z h)]
  exact e b u n1 n2 z
theorem Kp.own {p q c : Addr} {o : HO} {H H' : Hp} (e : Kp p q H H') (h : c = p ∨ c = q) : Kp p q H (upd H' c o) := fun b u n1 n2 z => by
  have nb : b ≠ c := fun e => by
    rcases h with h | h
    · exact n1 (e.trans h)
    · exact n2 (e.trans h)
  rw [upd_ne nb]
  exact e b u n1 n2 z
theorem Kp.fresh {p q c : Addr} {H H' : Hp} (e : Kp p q H H') (n1 : c ≠ p) (n2 : c ≠ q) (h : H' c = none) : H c = none := by
  cases z : H c with
  | none => rfl
  | some o =>
    rw [e c o n1 n2 z] at h
    cases h
theorem Kp.tk {p q : Addr} {H H' : Hp} (e : Kp p q H H') (P : Pt H p q) : Tk H H' := fun b xs z => by
  obtain ⟨a, ys, h1⟩ := P.lp
  obtain ⟨zs, h2⟩ := P.lq
  exact e b _ (ne_of z h1 (by intro k; cases k)) (ne_of z h2 (by intro k; cases k)) z
theorem Pt.new {H : Hp} {p q c : Addr} {o : HO} (P : Pt H p q) (h : H c = none) : Pt (upd H c o) p q := by
  obtain ⟨ds, st, h1, h2, r⟩ := P
  exact ⟨ds, st, by rw [upd_ne (ne_of_none h1 h)]; exact h1, by rw [upd_ne (ne_of_none h2 h)]; exact h2, r⟩
theorem Pt.put {H : Hp} {p q c : Addr} {o : HO} (P : Pt H p q) (n1 : c ≠ p) (n2 : c ≠ q) : Pt (upd H c o) p q := by
  obtain ⟨ds, st, h1, h2, r⟩ := P
  exact ⟨ds, st, by rw [upd_ne (Ne.symm n1)]; exact h1, by rw [upd_ne (Ne.symm n2)]; exact h2, r⟩
theorem Pt.same {H H' : Hp} {p q : Addr} (P : Pt H p q) (e : Same H H') : Pt H' p q := by
  obtain ⟨ds, st, h1, h2, r⟩ := P
  exact ⟨ds, st, e _ _ h1, e _ _ h2, r⟩
theorem Pt.np {H : Hp} {p q c : Addr} (P : Pt H p q) (h : H c = none) : c ≠ p ∧ c ≠ q := by
  obtain ⟨a, xs, h1⟩ := P.lp
  obtain ⟨ys, h2⟩ := P.lq
  refine ⟨fun e => ?_, fun e => ?_⟩
  · rw [e, h1] at h
    cases h
  · rw [e, h2] at h
    cases h
/-- tuples stay, lists where they may stand, the empty dicts -/
structure Ks (N : Addr → Prop) (H H' : Hp) : Prop where
  tup : Tk H H'
  lst : ∀ b xs, N b → H b = some (.lst xs) → H' b = some (.lst xs)
  dic : ∀ b, H b = some (.dK []) → H' b = some (.dK [])
theorem Ks.same {N : Addr → Prop} {H H' : Hp} (e : Same H H') : Ks N H H' := ⟨Tk.same e, fun b _ _ h => e b _ h, fun b h => e b _ h⟩
theorem Ks.kp {p q : Addr} {H H' : Hp} (e : Kp p q H H') (P : Pt H p q) : Ks (fun a => a ≠ p ∧ a ≠ q) H H' := by
  refine ⟨e.tk P, fun b xs n h => e b _ n.1 n.2 h, fun b h => ?_⟩
  obtain ⟨a, ys, h1⟩ := P.lp
  obtain ⟨zs, h2⟩ := P.lq
  exact e b _ (ne_of h h1 (by intro k; cases k)) (ne_of h h2 (by intro k; cases k)) h
theorem Ks.kq {p q : Addr} {H H' : Hp} (e : Kp p q H H') (P : Pt H p q) : Ks (Nq p q) H H' := by
  have z := Ks.kp e P
  exact ⟨z.tup, fun b xs n h => z.lst b xs ⟨n.1, n.2.1⟩ h, z.dic⟩
theorem Ks.kn {N : Addr → Prop} {p q : Addr} {H H' : Hp} (hN : ∀ b, N b → Nq p q b) (e : Kp p q H H') (P : Pt H p q) : Ks N H H' := by
  have z := Ks.kq e P
  exact ⟨z.tup, fun b xs n h => z.lst b xs (hN b n) h, z.dic⟩
theorem Ks.refl (N : Addr → Prop) (H : Hp) : Ks N H H := ⟨Tk.refl H, fun _ _ _ h => h, fun _ h => h⟩
theorem Ks.trans {N : Addr → Prop} {H H1 H2 : Hp} (a : Ks N H H1) (b : Ks N H1 H2) : Ks N H H2 := ⟨a.tup.trans b.tup, fun c x n h => b.lst c x n (a.lst c x n h), fun c h => b.dic c (a.dic c h)⟩
mutual
theorem widerD {N M : Addr → Prop} {H J : Hp} (ks : Ks N H J) (wd : ∀ a, N a → M a) {v : V} : ∀ {d : PyData}, De N H v d → De M J v d
  | _, .non => .non
  | _, .bl b => .bl b
  | _, .int i => .int i
  | _, .str x => .str x
  | _, .lst n h t => .lst (wd _ n) (ks.lst _ _ n h) (widerDAll ks wd t)
  | _, .tup h t => .tup (ks.tup _ _ h) (widerDAll ks wd t)
  | _, .dic h => .dic (ks.dic _ h)
theorem widerDAll {N M : Addr → Prop} {H J : Hp} (ks : Ks N H J) (wd : ∀ a, N a → M a) {vs : List V} : ∀ {ds : List PyData}, DeAll N H vs ds → DeAll M J vs ds
  | _, .nil => .nil
  | _, .cons h t => .cons (widerD ks wd h) (widerDAll ks wd t)
end
theorem kd {N : Addr → Prop} {H J : Hp} {v : V} {d : PyData} (h : De N H v d) (ks : Ks N H J) : De N J v d := widerD ks (fun _ n => n) h
theorem kdA {N : Addr → Prop} {H J : Hp} {v : List V} {d : List PyData} (h : DeAll N H v d) (ks : Ks N H J) : DeAll N J v d := widerDAll ks (fun _ n => n) h
mutual
theorem live {N : Addr → Prop} {H : Hp} {v : V} : ∀ {d : PyData}, De N H v d → De (fun b => N b ∧ H b ≠ none) H v d
  | _, .non => .non
  | _, .bl b => .bl b
  | _, .int i => .int i
  | _, .str x => .str x
  | _, .lst n h t => .lst ⟨n, by rw [h]; intro z; cases z⟩ h (liveAll t)
  | _, .tup h t => .tup h (liveAll t)
  | _, .dic h => .dic h
theorem liveAll {N : Addr → Prop} {H : Hp} {vs : List V} : ∀ {ds : List PyData}, DeAll N H vs ds → DeAll (fun b => N b ∧ H b ≠ none) H vs ds
  | _, .nil => .nil
  | _, .cons h t => .cons (live h) (liveAll t)
end
/-- each member is something that keeps P -/
def MenE (P : PyData → Prop) (N : Addr → Prop) (H : Hp) (xs : List V) : Prop := ∀ v ∈ xs, ∃ d, De N H v d ∧ P d
theorem MenE.nil {P : PyData → Prop} {N : Addr → Prop} {H : Hp} : MenE P N H [] := fun v h => by cases h
theorem MenE.cons {P : PyData → Prop} {N : Addr → Prop} {H : Hp} {v : V} {xs : List V} {d : PyData} (h : De N H v d) (s : P d) (m : MenE P N H xs) : MenE P N H (v :: xs) := fun u hu => by
  rcases List.mem_cons.mp hu with rfl | hu
  · exact ⟨d, h, s⟩
  · exact m u hu
theorem MenE.append {P : PyData → Prop} {N : Addr → Prop} {H : Hp} {xs ys : List V} (a : MenE P N H xs) (b : MenE P N H ys) : MenE P N H (xs ++ ys) := fun u hu => by
  rcases List.mem_append.mp hu with hu | hu
  · exact a u hu
  · exact b u hu
theorem MenE.k {P : PyData → Prop} {N : Addr → Prop} {H H' : Hp} {xs : List V} (m : MenE P N H xs) (e : Ks N H H') : MenE P N H' xs := fun v hv => by
  obtain ⟨d, a, b⟩ := m v hv
  exact ⟨d, kd a e, b⟩
theorem MenE.s {P : PyData → Prop} {N : Addr → Prop} {H H' : Hp} {xs : List V} (m : MenE P N H xs) (e : Same H H') : MenE P N H' xs := m.k (Ks.same e)
theorem MenE.new {P : PyData → Prop} {N : Addr → Prop} {H : Hp} {xs : List V} {c : Addr} {o : HO} (m : MenE P N H xs) (h : H c = none) : MenE P N (upd H c o) xs := m.k (Ks.same (Same.new (Same.refl H) h))
theorem menE_lit {P : PyData → Prop} {N : Addr → Prop} {H : Hp} {c c' : Addr} {zs : List V} (_ : (upd H c (.lst zs)) c' = none) (D : MenE P N (upd H c (.lst zs)) zs) : MenE P N (upd H c (.lst zs)) zs := D
theorem menE_all {P : PyData → Prop} {N : Addr → Prop} {H : Hp} {xs : List V} {ds : List PyData} (h : DeAll N H xs ds) (p : ∀ d ∈ ds, P d) : MenE P N H xs := fun v hv => by
  obtain ⟨i, lt, rfl⟩ := List.getElem_of_mem hv
  obtain ⟨d, e, g⟩ := h.get (List.getElem?_eq_getElem lt)
  exact ⟨d, g, p d (List.mem_of_getElem? e)⟩
/-! ### promises of the drawing -/
def spDraw : Sp := fun vs H Q _ => ∃ (p q : Addr) (n : Int), vs = [.ref p, .int n] ∧ Pt H p q ∧ n < 2 ^ 4000 ∧ ∀ (r : Int) (H' : Hp), 0 ≤ r → (0 < n → r < n) → (n ≤ 0 → r = 0) → Pt H' p q → Kp p q H H' → Q (.int r) H'
def spPick : Sp := fun vs H Q _ => ∃ (p q a : Addr) (xs : List V) (o : HO), vs = [.ref p, .ref a] ∧ Pt H p q ∧ H a = some o ∧ ((o = .lst xs ∧ a ≠ p ∧ a ≠ q) ∨ o = .tup xs) ∧ xs ≠ [] ∧ xs.length < 1000 ∧
  ∀ (v : V) (H' : Hp), v ∈ xs → Pt H' p q → Kp p q H H' → Q v H'
def spDeck (K : PySem.W.Frag) : Sp := fun vs H Q _ => ∃ (a : Addr) (ns : List Int), vs = [.ref a] ∧ SqL K H a (ns.map V.int) ∧ ns.length ≤ 63 ∧ ∀ (p q : Addr) (H' : Hp), Pt H' p q → Same H H' → H p = none → H q = none → Q (.ref p) H'
/-! ### displays with their heaps put aside -/
theorem lstThen {P : PyData → Prop} {N : Addr → Prop} {xs : List V} {H : Hp} {Q : VK} (M : MenE P N H xs) (k : ∀ (o : Addr) (H' : Hp), H o = none → Same H H' → H' o = some (.lst xs) → MenE P N H' xs → (∀ b, b ≠ o → H' b = H b) → Q (.ref o) H') : ∀ p, H p = none → Q (.ref p) (upd H p (.lst xs)) :=
  fun p n => k p _ n (Same.new (Same.refl H) n) upd_same (M.new n) (fun b nb => upd_ne nb)
theorem lstThenN {xs : List V} {H : Hp} {Q : VK} (k : ∀ (o : Addr) (H' : Hp), H o = none → o ≠ sysModules → Same H H' → H' o = some (.lst xs) → (∀ b, b ≠ o → H' b = H b) → Q (.ref o) H') : ∀ p, H p = none → p ≠ sysModules → Q (.ref p) (upd H p (.lst xs)) :=
  fun p n s => k p _ n s (Same.new (Same.refl H) n) upd_same (fun b nb => upd_ne nb)
theorem tupThen {xs : List V} {H : Hp} {Q : VK} (k : ∀ (o : Addr) (H' : Hp), H o = none → Same H H' → H' o = some (.tup xs) → (∀ b, b ≠ o → H' b = H b) → Q (.ref o) H') : ∀ p, H p = none → Q (.ref p) (upd H p (.tup xs)) :=
  fun p n => k p _ n (Same.new (Same.refl H) n) upd_same (fun b nb => upd_ne nb)
theorem dicThen {H : Hp} {Q : VK} (k : ∀ (o : Addr) (H' : Hp), H o = none → Same H H' → H' o = some (.dK []) → (∀ b, b ≠ o → H' b = H b) → Q (.ref o) H') : ∀ p, H p = none → Q (.ref p) (upd H p (.dK [])) :=
  fun p n => k p _ n (Same.new (Same.refl H) n) upd_same (fun b nb => upd_ne nb)
theorem newFacts {H H1 : Hp} {t : Addr} {o : HO} (e : upd H t o = H1) (n : H t = none) : Same H H1 ∧ H1 t = some o := by
  subst e
  exact ⟨Same.new (Same.refl H) n, upd_same⟩
theorem menC {P : PyData → Prop} {N : Addr → Prop} {H H' : Hp} {o : Addr} {xs : List V} (_ : H' o = some (.lst xs)) (sm : Same H H') (M : MenE P N H xs) : MenE P N H' xs := M.s sm
theorem menOf {P : PyData → Prop} {N : Addr → Prop} {H : Hp} {o : Addr} {xs : List V} (_ : H o = some (.lst xs)) (M : MenE P N H xs) : MenE P N H xs := M
theorem sl_any {K : PySem.W.Frag} {a : Addr} {xs : List V} {lo hi : Option Int} {H : Hp} {Q : VK} (h : H a = some (.tup xs)) (k : ∀ c H', Same H H' → H' c = some (.tup (cutV xs lo hi)) → Q (.ref c) H') : rSlA K (.ref a) lo hi H Q :=
  ⟨a, xs, rfl, SqT.of h, fun e => k a H (Same.refl H) (by
    have z : cutV xs lo hi = xs := by
      unfold cutV
      rw [e.1, e.2, List.drop_zero, Nat.sub_zero, List.take_length]
    rw [z]
    exact h), fun _ p n => k p _ (Same.new (Same.refl H) n) upd_same⟩
theorem cat_any {K : PySem.W.Frag} {a b : Addr} {xs ys : List V} {H : Hp} {Q : VK} (h : H a = some (.tup xs)) (h2 : H b = some (.tup ys)) (l : xs.length + ys.length ≤ sizeLine) (k : ∀ c H', Same H H' → H' c = some (.tup (xs ++ ys)) → Q (.ref c) H') : rCatA K (.ref a) (.ref b) H Q :=
  ⟨a, b, xs, ys, rfl, rfl, SqT.of h, SqT.of h2, l, fun e => k b H (Same.refl H) (by rw [e, List.nil_append]; exact h2), fun _ e => k a H (Same.refl H) (by rw [e, List.append_nil]; exact h), fun _ _ p n => k p _ (Same.new (Same.refl H) n) upd_same⟩
theorem noPart {σ : L2.St} {H : Hp} {Q : Option Int → Hp → Prop} (h : Q none H) : tNoPart σ H Q := h
theorem cut_take (xs : List V) (j : Nat) : cutV xs none (some (j : Int)) = xs.take j := by
  unfold cutV
  rw [HT.sIx_none, HT.sIx_nat, List.drop_zero, Nat.sub_zero]
  exact List.take_eq_take_iff.mpr (by omega)
theorem cut_drop (xs : List V) (j : Nat) : cutV xs (some (j : Int)) none = xs.drop j := by
  unfold cutV
  rw [HT.sIx_none, HT.sIx_nat]
  by_cases h : j ≤ xs.length
  · rw [Nat.min_eq_left h]
    exact List.take_of_length_le (by rw [List.length_drop]; omega)
  · rw [Nat.min_eq_right (by omega), List.drop_of_length_le (Nat.le_refl _), List.drop_of_length_le (by omega)]
    simp
theorem okE_item : ∀ {l : List PyData} {x : PyData}, okEAll l = true → x ∈ l → okE x = true ∧ wtE x ≤ wtEAll l ∧ x.depth ≤ PyData.depthAll l
  | y :: l, x, h, hx => by
    simp only [okEAll, Bool.and_eq_true] at h
    rcases List.mem_cons.mp hx with rfl | hx
    · refine ⟨h.1, by simp only [wtEAll]; omega, by simp only [PyData.depthAll]; omega⟩
    · obtain ⟨a, b, c⟩ := okE_item h.2 hx
      refine ⟨a, by simp only [wtEAll]; omega, by simp only [PyData.depthAll]; omega⟩
theorem okEG_item {c dp : Nat} {l : List PyData} (h : okEG c dp (.tuple l) = true) {x : PyData} (hx : x ∈ l) : okEG c dp x = true := by
  obtain ⟨a, b, d⟩ := okEG_iff.mp h
  simp only [okE] at a
  obtain ⟨a', b', d'⟩ := okE_item a hx
  simp only [wtE] at b
  simp only [PyData.depth] at d
  exact okEG_iff.mpr ⟨a', by omega, by omega⟩
theorem mem_app {P : PyData → Prop} {a b : List PyData} (h1 : ∀ y ∈ a, P y) (h2 : ∀ y ∈ b, P y) : ∀ y ∈ a ++ b, P y := fun y hy => by
  rcases List.mem_append.mp hy with hy | hy
  · exact h1 y hy
  · exact h2 y hy
theorem mem_one {P : PyData → Prop} {x : PyData} (h : P x) : ∀ y ∈ [x], P y := fun y hy => by rw [List.mem_singleton.mp hy]; exact h
theorem DeAll.rev {N : Addr → Prop} {H : Hp} : ∀ {vs : List V} {ds : List PyData}, DeAll N H vs ds → DeAll N H vs.reverse ds.reverse
  | _, _, .nil => .nil
  | _, _, .cons a b => by
    rw [List.reverse_cons, List.reverse_cons]
    exact NA.DeAll.append (DeAll.rev b) (.cons a .nil)
end DA
end NA
namespace NA
namespace DA
open PySem PySem.Spec PyProof.Rows L2
def topS (i : Nat) : Stmt := PySem.Challenge.pw_narrowadds_k37_what_are_wishes.main.body.getD i (.Pass ⟨0, 0, 0, 0⟩)
abbrev s_is_an_integer : Stmt := topS 2
abbrev s_is_below : Stmt := topS 3
abbrev s_step : Stmt := topS 5
abbrev s_entry_error : Stmt := topS 7
abbrev s_is_row : Stmt := topS 8
abbrev s_is_entry : Stmt := topS 9
abbrev s_wish_error : Stmt := topS 11
abbrev s_l_deck : Stmt := topS 13
abbrev s_l_draw : Stmt := topS 14
abbrev s_l_pick : Stmt := topS 15
abbrev s_l_mixed : Stmt := topS 16
abbrev s_l_divisor : Stmt := topS 17
abbrev s_l_raised : Stmt := topS 18
abbrev s_l_often : Stmt := topS 19
abbrev s_l_primes : Stmt := topS 20
abbrev s_l_least : Stmt := topS 21
abbrev s_l_is_whole : Stmt := topS 22
abbrev s_l_due : Stmt := topS 23
abbrev s_l_sizes : Stmt := topS 24
abbrev s_l_row : Stmt := topS 25
abbrev s_l_turned : Stmt := topS 26
abbrev s_law : Stmt := topS 27
section
variable {P : Program} {w : World} {K : PySem.W.Frag} {mg : Str → Option Value} {base : Heap}

/-! ### the program's kinds, over data with dicts -/
theorem tyI : ClsV (V.ty "int") (.type "int") := .ty _
theorem tyB : ClsV (V.ty "bool") (.type "bool") := .ty _
theorem tyT : ClsV (V.ty "tuple") (.type "tuple") := .ty _
theorem isI_eq (d : PyData) : (isIB d && !isB d) = isI d := by cases d <;> rfl
def spIntE : Sp := fun vs H Q _ => ∃ (v : V) (d : PyData) (N : Addr → Prop), vs = [v] ∧ De N H v d ∧ Q (.bl (isI d)) H
abbrev sc_is_an_integerN : List Str := ["value"]
theorem sc_is_an_integer : FnScope sc_is_an_integerN ["value"] (defScope s_is_an_integer) := ⟨rfl, rfl, rfl, by decide +kernel, rfl, by decide +kernel, by decide +kernel⟩
theorem ok_isintE {f : Addr} {fd : FuncData} (D : DefAt K mg "is_an_integer" s_is_an_integer ["value"] f fd) (T : Blt mg) : Cal P w K mg base 1 "is_an_integer" spIntE := by
  refine cal_of D sc_is_an_integer (fun vs H Q E h => ?_) (fun cdv A outer s H vs Q E hr h => ?_)
  · obtain ⟨v, d, N, rfl, _⟩ := h
    rfl
  · obtain ⟨v, d, N, rfl, hd, k⟩ := h
    refine ⟨_, (pss_one (ps_ret (pe_and (pe_callB (call_isiK' K rfl) (by rfl) T.isinstance (by decide +kernel) (pa_cons (pv 0) (pa_cons (pe_bltn (v := .ty "int") (u := .type "int") (by rfl) T.int (by decide +kernel) rfl) pa_nil))) (pe_one (pe_not (pe_callB (call_isiK' K rfl) (by rfl) T.isinstance (by decide +kernel) (pa_cons (pv 0) (pa_cons (pe_bltn (v := .ty "bool") (u := .type "bool") (by rfl) T.bool (by decide +kernel) rfl) pa_nil)))))))), ?_⟩
    rw [← isI_eq] at k
    refine ⟨_, rfl, _, _, _, _, _, rfl, tyI, hd.ty, kit_int K d, _, rfl, ?_⟩
    cases h1 : isIB d with
    | false =>
      rw [h1] at k
      exact iteF k
    | true =>
      rw [h1] at k
      exact iteT ⟨_, rfl, _, _, _, _, _, rfl, tyB, hd.ty, kit_bool K d, _, rfl, k⟩
theorem iteSK {c A B : Prop} [Decidable c] (hc : c) (h : A) : if decide c = true then A else B := by
  rw [decide_eq_true hc]
  exact iteT h
theorem iteNF {c A B : Prop} [Decidable c] (hc : ¬ c) (h : A) : if (!decide c) = true then A else B := by
  rw [decide_eq_false hc]
  exact iteT h
def Sz (ss : List Int) : Prop := ∀ s ∈ ss, ∃ y : Nat, s = (y : Int) ∧ 2 ≤ y ∧ y ≤ 10 ^ 30
theorem sz_nat {ss : List Int} (ok : Sz ss) {i : Nat} (h : i < ss.length) : ∃ y : Nat, ss[i]? = some (y : Int) ∧ 2 ≤ y ∧ y ≤ 10 ^ 30 ∧ (ss.getD i 0).toNat = y := by
  obtain ⟨s, es⟩ := get_some h
  obtain ⟨y, rfl, s2, s3⟩ := ok s (List.mem_of_getElem? es)
  refine ⟨y, es, s2, s3, ?_⟩
  rw [List.getD_eq_getElem?_getD, es]
  rfl
abbrev sc_stepN : List Str := ["machine", "j", "i", "sizes"]
theorem sc_step : FnScope sc_stepN ["machine", "j", "i"] (defScope s_step) := ⟨rfl, rfl, rfl, by decide +kernel, rfl, by decide +kernel, by decide +kernel⟩
theorem fn_step {f : Addr} {fd : FuncData} (D : DefAt K mg "step" s_step ["machine", "j", "i"] f fd) (T_gcd : mg "gcd" = some (.builtin "math.gcd")) : FnOk P w K mg base CX0 1 f fd ["machine", "j", "i"] spStep := by
  refine D.fn.ok sc_step (fun vs H Q E h => ?_) (fun cdv A outer s H vs Q E hr h => ?_)
  · obtain ⟨v, ss, d, j, i, a, b, rfl, _⟩ := h
    rfl
  · obtain ⟨v, ss, d, j, i, x, y, rfl, im, hj, hi, y0, y1, k⟩ := h
    refine ⟨_, (pss_cons (ps_set (i := 3) sc_step.nd rfl (.inl rfl) (pe_ix (ix_tupK K rfl) (pv 0) pe_int (fun _ _ => rfl)))
      (pss_one (ps_ret (pe_op op_fdivW (pe_ix (ix_tupK K rfl) (pv 3) (pv 2) (fun _ _ => rfl)) (pe_callBfun cr_gcd rfl T_gcd (pa_cons (pe_ix (ix_tupK K rfl) (pv 3) (pv 2) (fun _ _ => rfl)) (pa_cons (pe_ix (ix_tupK K rfl) (pv 3) (pv 1) (fun _ _ => rfl)) pa_nil))))))), ?_⟩
    obtain ⟨a, xs, rfl, ha, ia⟩ := im.tuple
    obtain ⟨v1, g1, im1⟩ := ia.get (i := 0) rfl
    obtain ⟨b, ys, rfl, hb, ib⟩ := im1.tuple
    have ey := ib.ints
    subst ey
    have hi' : (ss.map V.int)[i]? = some (V.int (y : Int)) := by rw [List.getElem?_map, hi]; rfl
    have hj' : (ss.map V.int)[j]? = some (V.int (x : Int)) := by rw [List.getElem?_map, hj]; rfl
    have gp : 0 < Nat.gcd y x := gcd_pos' y0
    have gl : Nat.gcd y x < 2 ^ 4000 := Nat.lt_of_le_of_lt (Nat.le_of_dvd y0 (Nat.gcd_dvd_left y x)) y1
    refine ⟨_, rfl, a, _, 0, _, rfl, rfl, SqT.of ha, atI_nat (j := 0) g1, ?_⟩
    refine ⟨_, rfl, _, rfl, b, _, i, _, rfl, rfl, SqT.of hb, atI_nat hi', _, rfl, _, rfl, b, _, i, _, rfl, rfl, SqT.of hb, atI_nat hi', _, rfl, _, rfl, b, _, j, _, rfl, rfl, SqT.of hb, atI_nat hj', _, _, rfl, ?_⟩
    exact ⟨_, _, rfl, rfl, wide_div (b := 4000) (by show (0 : Int) < ((Nat.gcd y x : Nat) : Int); omega) (by simpa using gl) (by decide) (by decide), k⟩
theorem k_step {f : Addr} {fd : FuncData} (F : Fun K "step" "step" s_step f fd) : KBinds K fd ["machine", "j", "i"] ["i", "j", "machine"] kg321 kg321 := by
  obtain ⟨oc, od, kV, doc, pm, an, cdv, ct, osl, rfl, lk, hcd⟩ := F.ex
  refine ⟨fun s us ws _ hl => ?_, kg321_rel⟩
  match us, ws, hl with
  | [], [a, b, c], _ => exact .of_eq rfl

/-! ### the program: wishes judged -/
abbrev sc_is_belowN : List Str := ["value", "bound"]
theorem sc_is_below : FnScope sc_is_belowN ["value", "bound"] (defScope s_is_below) := ⟨rfl, rfl, rfl, by decide +kernel, rfl, by decide +kernel, by decide +kernel⟩
def spBelE : Sp := fun vs H Q _ => ∃ (v : V) (d : PyData) (N : Addr → Prop) (m : Nat), vs = [v, .int m] ∧ De N H v d ∧ Q (.bl (isBl m d)) H
theorem isBl_no {d : PyData} (m : Nat) (h : isI d = false) : isBl m d = false := by cases d <;> first | rfl | cases h
theorem isBl_int {m : Nat} {d : PyData} (h : isBl m d = true) : isI d = true := by cases d <;> first | rfl | cases h
theorem ok_isbelowE {f : Addr} {fd : FuncData} (D : DefAt K mg "is_below" s_is_below ["value", "bound"] f fd) (c_is_an_integer : Cal P w K mg base 1 "is_an_integer" spIntE) : Cal P w K mg base 2 "is_below" spBelE := by
  refine cal_of D sc_is_below (fun vs H Q E h => ?_) (fun cdv A outer s H vs Q E hr h => ?_)
  · obtain ⟨v, d, N, m, rfl, _⟩ := h
    rfl
  · obtain ⟨v, d, N, m, rfl, hd, k⟩ := h
    refine ⟨_, (pss_one (ps_ret (pe_and (pe_c c_is_an_integer hr (by decide) rfl (pa_cons (pv 0) pa_nil)) (pe_one (pe_chain op_le op_lt pe_int (pv 0) (pv 1)))))), ?_⟩
    refine ⟨_, rfl, v, d, N, rfl, hd, _, rfl, ?_⟩
    cases h1 : isI d with
    | false =>
      rw [isBl_no m h1] at k
      exact iteF k
    | true =>
      refine iteT ?_
      obtain ⟨i, rfl, rfl⟩ := hd.int_of h1
      simp only [isBl] at k
      refine ⟨_, rfl, _, _, rfl, rfl, _, rfl, ?_⟩
      refine ite2 (fun h2 => ⟨_, rfl, _, _, rfl, rfl, ?_⟩) (fun h2 => ?_)
      · rw [h2] at k
        exact k
      · rw [show decide ((0 : Int) ≤ i) = false by simpa using h2] at k
        exact k
def isRow (n : Nat) : PyData → Bool
  | .tuple l => decide (l.length = n)
  | _ => false
def isN : PyData → Bool
  | .none => true
  | _ => false
def okRow (n : Nat) (r : PyData) : Bool := isN r || isRow n r
def entB (ss : List Int) (i j : Nat) (x : PyData) : Bool :=
  isBl (ss.getD i 0).toNat x && (decide (i = j) || (match x with | .int n => decide (n % ((stp (ss.getD j 0).toNat (ss.getD i 0).toNat : Nat) : Int) = 0) | _ => false))
def atD (rows : List PyData) (i j : Nat) : PyData := match rows.getD i .none with
  | .tuple l => l.getD j .none
  | _ => .none
def eE (i j : Nat) : PyData := .tuple [.str "entry", .int (i : Int), .int (j : Int)]
def goodB (ss : List Int) (rows : List PyData) (i j : Nat) : Bool := isN (rows.getD i .none) || entB ss i j (atD rows i j)
/-- what is wrong first with a wish -/
inductive Werr (ss : List Int) : PyData → PyData → Prop
  | form {d : PyData} (h : isRow ss.length d = false) : Werr ss d (.str "form")
  | row {rows : List PyData} {i : Nat} (l : rows.length = ss.length) (hi : i < ss.length) (before : ∀ i', i' < i → okRow ss.length (rows.getD i' .none) = true) (bad : okRow ss.length (rows.getD i .none) = false) : Werr ss (.tuple rows) (.tuple [.str "row", .int (i : Int)])
  | entry {rows : List PyData} {i j : Nat} (l : rows.length = ss.length) (ro : ∀ i', i' < ss.length → okRow ss.length (rows.getD i' .none) = true) (hi : i < ss.length) (hj : j < ss.length)
      (f : ∀ i' j', i' < ss.length → j' < ss.length → (i' < i ∨ (i' = i ∧ j' < j)) → goodB ss rows i' j' = true) (g : goodB ss rows i j = false) : Werr ss (.tuple rows) (eE i j)
  | none {rows : List PyData} (l : rows.length = ss.length) (ro : ∀ i', i' < ss.length → okRow ss.length (rows.getD i' .none) = true) (f : ∀ i' j', i' < ss.length → j' < ss.length → goodB ss rows i' j' = true) : Werr ss (.tuple rows) .none
theorem isRow_len {n : Nat} {rows : List PyData} (l : rows.length = n) : isRow n (.tuple rows) = true := decide_eq_true l
theorem Werr.det {ss : List Int} {d e e' : PyData} (a : Werr ss d e) (b : Werr ss d e') : e = e' := by
  cases a with
  | form h =>
    cases b with
    | form _ => rfl
    | row l _ _ _ => rw [isRow_len l] at h; cases h
    | entry l _ _ _ _ _ => rw [isRow_len l] at h; cases h
    | none l _ _ => rw [isRow_len l] at h; cases h
  | row l hi f g =>
    rename_i i
    cases b with
    | form h => rw [isRow_len l] at h; cases h
    | row l' hi' f' g' =>
      rename_i i'
      by_cases c1 : i' < i
      · rw [f _ c1] at g'; cases g'
      by_cases c2 : i < i'
      · rw [f' _ c2] at g; cases g
      have : i = i' := by omega
      rw [this]
    | entry _ ro _ _ _ _ => rw [ro _ hi] at g; cases g
    | none _ ro _ => rw [ro _ hi] at g; cases g
  | entry l ro i1 j1 f g =>
    rename_i i j
    cases b with
    | form h => rw [isRow_len l] at h; cases h
    | row lx hi' fx g' => rw [ro _ hi'] at g'; cases g'
    | entry ly rox i2 j2 f' g' =>
      rename_i i' j'
      by_cases c1 : i' < i ∨ (i' = i ∧ j' < j)
      · rw [f i' j' i2 j2 c1] at g'; cases g'
      by_cases c2 : i < i' ∨ (i = i' ∧ j < j')
      · rw [f' i j i1 j1 c2] at g; cases g
      have e1 : i = i' := by omega
      have e2 : j = j' := by omega
      rw [e1, e2]
    | none _ _ f' => rw [f' i j i1 j1] at g; cases g
  | none l ro f =>
    cases b with
    | form h => rw [isRow_len l] at h; cases h
    | row _ hi' _ g' => rw [ro _ hi'] at g'; cases g'
    | entry _ _ i2 j2 f' g' => rw [f _ _ i2 j2] at g'; cases g'
    | none _ _ _ => rfl
theorem row_dec (ds : List PyData) (n : Nat) : (((ds.length : Nat) : Int) == (n : Int)) = isRow n (.tuple ds) := by
  simp only [isRow]
  by_cases z : ds.length = n
  · rw [z, decide_eq_true rfl]
    exact beq_self_eq_true _
  · rw [decide_eq_false z]
    exact beq_eq_false_iff_ne.mpr (fun q => z (by omega))
theorem row_of {n : Nat} {d : PyData} (h : isRow n d = true) : ∃ l, d = .tuple l ∧ l.length = n := by
  cases d with
  | tuple l => exact ⟨l, rfl, of_decide_eq_true h⟩
  | _ => cases h
theorem isRow_T {n : Nat} {d : PyData} (h : isT d = false) : isRow n d = false := by cases d <;> first | rfl | cases h
theorem de_isN {N : Addr → Prop} {H : Hp} {v : V} {d : PyData} (h : De N H v d) : decide (v = V.non) = isN d := by
  cases h <;> first | rfl | exact decide_eq_false (fun z => nomatch z)
theorem getD_of {rows : List PyData} {i : Nat} {x : PyData} (h : rows[i]? = some x) : rows.getD i .none = x := by
  rw [List.getD_eq_getElem?_getD, h]
  rfl
theorem at_get {rows l : List PyData} {i j : Nat} {x : PyData} (h : rows[i]? = some (.tuple l)) (h2 : l[j]? = some x) : atD rows i j = x := by
  unfold atD
  rw [getD_of h]
  show l.getD j .none = x
  exact getD_of h2
abbrev sc_is_rowN : List Str := ["value", "many"]
theorem sc_is_row : FnScope sc_is_rowN ["value", "many"] (defScope s_is_row) := ⟨rfl, rfl, rfl, by decide +kernel, rfl, by decide +kernel, by decide +kernel⟩
def spIsRowE : Sp := fun vs H Q _ => ∃ (v : V) (d : PyData) (N : Addr → Prop) (n : Nat), vs = [v, .int n] ∧ De N H v d ∧ Q (.bl (isRow n d)) H
theorem ok_isrowE {f : Addr} {fd : FuncData} (D : DefAt K mg "is_row" s_is_row ["value", "many"] f fd) (T : Blt mg) : Cal P w K mg base 1 "is_row" spIsRowE := by
  refine cal_of D sc_is_row (fun vs H Q E h => ?_) (fun cdv A outer s H vs Q E hr h => ?_)
  · obtain ⟨v, d, N, n, rfl, _⟩ := h
    rfl
  · obtain ⟨v, d, N, n, rfl, hd, k⟩ := h
    refine ⟨_, (pss_one (ps_ret (pe_and (pe_callB (call_isiK' K rfl) (by rfl) T.isinstance (by decide +kernel) (pa_cons (pv 0) (pa_cons (pe_bltn (v := .ty "tuple") (u := .type "tuple") (by rfl) T.tuple (by decide +kernel) rfl) pa_nil))) (pe_one (pe_cmpR op_eq (pe_callB (call_lenK K rfl) (by rfl) T.len PySem.boot_len (pa_cons (pv 0) pa_nil)) (pv 1) (nomark _)))))), ?_⟩
    refine ⟨_, rfl, _, _, _, _, _, rfl, tyT, hd.ty, kit_tup K d, _, rfl, ?_⟩
    cases h1 : isT d with
    | false =>
      rw [isRow_T h1] at k
      exact iteF k
    | true =>
      obtain ⟨a, xs, ds, rfl, rfl, ha, hs⟩ := hd.tuple h1
      have e : decide (V.int ((xs.length : Nat) : Int) = V.int (n : Int)) = isRow n (.tuple ds) := by
        rw [hs.length, dec_int]
        exact row_dec ds n
      refine iteT ⟨_, rfl, a, _, rfl, .inr (SqT.of ha), _, rfl, rfl, ?_⟩
      rw [e]
      exact k
abbrev sc_is_entryN : List Str := ["machine", "i", "j", "value"]
theorem sc_is_entry : FnScope sc_is_entryN ["machine", "i", "j", "value"] (defScope s_is_entry) := ⟨rfl, rfl, rfl, by decide +kernel, rfl, by decide +kernel, by decide +kernel⟩
def spIsEntE : Sp := fun vs H Q _ => ∃ (m v : V) (ss : List Int) (e : PyData) (i j : Nat) (d : PyData) (N : Addr → Prop), vs = [m, .int i, .int j, v] ∧ Im H m (.tuple [sD ss, e]) ∧ Sz ss ∧ i < ss.length ∧ j < ss.length ∧ De N H v d ∧ Q (.bl (entB ss i j d)) H
theorem ok_isentE {f : Addr} {fd : FuncData} (D : DefAt K mg "is_entry" s_is_entry ["machine", "i", "j", "value"] f fd) (T : Blt mg) (c_is_below : Cal P w K mg base 2 "is_below" spBelE) (c_step : Cal P w K mg base 1 "step" spStep) : Cal P w K mg base 3 "is_entry" spIsEntE := by
  refine cal_of D sc_is_entry (fun vs H Q E h => ?_) (fun cdv A outer s H vs Q E hr h => ?_)
  · obtain ⟨m, v, ss, ws, i, j, d, N, rfl, _⟩ := h
    rfl
  · obtain ⟨m, v, ss, e9, i, j, d, N, rfl, im, ok, hi, hj, hd, k⟩ := h
    refine ⟨_, (pss_cons (ps_if (pt_not (pt_val (pe_c c_is_below hr (by decide) rfl (pa_cons (pv 3) (pa_cons (pe_ix (ix_tupK K rfl) (pe_ix (ix_tupK K rfl) (pv 0) pe_int (fun _ _ => rfl)) (pv 1) (fun _ _ => rfl)) pa_nil))))) (pss_one (ps_ret pe_bl)) pss_nil)
      (pss_one (ps_ret (pe_or (pe_cmpR op_eq (pv 1) (pv 2) (nomark _)) (pe_one (pe_cmpR op_eq (pe_op op_mod (pv 3) (pe_c c_step hr (by decide) rfl (pa_cons (pv 0) (pa_cons (pv 2) (pa_cons (pv 1) pa_nil))))) pe_int (nomark _))))))), ?_⟩
    obtain ⟨a, xs, rfl, ha, ia⟩ := id im.tuple
    obtain ⟨b0, g0, im0⟩ := ia.get (i := 0) rfl
    obtain ⟨b, ys, rfl, hb, ib⟩ := id im0.tuple
    have ey := ib.ints
    subst ey
    obtain ⟨y, ey, y2, y3, yn⟩ := sz_nat ok hi
    obtain ⟨x, ex, x2, x3, xn⟩ := sz_nat ok hj
    have hiV : (ss.map V.int)[i]? = some (V.int (y : Int)) := by rw [List.getElem?_map, ey]; rfl
    unfold entB at k
    rw [yn, xn] at k
    refine ⟨_, rfl, _, rfl, a, _, 0, _, rfl, rfl, SqT.of ha, atI_nat (j := 0) g0, _, rfl, b, _, i, _, rfl, rfl, SqT.of hb, atI_nat hiV, v, d, N, y, rfl, hd, _, rfl, ?_⟩
    cases h1 : isBl y d with
    | false =>
      rw [h1] at k
      exact iteT k
    | true =>
      rw [h1] at k
      obtain ⟨n, rfl, rfl⟩ := hd.int_of (isBl_int h1)
      refine iteF ⟨_, rfl, _, rfl, rfl, _, rfl, ?_⟩
      rw [Bool.true_and] at k
      by_cases e : i = j
      · rw [decide_eq_true e, Bool.true_or] at k
        subst e
        exact iteSK rfl k
      · rw [decide_eq_false e, Bool.false_or] at k
        rw [decide_eq_false (fun z => e (by have := V.int.inj z; omega))]
        refine iteF ⟨_, rfl, _, rfl, _, rfl, _, rfl, _, ss, _, j, i, x, y, rfl, im, ex, ey, by omega, Nat.lt_of_le_of_lt y3 (by decide), _, _, rfl, rfl, ?_, rfl, ?_⟩
        · have := stp_pos (a := x) (b := y) (by omega)
          show (0 : Int) < ((stp x y : Nat) : Int)
          omega
        · have q := k
          rw [show decide (V.int (n % ((stp x y : Nat) : Int)) = V.int 0) = decide (n % ((stp x y : Nat) : Int) = 0) from dec_int0 _ _]
          exact q
abbrev sc_entry_errorN : List Str := ["machine", "rows", "i", "row", "j", "entry"]
theorem sc_entry_error : FnScope sc_entry_errorN ["machine", "rows"] (defScope s_entry_error) := ⟨rfl, rfl, rfl, by decide +kernel, rfl, by decide +kernel, by decide +kernel⟩
def spEntsE : Sp := fun vs H Q _ => ∃ (m v : V) (ss : List Int) (e : PyData) (rows : List PyData) (N : Addr → Prop), vs = [m, v] ∧ Im H m (.tuple [sD ss, e]) ∧ Sz ss ∧ ss.length ≤ 6 ∧ De N H v (.tuple rows) ∧ rows.length = ss.length ∧ (∀ i', i' < ss.length → okRow ss.length (rows.getD i' .none) = true) ∧
  ∀ (u : V) (e : PyData) (H' : Hp), Werr ss (.tuple rows) e → Im H' u e → Same H H' → Q u H'
theorem ok_entsE {f : Addr} {fd : FuncData} (D : DefAt K mg "entry_error" s_entry_error ["machine", "rows"] f fd) (T : Blt mg) (c_is_entry : Cal P w K mg base 3 "is_entry" spIsEntE) : Cal P w K mg base 4 "entry_error" spEntsE := by
  refine cal_of D sc_entry_error (fun vs H Q E h => ?_) (fun cdv A outer s H vs Q E hr h => ?_)
  · obtain ⟨m, v, ss, e, rows, N, rfl, _⟩ := h
    rfl
  · obtain ⟨m, v, ss, e9, rows, N, rfl, im, ok, l6, hd, lr, ro, k⟩ := h
    refine ⟨_, (pss_cons (ps_for PassesOwn.never rfl (pi_enumTK K rfl (by rfl) T.enumerate (pa_cons (pv 1) pa_nil)) (pg_tup rfl (pgs_cons (pg_name (i := 2) sc_entry_error.nd rfl (.inl rfl)) (pgs_cons (pg_name (i := 3) sc_entry_error.nd rfl (.inl rfl)) pgs_nil))) (pss_one (ps_if (pt_cmpR op_notN (pv 3) pe_non (nomark _)) (pss_one (ps_for PassesOwn.never rfl (pi_enumTK K rfl (by rfl) T.enumerate (pa_cons (pv 3) pa_nil)) (pg_tup rfl (pgs_cons (pg_name (i := 4) sc_entry_error.nd rfl (.inl rfl)) (pgs_cons (pg_name (i := 5) sc_entry_error.nd rfl (.inl rfl)) pgs_nil))) (pss_one (ps_if (pt_not (pt_val (pe_c c_is_entry hr (by decide) rfl (pa_cons (pv 0) (pa_cons (pv 2) (pa_cons (pv 4) (pa_cons (pv 5) pa_nil))))))) (pss_one (ps_ret (pe_tup (pa_cons pe_str (pa_cons (pv 2) (pa_cons (pv 4) pa_nil)))))) pss_nil)))) pss_nil)))
      (pss_one (ps_ret pe_non))), ?_⟩
    obtain ⟨a, xs, rfl, ha, ia⟩ := id im.tuple
    obtain ⟨c, zs, ds, rfl, e0, hc, hs⟩ := hd.tuple rfl
    cases e0
    have lz : zs.length = rows.length := hs.length
    refine ⟨_, rfl, c, zs, rfl, SqT.of hc, for_it walk_enumT (fun t σ H' => ∃ v3 v4 v5 v6 : Option V, σ = [some (.ref a), some (.ref c), v3, v4, v5, v6] ∧ Same H H' ∧ ∀ i' j', i' < t → j' < ss.length → goodB ss rows i' j' = true)
      ⟨none, none, none, none, rfl, Same.refl H, fun _ _ z => absurd z (Nat.not_lt_zero _)⟩ (fun t σ H' _ ⟨_, _, _, _, _, z, _⟩ => SqT.of (z _ _ hc)) ?_ ?_⟩
    · rintro t x σ H3 H4 ht ⟨v3, v4, v5, v6, rfl, s3, al⟩ ⟨T1, x1, x2, rfl, nT, rfl, e1, e2⟩
      cases e1
      obtain ⟨dr, hdr, dgr⟩ := hs.get e2
      have ti : t < ss.length := by omega
      have s4 : Same H (upd H3 T1 (.tup [.int (t : Nat), x2])) := Same.new s3 nT
      refine ⟨T1, _, rfl, SqT.of upd_same, rfl, _, _, rfl, _, _, rfl, rfl, ?_⟩
      generalize upd H3 T1 (.tup [.int (t : Nat), x2]) = H4 at *
      refine ⟨_, rfl, rfl, _, rfl, ?_⟩
      rw [de_isN dgr]
      have or := ro t ti
      have eg := getD_of hdr
      rw [eg] at or
      cases hn : isN dr with
      | true =>
        refine iteF ⟨_, _, _, _, rfl, s4, fun i' j' hi' hj' => ?_⟩
        by_cases z : i' < t
        · exact al i' j' z hj'
        · have : i' = t := by omega
          subst this
          unfold goodB
          rw [eg, hn, Bool.true_or]
      | false =>
      unfold okRow at or
      rw [hn, Bool.false_or] at or
      obtain ⟨l, rfl, ll⟩ := row_of or
      obtain ⟨ar, vs, ds, rfl, e0, har, hvs⟩ := dgr.tuple rfl
      cases e0
      have lv : vs.length = ss.length := by rw [hvs.length, ll]
      refine iteT ⟨_, rfl, ar, vs, rfl, SqT.of (s4 _ _ har), for_it walk_enumT (fun u σ H' => ∃ v5 v6 : Option V, σ = [some (.ref a), some (.ref c), some (.int (t : Nat)), some (.ref ar), v5, v6] ∧ Same H H' ∧ ∀ j', j' < u → goodB ss rows t j' = true)
        ⟨v5, v6, rfl, s4, fun _ z => absurd z (Nat.not_lt_zero _)⟩ (fun t σ H' _ ⟨_, _, _, z, _⟩ => SqT.of (z _ _ har)) ?_ ?_⟩
      · rintro u y σ H5 H6 hu' ⟨v5, v6, rfl, s5, al2⟩ ⟨T2, y1, y2, rfl, nT2, rfl, f1, f2⟩
        cases f1
        obtain ⟨de, hde, dge⟩ := hvs.get f2
        have uj : u < ss.length := by omega
        have s6 : Same H (upd H5 T2 (.tup [.int (u : Nat), y2])) := Same.new s5 nT2
        refine ⟨T2, _, rfl, SqT.of upd_same, rfl, _, _, rfl, _, _, rfl, rfl, ?_⟩
        generalize upd H5 T2 (.tup [.int (u : Nat), y2]) = H6 at *
        have ea : goodB ss rows t u = entB ss t u de := by
          unfold goodB
          rw [at_get hdr hde, eg, hn, Bool.false_or]
        refine ⟨_, rfl, _, rfl, _, rfl, _, rfl, _, y2, ss, e9, t, u, de, N, rfl, Same.k s6 im, ok, ti, uj, dge.s s6, _, rfl, ?_⟩
        cases h3 : entB ss t u de with
        | false =>
          refine iteT ⟨_, rfl, _, rfl, by show 3 ≤ sizeLine; decide, fun t9 nt9 => ?_⟩
          refine k _ (eE t u) _ (.entry lr ro ti uj (fun i' j' hi' hj' hlt => ?_) (by rw [ea]; exact h3)) (.tup upd_same (.cons (.str _) (.cons (.int _) (.cons (.int _) .nil)))) (Same.new s6 nt9)
          rcases hlt with hlt | ⟨rfl, hlt⟩
          · exact al i' j' hlt hj'
          · exact al2 j' hlt
        | true =>
          refine iteF ⟨_, _, rfl, s6, fun j' hj' => ?_⟩
          by_cases z : j' < u
          · exact al2 j' z
          · have : j' = u := by omega
            subst this
            rw [ea]
            exact h3
      · rintro σ H5 ⟨v5, v6, rfl, s5, al2⟩
        refine ⟨_, _, _, _, rfl, s5, fun i' j' hi' hj' => ?_⟩
        by_cases z : i' < t
        · exact al i' j' z hj'
        · have : i' = t := by omega
          subst this
          exact al2 j' (by omega)
    · rintro σ H3 ⟨v3, v4, v5, v6, rfl, s3, al⟩
      exact k _ _ _ (.none lr ro fun i' j' hi' hj' => al i' j' (by omega) hj') .non s3
abbrev sc_wish_errorN : List Str := ["machine", "value", "many", "i", "row"]
theorem sc_wish_error : FnScope sc_wish_errorN ["machine", "value"] (defScope s_wish_error) := ⟨rfl, rfl, rfl, by decide +kernel, rfl, by decide +kernel, by decide +kernel⟩
def spWerr : Sp := fun vs H Q _ => ∃ (m v : V) (ss : List Int) (e : PyData) (d : PyData) (N : Addr → Prop), vs = [m, v] ∧ Im H m (.tuple [sD ss, e]) ∧ Sz ss ∧ ss.length ≤ 6 ∧ De N H v d ∧
  ∀ (u : V) (e : PyData) (H' : Hp), Werr ss d e → Im H' u e → Same H H' → Q u H'
theorem fn_werr {f : Addr} {fd : FuncData} (D : DefAt K mg "wish_error" s_wish_error ["machine", "value"] f fd) (T : Blt mg) (c_is_row : Cal P w K mg base 1 "is_row" spIsRowE) (c_entry_error : Cal P w K mg base 4 "entry_error" spEntsE) : FnOk P w K mg base CX0 5 f fd ["machine", "value"] spWerr := by
  refine D.fn.ok sc_wish_error (fun vs H Q E h => ?_) (fun cdv A outer s H vs Q E hr h => ?_)
  · obtain ⟨m, v, ss, e, d, N, rfl, _⟩ := h
    rfl
  · obtain ⟨m, v, ss, e9, d, N, rfl, im, ok, l6, hd, k⟩ := h
    refine ⟨_, (pss_cons (ps_set (i := 2) sc_wish_error.nd rfl (.inl rfl) (pe_callB (call_lenK K rfl) (by rfl) T.len PySem.boot_len (pa_cons (pe_ix (ix_tupK K rfl) (pv 0) pe_int (fun _ _ => rfl)) pa_nil)))
      (pss_cons (ps_if (pt_not (pt_val (pe_c c_is_row hr (by decide) rfl (pa_cons (pv 1) (pa_cons (pv 2) pa_nil))))) (pss_one (ps_ret pe_str)) pss_nil)
      (pss_cons (ps_for PassesOwn.never rfl (pi_enumTK K rfl (by rfl) T.enumerate (pa_cons (pv 1) pa_nil)) (pg_tup rfl (pgs_cons (pg_name (i := 3) sc_wish_error.nd rfl (.inl rfl)) (pgs_cons (pg_name (i := 4) sc_wish_error.nd rfl (.inl rfl)) pgs_nil))) (pss_one (ps_if (PW.pt (pw_and (pt_cmpR op_notN (pv 4) pe_non (nomark _)) (pw_and1 (pt_not (pt_val (pe_c c_is_row hr (by decide) rfl (pa_cons (pv 4) (pa_cons (pv 2) pa_nil)))))))) (pss_one (ps_ret (pe_tup (pa_cons pe_str (pa_cons (pv 3) pa_nil))))) pss_nil)))
      (pss_one (ps_ret (pe_c c_entry_error hr (by decide) rfl (pa_cons (pv 0) (pa_cons (pv 1) pa_nil)))))))), ?_⟩
    obtain ⟨a, xs, rfl, ha, ia⟩ := id im.tuple
    obtain ⟨b0, g0, im0⟩ := ia.get (i := 0) rfl
    obtain ⟨b, ys, rfl, hb, ib⟩ := id im0.tuple
    have ey := ib.ints
    subst ey
    refine ⟨_, rfl, a, _, 0, _, rfl, rfl, SqT.of ha, atI_nat (j := 0) g0, b, _, rfl, .inr (SqT.of hb), ?_⟩
    rw [List.length_map]
    refine ⟨_, rfl, _, rfl, v, d, N, ss.length, rfl, hd, _, rfl, ?_⟩
    cases h1 : isRow ss.length d with
    | false => exact iteT (k _ _ _ (.form h1) (.str _) (Same.refl H))
    | true =>
    obtain ⟨rows, rfl, lr⟩ := row_of h1
    obtain ⟨c, zs, ds, rfl, e0, hc, hs⟩ := hd.tuple rfl
    cases e0
    have lz : zs.length = rows.length := hs.length
    refine iteF ⟨_, rfl, c, zs, rfl, SqT.of hc, for_it walk_enumT (fun t σ H' => ∃ v3 v4 : Option V, σ = [some (.ref a), some (.ref c), some (.int (ss.length : Int)), v3, v4] ∧ Same H H' ∧ ∀ i', i' < t → okRow ss.length (rows.getD i' .none) = true)
      ⟨none, none, rfl, Same.refl H, fun _ z => absurd z (Nat.not_lt_zero _)⟩ (fun t σ H' _ ⟨_, _, _, z, _⟩ => SqT.of (z _ _ hc)) ?_ ?_⟩
    · rintro t x σ H3 H4 ht ⟨v3, v4, rfl, s3, al⟩ ⟨T1, x1, x2, rfl, nT, rfl, e1, e2⟩
      cases e1
      obtain ⟨dr, hdr, dgr⟩ := hs.get e2
      have ti : t < ss.length := by omega
      have s4 : Same H (upd H3 T1 (.tup [.int (t : Nat), x2])) := Same.new s3 nT
      refine ⟨T1, _, rfl, SqT.of upd_same, rfl, _, _, rfl, _, _, rfl, rfl, ?_⟩
      generalize upd H3 T1 (.tup [.int (t : Nat), x2]) = H4 at *
      have eg := getD_of hdr
      have nxt : okRow ss.length dr = true → ∀ i', i' < t + 1 → okRow ss.length (rows.getD i' .none) = true := fun h i' hi' => by
        by_cases z : i' < t
        · exact al i' z
        · have : i' = t := by omega
          subst this
          rw [eg]
          exact h
      refine ⟨_, rfl, rfl, _, rfl, ?_⟩
      rw [de_isN dgr]
      cases hn : isN dr with
      | true => exact iteF ⟨_, _, rfl, s4, nxt (by unfold okRow; rw [hn, Bool.true_or])⟩
      | false =>
      refine iteT ⟨_, rfl, _, rfl, _, dr, N, ss.length, rfl, dgr.s s4, _, rfl, ?_⟩
      cases hq : isRow ss.length dr with
      | true => exact iteF ⟨_, _, rfl, s4, nxt (by unfold okRow; rw [hq, Bool.or_true])⟩
      | false =>
        refine iteT ⟨_, rfl, by show 2 ≤ sizeLine; decide, fun t9 nt9 => ?_⟩
        exact k _ _ _ (.row lr ti al (by rw [eg]; unfold okRow; rw [hn, hq]; rfl)) (.tup upd_same (.cons (.str _) (.cons (.int _) .nil))) (Same.new s4 nt9)
    · rintro σ H3 ⟨v3, v4, rfl, s3, al⟩
      exact ⟨_, rfl, _, rfl, _, _, ss, e9, rows, N, rfl, Same.k s3 im, ok, l6, hd.s s3, lr, (fun i' hi' => al i' (by omega)), fun u e H' t iu s' => k u e H' t iu (s3.trans s')⟩

/-! ### the deck: _law_draw, _law_pick -/
abbrev sc_l_drawN : List Str := ["deck", "many", "whole", "one", "two"]
theorem sc_l_draw : FnScope sc_l_drawN ["deck", "many"] (defScope s_l_draw) := ⟨rfl, rfl, rfl, by decide +kernel, rfl, by decide +kernel, by decide +kernel⟩
theorem ok_draw {f : Addr} {fd : FuncData} (D : DefAt K mg "_law_draw" s_l_draw ["deck", "many"] f fd) (T : Blt mg) : Cal P w K mg base 1 "_law_draw" spDraw := by
  refine cal_of D sc_l_draw (fun vs H Q E h => ?_) (fun cdv A outer s H vs Q E hr h => ?_)
  · obtain ⟨p, q, n, rfl, _⟩ := h
    rfl
  · obtain ⟨p, q, n, rfl, hP, n1, k⟩ := h
    have npq : p ≠ q := hP.ne
    obtain ⟨ds, st, hp, hq, d0, dl, s0, s1⟩ := id hP
    refine ⟨_, (pss_cons (ps_if (pt_cmpR op_lt (pv 1) pe_int (nomark _)) (pss_one (ps_ret pe_int)) pss_nil)
      (pss_cons (ps_if (pt_cmpR (op_neDK K rfl hr.units) (pe_dget (hu_of hr) (pv 0) pe_str (fun _ _ => rfl)) (pe_lst pa_nil) (nomark _)) (pss_cons (ps_set (i := 2) sc_l_draw.nd rfl (.inl rfl) (pe_bm0 PySem.F.plainAttrs_list PySem.F.slot_list_pop PySem.F.type_list_pop mt_pop (pe_dget (hu_of hr) (pv 0) pe_str (fun _ _ => rfl))))
      (pss_cons (ps_if (pt_cmpR op_ge (pv 2) (pv 1) (nomark _)) (pss_one (ps_expr (pe_bm PySem.F.plainAttrs_list PySem.F.slot_list_append PySem.F.type_list_append mt_append (pe_dget (hu_of hr) (pv 0) pe_str (fun _ _ => rfl)) (pa_cons (pe_op op_fdivW (pv 2) (pv 1)) pa_nil)))) pss_nil)
      (pss_one (ps_ret (pe_op op_mod (pe_callTy call_int1 (by rfl) T.int (by decide +kernel) (pa_cons (pv 2) pa_nil)) (pv 1)))))) pss_nil)
      (pss_cons (ps_set (i := 3) sc_l_draw.nd rfl (.inl rfl) (pe_op op_mod (pe_callTy call_int1 (by rfl) T.int (by decide +kernel) (pa_cons (pe_op op_add (pe_op op_mul (pe_dget (hu_of hr) (pv 0) pe_str (fun _ _ => rfl)) pe_int) pe_int) pa_nil)) pe_int))
      (pss_cons (ps_dput (hu_of hr) (pv 0) pe_str (pv 3) rfl)
      (pss_cons (ps_set (i := 4) sc_l_draw.nd rfl (.inl rfl) (pe_op op_mod (pe_callTy call_int1 (by rfl) T.int (by decide +kernel) (pa_cons (pe_op op_add (pe_op op_add (pe_op op_mul (pv 3) (pv 3)) (pe_op op_mul pe_int (pv 3))) pe_int) pa_nil)) pe_int))
      (pss_one (ps_ret (pe_op op_mod (pe_callTy call_int1 (by rfl) T.int (by decide +kernel) (pa_cons (pe_op op_fdiv (pv 4) pe_int) pa_nil)) (pv 1))))))))), ?_⟩
    refine ⟨_, rfl, _, _, rfl, rfl, _, rfl, ?_⟩
    refine ite2 (fun c1 => k 0 H (Int.le_refl 0) id (fun _ => rfl) hP (Kp.refl p q H)) (fun c1 => ?_)
    have n2 : 2 ≤ n := by
      have z : ¬ n < 2 := fun z => c1 (decide_eq_true z)
      omega
    refine ⟨_, rfl, p, _, rfl, get_deep hp, Nat.zero_le _, fun l nl => ?_⟩
    have hp1 : (upd H l (.lst [])) p = some (.dK (dkK q st)) := keepN hp nl
    have hq1 : (upd H l (.lst [])) q = some (.lst (ds.map V.int)) := keepN hq nl
    have kp1 : Kp p q H (upd H l (.lst [])) := (Kp.refl p q H).new nl
    refine ⟨.list (ds.map PyData.int), .list [], .lst (SqL.of hq1) (DpAll.ints K _ ds), .lst (SqL.of upd_same) .nil, shaped_ints ds, rfl, _, rfl, ?_⟩
    generalize upd H l (.lst []) = H1 at *
    cases ds with
    | nil =>
      refine iteF ?_
      refine ⟨_, rfl, p, _, rfl, get_state hp1, _, _, rfl, rfl, .inr ⟨by decide, by decide⟩, _, _, rfl, rfl, .inl ⟨_, rfl, _, _, rfl, rfl, (by decide : (0 : Int) < 2305843009213693951), ?_⟩⟩
      have o0 := Int.emod_nonneg (st * 1181783497276652981 + 88172645463325) (show (2305843009213693951 : Int) ≠ 0 by decide)
      have o1 := Int.emod_lt_of_pos (st * 1181783497276652981 + 88172645463325) (show (0 : Int) < 2305843009213693951 by decide)
      refine ⟨_, rfl, _, rfl, p, _, rfl, dput_state hp1 _, ?_⟩
      refine ⟨_, rfl, _, rfl, _, _, rfl, rfl, .inl ⟨by omega, by omega⟩, _, rfl, _, _, rfl, rfl, .inl ⟨by decide, by decide⟩, _, _, rfl, rfl, _, _, rfl, rfl, .inl ⟨_, rfl, _, _, rfl, rfl, (by decide : (0 : Int) < 2305843009213693921), ?_⟩⟩
      refine ⟨_, rfl, _, _, rfl, rfl, ⟨by decide, by decide⟩, .inl ⟨_, rfl, _, rfl, _, _, rfl, rfl, by omega, ?_⟩⟩
      exact k _ _ (Int.emod_nonneg _ (by omega)) (fun _ => Int.emod_lt_of_pos _ (by omega)) (fun z => by omega) ⟨[], _, upd_same, by rw [upd_ne npq.symm]; exact hq1, d0, dl, o0, by omega⟩ (kp1.own (.inl rfl))
    | cons c0 cs0 =>
      refine iteT ?_
      generalize hcs : c0 :: cs0 = cs at *
      have ne : cs ≠ [] := by rw [← hcs]; exact List.cons_ne_nil _ _
      obtain ⟨ini, z, rfl⟩ : ∃ (ini : List Int) (z : Int), cs = ini ++ [z] := ⟨cs.dropLast, cs.getLast ne, (List.dropLast_concat_getLast ne).symm⟩
      have hq1' : H1 q = some (.lst (ini.map V.int ++ [V.int z])) := by rw [hq1, List.map_append]; rfl
      have hlast : (ini.map V.int ++ [V.int z])[(ini.map V.int ++ [V.int z]).length - 1]? = some (V.int z) := by simp
      have hdrop : (ini.map V.int ++ [V.int z]).dropLast = ini.map V.int := by simp
      have z0 : 0 ≤ z := d0 z (by simp)
      have i0 : ∀ x ∈ ini, 0 ≤ x := fun x hx => d0 x (by simp [hx])
      have li : ini.length + 1 ≤ 70 := by simpa using dl
      refine ⟨_, rfl, p, _, rfl, get_deep hp1, .inl ⟨rfl, _, SqL.of hq1'⟩, q, _, _, rfl, rfl, hq1', hlast, ?_⟩
      rw [hdrop]
      have hp2 : (upd H1 q (.lst (ini.map V.int))) p = some (.dK (dkK q st)) := by rw [upd_ne npq]; exact hp1
      have hq2 : (upd H1 q (.lst (ini.map V.int))) q = some (.lst (ini.map V.int)) := upd_same
      have kp2 : Kp p q H (upd H1 q (.lst (ini.map V.int))) := kp1.own (.inr rfl)
      generalize upd H1 q (.lst (ini.map V.int)) = H2 at *
      refine ⟨_, rfl, _, rfl, _, _, rfl, rfl, _, rfl, ?_⟩
      refine ite2 (fun _ => ?_) (fun _ => ?_)
      · refine ⟨_, rfl, p, _, rfl, get_deep hp2, .inl ⟨rfl, _, SqL.of hq2⟩, _, rfl, _, rfl, _, _, rfl, rfl, wide_div (b := 4000) (by omega) (by have := Int.toNat_of_nonneg (show 0 ≤ n by omega); omega) (by decide) (by decide), q, _, _, rfl, rfl, hq2, small1000 (by rw [List.length_map]; omega), ?_⟩
        refine ⟨_, rfl, .inl ⟨_, rfl, _, rfl, _, _, rfl, rfl, by omega, ?_⟩⟩
        refine k _ _ (Int.emod_nonneg _ (by omega)) (fun _ => Int.emod_lt_of_pos _ (by omega)) (fun z => by omega) ⟨ini ++ [z / n], st, by rw [upd_ne npq]; exact hp2, by rw [upd_same, List.map_append]; rfl, fun x hx => ?_, by rw [List.length_append, List.length_singleton]; omega, s0, s1⟩ (kp2.own (.inr rfl))
        rcases List.mem_append.mp hx with hx | hx
        · exact i0 x hx
        · rw [List.mem_singleton.mp hx]
          exact Int.ediv_nonneg z0 (by omega)
      · refine ⟨_, rfl, .inl ⟨_, rfl, _, rfl, _, _, rfl, rfl, by omega, ?_⟩⟩
        exact k _ _ (Int.emod_nonneg _ (by omega)) (fun _ => Int.emod_lt_of_pos _ (by omega)) (fun z => by omega) ⟨ini, st, hp2, hq2, i0, by omega, s0, s1⟩ kp2
abbrev sc_l_pickN : List Str := ["deck", "items"]
theorem sc_l_pick : FnScope sc_l_pickN ["deck", "items"] (defScope s_l_pick) := ⟨rfl, rfl, rfl, by decide +kernel, rfl, by decide +kernel, by decide +kernel⟩
theorem ok_pick {f : Addr} {fd : FuncData} (D : DefAt K mg "_law_pick" s_l_pick ["deck", "items"] f fd) (T : Blt mg) (c_l_draw : Cal P w K mg base 1 "_law_draw" spDraw) : Cal P w K mg base 2 "_law_pick" spPick := by
  refine cal_of D sc_l_pick (fun vs H Q E h => ?_) (fun cdv A outer s H vs Q E hr h => ?_)
  · obtain ⟨p, q, a, xs, o, rfl, _⟩ := h
    rfl
  · obtain ⟨p, q, a, xs, o, rfl, hP, ha, ho, ne, lt, k⟩ := h
    refine ⟨_, (pss_one (ps_ret (pe_ix (ix_anyK K rfl) (pv 1) (pe_c c_l_draw hr (by decide) rfl (pa_cons (pv 0) (pa_cons (pe_callB (call_lenK K rfl) (by rfl) T.len PySem.boot_len (pa_cons (pv 1) pa_nil)) pa_nil))) (fun _ _ => rfl)))), ?_⟩
    have l0 : 0 < xs.length := List.length_pos_iff.mpr ne
    have sq : SqL K H a xs ∨ SqT K H a xs := by
      rcases ho with ⟨e, _⟩ | e
      · exact .inl (SqL.of (e ▸ ha))
      · exact .inr (SqT.of (e ▸ ha))
    refine ⟨_, rfl, _, rfl, _, rfl, a, xs, rfl, sq, p, q, _, rfl, hP, Int.lt_of_lt_of_le (show ((xs.length : Nat) : Int) < 1000 by omega) (by decide), fun r H' r0 r1 _ hP' hk => ?_⟩
    obtain ⟨j, rfl⟩ : ∃ j : Nat, r = (j : Int) := ⟨r.toNat, by omega⟩
    have hj : j < xs.length := by
      have := r1 (by omega)
      omega
    have kk := k _ _ (List.getElem_mem hj) hP' hk
    rcases ho with ⟨e, n1, n2⟩ | e
    · exact .inl ⟨a, xs, j, _, rfl, rfl, SqL.of (hk a _ n1 n2 (e ▸ ha)), atI_nat (List.getElem?_eq_getElem hj), kk⟩
    · exact .inr ⟨a, xs, j, _, rfl, rfl, SqT.of ((hk.tk hP) _ _ (e ▸ ha)), atI_nat (List.getElem?_eq_getElem hj), kk⟩

/-! ### _law_deck, the law's dividing, sizes, rows -/
abbrev sc_l_deckN : List Str := ["script", "deck", "cell", "whole", "state"]
theorem sc_l_deck : FnScope sc_l_deckN ["script"] (defScope s_l_deck) := ⟨rfl, rfl, rfl, by decide +kernel, rfl, by decide +kernel, by decide +kernel⟩
theorem cut63 (ns : List Int) (h : ns.length ≤ 63) : ∃ ms : List Int, cutV (ns.map V.int) none (some 63) = ms.map V.int ∧ ms.length ≤ 63 := by
  unfold cutV
  refine ⟨(ns.drop _).take _, by rw [← List.map_drop, ← List.map_take], ?_⟩
  rw [List.length_take, List.length_drop]
  omega
theorem natAbs_if (z : Int) : (if z < 0 then -z else z) = ((z.natAbs : Nat) : Int) := by split <;> omega
theorem ok_deck {f : Addr} {fd : FuncData} (D : DefAt K mg "_law_deck" s_l_deck ["script"] f fd) (T : Blt mg) (T_abs : mg "abs" = none) : Cal P w K mg base 1 "_law_deck" (spDeck K) := by
  refine cal_of D sc_l_deck (fun vs H Q E h => ?_) (fun cdv A outer s H vs Q E hr h => ?_)
  · obtain ⟨a, ns, rfl, _⟩ := h
    rfl
  · obtain ⟨a, ns, rfl, hS, len, k⟩ := h
    refine ⟨_, (pss_cons (ps_set (i := 1) sc_l_deck.nd rfl (.inl rfl) (pe_disp (pps_cons pe_str (pe_lst pa_nil) (pps_cons pe_str (pe_op op_add pe_int (pe_callB (call_lenK K rfl) (by rfl) T.len PySem.boot_len (pa_cons (pe_slice (sl_listK K rfl) (pv 0) po_none (po_some pe_int)) pa_nil))) pps_nil)) (by rfl) (by rfl) (fun z => by cases z) (by decide)))
      (pss_cons (ps_for PassesOwn.never rfl (pi_listK K rfl (pe_slice (sl_listK K rfl) (pv 0) po_none (po_some pe_int))) (pg_name (i := 2) sc_l_deck.nd rfl (.inl rfl)) (pss_cons (ps_set (i := 3) sc_l_deck.nd rfl (.inl rfl) (pe_callB call_abs (by rfl) T_abs (by decide +kernel) (pa_cons (pv 2) pa_nil)))
      (pss_cons (ps_if (pt_cmpR op_ge (pv 3) (pe_op op_pow pe_int pe_int) (nomark _)) (pss_one (ps_dput (hu_of hr) (pv 1) pe_str (pe_op op_cat (pe_lst (pa_cons (pv 3) pa_nil)) (pe_dget (hu_of hr) (pv 1) pe_str (fun _ _ => rfl))) rfl)) pss_nil)
      (pss_cons (ps_set (i := 4) sc_l_deck.nd rfl (.inl rfl) (pe_op op_add (pe_op op_mul (pe_op op_add (pe_op op_add (pe_op op_add (pe_dget (hu_of hr) (pv 1) pe_str (fun _ _ => rfl)) (pe_op op_mul pe_int (pv 3))) (pe_callTy call_int1 (by rfl) T.int (by decide +kernel) (pa_cons (pe_cmpR op_lt (pv 2) pe_int (nomark _)) pa_nil))) pe_int) pe_int) pe_int))
      (pss_one (ps_dput (hu_of hr) (pv 1) pe_str (pe_op op_mod (pe_callTy call_int1 (by rfl) T.int (by decide +kernel) (pa_cons (pv 4) pa_nil)) pe_int) rfl))))))
      (pss_one (ps_ret (pv 1))))), ?_⟩
    obtain ⟨ms, em, ml⟩ := cut63 ns len
    refine fun p np => ⟨Nat.zero_le _, fun q0 nq0 => ?_⟩
    have sm2 : Same H (upd (upd H p (.dK [])) q0 (.lst [])) := Same.new (Same.new (Same.refl H) np) nq0
    refine ⟨_, rfl, 63, rfl, a, ns.map V.int, rfl, sm2.seq hS, fun c nc => ?_⟩
    rw [em]
    have hp2 : (upd (upd H p (.dK [])) q0 (.lst [])) p = some (.dK []) := keepN upd_same nq0
    have hq2 : (upd (upd H p (.dK [])) q0 (.lst [])) q0 = some (.lst ([].map V.int)) := upd_same
    generalize upd (upd H p (.dK [])) q0 (.lst []) = H2 at *
    refine ⟨c, _, rfl, .inl (SqL.of upd_same), _, _, rfl, rfl, keepN hp2 nc, [(.inr "deep", .ref q0), (.inr "state", .int _)], rfl, by show 2 ≤ 15; decide, ?_⟩
    rw [merge_dk]
    have sm3 : Same H (upd (upd H2 c (.lst (ms.map V.int))) p (.dK (dkK q0 (1279237 + ((ms.map V.int).length : Nat))))) := Same.put (Same.new sm2 nc) np
    have nqp : q0 ≠ p := by
      intro e
      rw [e, upd_same] at nq0
      cases nq0
    have nqH : H q0 = none := Same.free (Same.new (Same.refl H) np) nq0
    have hq3 : (upd (upd H2 c (.lst (ms.map V.int))) p (.dK (dkK q0 (1279237 + ((ms.map V.int).length : Nat))))) q0 = some (.lst ([].map V.int)) := by
      rw [upd_ne nqp]
      exact keepN hq2 nc
    have hp3 : (upd (upd H2 c (.lst (ms.map V.int))) p (.dK (dkK q0 (1279237 + ((ms.map V.int).length : Nat))))) p = some (.dK (dkK q0 (1279237 + ((ms.map V.int).length : Nat)))) := upd_same
    generalize est : (1279237 : Int) + ((ms.map V.int).length : Nat) = st0 at hp3 hq3 sm3
    have st00 : 0 ≤ st0 := by rw [← est]; omega
    have st01 : st0 < 2305843009213693952 := by rw [← est, List.length_map]; omega
    generalize upd (upd H2 c (.lst (ms.map V.int))) p (.dK (dkK q0 st0)) = H3 at *
    refine ⟨_, rfl, 63, rfl, a, ns.map V.int, rfl, sm3.seq hS, fun c2 nc2 => ?_⟩
    rw [em]
    have nc2H : H c2 = none := Same.free sm3 nc2
    refine ⟨c2, rfl, ⟨_, SqL.of upd_same⟩, for_list (K := K) (a := c2) (xs := ms.map V.int) (fun i σ H' => ∃ (v2 v3 v4 : Option V) (q : Addr) (ds : List Int) (st : Int), σ = [some (.ref a), some (.ref p), v2, v3, v4] ∧ Same H H' ∧ H' c2 = some (.lst (ms.map V.int)) ∧ H' p = some (.dK (dkK q st)) ∧ H' q = some (.lst (ds.map V.int)) ∧ H q = none ∧ c2 ≠ p ∧ (∀ x ∈ ds, 0 ≤ x) ∧ ds.length ≤ i ∧ 0 ≤ st ∧ st < 2305843009213693952)
      ⟨none, none, none, q0, [], st0, rfl, Same.new sm3 nc2, upd_same, keepN hp3 nc2, keepN hq3 nc2, nqH, (ne_of_none hp3 nc2).symm, (fun x hx => nomatch hx), Nat.le_refl _, st00, st01⟩ (fun i σ H' _ z => by obtain ⟨_, _, _, _, _, _, _, _, e, _⟩ := z; exact SqL.of e) ?_ ?_⟩
    · rintro i v σ H' hv ⟨v2, v3, v4, q, ds, st, rfl, sm, hc, hp, hq, nq, ncp, d0, dl, s0, s1⟩
      obtain ⟨z, hz, rfl⟩ := map_get hv
      have il : i < ms.length := (List.getElem?_eq_some_iff.mp hz).1
      refine ⟨_, rfl, _, rfl, ?_⟩
      rw [natAbs_if]
      dsimp only
      refine ifS_share (N := fun σ' H' => ∃ (q : Addr) (ds : List Int), σ' = [some (.ref a), some (.ref p), some (.int z), some (.int ((z.natAbs : Nat) : Int)), v4] ∧ Same H H' ∧ H' c2 = some (.lst (ms.map V.int)) ∧ H' p = some (.dK (dkK q st)) ∧ H' q = some (.lst (ds.map V.int)) ∧ H q = none ∧ (∀ x ∈ ds, 0 ≤ x) ∧ ds.length ≤ i + 1) (fun rest => ?_) ?_
      · refine ⟨_, rfl, _, _, rfl, rfl, ⟨by decide, by decide, by decide⟩, _, _, rfl, rfl, _, rfl, ?_⟩
        refine ite2 (fun _ => ?_) (fun _ => rest _ _ ⟨q, ds, rfl, sm, hc, hp, hq, nq, d0, by omega⟩)
        refine ⟨_, rfl, by show 1 ≤ sizeLine; decide, fun o1 n1 => ?_⟩
        refine ⟨_, rfl, p, _, rfl, get_deep (keepN hp n1), _, _, _, _, rfl, rfl, upd_same, keepN hq n1, ?_, fun o2 n2 => ?_⟩
        · rw [List.length_map]
          exact Nat.le_trans (show 1 + ds.length ≤ 100 by omega) (by decide)
        have hp4 : (upd (upd H' o1 (.lst [V.int ((z.natAbs : Nat) : Int)])) o2 (.lst ([V.int ((z.natAbs : Nat) : Int)] ++ ds.map V.int))) p = some (.dK (dkK q st)) := keepN (keepN hp n1) n2
        refine ⟨_, rfl, p, _, rfl, dput_deep hp4 o2, ?_⟩
        have no2 : o2 ≠ p := (ne_of_none (keepN hp n1) n2).symm
        refine rest _ _ ⟨o2, ((z.natAbs : Nat) : Int) :: ds, rfl, Same.put (Same.new (Same.new sm n1) n2) np, ?_, upd_same, ?_, Same.free (Same.new sm n1) n2, ?_, ?_⟩
        · rw [upd_ne ncp]
          exact keepN (keepN hc n1) n2
        · rw [upd_ne no2, upd_same]
          rfl
        · intro x hx
          rcases List.mem_cons.mp hx with hx | hx
          · rw [hx]
            exact Int.natCast_nonneg _
          · exact d0 x hx
        · rw [List.length_cons]
          omega
      · rintro σ4 H4 ⟨q4, ds4, rfl, sm4, hc4, hp4, hq4, nq4, d4, l4⟩
        refine ⟨_, rfl, p, _, rfl, get_state hp4, _, rfl, _, _, rfl, rfl, .inl ⟨by decide, by decide⟩, _, _, rfl, rfl, _, rfl, _, _, rfl, rfl, .inr ⟨_, rfl, _, _, rfl, rfl, _, _, rfl, rfl, _, _, rfl, rfl, .inr ⟨by decide, by decide⟩, _, _, rfl, rfl, ?_⟩⟩
        refine ⟨_, rfl, .inl ⟨_, rfl, _, _, rfl, rfl, (by decide : (0 : Int) < 2305843009213693951), _, rfl, p, _, rfl, dput_state hp4 _, ?_⟩⟩
        have nqp4 : q4 ≠ p := (ne_of hp4 hq4 (by intro z; cases z)).symm
        refine ⟨some (.int z), some (.int _), _, q4, ds4, _, rfl, Same.put sm4 np, by rw [upd_ne ncp]; exact hc4, upd_same, by rw [upd_ne nqp4]; exact hq4, nq4, ncp, d4, l4, Int.emod_nonneg _ (by decide), Int.lt_trans (Int.emod_lt_of_pos _ (by decide)) (by decide)⟩
    · rintro σ H' ⟨v2, v3, v4, q, ds, st, rfl, sm, hc, hp, hq, nq, ncp, d0, dl, s0, s1⟩
      rw [List.length_map] at dl
      exact ⟨_, rfl, k p q H' ⟨ds, st, hp, hq, d0, by omega, s0, s1⟩ sm np nq⟩
abbrev sc_l_divisorN : List Str := ["one", "other"]
theorem sc_l_divisor : FnScope sc_l_divisorN ["one", "other"] (defScope s_l_divisor) := ⟨rfl, rfl, rfl, by decide +kernel, rfl, by decide +kernel, by decide +kernel⟩
theorem ok_divisor {f : Addr} {fd : FuncData} (D : DefAt K mg "_law_divisor" s_l_divisor ["one", "other"] f fd) (T : Blt mg) : Cal P w K mg base 1 "_law_divisor" spCommon := by
  refine cal_of D sc_l_divisor (fun vs H Q E h => ?_) (fun cdv A outer s H vs Q E hr h => ?_)
  · obtain ⟨a, b, rfl, _⟩ := h
    rfl
  · obtain ⟨a, b, rfl, hb, k⟩ := h
    refine ⟨_, (pss_cons (ps_while PassesOwn.never (pt_cmpR op_gt (pv 1) pe_int (nomark _)) (pss_one (ps_par (i := 0) (j := 1) rfl sc_l_divisor.nd rfl rfl (by decide) rfl rfl (pa_cons (pv 1) (pa_cons (pe_op op_mod (pe_callTy call_int1 (by rfl) T.int (by decide +kernel) (pa_cons (pv 0) pa_nil)) (pv 1)) pa_nil)) (by rfl))))
      (pss_one (ps_ret (pv 0)))), ?_⟩
    refine ⟨fun m σ H' => ∃ x y : Nat, σ = [some (.int x), some (.int y)] ∧ Nat.gcd x y = Nat.gcd a b ∧ m = y ∧ H' = H, ⟨b, a, b, rfl, rfl, rfl, rfl⟩, ?_⟩
    rintro m σ H' ⟨x, y, rfl, hg, rfl, rfl⟩
    refine ⟨_, rfl, _, _, rfl, rfl, _, rfl, ?_⟩
    refine ite2 (fun hy => ?_) (fun hy => ?_)
    · have hy' : (0 : Int) < (m : Int) := of_decide_eq_true hy
      refine ⟨fun σ' H'' => ∃ x' y' : Nat, σ' = [some (.int x'), some (.int y')] ∧ Nat.gcd x' y' = Nat.gcd a b ∧ y' < m ∧ H'' = H', fun σ' H'' ⟨x', y', e1, e2, e3, e4⟩ => ⟨y', e3, x', y', e1, e2, rfl, e4⟩, ?_⟩
      refine ⟨_, rfl, _, rfl, .inl ⟨_, rfl, _, rfl, _, _, rfl, rfl, hy', _, _, rfl, m, x % m, rfl, ?_, Nat.mod_lt _ (by omega), rfl⟩⟩
      rw [Nat.gcd_comm, ← Nat.gcd_rec, Nat.gcd_comm, hg]
    · have hy' : ¬ (0 : Int) < (m : Int) := of_decide_eq_false (by simpa using hy)
      have m0 : m = 0 := by omega
      subst m0
      refine ⟨_, rfl, ?_⟩
      rw [Nat.gcd_zero_right] at hg
      rw [hg]
      exact k
abbrev sc_l_leastN : List Str := ["sizes", "j", "i"]
theorem sc_l_least : FnScope sc_l_leastN ["sizes", "j", "i"] (defScope s_l_least) := ⟨rfl, rfl, rfl, by decide +kernel, rfl, by decide +kernel, by decide +kernel⟩
def spLeast : Sp := fun vs H Q _ => ∃ (v : V) (ss : List Int) (j i a b : Nat), vs = [v, .int j, .int i] ∧ Im H v (sD ss) ∧ ss[j]? = some (a : Int) ∧ ss[i]? = some (b : Int) ∧ 0 < b ∧ b < 2 ^ 4000 ∧ a < 2 ^ 4000 ∧ Q (.int (stp a b : Nat)) H
theorem ok_least {f : Addr} {fd : FuncData} (D : DefAt K mg "_law_least" s_l_least ["sizes", "j", "i"] f fd) (c_l_divisor : Cal P w K mg base 1 "_law_divisor" spCommon) : Cal P w K mg base 2 "_law_least" spLeast := by
  refine cal_of D sc_l_least (fun vs H Q E h => ?_) (fun cdv A outer s H vs Q E hr h => ?_)
  · obtain ⟨v, ss, j, i, a, b, rfl, _⟩ := h
    rfl
  · obtain ⟨v, ss, j, i, x, y, rfl, im, hj, hi, y0, y1, x1, k⟩ := h
    refine ⟨_, (pss_one (ps_ret (pe_op op_fdivW (pe_ix (ix_tupK K rfl) (pv 0) (pv 2) (fun _ _ => rfl)) (pe_c c_l_divisor hr (by decide) rfl (pa_cons (pe_ix (ix_tupK K rfl) (pv 0) (pv 2) (fun _ _ => rfl)) (pa_cons (pe_ix (ix_tupK K rfl) (pv 0) (pv 1) (fun _ _ => rfl)) pa_nil)))))), ?_⟩
    obtain ⟨b, ys, rfl, hb, ib⟩ := im.tuple
    have ey := ib.ints
    subst ey
    have hi' : (ss.map V.int)[i]? = some (V.int (y : Int)) := by rw [List.getElem?_map, hi]; rfl
    have hj' : (ss.map V.int)[j]? = some (V.int (x : Int)) := by rw [List.getElem?_map, hj]; rfl
    have gp : 0 < Nat.gcd y x := gcd_pos' y0
    have gl : Nat.gcd y x < 2 ^ 4000 := Nat.lt_of_le_of_lt (Nat.le_of_dvd y0 (Nat.gcd_dvd_left y x)) y1
    refine ⟨_, rfl, _, rfl, b, _, i, _, rfl, rfl, SqT.of hb, atI_nat hi', _, rfl, _, rfl, b, _, i, _, rfl, rfl, SqT.of hb, atI_nat hi', _, rfl, _, rfl, b, _, j, _, rfl, rfl, SqT.of hb, atI_nat hj', y, x, rfl, x1, ?_⟩
    exact ⟨_, _, rfl, rfl, wide_div (b := 4000) (by omega) (by simpa using gl) (by decide) (by decide), k⟩
abbrev sc_l_is_wholeN : List Str := ["value", "low", "high"]
theorem sc_l_is_whole : FnScope sc_l_is_wholeN ["value", "low", "high"] (defScope s_l_is_whole) := ⟨rfl, rfl, rfl, by decide +kernel, rfl, by decide +kernel, by decide +kernel⟩
def isWh (lo hi : Int) : PyData → Bool
  | .int i => decide (lo ≤ i) && decide (i ≤ hi)
  | _ => false
def spWhole : Sp := fun vs H Q _ => ∃ (v : V) (d : PyData) (N : Addr → Prop) (lo hi : Int), vs = [v, .int lo, .int hi] ∧ De N H v d ∧ Q (.bl (isWh lo hi d)) H
theorem ok_whole {f : Addr} {fd : FuncData} (D : DefAt K mg "_law_is_whole" s_l_is_whole ["value", "low", "high"] f fd) (T : Blt mg) : Cal P w K mg base 1 "_law_is_whole" spWhole := by
  refine cal_of D sc_l_is_whole (fun vs H Q E h => ?_) (fun cdv A outer s H vs Q E hr h => ?_)
  · obtain ⟨v, d, N, lo, hi, rfl, _⟩ := h
    rfl
  · obtain ⟨v, d, N, lo, hi, rfl, hd, k⟩ := h
    refine ⟨_, (pss_one (ps_ret (pe_and (pe_callB (call_isiK' K rfl) (by rfl) T.isinstance (by decide +kernel) (pa_cons (pv 0) (pa_cons (pe_bltn (v := .ty "int") (u := .type "int") (by rfl) T.int (by decide +kernel) rfl) pa_nil))) (pe_and (pe_not (pe_callB (call_isiK' K rfl) (by rfl) T.isinstance (by decide +kernel) (pa_cons (pv 0) (pa_cons (pe_bltn (v := .ty "bool") (u := .type "bool") (by rfl) T.bool (by decide +kernel) rfl) pa_nil)))) (pe_one (pe_chain op_le op_le (pv 1) (pv 0) (pv 2))))))), ?_⟩
    refine ⟨_, rfl, _, _, _, _, _, rfl, tyI, hd.ty, kit_int K d, _, rfl, ?_⟩
    cases h1 : isIB d with
    | false =>
      rw [show isWh lo hi d = false by cases d <;> first | rfl | cases h1] at k
      exact iteF k
    | true =>
      refine iteT ⟨_, rfl, _, _, _, _, _, rfl, tyB, hd.ty, kit_bool K d, _, rfl, _, rfl, ?_⟩
      cases h2 : isB d with
      | true =>
        rw [show isWh lo hi d = false by cases d <;> first | rfl | cases h2] at k
        exact iteF k
      | false =>
        obtain ⟨n, rfl, rfl⟩ := hd.int_of (by rw [← isI_eq, h1, h2]; rfl)
        simp only [isWh] at k
        refine iteT ⟨_, rfl, _, rfl, _, _, rfl, rfl, _, rfl, ?_⟩
        refine ite2 (fun h3 => ⟨_, rfl, _, _, rfl, rfl, ?_⟩) (fun h3 => ?_)
        · rw [h3, Bool.true_and] at k
          exact k
        · rw [Bool.eq_false_iff.mpr h3, Bool.false_and] at k
          exact k

/-! ### the law's own judging -/
def kg21c {α : Type} : List α → List α → List α
  | [], [a, b] => [b, a]
  | _, _ => []
theorem kg21c_rel {vs zs : List V} {us ws : List Value} (h1 : Vals vs us) (h2 : Vals zs ws) : Vals (kg21c vs zs) (kg21c us ws) := by
  cases h1 with
  | cons _ _ => exact .nil
  | nil =>
    cases h2 with
    | nil => exact .nil
    | cons a h2 =>
      cases h2 with
      | nil => exact .nil
      | cons b h2 =>
        cases h2 with
        | nil => exact .cons b (.cons a .nil)
        | cons _ _ => exact .nil
theorem k_werr {f : Addr} {fd : FuncData} (F : Fun K "wish_error" "wish_error" s_wish_error f fd) : KBinds K fd ["machine", "value"] ["value", "machine"] kg21c kg21c := by
  obtain ⟨oc, od, kV, doc, pm, an, cdv, ct, osl, rfl, lk, hcd⟩ := F.ex
  refine ⟨fun s us ws _ hl => ?_, kg21c_rel⟩
  match us, ws, hl with
  | [], [a, b], _ => exact .of_eq rfl
theorem shareV {c : Bool} {ta tb : TE} {σ : L2.St} {H : Hp} {Q : VK} {N : V → Hp → Prop} (h1 : c = true → (∀ u H', N u H' → Q u H') → ta σ H Q) (h2 : c = false → (∀ u H', N u H' → Q u H') → tb σ H Q) (rest : ∀ u H', N u H' → Q u H') : if c = true then ta σ H Q else tb σ H Q := by
  cases c with
  | true => exact iteT (h1 rfl rest)
  | false => exact iteF (h2 rfl rest)
theorem wh_bl {y : Nat} {d : PyData} : isWh 0 ((y : Int) - 1) d = isBl y d := by
  cases d <;> first | rfl | skip
  rename_i n
  show (decide ((0 : Int) ≤ n) && decide (n ≤ (y : Int) - 1)) = (decide ((0 : Int) ≤ n) && decide (n < (y : Int)))
  congr 1
  exact decide_eq_decide.mpr (by omega)
abbrev sc_l_dueN : List Str := ["sizes", "value", "i", "row", "j", "own"]
theorem sc_l_due : FnScope sc_l_dueN ["sizes", "value"] (defScope s_l_due) := ⟨rfl, rfl, rfl, by decide +kernel, rfl, by decide +kernel, by decide +kernel⟩
def spDue : Sp := fun vs H Q _ => ∃ (m v : V) (ss : List Int) (d : PyData) (N : Addr → Prop), vs = [m, v] ∧ Im H m (sD ss) ∧ Sz ss ∧ ss.length ≤ 6 ∧ De N H v d ∧ ∀ (u : V) (e : PyData) (H' : Hp), Werr ss d e → Im H' u e → Same H H' → Q u H'
theorem ok_due {f : Addr} {fd : FuncData} (D : DefAt K mg "_law_due" s_l_due ["sizes", "value"] f fd) (T : Blt mg) (c_l_is_whole : Cal P w K mg base 1 "_law_is_whole" spWhole) (c_l_least : Cal P w K mg base 2 "_law_least" spLeast) : Cal P w K mg base 3 "_law_due" spDue := by
  refine cal_of D sc_l_due (fun vs H Q E h => ?_) (fun cdv A outer s H vs Q E hr h => ?_)
  · obtain ⟨m, v, ss, d, N, rfl, _⟩ := h
    rfl
  · obtain ⟨m, v, ss, d, N, rfl, im, ok, l6, hd, k⟩ := h
    refine ⟨_, (pss_cons (ps_if (PW.pt (pw_or (pt_not (pt_val (pe_callB (call_isiK' K rfl) (by rfl) T.isinstance (by decide +kernel) (pa_cons (pv 1) (pa_cons (pe_bltn (v := .ty "tuple") (u := .type "tuple") (by rfl) T.tuple (by decide +kernel) rfl) pa_nil))))) (pw_or1 (pt_cmpR op_ne (pe_callB (call_lenK K rfl) (by rfl) T.len PySem.boot_len (pa_cons (pv 1) pa_nil)) (pe_callB (call_lenK K rfl) (by rfl) T.len PySem.boot_len (pa_cons (pv 0) pa_nil)) (nomark _))))) (pss_one (ps_ret pe_str)) pss_nil)
      (pss_cons (ps_for PassesOwn.never rfl (pi_enumTK K rfl (by rfl) T.enumerate (pa_cons (pv 1) pa_nil)) (pg_tup rfl (pgs_cons (pg_name (i := 2) sc_l_due.nd rfl (.inl rfl)) (pgs_cons (pg_name (i := 3) sc_l_due.nd rfl (.inl rfl)) pgs_nil))) (pss_one (ps_if (PW.pt (pw_and (pt_cmpR op_notN (pv 3) pe_non (nomark _)) (pw_and1 (PW.pt (pw_or (pt_not (pt_val (pe_callB (call_isiK' K rfl) (by rfl) T.isinstance (by decide +kernel) (pa_cons (pv 3) (pa_cons (pe_bltn (v := .ty "tuple") (u := .type "tuple") (by rfl) T.tuple (by decide +kernel) rfl) pa_nil))))) (pw_or1 (pt_cmpR op_ne (pe_callB (call_lenK K rfl) (by rfl) T.len PySem.boot_len (pa_cons (pv 3) pa_nil)) (pe_callB (call_lenK K rfl) (by rfl) T.len PySem.boot_len (pa_cons (pv 0) pa_nil)) (nomark _)))))))) (pss_one (ps_ret (pe_tup (pa_cons pe_str (pa_cons (pv 2) pa_nil))))) pss_nil)))
      (pss_cons (ps_for PassesOwn.never rfl (pi_enumTK K rfl (by rfl) T.enumerate (pa_cons (pv 1) pa_nil)) (pg_tup rfl (pgs_cons (pg_name (i := 2) sc_l_due.nd rfl (.inl rfl)) (pgs_cons (pg_name (i := 3) sc_l_due.nd rfl (.inl rfl)) pgs_nil))) (pss_one (ps_for PassesOwn.never rfl (pi_enumTK K rfl (by rfl) T.enumerate (pa_cons (pe_ifExp (pt_cmpR op_notN (pv 3) pe_non (nomark _)) (pv 3) (pe_tup pa_nil)) pa_nil)) (pg_tup rfl (pgs_cons (pg_name (i := 4) sc_l_due.nd rfl (.inl rfl)) (pgs_cons (pg_name (i := 5) sc_l_due.nd rfl (.inl rfl)) pgs_nil))) (pss_cons (ps_if (pt_not (pt_val (pe_c c_l_is_whole hr (by decide) rfl (pa_cons (pv 5) (pa_cons pe_int (pa_cons (pe_op op_sub (pe_ix (ix_tupK K rfl) (pv 0) (pv 2) (fun _ _ => rfl)) pe_int) pa_nil)))))) (pss_one (ps_ret (pe_tup (pa_cons pe_str (pa_cons (pv 2) (pa_cons (pv 4) pa_nil)))))) pss_nil)
      (pss_one (ps_if (PW.pt (pw_and (pt_cmpR op_ne (pv 4) (pv 2) (nomark _)) (pw_and1 (pt_cmpR op_ne (pe_op op_mod (pe_callTy call_int1 (by rfl) T.int (by decide +kernel) (pa_cons (pv 5) pa_nil)) (pe_c c_l_least hr (by decide) rfl (pa_cons (pv 0) (pa_cons (pv 4) (pa_cons (pv 2) pa_nil))))) pe_int (nomark _))))) (pss_one (ps_ret (pe_tup (pa_cons pe_str (pa_cons (pv 2) (pa_cons (pv 4) pa_nil)))))) pss_nil))))))
      (pss_one (ps_ret pe_non))))), ?_⟩
    obtain ⟨b, ys, rfl, hb, ib⟩ := id im.tuple
    have ey := ib.ints
    subst ey
    refine ⟨_, rfl, _, _, _, _, _, rfl, tyT, hd.ty, kit_tup K d, _, rfl, ?_⟩
    cases h0 : isT d with
    | false => exact iteT (iteT (k _ _ _ (.form (isRow_T h0)) (.str _) (Same.refl H)))
    | true =>
    obtain ⟨c, zs, rows, rfl, rfl, hc, hs⟩ := hd.tuple h0
    have lz : zs.length = rows.length := hs.length
    refine iteF ⟨_, rfl, c, _, rfl, .inr (SqT.of hc), _, rfl, b, _, rfl, .inr (SqT.of hb), rfl, _, rfl, ?_⟩
    rw [hs.length, List.length_map, dec_int, row_dec]
    cases h1 : isRow ss.length (.tuple rows) with
    | false => exact iteT (k _ _ _ (.form h1) (.str _) (Same.refl H))
    | true =>
    have lr : rows.length = ss.length := of_decide_eq_true h1
    refine iteF ⟨_, rfl, c, zs, rfl, SqT.of hc, for_it walk_enumT (fun t σ H' => ∃ v3 v4 v5 v6 : Option V, σ = [some (.ref b), some (.ref c), v3, v4, v5, v6] ∧ Same H H' ∧ ∀ i', i' < t → okRow ss.length (rows.getD i' .none) = true)
      ⟨none, none, none, none, rfl, Same.refl H, fun _ z => absurd z (Nat.not_lt_zero _)⟩ (fun t σ H' _ ⟨_, _, _, _, _, z, _⟩ => SqT.of (z _ _ hc)) ?_ ?_⟩
    · rintro t x σ H3 H4 ht ⟨v3, v4, v5, v6, rfl, s3, al⟩ ⟨T1, x1, x2, rfl, nT, rfl, e1, e2⟩
      cases e1
      obtain ⟨dr, hdr, dgr⟩ := hs.get e2
      have ti : t < ss.length := by omega
      have s4 : Same H (upd H3 T1 (.tup [.int (t : Nat), x2])) := Same.new s3 nT
      refine ⟨T1, _, rfl, SqT.of upd_same, rfl, _, _, rfl, _, _, rfl, rfl, ?_⟩
      generalize upd H3 T1 (.tup [.int (t : Nat), x2]) = H4 at *
      have eg := getD_of hdr
      have nxt : okRow ss.length dr = true → ∀ i', i' < t + 1 → okRow ss.length (rows.getD i' .none) = true := fun h i' hi' => by
        by_cases z : i' < t
        · exact al i' z
        · have : i' = t := by omega
          subst this
          rw [eg]
          exact h
      have bad : isN dr = false → isRow ss.length dr = false → ∀ (t9 : Addr) (nt9 : H4 t9 = none), Q (.ref t9) (upd H4 t9 (.tup [.str "row", .int (t : Nat)])) := fun a1 a2 t9 nt9 =>
        k _ _ _ (.row lr ti al (by rw [eg]; unfold okRow; rw [a1, a2]; rfl)) (.tup upd_same (.cons (.str _) (.cons (.int _) .nil))) (Same.new s4 nt9)
      refine ⟨_, rfl, rfl, _, rfl, ?_⟩
      rw [de_isN dgr]
      cases hn : isN dr with
      | true => exact iteF ⟨_, _, _, _, rfl, s4, nxt (by unfold okRow; rw [hn, Bool.true_or])⟩
      | false =>
      refine iteT ⟨_, rfl, _, _, _, _, _, rfl, tyT, (dgr.s s4).ty, kit_tup K dr, _, rfl, ?_⟩
      cases i1 : isT dr with
      | false => exact iteT (iteT ⟨_, rfl, by show 2 ≤ sizeLine; decide, fun t9 nt9 => bad hn (isRow_T i1) t9 nt9⟩)
      | true =>
      obtain ⟨q, us, es, rfl, rfl, hq, hes⟩ := (dgr.s s4).tuple i1
      refine iteF ⟨_, rfl, q, _, rfl, .inr (SqT.of hq), _, rfl, b, _, rfl, .inr (SqT.of (s4 _ _ hb)), rfl, _, rfl, ?_⟩
      rw [hes.length, List.length_map, dec_int, row_dec]
      cases i2 : isRow ss.length (.tuple es) with
      | false => exact iteT ⟨_, rfl, by show 2 ≤ sizeLine; decide, fun t9 nt9 => bad hn i2 t9 nt9⟩
      | true => exact iteF ⟨_, _, _, _, rfl, s4, nxt (by unfold okRow; rw [i2, Bool.or_true])⟩
    rintro σ H3 ⟨v3, v4, v5, v6, rfl, s3, ro0⟩
    have ro : ∀ i', i' < ss.length → okRow ss.length (rows.getD i' .none) = true := fun i' hi' => ro0 i' (by omega)
    refine ⟨_, rfl, c, zs, rfl, SqT.of (s3 _ _ hc), for_it walk_enumT (fun t σ H' => ∃ v3 v4 v5 v6 : Option V, σ = [some (.ref b), some (.ref c), v3, v4, v5, v6] ∧ Same H H' ∧ ∀ i' j', i' < t → j' < ss.length → goodB ss rows i' j' = true)
      ⟨_, _, _, _, rfl, s3, fun _ _ z => absurd z (Nat.not_lt_zero _)⟩ (fun t σ H' _ ⟨_, _, _, _, _, z, _⟩ => SqT.of (z _ _ hc)) ?_ ?_⟩
    · rintro t x σ H3' H4' ht ⟨v3', v4', v5', v6', rfl, s3', al⟩ ⟨T1, x1, x2, rfl, nT, rfl, e1, e2⟩
      cases e1
      obtain ⟨dr, hdr, dgr⟩ := hs.get e2
      have ti : t < ss.length := by omega
      have s4 : Same H (upd H3' T1 (.tup [.int (t : Nat), x2])) := Same.new s3' nT
      refine ⟨T1, _, rfl, SqT.of upd_same, rfl, _, _, rfl, _, _, rfl, rfl, ?_⟩
      generalize upd H3' T1 (.tup [.int (t : Nat), x2]) = H4 at *
      have or := ro t ti
      have eg := getD_of hdr
      rw [eg] at or
      obtain ⟨y, ey, y2, y3, yn⟩ := sz_nat ok ti
      have hiV : (ss.map V.int)[t]? = some (V.int (y : Int)) := by rw [List.getElem?_map, ey]; rfl
      refine ⟨_, rfl, rfl, _, rfl, ?_⟩
      rw [de_isN dgr]
      refine shareV (N := fun u H' => ∃ (ar : Addr) (vs : List V), u = .ref ar ∧ H' ar = some (.tup vs) ∧ Same H H' ∧ ((isN dr = true ∧ vs = []) ∨ ∃ l : List PyData, dr = .tuple l ∧ l.length = ss.length ∧ DeAll N H' vs l)) (fun c1 r => ?_) (fun c1 r => ?_) ?_
      · have c2 : isN dr = false := by simpa using c1
        unfold okRow at or
        rw [c2, Bool.false_or] at or
        obtain ⟨l, rfl, ll⟩ := row_of or
        obtain ⟨ar, vs, ds, rfl, e0, har, hvs⟩ := (dgr.s s4).tuple rfl
        cases e0
        exact ⟨_, rfl, r _ _ ⟨ar, vs, rfl, har, s4, .inr ⟨l, rfl, ll, hvs⟩⟩⟩
      · have c2 : isN dr = true := by simpa using c1
        exact ⟨by show 0 ≤ sizeLine; decide, fun ar nar => r _ _ ⟨ar, [], rfl, upd_same, Same.new s4 nar, .inl ⟨c2, rfl⟩⟩⟩
      rintro u H5 ⟨ar, vs, rfl, har, s5, hw⟩
      refine ⟨ar, vs, rfl, SqT.of har, for_it walk_enumT (fun u σ H' => ∃ v5 v6 : Option V, σ = [some (.ref b), some (.ref c), some (.int (t : Nat)), some x2, v5, v6] ∧ Same H5 H' ∧ ∀ j', j' < u → goodB ss rows t j' = true)
        ⟨_, _, rfl, Same.refl H5, fun _ z => absurd z (Nat.not_lt_zero _)⟩ (fun t σ H' _ ⟨_, _, _, z, _⟩ => SqT.of (z _ _ har)) ?_ ?_⟩
      · rintro u y' σ H6 H7 hu' ⟨v5, v6, rfl, s6, al2⟩ ⟨T2, y1, z2, rfl, nT2, rfl, f1, f2⟩
        cases f1
        rcases hw with ⟨_, e0⟩ | ⟨l, rfl, ll, hvs⟩
        · rw [e0] at f2
          simp at f2
        obtain ⟨de, hde, dge⟩ := hvs.get f2
        have lv := hvs.length
        have uj : u < ss.length := by omega
        have s8 : Same H5 (upd H6 T2 (.tup [.int (u : Nat), z2])) := Same.new s6 nT2
        have s9 : Same H (upd H6 T2 (.tup [.int (u : Nat), z2])) := s5.trans s8
        refine ⟨T2, _, rfl, SqT.of upd_same, rfl, _, _, rfl, _, _, rfl, rfl, ?_⟩
        generalize upd H6 T2 (.tup [.int (u : Nat), z2]) = H8 at *
        have ea : goodB ss rows t u = entB ss t u de := by
          unfold goodB
          rw [at_get hdr hde, eg]
          rfl
        have ret : entB ss t u de = false → ∀ (t9 : Addr) (nt9 : H8 t9 = none), Q (.ref t9) (upd H8 t9 (.tup [.str "entry", .int (t : Nat), .int (u : Nat)])) := fun h3 t9 nt9 => by
          refine k _ (eE t u) _ (.entry lr ro ti uj (fun i' j' hi' hj' hlt => ?_) (by rw [ea]; exact h3)) (.tup upd_same (.cons (.str _) (.cons (.int _) (.cons (.int _) .nil)))) (Same.new s9 nt9)
          rcases hlt with hlt | ⟨rfl, hlt⟩
          · exact al i' j' hlt hj'
          · exact al2 j' hlt
        have nxt : entB ss t u de = true → ∀ j', j' < u + 1 → goodB ss rows t j' = true := fun h3 j' hj' => by
          by_cases z : j' < u
          · exact al2 j' z
          · have : j' = u := by omega
            subst this
            rw [ea]
            exact h3
        obtain ⟨x, ex, x2', x3, xn⟩ := sz_nat ok uj
        unfold entB at ret nxt
        rw [yn, xn] at ret nxt
        refine ⟨_, rfl, _, rfl, _, rfl, b, _, t, _, rfl, rfl, SqT.of (s9 _ _ hb), atI_nat hiV, _, _, rfl, rfl, _, de, N, _, _, rfl, dge.s s8, _, rfl, ?_⟩
        rw [wh_bl]
        cases h1 : isBl y de with
        | false =>
          rw [h1] at ret
          exact iteT ⟨_, rfl, _, rfl, by show 3 ≤ sizeLine; decide, fun t9 nt9 => ret (Bool.false_and _) t9 nt9⟩
        | true =>
        rw [h1] at ret nxt
        obtain ⟨n, rfl, rfl⟩ := dge.int_of (isBl_int h1)
        refine iteF ⟨_, rfl, _, rfl, rfl, _, rfl, ?_⟩
        by_cases ee : t = u
        · subst ee
          rw [show decide (V.int ((t : Nat) : Int) = V.int ((t : Nat) : Int)) = true from decide_eq_true rfl]
          exact iteF ⟨_, _, rfl, s8, nxt (by rw [decide_eq_true rfl]; rfl)⟩
        · rw [decide_eq_false (show ¬ V.int ((u : Nat) : Int) = V.int ((t : Nat) : Int) from fun z => ee (by have := V.int.inj z; omega))]
          rw [decide_eq_false ee] at ret nxt
          refine iteT ⟨_, rfl, .inl ⟨_, rfl, _, rfl, _, rfl, _, rfl, _, ss, u, t, x, y, rfl, Same.k s9 im, ex, ey, by omega, Nat.lt_of_le_of_lt y3 (by decide), Nat.lt_of_le_of_lt x3 (by decide), _, _, rfl, rfl, ?_, rfl, _, rfl, ?_⟩⟩
          · have := stp_pos (a := x) (b := y) (by omega)
            show (0 : Int) < ((stp x y : Nat) : Int)
            omega
          by_cases md : n % ((stp x y : Nat) : Int) = 0
          · exact iteNS (congrArg V.int md) ⟨_, _, rfl, s8, nxt (by show (true && (false || decide (n % ((stp x y : Nat) : Int) = 0))) = true; rw [decide_eq_true md]; rfl)⟩
          · exact iteNF (fun z => md (V.int.inj z)) ⟨_, rfl, _, rfl, by show 3 ≤ sizeLine; decide, fun t9 nt9 => ret (by show (true && (false || decide (n % ((stp x y : Nat) : Int) = 0))) = false; rw [decide_eq_false md]; rfl) t9 nt9⟩
      · rintro σ H6 ⟨v5, v6, rfl, s6, al2⟩
        refine ⟨_, _, _, _, rfl, s5.trans s6, fun i' j' hi' hj' => ?_⟩
        by_cases z : i' < t
        · exact al i' j' z hj'
        · have : i' = t := by omega
          subst this
          rcases hw with ⟨e0, _⟩ | ⟨l, rfl, ll, hvs⟩
          · unfold goodB
            rw [eg, e0, Bool.true_or]
          · exact al2 j' (by have := hvs.length; omega)
    · rintro σ H4 ⟨v3, v4, v5, v6, rfl, s4, al⟩
      exact k _ _ _ (.none lr ro fun i' j' hi' hj' => al i' j' (by omega) hj') .non s4

/-! ### _law_sizes, _law_row -/
def okZ (v : V) : Bool := match v with
  | .int i => decide (2 ≤ i) && decide (i ≤ 10 ^ 30)
  | _ => false
theorem okZ_of {v : V} (h : okZ v = true) : ∃ y : Nat, v = .int (y : Int) ∧ 2 ≤ y ∧ y ≤ 10 ^ 30 := by
  unfold okZ at h
  split at h
  · rename_i i
    rw [Bool.and_eq_true, decide_eq_true_eq, decide_eq_true_eq] at h
    exact ⟨i.toNat, by rw [Int.toNat_of_nonneg (by omega)], by omega, by omega⟩
  · cases h
def spSizes : Sp := fun vs H Q _ => ∃ (p q : Addr), vs = [.ref p] ∧ Pt H p q ∧
  ∀ (v : V) (ss : List Int) (H' : Hp), Im H' v (sD ss) → 1 ≤ ss.length → ss.length ≤ 6 → Sz ss → Pt H' p q → Kp p q H H' → Q v H'
theorem fin_lst {K : PySem.W.Frag} {acc : List V} {d : Addr} {H : Hp} (h : H d = some (.lst acc)) : SqL K H d acc := SqL.of h
abbrev sc_l_sizesN : List Str := ["deck", "menu", "turn"]
theorem sc_l_sizes : FnScope sc_l_sizesN ["deck"] (defScope s_l_sizes) := ⟨rfl, rfl, rfl, by decide +kernel, rfl, by decide +kernel, by decide +kernel⟩
theorem ok_sizes {f : Addr} {fd : FuncData} (D : DefAt K mg "_law_sizes" s_l_sizes ["deck"] f fd) (T : Blt mg) (c_l_draw : Cal P w K mg base 1 "_law_draw" spDraw) (c_l_pick : Cal P w K mg base 2 "_law_pick" spPick) : Cal P w K mg base 3 "_law_sizes" spSizes := by
  refine cal_of D sc_l_sizes (fun vs H Q E h => ?_) (fun cdv A outer s H vs Q E hr h => ?_)
  · obtain ⟨p, q, rfl, _⟩ := h
    rfl
  · obtain ⟨p, q, rfl, hP, k⟩ := h
    refine ⟨_, (pss_cons (ps_set (i := 1) sc_l_sizes.nd rfl (.inr rfl) (pe_lst (pa_cons pe_int (pa_cons pe_int (pa_cons pe_int (pa_cons pe_int (pa_cons pe_int (pa_cons pe_int (pa_cons pe_int (pa_cons pe_int (pa_cons pe_int (pa_cons pe_int (pa_cons (pe_op op_pow pe_int pe_int) (pa_cons (pe_op op_pow pe_int pe_int) (pa_cons (pe_op op_pow pe_int pe_int) (pa_cons (pe_op op_pow pe_int pe_int) (pa_cons (pe_op op_pow pe_int pe_int) (pa_cons (pe_op op_pow pe_int pe_int) pa_nil))))))))))))))))))
      (pss_one (ps_ret (pe_callTy (call_tupleK K rfl) (by rfl) T.tuple (by decide +kernel) (pa_cons (pe_lc (own := [("turn", 2)]) rfl sc_l_sizes.nd (pi_range1 (by rfl) T.range (pa_cons (pe_op op_add pe_int (pe_c c_l_draw hr (by decide) rfl (pa_cons (pv 0) (pa_cons pe_int pa_nil)))) pa_nil)) (blkOk_by (N := sc_l_sizesN) (sc := defScope s_l_sizes) (by decide +kernel)) (fun _ _ _ _ _ => (pg_name (i := 2) sc_l_sizes.nd rfl (by first | exact .inl rfl | exact .inr rfl))) (fun _ _ _ _ _ => pts_nil) (fun _ _ _ _ _ => (pe_c c_l_pick hr (by decide) rfl (pa_cons (pv 0) (pa_cons (pv 1) pa_nil))))) pa_nil))))), ?_⟩
    have pw : ∀ (a : Int) (b : Nat), (0 : Int) ≤ (b : Int) := fun _ b => Int.natCast_nonneg b
    refine ⟨_, _, rfl, rfl, ⟨by decide, by decide, by decide⟩, _, _, rfl, rfl, ⟨by decide, by decide, by decide⟩, _, _, rfl, rfl, ⟨by decide, by decide, by decide⟩, _, _, rfl, rfl, ⟨by decide, by decide, by decide⟩, _, _, rfl, rfl, ⟨by decide, by decide, by decide⟩, _, _, rfl, rfl, ⟨by decide, by decide, by decide⟩, by show 16 ≤ sizeLine; decide, fun b nb => ?_⟩
    obtain ⟨nb1, nb2⟩ := hP.np nb
    have P1 := hP.new (o := .lst [.int 2, .int 3]) nb
    refine ⟨_, rfl, p, q, _, rfl, hP.new nb, by decide, fun r H3 r0 r1 _ P3 k3 => ⟨1, r, rfl, rfl, _, rfl, by have := r1 (by decide); omega, by have := r1 (by decide); omega, fun d nd => ?_⟩⟩
    have r6 : r < 6 := r1 (by decide)
    have hb3 := k3 _ _ nb1 nb2 upd_same
    obtain ⟨nd1, nd2⟩ := P3.np nd
    have nbd : b ≠ d := ne_of_none hb3 nd
    have kH := ((Kp.refl p q H).new nb).trans k3
    have ndH : H d = none := kH.fresh nd1 nd2 nd
    refine lc_range (lo := 0) (n := (1 + r).toNat) (fun i H' => Pt H' p q ∧ Kp p q H H' ∧ H' b = H3 b ∧ ∃ ac : List Int, H' d = some (.lst (ac.map V.int)) ∧ ac.length = i ∧ Sz ac)
      ⟨P3.new nd, kH.new nd, by rw [upd_ne nbd], [], upd_same, rfl, fun s hs => by cases hs⟩ ?_ ?_
    · rintro i H4 hi ⟨P4, k4, hb4, ac, hd, hl4, ok4⟩
      refine ⟨rfl, ⟨_, rfl, _, rfl, p, q, b, _, _, rfl, P4, hb4.trans hb3, .inl ⟨rfl, nb1, nb2⟩, List.cons_ne_nil _ _, by show 16 < 1000; decide, fun v H5 hv P5 k5 => ?_⟩⟩
      have ov : okZ v = true := by
        have all : ∀ l : List V, l.all okZ = true → v ∈ l → okZ v = true := fun l h => List.all_eq_true.mp h v
        exact all _ (by decide +kernel) hv
      obtain ⟨n, rfl, n1, n2⟩ := okZ_of ov
      refine ⟨ac.map V.int, k5 _ _ nd1 nd2 hd, small1000 (by rw [List.length_map]; omega), P5.put nd1 nd2, (k4.trans k5).put ndH, ?_, ac ++ [(n : Int)], by rw [upd_same, List.map_append]; rfl, by rw [List.length_append, List.length_singleton, hl4], fun s hs => ?_⟩
      · rw [upd_ne nbd]
        exact (k5 _ _ nb1 nb2 (hb4.trans hb3)).trans hb3.symm
      · rcases List.mem_append.mp hs with h | h
        · exact ok4 s h
        · exact ⟨n, List.mem_singleton.mp h, n1, n2⟩
    · rintro H4 ⟨P4, k4, hb4, ac, hd, hl4, ok4⟩
      refine ⟨d, _, rfl, .inl ⟨SqL.of hd, fun t nt => ?_⟩⟩
      refine k _ ac _ (.tup upd_same ?_) (by omega) (by omega) ok4 (P4.new nt) (k4.new nt)
      exact ImAll.of_ints _ ac
def RowI (n : Nat) (l : List PyData) : Prop := l.length = n ∧ ∀ x ∈ l, ∃ z : Int, x = .int z ∧ z.natAbs ≤ 10 ^ 62
def spRow : Sp := fun vs H Q _ => ∃ (p q : Addr) (m : V) (ss : List Int) (i : Nat), vs = [.ref p, m, .int i] ∧ Pt H p q ∧ Im H m (sD ss) ∧ Sz ss ∧ ss.length ≤ 6 ∧ i < ss.length ∧
  ∀ (v : V) (l : List PyData) (H' : Hp), Im H' v (.tuple l) → RowI ss.length l → Pt H' p q → Kp p q H H' → Q v H'
abbrev sc_l_rowN : List Str := ["deck", "sizes", "i", "found", "j", "unit"]
theorem sc_l_row : FnScope sc_l_rowN ["deck", "sizes", "i"] (defScope s_l_row) := ⟨rfl, rfl, rfl, by decide +kernel, rfl, by decide +kernel, by decide +kernel⟩
theorem ok_row {f : Addr} {fd : FuncData} (D : DefAt K mg "_law_row" s_l_row ["deck", "sizes", "i"] f fd) (T : Blt mg) (c_l_draw : Cal P w K mg base 1 "_law_draw" spDraw) (c_l_least : Cal P w K mg base 2 "_law_least" spLeast) : Cal P w K mg base 3 "_law_row" spRow := by
  refine cal_of D sc_l_row (fun vs H Q E h => ?_) (fun cdv A outer s H vs Q E hr h => ?_)
  · obtain ⟨p, q, m, ss, i, rfl, _⟩ := h
    rfl
  · obtain ⟨p, q, m, ss, i, rfl, hP, im, ok, l6, hi, k⟩ := h
    refine ⟨_, (pss_cons (ps_set (i := 3) sc_l_row.nd rfl (.inl rfl) (pe_lst pa_nil))
      (pss_cons (ps_for PassesOwn.never rfl (pi_range1 (by rfl) T.range (pa_cons (pe_callB (call_lenK K rfl) (by rfl) T.len PySem.boot_len (pa_cons (pv 1) pa_nil)) pa_nil)) (pg_name (i := 4) sc_l_row.nd rfl (.inl rfl)) (pss_cons (ps_set (i := 5) sc_l_row.nd rfl (.inl rfl) (pe_ifExp (pt_cmpR op_eq (pv 4) (pv 2) (nomark _)) pe_int (pe_c c_l_least hr (by decide) rfl (pa_cons (pv 1) (pa_cons (pv 4) (pa_cons (pv 2) pa_nil))))))
      (pss_one (ps_expr (pe_bm PySem.F.plainAttrs_list PySem.F.slot_list_append PySem.F.type_list_append mt_append (pv 3) (pa_cons (pe_op op_mulW (pv 5) (pe_c c_l_draw hr (by decide) rfl (pa_cons (pv 0) (pa_cons (pe_op op_fdivW (pe_ix (ix_tupK K rfl) (pv 1) (pv 2) (fun _ _ => rfl)) (pv 5)) pa_nil)))) pa_nil))))))
      (pss_one (ps_ret (pe_callTy (call_tupleK K rfl) (by rfl) T.tuple (by decide +kernel) (pa_cons (pv 3) pa_nil)))))), ?_⟩
    obtain ⟨b, ys, rfl, hb, ib⟩ := id im.tuple
    have ey := ib.ints
    subst ey
    obtain ⟨y, ey, y2, y3, yn⟩ := sz_nat ok hi
    have hiV : (ss.map V.int)[i]? = some (V.int (y : Int)) := by rw [List.getElem?_map, ey]; rfl
    refine ⟨Nat.zero_le _, fun d nd => ?_⟩
    obtain ⟨nd1, nd2⟩ := hP.np nd
    refine ⟨_, rfl, b, _, rfl, .inr (SqT.of (keepN hb nd)), _, rfl, by rw [List.length_map]; omega, by rw [List.length_map]; omega, for_range (lo := 0) (n := _) (fun j σ H' => ∃ (v4 v5 : Option V) (ac : List Int), σ = [some (.ref p), some (.ref b), some (.int (i : Nat)), some (.ref d), v4, v5] ∧ Pt H' p q ∧ Kp p q H H' ∧ H' d = some (.lst (ac.map V.int)) ∧ ac.length = j ∧ ∀ z ∈ ac, z.natAbs ≤ 10 ^ 62)
      ⟨none, none, [], rfl, hP.new nd, (Kp.refl p q H).new nd, upd_same, rfl, fun z hz => by cases hz⟩ ?_ ?_⟩
    · rintro j σ H1 hj ⟨v4, v5, ac, rfl, P1, k1, hd, hl, bd⟩
      rw [List.length_map] at hj
      have jl : j < ss.length := by omega
      have hb1 := (k1.tk hP) _ _ hb
      have im1 : Im H1 (.ref b) (sD ss) := im.k (k1.tk hP)
      obtain ⟨x, ex, x2, x3, xn⟩ := sz_nat ok jl
      rw [show (0 : Int) + (j : Int) = ((j : Nat) : Int) by omega]
      refine ⟨_, rfl, _, rfl, rfl, _, rfl, ?_⟩
      refine shareV (H := H1) (N := fun u H' => H' = H1 ∧ ∃ st : Nat, u = .int (st : Int) ∧ 1 ≤ st ∧ st ≤ 10 ^ 30) (fun _ r => r _ _ ⟨rfl, 1, rfl, by decide, by decide⟩) (fun _ r => ?_) ?_
      · refine ⟨_, rfl, _, rfl, _, rfl, _, ss, j, i, x, y, rfl, im1, ex, ey, by omega, Nat.lt_of_le_of_lt y3 (by decide), Nat.lt_of_le_of_lt x3 (by decide), r _ _ ⟨rfl, stp x y, rfl, ?_⟩⟩
        obtain ⟨s1, s2⟩ := stp_le (a := x) (b := y) (by omega)
        exact ⟨s1, Nat.le_trans s2 y3⟩
      rintro u H' ⟨rfl, st, rfl, st1, st2⟩
      refine ⟨_, rfl, .inl ⟨rfl, _, SqL.of hd⟩, _, rfl, _, rfl, _, rfl, _, rfl, b, _, i, _, rfl, rfl, SqT.of hb1, atI_nat hiV, _, rfl, _, _, rfl, rfl, wide_div (b := 4000) (by omega) (by rw [Int.natAbs_natCast]; exact Nat.lt_of_le_of_lt st2 (by decide)) (by decide) (by decide), p, q, _, rfl, P1, ?_, fun r H2 r0 r1 r2 P2 k2 => ?_⟩
      · refine Int.lt_of_le_of_lt (Int.ediv_le_self _ (by omega)) ?_
        have : ((y : Nat) : Int) ≤ 10 ^ 30 := by omega
        exact Int.lt_of_le_of_lt this (by decide)
      have rb : r ≤ 10 ^ 30 := by
        by_cases z : (0 : Int) < (y : Int) / (st : Int)
        · have := r1 z
          have q := Int.ediv_le_self (st : Int) (show (0 : Int) ≤ (y : Int) by omega)
          omega
        · have := r2 (by omega)
          omega
      have rn : r.natAbs ≤ 10 ^ 30 := by omega
      refine ⟨_, _, rfl, rfl, wide_mul (a := 110) (b := 110) (by rw [Int.natAbs_natCast]; exact Nat.lt_of_le_of_lt st2 (by decide)) (Nat.lt_of_le_of_lt rn (by decide)) (by decide) (by decide) (by decide), d, _, _, rfl, rfl, k2 _ _ nd1 nd2 hd, small1000 (by rw [List.length_map]; omega), ?_⟩
      refine ⟨_, _, ac ++ [(st : Int) * r], rfl, P2.put nd1 nd2, (k1.trans k2).put nd, by rw [upd_same, List.map_append]; rfl, by rw [List.length_append, List.length_singleton, hl], fun z hz => ?_⟩
      rcases List.mem_append.mp hz with hz | hz
      · exact bd z hz
      · rw [List.mem_singleton.mp hz, Int.natAbs_mul, Int.natAbs_natCast]
        exact Nat.le_trans (Nat.mul_le_mul st2 rn) (by decide)
    · rintro σ H1 ⟨v4, v5, ac, rfl, P1, k1, hd, hl, bd⟩
      rw [List.length_map] at hl
      refine ⟨_, rfl, d, _, rfl, .inl ⟨SqL.of hd, fun t nt => ?_⟩⟩
      refine k _ (ac.map .int) _ (.tup upd_same (ImAll.of_ints _ ac)) ⟨by rw [List.length_map]; omega, fun x hx => ?_⟩ (P1.new nt) (k1.new nt)
      obtain ⟨z, hz, rfl⟩ := List.mem_map.mp hx
      exact ⟨z, rfl, bd z hz⟩

/-! ### _law_turned -/
theorem rowOk {c dp : Nat} {l : List PyData} (c2 : 2000 ≤ c) (d2 : 2 ≤ dp) (n : l.length ≤ 7) (h : ∀ x ∈ l, okEG c dp x = true) : okEG (7 * c + 30) (dp + 2) (.tuple l) = true := by
  have z : (c + 2) * l.length ≤ (c + 2) * 7 := Nat.mul_le_mul_left _ n
  exact okEG_tup h (by omega) (by omega)
theorem lstOk {c dp : Nat} {l : List PyData} (c2 : 2000 ≤ c) (d2 : 2 ≤ dp) (n : l.length ≤ 7) (h : ∀ x ∈ l, okEG c dp x = true) : okEG (7 * c + 30) (dp + 2) (.list l) = true := by
  have z : (c + 2) * l.length ≤ (c + 2) * 7 := Nat.mul_le_mul_left _ n
  exact okEG_lst h (by omega) (by omega)
theorem wishOk {c dp : Nat} {l : List PyData} (c2 : 2000 ≤ c) (n : l.length ≤ 7) (h : ∀ x ∈ l, okEG (7 * c + 30) (dp + 2) x = true) : okEG (51 * c) (dp + 4) (.tuple l) = true := by
  have z : (7 * c + 30 + 2) * l.length ≤ (7 * c + 30 + 2) * 7 := Nat.mul_le_mul_left _ n
  exact okEG_tup h (by omega) (by omega)
theorem wlstOk {c dp : Nat} {l : List PyData} (c2 : 2000 ≤ c) (n : l.length ≤ 7) (h : ∀ x ∈ l, okEG (7 * c + 30) (dp + 2) x = true) : okEG (51 * c) (dp + 4) (.list l) = true := by
  have z : (7 * c + 30 + 2) * l.length ≤ (7 * c + 30 + 2) * 7 := Nat.mul_le_mul_left _ n
  exact okEG_lst h (by omega) (by omega)
theorem small_okEG {d : PyData} (h : okEG 2000 2 d = true) (c dp : Nat) (c2 : 2000 ≤ c) (d2 : 2 ≤ dp) : okEG (7 * c + 30) (dp + 2) d = true := okEG_mono h (by omega) (by omega)
theorem ok_iZ {n : Int} (h : n.natAbs ≤ 10 ^ 62) : okEG 2000 2 (.int n) = true := okEG_mono (okEG_int h) (by decide) (by decide)
def OkW (n c dp : Nat) (r : PyData) : Prop := r = .none ∨ ∃ l, r = .tuple l ∧ l.length = n ∧ ∀ x ∈ l, okEG c dp x = true
theorem OkW.ok {n c dp : Nat} {r : PyData} (h : OkW n c dp r) (n6 : n ≤ 6) (c2 : 2000 ≤ c) (d2 : 2 ≤ dp) : okEG (7 * c + 30) (dp + 2) r = true := by
  rcases h with rfl | ⟨l, rfl, ll, lo⟩
  · exact small_okEG (by decide +kernel) c dp c2 d2
  · exact rowOk c2 d2 (by omega) lo
def spTurned : Sp := fun vs H Q _ => ∃ (p q : Addr) (m v : V) (ss : List Int) (rows : List PyData) (c dp : Nat) (N : Addr → Prop), vs = [.ref p, m, v] ∧ Pt H p q ∧ Im H m (sD ss) ∧ Sz ss ∧ 1 ≤ ss.length ∧ ss.length ≤ 6 ∧ (∀ b, N b → Nq p q b) ∧ (∀ b, Nq p q b → H b = none → N b) ∧ De N H v (.tuple rows) ∧ rows.length = ss.length ∧ (∀ r ∈ rows, OkW ss.length c dp r) ∧ 2000 ≤ c ∧ 2 ≤ dp ∧
  ∀ (u : V) (d : PyData) (H' : Hp), De N H' u d → okEG (51 * c) (dp + 4) d = true → Pt H' p q → Kp p q H H' → Q u H'
abbrev sc_l_turnedN : List Str := ["deck", "sizes", "wish", "sort", "i", "j", "odd", "row", "rows", "odds"]
theorem sc_l_turned : FnScope sc_l_turnedN ["deck", "sizes", "wish"] (defScope s_l_turned) := ⟨rfl, rfl, rfl, by decide +kernel, rfl, by decide +kernel, by decide +kernel⟩
theorem ok_turned {f : Addr} {fd : FuncData} (D : DefAt K mg "_law_turned" s_l_turned ["deck", "sizes", "wish"] f fd) (T : Blt mg) (c_l_draw : Cal P w K mg base 1 "_law_draw" spDraw) (c_l_pick : Cal P w K mg base 2 "_law_pick" spPick) (c_l_row : Cal P w K mg base 3 "_law_row" spRow) : Cal P w K mg base 4 "_law_turned" spTurned := by
  refine cal_of D sc_l_turned (fun vs H Q E h => ?_) (fun cdv A outer s H vs Q E hr h => ?_)
  · obtain ⟨p, q, m, v, ss, rows, c, dp, N, rfl, _⟩ := h
    rfl
  · obtain ⟨p, q, m, v, ss, rows, c, dp, N, rfl, hP, im, ok, l1, l6, hN, hF, hd, lr, ro, c2, d2, k⟩ := h
    refine ⟨_, (pss_cons (ps_par3 (i := 3) (j := 4) (l := 5) rfl sc_l_turned.nd rfl rfl rfl (by decide) (by decide) (by decide) rfl rfl rfl (pa_cons (pe_c c_l_draw hr (by decide) rfl (pa_cons (pv 0) (pa_cons pe_int pa_nil))) (pa_cons (pe_c c_l_draw hr (by decide) rfl (pa_cons (pv 0) (pa_cons (pe_callB (call_lenK K rfl) (by rfl) T.len PySem.boot_len (pa_cons (pv 1) pa_nil)) pa_nil))) (pa_cons (pe_c c_l_draw hr (by decide) rfl (pa_cons (pv 0) (pa_cons (pe_callB (call_lenK K rfl) (by rfl) T.len PySem.boot_len (pa_cons (pv 1) pa_nil)) pa_nil))) pa_nil))) (by rfl))
      (pss_cons (ps_set (i := 6) sc_l_turned.nd rfl (.inl rfl) (pe_lst (pa_cons (pe_ix (ix_tupK K rfl) (pv 1) (pv 4) (fun _ _ => rfl)) (pa_cons (pe_op op_sub (pe_ix (ix_tupK K rfl) (pv 1) (pv 4) (fun _ _ => rfl)) pe_int) (pa_cons (pe_un un_neg pe_int) (pa_cons pe_int (pa_cons pe_int (pa_cons pe_bl (pa_cons pe_bl (pa_cons pe_non (pa_cons pe_str (pa_cons (pe_tup (pa_cons pe_int pa_nil)) (pa_cons (pe_lstN (pa_cons pe_int pa_nil)) (pa_cons pe_dnewK (pa_cons (pe_op op_pow pe_int pe_int) (pa_cons (pe_op op_fdiv (pe_ix (ix_tupK K rfl) (pv 1) (pv 4) (fun _ _ => rfl)) pe_int) pa_nil))))))))))))))))
      (pss_cons (ps_set (i := 7) sc_l_turned.nd rfl (.inl rfl) (pe_ifExp (pt_cmpR op_notN (pe_ix (ix_tupK K rfl) (pv 2) (pv 4) (fun _ _ => rfl)) pe_non (nomark _)) (pe_ix (ix_tupK K rfl) (pv 2) (pv 4) (fun _ _ => rfl)) (pe_c c_l_row hr (by decide) rfl (pa_cons (pv 0) (pa_cons (pv 1) (pa_cons (pv 4) pa_nil))))))
      (pss_cons (ps_set (i := 8) sc_l_turned.nd rfl (.inl rfl) (pe_lst (pa_cons (pe_op op_catA (pe_op op_catA (pe_slice sl_tupA (pv 7) po_none (po_some (pv 5))) (pe_tup (pa_cons (pe_c c_l_pick hr (by decide) rfl (pa_cons (pv 0) (pa_cons (pv 6) pa_nil))) pa_nil))) (pe_slice sl_tupA (pv 7) (po_some (pe_op op_add (pv 5) pe_int)) po_none)) (pa_cons (pe_op op_catA (pe_op op_catA (pe_slice sl_tupA (pv 7) po_none (po_some (pv 5))) (pe_tup (pa_cons (pe_c c_l_pick hr (by decide) rfl (pa_cons (pv 0) (pa_cons (pv 6) pa_nil))) pa_nil))) (pe_slice sl_tupA (pv 7) (po_some (pe_op op_add (pv 5) pe_int)) po_none)) pa_nil))))
      (pss_cons (ps_set (i := 8) sc_l_turned.nd rfl (.inl rfl) (pe_op op_cat (pv 8) (pe_lst (pa_cons (pe_slice sl_tupA (pv 7) po_none (po_some (pv 5))) (pa_cons (pe_op op_catA (pv 7) (pe_tup (pa_cons pe_int pa_nil))) (pa_cons (pe_callTy (call_listN K rfl) (by rfl) T.list (by decide +kernel) (pa_cons (pv 7) pa_nil)) (pa_cons (pe_tup pa_nil) (pa_cons pe_int (pa_cons pe_bl (pa_cons pe_str (pa_cons (pe_lstN (pa_cons pe_non pa_nil)) (pa_cons pe_dnewK (pa_cons (pe_tup (pa_cons (pv 7) pa_nil)) pa_nil)))))))))))))
      (pss_cons (ps_if (pt_cmpR op_lt (pv 3) pe_int (nomark _)) (pss_one (ps_ret (pe_op op_catA (pe_op op_catA (pe_slice sl_tupA (pv 2) po_none (po_some (pv 4))) (pe_tup (pa_cons (pe_ix (ix_listK K rfl) (pv 8) pe_int (fun _ _ => rfl)) pa_nil))) (pe_slice sl_tupA (pv 2) (po_some (pe_op op_add (pv 4) pe_int)) po_none)))) pss_nil)
      (pss_cons (ps_if (pt_cmpR op_lt (pv 3) pe_int (nomark _)) (pss_one (ps_ret (pe_op op_catA (pe_op op_catA (pe_slice sl_tupA (pv 2) po_none (po_some (pv 4))) (pe_tup (pa_cons (pe_c c_l_pick hr (by decide) rfl (pa_cons (pv 0) (pa_cons (pv 8) pa_nil))) pa_nil))) (pe_slice sl_tupA (pv 2) (po_some (pe_op op_add (pv 4) pe_int)) po_none)))) pss_nil)
      (pss_cons (ps_set (i := 9) sc_l_turned.nd rfl (.inl rfl) (pe_lst (pa_cons (pe_callTy (call_listN K rfl) (by rfl) T.list (by decide +kernel) (pa_cons (pv 2) pa_nil)) (pa_cons (pe_slice sl_tupA (pv 2) po_none (po_some (pv 4))) (pa_cons (pe_op op_catA (pv 2) (pe_tup (pa_cons pe_non pa_nil))) (pa_cons pe_non (pa_cons pe_int (pa_cons pe_bl (pa_cons pe_str (pa_cons pe_dnewK (pa_cons (pe_tup pa_nil) (pa_cons (pe_tup (pa_cons (pv 2) pa_nil)) (pa_cons (pv 7) (pa_cons (pe_revT K rfl (pv 2) (pe_m1 pe_int)) pa_nil))))))))))))))
      (pss_one (ps_ret (pe_c c_l_pick hr (by decide) rfl (pa_cons (pv 0) (pa_cons (pv 9) pa_nil))))))))))))), ?_⟩
    obtain ⟨b, ys, rfl, hb, ib⟩ := id im.tuple
    have ey := ib.ints
    subst ey
    obtain ⟨cw, zs, ds, rfl, e0, hc, hz⟩ := hd.tuple rfl
    cases e0
    have lz : zs.length = rows.length := hz.length
    refine ⟨_, rfl, p, q, _, rfl, hP, by decide, fun sort Ha _ _ _ Pa ka => ?_⟩
    refine ⟨_, rfl, _, rfl, b, _, rfl, .inr (SqT.of ((ka.tk hP) _ _ hb)), p, q, _, rfl, Pa, by rw [List.length_map]; exact Int.lt_of_lt_of_le (show ((ss.length : Nat) : Int) < 7 by omega) (by decide), fun ri Hb i0 i1 _ Pb kb => ?_⟩
    refine ⟨_, rfl, _, rfl, b, _, rfl, .inr (SqT.of (((ka.trans kb).tk hP) _ _ hb)), p, q, _, rfl, Pb, by rw [List.length_map]; exact Int.lt_of_lt_of_le (show ((ss.length : Nat) : Int) < 7 by omega) (by decide), fun rj Hc j0 j1 _ Pc kc => ⟨_, _, _, rfl, ?_⟩⟩
    rw [List.length_map] at i1 j1
    have i1 := i1 (by omega)
    have j1 := j1 (by omega)
    obtain ⟨i, rfl⟩ : ∃ n : Nat, ri = (n : Int) := ⟨ri.toNat, by omega⟩
    obtain ⟨j, rfl⟩ : ∃ n : Nat, rj = (n : Int) := ⟨rj.toNat, by omega⟩
    have ii : i < ss.length := by omega
    have jj : j < ss.length := by omega
    have kH := (ka.trans kb).trans kc
    clear ka kb Pa Pb kc
    have hbc := (kH.tk hP) _ _ hb
    obtain ⟨y, ey, y2, y3, yn⟩ := sz_nat ok ii
    have hiV : (ss.map V.int)[i]? = some (V.int (y : Int)) := by rw [List.getElem?_map, ey]; rfl
    refine ⟨_, rfl, _, rfl, b, _, i, _, rfl, rfl, SqT.of hbc, atI_nat hiV, _, rfl, _, rfl, b, _, i, _, rfl, rfl, SqT.of hbc, atI_nat hiV, _, _, rfl, rfl, _, rfl, ?_⟩
    refine ⟨by show 1 ≤ sizeLine; decide, fun t1 n1 => ?_⟩
    generalize qH1 : upd Hc t1 (HO.tup _) = H1
    obtain ⟨s1, h1⟩ := newFacts qH1 n1
    refine ⟨by show 1 ≤ sizeLine; decide, fun t2 n2 sy2 => ?_⟩
    generalize qH2 : upd H1 t2 (HO.lst _) = H2
    obtain ⟨s2, h2⟩ := newFacts qH2 n2
    refine fun t3 n3 => ?_
    generalize qH3o : upd H2 t3 (HO.dK []) = H3o
    obtain ⟨s3, h3⟩ := newFacts qH3o n3
    have n2c : Hc t2 = none := Same.free s1 n2
    obtain ⟨nt2a, nt2b⟩ := Pc.np n2c
    refine ⟨_, _, rfl, rfl, ⟨by decide, by decide, by decide⟩, _, rfl, _, rfl, b, _, i, _, rfl, rfl, SqT.of (s3 _ _ (s2 _ _ (s1 _ _ hbc))), atI_nat hiV, _, _, rfl, rfl, ⟨by decide, by decide⟩, ?_⟩
    have dt1 : De N H3o (.ref t1) (.tuple [.int 0]) := .tup (s3 _ _ (s2 _ _ h1)) (.cons (.int _) .nil)
    have dt2 : De N H3o (.ref t2) (.list [.int 0]) := .lst (hF _ ⟨nt2a, nt2b, sy2⟩ (kH.fresh nt2a nt2b n2c)) (s3 _ _ h2) (.cons (.int _) .nil)
    have dt3 : De N H3o (.ref t3) (.dict []) := .dic h3
    refine ⟨by show 14 ≤ sizeLine; decide, fun o no => ?_⟩
    generalize qHo : upd H3o o (HO.lst _) = Ho
    obtain ⟨so, ho⟩ := newFacts qHo no
    have mo := menC (N := N) (P := fun d => okEG 2000 2 d = true) ho so (.cons (.int _) (ok_iZ (by omega)) (.cons (.int _) (ok_iZ (by omega)) (.cons (.int _) (ok_iZ (by decide)) (.cons (.int _) (ok_iZ (by decide)) (.cons (.int _) (ok_iZ (by decide)) (.cons (.bl _) (by decide +kernel) (.cons (.bl _) (by decide +kernel) (.cons .non (by decide +kernel) (.cons (.str _) (by decide +kernel) (.cons dt1 (by decide +kernel) (.cons dt2 (by decide +kernel) (.cons dt3 (by decide +kernel) (.cons (.int _) (ok_iZ (by decide)) (.cons (.int _) (ok_iZ (by omega)) .nil))))))))))))))
    have s9 : Same Hc Ho := ((s1.trans s2).trans s3).trans so
    have noc : Hc o = none := Same.free ((s1.trans s2).trans s3) no
    obtain ⟨no1, no2⟩ := Pc.np noc
    have kHo := kH.trans (Kp.same s9)
    have Po := Pc.same s9
    clear dt1 dt2 dt3 h1 h2 h3 s1 s2 s3 so
    have tko := kHo.tk hP
    have hzo := kdA hz (Ks.kn hN kHo hP)
    have hco := tko _ _ hc
    obtain ⟨dr, hdr⟩ : ∃ dr, rows[i]? = some dr := ⟨_, List.getElem?_eq_getElem (by omega)⟩
    obtain ⟨xr, hxr, gxr⟩ := hzo.idx hdr
    have or := ro dr (List.mem_of_getElem? hdr)
    refine ⟨_, rfl, _, rfl, cw, _, i, _, rfl, rfl, SqT.of hco, atI_nat hxr, rfl, _, rfl, ?_⟩
    rw [de_isN gxr]
    refine shareV (N := fun u H' => ∃ (br : Addr) (ws : List V) (l : List PyData), u = .ref br ∧ H' br = some (.tup ws) ∧ DeAll N H' ws l ∧ l.length = ss.length ∧ (∀ x ∈ l, okEG c dp x = true) ∧ Pt H' p q ∧ Kp p q Ho H') (fun c1 r => ?_) (fun c1 r => ?_) ?_
    · have cn : isN dr = false := by simpa using c1
      rcases or with rfl | ⟨l, rfl, ll, lo⟩
      · cases cn
      obtain ⟨br, ws, ds, rfl, e0, hbr, hw⟩ := gxr.tuple rfl
      cases e0
      exact ⟨_, rfl, _, rfl, cw, _, i, _, rfl, rfl, SqT.of hco, atI_nat hxr, r _ _ ⟨br, ws, l, rfl, hbr, hw, ll, lo, Po, Kp.refl p q Ho⟩⟩
    · refine ⟨_, rfl, _, rfl, _, rfl, p, q, _, ss, i, rfl, Po, im.k tko, ok, l6, ii, fun u l H' iu hl P' k' => ?_⟩
      obtain ⟨br, ws, ds, rfl, e0, hbr, hw⟩ := (De.of_im (N := N) iu).tuple rfl
      cases e0
      refine r _ _ ⟨br, ws, l, rfl, hbr, hw, hl.1, fun x hx => ?_, P', k'⟩
      obtain ⟨z, rfl, zb⟩ := hl.2 x hx
      exact okEG_mono (ok_iZ zb) c2 d2
    rintro u H3 ⟨br, ws, l, rfl, hbr, hw, ll, lo, P3, k3⟩
    have lw : ws.length = l.length := hw.length
    have kH3 := kHo.trans k3
    have ho := k3 _ _ no1 no2 ho
    have mo := mo.k (Ks.kn hN k3 Po)
    have hc3 := (kH3.tk hP) _ _ hc
    have hz3 := kdA hz (Ks.kn hN kH3 hP)
    have K0 : Kp p q H3 H3 := Kp.refl p q H3
    refine ⟨_, rfl, _, rfl, _, rfl, sl_any ((K0.tk P3) _ _ hbr) fun c1_1 H1_1 s1_1 h1_1 => ?_⟩
    rw [cut_take] at h1_1
    have k1_1 : Kp p q H3 H1_1 := K0.trans (Kp.same s1_1)
    have P1_1 := P3.same s1_1
    refine ⟨_, rfl, _, rfl, p, q, o, _, _, rfl, P1_1, k1_1 _ _ no1 no2 ho, .inl ⟨rfl, no1, no2⟩, List.cons_ne_nil _ _, by show 14 < 1000; decide, fun v1 H2_1 hv1 P2_1 k2_1 => ?_⟩
    have kk2_1 := k1_1.trans k2_1
    obtain ⟨dx1, gx1, ox1⟩ := (mo.k (Ks.kn hN kk2_1 P3)) v1 hv1
    refine ⟨by show 1 ≤ sizeLine; decide, fun c2_1 n2_1 => ?_⟩
    generalize qH3_1 : upd H2_1 c2_1 (HO.tup _) = H3_1
    obtain ⟨s3_1, h3_1⟩ := newFacts qH3_1 n2_1
    refine cat_any (s3_1 _ _ ((k2_1.tk P1_1) _ _ h1_1)) h3_1 (by rw [List.length_take]; exact Nat.le_trans (show min j ws.length + 1 ≤ 20 by omega) (by decide)) fun c4_1 H4_1 s4_1 h4_1 => ?_
    have k4_1 : Kp p q H3 H4_1 := (kk2_1.trans (Kp.same s3_1)).trans (Kp.same s4_1)
    have P4_1 := (P2_1.same s3_1).same s4_1
    refine ⟨_, rfl, _, rfl, _, _, rfl, rfl, _, rfl, noPart (sl_any ((k4_1.tk P3) _ _ hbr) fun c5_1 H5_1 s5_1 h5_1 => ?_)⟩
    rw [show ((j : Nat) : Int) + 1 = ((j + 1 : Nat) : Int) by omega, cut_drop] at h5_1
    refine cat_any (s5_1 _ _ h4_1) h5_1 (by rw [List.length_append, List.length_take, List.length_drop]; exact Nat.le_trans (show min j ws.length + 1 + (ws.length - (j + 1)) ≤ 40 by omega) (by decide)) fun cA1 HA1 sA1 hA1 => ?_
    have kA1 : Kp p q H3 HA1 := (k4_1.trans (Kp.same s5_1)).trans (Kp.same sA1)
    have PA1 := (P4_1.same s5_1).same sA1
    have gA1 : De N HA1 (.ref cA1) (.tuple (l.take j ++ [dx1] ++ l.drop (j + 1))) := by
      have w := kdA hw (Ks.kn hN kA1 P3)
      exact .tup hA1 (((w.take j).append (.cons (kd gx1 (Ks.same (((s3_1.trans s4_1).trans s5_1).trans sA1))) .nil)).append (w.drop (j + 1)))
    have oA1 : okEG (7 * c + 30) (dp + 2) (.tuple (l.take j ++ [dx1] ++ l.drop (j + 1))) = true := rowOk c2 d2 (by rw [List.length_append, List.length_append, List.length_take, List.length_drop, List.length_singleton]; omega) (mem_app (mem_app (fun y hy => lo y (List.mem_of_mem_take hy)) (mem_one (okEG_mono ox1 c2 d2))) (fun y hy => lo y (List.mem_of_mem_drop hy)))
    refine ⟨_, rfl, _, rfl, _, rfl, sl_any ((kA1.tk P3) _ _ hbr) fun c1_2 H1_2 s1_2 h1_2 => ?_⟩
    rw [cut_take] at h1_2
    have k1_2 : Kp p q H3 H1_2 := kA1.trans (Kp.same s1_2)
    have P1_2 := PA1.same s1_2
    refine ⟨_, rfl, _, rfl, p, q, o, _, _, rfl, P1_2, k1_2 _ _ no1 no2 ho, .inl ⟨rfl, no1, no2⟩, List.cons_ne_nil _ _, by show 14 < 1000; decide, fun v2 H2_2 hv2 P2_2 k2_2 => ?_⟩
    have kk2_2 := k1_2.trans k2_2
    obtain ⟨dx2, gx2, ox2⟩ := (mo.k (Ks.kn hN kk2_2 P3)) v2 hv2
    refine ⟨by show 1 ≤ sizeLine; decide, fun c2_2 n2_2 => ?_⟩
    generalize qH3_2 : upd H2_2 c2_2 (HO.tup _) = H3_2
    obtain ⟨s3_2, h3_2⟩ := newFacts qH3_2 n2_2
    refine cat_any (s3_2 _ _ ((k2_2.tk P1_2) _ _ h1_2)) h3_2 (by rw [List.length_take]; exact Nat.le_trans (show min j ws.length + 1 ≤ 20 by omega) (by decide)) fun c4_2 H4_2 s4_2 h4_2 => ?_
    have k4_2 : Kp p q H3 H4_2 := (kk2_2.trans (Kp.same s3_2)).trans (Kp.same s4_2)
    have P4_2 := (P2_2.same s3_2).same s4_2
    refine ⟨_, rfl, _, rfl, _, _, rfl, rfl, _, rfl, noPart (sl_any ((k4_2.tk P3) _ _ hbr) fun c5_2 H5_2 s5_2 h5_2 => ?_)⟩
    rw [show ((j : Nat) : Int) + 1 = ((j + 1 : Nat) : Int) by omega, cut_drop] at h5_2
    refine cat_any (s5_2 _ _ h4_2) h5_2 (by rw [List.length_append, List.length_take, List.length_drop]; exact Nat.le_trans (show min j ws.length + 1 + (ws.length - (j + 1)) ≤ 40 by omega) (by decide)) fun cA2 HA2 sA2 hA2 => ?_
    have kA2 : Kp p q H3 HA2 := (k4_2.trans (Kp.same s5_2)).trans (Kp.same sA2)
    have PA2 := (P4_2.same s5_2).same sA2
    have gA2 : De N HA2 (.ref cA2) (.tuple (l.take j ++ [dx2] ++ l.drop (j + 1))) := by
      have w := kdA hw (Ks.kn hN kA2 P3)
      exact .tup hA2 (((w.take j).append (.cons (kd gx2 (Ks.same (((s3_2.trans s4_2).trans s5_2).trans sA2))) .nil)).append (w.drop (j + 1)))
    have oA2 : okEG (7 * c + 30) (dp + 2) (.tuple (l.take j ++ [dx2] ++ l.drop (j + 1))) = true := rowOk c2 d2 (by rw [List.length_append, List.length_append, List.length_take, List.length_drop, List.length_singleton]; omega) (mem_app (mem_app (fun y hy => lo y (List.mem_of_mem_take hy)) (mem_one (okEG_mono ox2 c2 d2))) (fun y hy => lo y (List.mem_of_mem_drop hy)))
    have gA1' : De N HA2 (.ref cA1) (.tuple (l.take j ++ [dx1] ++ l.drop (j + 1))) := kd gA1 (Ks.kn hN ((((Kp.same s1_2).trans k2_2).trans (Kp.same s3_2)).trans ((Kp.same s4_2).trans ((Kp.same s5_2).trans (Kp.same sA2)))) PA1)
    refine ⟨by show 2 ≤ sizeLine; decide, fun r1 nr => ?_⟩
    generalize qHr : upd HA2 r1 (HO.lst _) = Hr
    obtain ⟨sr, hr1⟩ := newFacts qHr nr
    have mr1 := menC (N := N) (P := fun d => okEG (7 * c + 30) (dp + 2) d = true) hr1 sr (.cons gA1' oA1 (.cons gA2 oA2 .nil))
    have kr := kA2.trans (Kp.same sr)
    have Pr := PA2.same sr
    refine ⟨_, rfl, _, rfl, _, rfl, _, rfl, sl_any ((kr.tk P3) _ _ hbr) fun c1 H1 s1 h1 => ?_⟩
    rw [cut_take] at h1
    have kq1 := kr.trans (Kp.same s1)
    refine ⟨_, rfl, ?_⟩
    refine ⟨by show 1 ≤ sizeLine; decide, fun c2' n2 => ?_⟩
    generalize qH2 : upd H1 c2' (HO.tup _) = H2
    obtain ⟨s2, h2⟩ := newFacts qH2 n2
    have kq2 := kq1.trans (Kp.same s2)
    refine cat_any ((kq2.tk P3) _ _ hbr) h2 (by exact Nat.le_trans (show ws.length + 1 ≤ 40 by omega) (by decide)) fun c3 H4 s4 h4 => ?_
    have kq4 := kq2.trans (Kp.same s4)
    refine ⟨_, rfl, br, _, rfl, SqT.of ((kq4.tk P3) _ _ hbr), fun c5 n5 sy5 => ?_⟩
    have kq5 := kq4.new (o := .lst ws) n5
    have s5 : Same H4 (upd H4 c5 (.lst ws)) := Same.new (Same.refl H4) n5
    have h5 : (upd H4 c5 (.lst ws)) c5 = some (.lst ws) := upd_same
    have P4 : Pt H4 p q := ((Pr.same s1).same s2).same s4
    obtain ⟨n5a, n5b⟩ := P4.np n5
    generalize upd H4 c5 (.lst ws) = H5 at *
    refine ⟨by show 0 ≤ sizeLine; decide, fun c6 n6 => ?_⟩
    generalize qH6 : upd H5 c6 (HO.tup _) = H6
    obtain ⟨s6, h6⟩ := newFacts qH6 n6
    refine ⟨by show 1 ≤ sizeLine; decide, fun c7 n7 sy7 => ?_⟩
    generalize qH7 : upd H6 c7 (HO.lst _) = H7
    obtain ⟨s7, h7⟩ := newFacts qH7 n7
    refine fun c8 n8 => ?_
    generalize qH8 : upd H7 c8 (HO.dK []) = H8
    obtain ⟨s8, h8⟩ := newFacts qH8 n8
    refine ⟨_, rfl, ?_⟩
    refine ⟨by show 1 ≤ sizeLine; decide, fun c9 n9 => ?_⟩
    generalize qH9 : upd H8 c9 (HO.tup _) = H9
    obtain ⟨s9', h9⟩ := newFacts qH9 n9
    have P5 : Pt H5 p q := P4.same s5
    have P6 := P5.same s6
    obtain ⟨n7a, n7b⟩ := P6.np n7
    have k9 : Kp p q H3 H9 := (((kq5.trans (Kp.same s6)).trans (Kp.same s7)).trans (Kp.same s8)).trans (Kp.same s9')
    have P9 : Pt H9 p q := ((P6.same s7).same s8).same s9'
    have w9 := kdA hw (Ks.kn hN k9 P3)
    have t59 : Same H5 H9 := ((s6.trans s7).trans s8).trans s9'
    have t49 : Same H4 H9 := s5.trans t59
    have g1 : De N H9 (.ref c1) (.tuple (l.take j)) := .tup ((s2.trans (s4.trans t49)) _ _ h1) (w9.take j)
    have g2 : De N H9 (.ref c3) (.tuple (l ++ [.int 0])) := .tup (t49 _ _ h4) (w9.append (.cons (.int _) .nil))
    have g3 : De N H9 (.ref c5) (.list l) := .lst (hF _ ⟨n5a, n5b, sy5⟩ ((kH3.trans kq4).fresh n5a n5b n5)) (t59 _ _ h5) w9
    have g4 : De N H9 (.ref c6) (.tuple []) := .tup ((s7.trans (s8.trans s9')) _ _ h6) .nil
    have g5 : De N H9 (.ref c7) (.list [.none]) := .lst (hF _ ⟨n7a, n7b, sy7⟩ ((kH3.trans (kq5.trans (Kp.same s6))).fresh n7a n7b n7)) ((s8.trans s9') _ _ h7) (.cons .non .nil)
    have g6 : De N H9 (.ref c8) (.dict []) := .dic (s9' _ _ h8)
    have g7 : De N H9 (.ref c9) (.tuple [.tuple l]) := .tup h9 (.cons (.tup ((k9.tk P3) _ _ hbr) w9) .nil)
    have sm := fun (d : PyData) (h : okEG 2000 2 d = true) => small_okEG h c dp c2 d2
    have oL : okEG (7 * c + 17) (dp + 1) (.tuple l) = true := by
      have z : (c + 2) * l.length ≤ (c + 2) * 6 := Nat.mul_le_mul_left _ (by omega)
      exact okEG_tup lo (by omega) (by omega)
    have o7 : okEG (7 * c + 30) (dp + 2) (.tuple [.tuple l]) = true := okEG_tup (mem_one (P := fun d => okEG (7 * c + 17) (dp + 1) d = true) oL) (by show (7 * c + 17 + 2) * 1 + 3 ≤ _; omega) (by omega)
    refine ⟨by show 10 ≤ sizeLine; decide, fun r2 nr2 => ?_⟩
    generalize qHs : upd H9 r2 (HO.lst _) = Hs
    obtain ⟨ss2, hr2⟩ := newFacts qHs nr2
    have mr2 := menC (N := N) (P := fun d => okEG (7 * c + 30) (dp + 2) d = true) hr2 ss2 (.cons g1 (rowOk c2 d2 (by rw [List.length_take]; omega) (fun y hy => lo y (List.mem_of_mem_take hy))) (.cons g2 (rowOk c2 d2 (by rw [List.length_append, List.length_singleton]; omega) (mem_app lo (mem_one (okEG_mono (ok_iZ (by decide)) c2 d2)))) (.cons g3 (lstOk c2 d2 (by omega) lo) (.cons g4 (sm _ (by decide +kernel)) (.cons (.int _) (sm _ (by decide +kernel)) (.cons (.bl _) (sm _ (by decide +kernel)) (.cons (.str _) (sm _ (by decide +kernel)) (.cons g5 (sm _ (by decide +kernel)) (.cons g6 (sm _ (by decide +kernel)) (.cons g7 o7 .nil))))))))))
    have t9s : Same Hr Hs := (s1.trans (s2.trans (s4.trans t49))).trans ss2
    refine ⟨_, _, _, _, rfl, rfl, t9s _ _ hr1, hr2, by show 2 + 10 ≤ sizeLine; decide, fun rl nrl => ?_⟩
    have mrl := (MenE.append (mr1.s t9s) mr2).new (o := .lst ([V.ref cA1, V.ref cA2] ++ [V.ref c1, V.ref c3, V.ref c5, V.ref c6, V.int 0, V.bl false, V.str (Str.ofString "row"), V.ref c7, V.ref c8, V.ref c9])) nrl
    have hrl : (upd Hs rl (.lst ([V.ref cA1, V.ref cA2] ++ [V.ref c1, V.ref c3, V.ref c5, V.ref c6, V.int 0, V.bl false, V.str (Str.ofString "row"), V.ref c7, V.ref c8, V.ref c9]))) rl = some (.lst ([V.ref cA1, V.ref cA2] ++ [V.ref c1, V.ref c3, V.ref c5, V.ref c6, V.int 0, V.bl false, V.str (Str.ofString "row"), V.ref c7, V.ref c8, V.ref c9])) := upd_same
    have kl : Kp p q H3 (upd Hs rl (.lst ([V.ref cA1, V.ref cA2] ++ [V.ref c1, V.ref c3, V.ref c5, V.ref c6, V.int 0, V.bl false, V.str (Str.ofString "row"), V.ref c7, V.ref c8, V.ref c9]))) := (k9.trans (Kp.same ss2)).new nrl
    have Pl : Pt (upd Hs rl (.lst ([V.ref cA1, V.ref cA2] ++ [V.ref c1, V.ref c3, V.ref c5, V.ref c6, V.int 0, V.bl false, V.str (Str.ofString "row"), V.ref c7, V.ref c8, V.ref c9]))) p q := (P9.same ss2).new nrl
    obtain ⟨nl1, nl2⟩ := (P9.same ss2).np nrl
    have sml := sm
    generalize upd Hs rl (.lst ([V.ref cA1, V.ref cA2] ++ [V.ref c1, V.ref c3, V.ref c5, V.ref c6, V.int 0, V.bl false, V.str (Str.ofString "row"), V.ref c7, V.ref c8, V.ref c9])) = Hl at *
    have roK : ∀ r ∈ rows, okEG (7 * c + 30) (dp + 2) r = true := fun r hr' => (ro r hr').ok l6 c2 d2
    have fin : ∀ (x : V) (dx : PyData) (Hx : Hp) (cx : Addr), De N Hx x dx → okEG (7 * c + 30) (dp + 2) dx = true → Pt Hx p q → Kp p q H3 Hx → Hx cx = some (.tup (zs.take i ++ [x] ++ zs.drop (i + 1))) → Q (.ref cx) Hx := fun x dx Hx cx gx ox Px kx hx => by
      have w := kdA hz3 (Ks.kn hN kx P3)
      refine k _ (.tuple (rows.take i ++ [dx] ++ rows.drop (i + 1))) Hx (.tup hx (((w.take i).append (.cons gx .nil)).append (w.drop (i + 1)))) (wishOk c2 (by rw [List.length_append, List.length_append, List.length_take, List.length_drop, List.length_singleton]; omega) (mem_app (mem_app (fun y hy => roK y (List.mem_of_mem_take hy)) (mem_one ox)) (fun y hy => roK y (List.mem_of_mem_drop hy)))) Px (kH3.trans kx)
    refine ⟨_, rfl, _, _, rfl, rfl, _, rfl, ?_⟩
    refine ite2 (fun _ => ?_) (fun _ => ?_)
    · refine ⟨_, rfl, _, rfl, _, rfl, sl_any ((kl.tk P3) _ _ hc3) fun e1 G1 u1 f1 => ?_⟩
      rw [cut_take] at f1
      refine ⟨_, rfl, rl, _, 0, _, rfl, rfl, SqL.of (u1 _ _ hrl), atI_nat (j := 0) rfl, ?_⟩
      refine ⟨by show 1 ≤ sizeLine; decide, fun e2 m2 => ?_⟩
      generalize qG2 : upd G1 e2 (HO.tup _) = G2
      obtain ⟨u2, f2⟩ := newFacts qG2 m2
      refine cat_any (u2 _ _ f1) f2 (by rw [List.length_take]; exact Nat.le_trans (show min i zs.length + 1 ≤ 20 by omega) (by decide)) fun e3 G3 u3 f3 => ?_
      have kG := kl.trans (Kp.same ((u1.trans u2).trans u3))
      have PG := Pl.same ((u1.trans u2).trans u3)
      refine ⟨_, rfl, _, rfl, _, _, rfl, rfl, _, rfl, noPart (sl_any ((kG.tk P3) _ _ hc3) fun e4 G4 u4 f4 => ?_)⟩
      rw [show ((i : Nat) : Int) + 1 = ((i + 1 : Nat) : Int) by omega, cut_drop] at f4
      refine cat_any (u4 _ _ f3) f4 (by rw [List.length_append, List.length_take, List.length_drop]; exact Nat.le_trans (show min i zs.length + 1 + (zs.length - (i + 1)) ≤ 40 by omega) (by decide)) fun e5 G5 u5 f5 => ?_
      obtain ⟨dx, gx, ox⟩ := mrl (.ref cA1) (by simp)
      exact fin _ dx _ _ (kd gx (Ks.same ((((u1.trans u2).trans u3).trans u4).trans u5))) ox (PG.same (u4.trans u5)) (kG.trans (Kp.same (u4.trans u5))) f5
    refine ⟨_, rfl, _, _, rfl, rfl, _, rfl, ?_⟩
    refine ite2 (fun _ => ?_) (fun _ => ?_)
    · refine ⟨_, rfl, _, rfl, _, rfl, sl_any ((kl.tk P3) _ _ hc3) fun e1 G1 u1 f1 => ?_⟩
      rw [cut_take] at f1
      have PG1 := Pl.same u1
      refine ⟨_, rfl, _, rfl, p, q, rl, _, _, rfl, PG1, u1 _ _ hrl, .inl ⟨rfl, nl1, nl2⟩, List.cons_ne_nil _ _, by show 12 < 1000; decide, fun v9 G9 hv9 PG9 kG9 => ?_⟩
      obtain ⟨dx, gx, ox⟩ := ((mrl.s u1).k (Ks.kn hN kG9 PG1)) v9 hv9
      refine ⟨by show 1 ≤ sizeLine; decide, fun e2 m2 => ?_⟩
      generalize qG2 : upd G9 e2 (HO.tup _) = G2
      obtain ⟨u2, f2⟩ := newFacts qG2 m2
      refine cat_any (u2 _ _ ((kG9.tk PG1) _ _ f1)) f2 (by rw [List.length_take]; exact Nat.le_trans (show min i zs.length + 1 ≤ 20 by omega) (by decide)) fun e3 G3 u3 f3 => ?_
      have kG := ((kl.trans (Kp.same u1)).trans kG9).trans (Kp.same (u2.trans u3))
      have PG := PG9.same (u2.trans u3)
      refine ⟨_, rfl, _, rfl, _, _, rfl, rfl, _, rfl, noPart (sl_any ((kG.tk P3) _ _ hc3) fun e4 G4 u4 f4 => ?_)⟩
      rw [show ((i : Nat) : Int) + 1 = ((i + 1 : Nat) : Int) by omega, cut_drop] at f4
      refine cat_any (u4 _ _ f3) f4 (by rw [List.length_append, List.length_take, List.length_drop]; exact Nat.le_trans (show min i zs.length + 1 + (zs.length - (i + 1)) ≤ 40 by omega) (by decide)) fun e5 G5 u5 f5 => ?_
      exact fin _ dx _ _ (kd gx (Ks.same (((u2.trans u3).trans u4).trans u5))) ox (PG.same (u4.trans u5)) (kG.trans (Kp.same (u4.trans u5))) f5
    refine ⟨_, rfl, cw, _, rfl, SqT.of ((kl.tk P3) _ _ hc3), fun w1 m1 sy1 => ?_⟩
    generalize qW1 : upd Hl w1 (HO.lst _) = W1
    obtain ⟨u1, f1⟩ := newFacts qW1 m1
    refine ⟨_, rfl, _, rfl, _, rfl, sl_any (((kl.trans (Kp.same u1)).tk P3) _ _ hc3) fun w2 W2 u2 f2 => ?_⟩
    rw [cut_take] at f2
    refine ⟨_, rfl, by show 1 ≤ sizeLine; decide, fun w3 m3 => ?_⟩
    generalize qW3 : upd W2 w3 (HO.tup _) = W3
    obtain ⟨u3, f3⟩ := newFacts qW3 m3
    have x3 := kl.trans (Kp.same ((u1.trans u2).trans u3))
    refine cat_any ((x3.tk P3) _ _ hc3) f3 (by exact Nat.le_trans (show zs.length + 1 ≤ 40 by omega) (by decide)) fun w4 W4 u4 f4 => ?_
    refine fun w5 m5 => ?_
    generalize qW5 : upd W4 w5 (HO.dK []) = W5
    obtain ⟨u5, f5⟩ := newFacts qW5 m5
    refine ⟨by show 0 ≤ sizeLine; decide, fun w6 m6 => ?_⟩
    generalize qW6 : upd W5 w6 (HO.tup _) = W6
    obtain ⟨u6, f6⟩ := newFacts qW6 m6
    refine ⟨_, rfl, by show 1 ≤ sizeLine; decide, fun w7 m7 => ?_⟩
    generalize qW7 : upd W6 w7 (HO.tup _) = W7
    obtain ⟨u7, f7⟩ := newFacts qW7 m7
    have x7 := x3.trans (Kp.same (((u4.trans u5).trans u6).trans u7))
    refine ⟨_, rfl, _, rfl, cw, _, rfl, SqT.of ((x7.tk P3) _ _ hc3), fun w8 m8 => ?_⟩
    generalize qW8 : upd W7 w8 (HO.tup _) = W8
    obtain ⟨u8, f8⟩ := newFacts qW8 m8
    refine ⟨by show 12 ≤ sizeLine; decide, fun w9 m9 => ?_⟩
    generalize qW9 : upd W8 w9 (HO.lst _) = W9
    obtain ⟨u9, f9⟩ := newFacts qW9 m9
    have x8 := x7.trans (Kp.same u8)
    have P8 : Pt W8 p q := (((((((Pl.same u1).same u2).same u3).same u4).same u5).same u6).same u7).same u8
    have P9' := P8.same u9
    obtain ⟨nw1, nw2⟩ := P8.np m9
    obtain ⟨nv1, nv2⟩ := Pl.np m1
    have z8 := kdA hz3 (Ks.kn hN x8 P3)
    have w8' := kdA hw (Ks.kn hN x8 P3)
    have c8 := (x8.tk P3) _ _ hc3
    have b8 := (x8.tk P3) _ _ hbr
    have v38 : Same W3 W8 := (((u4.trans u5).trans u6).trans u7).trans u8
    have j1 : De N W8 (.ref w1) (.list rows) := .lst (hF _ ⟨nv1, nv2, sy1⟩ ((kH3.trans kl).fresh nv1 nv2 m1)) ((u2.trans (u3.trans v38)) _ _ f1) z8
    have j2 : De N W8 (.ref w2) (.tuple (rows.take i)) := .tup ((u3.trans v38) _ _ f2) (z8.take i)
    have j4 : De N W8 (.ref w4) (.tuple (rows ++ [.none])) := .tup (((u5.trans u6).trans (u7.trans u8)) _ _ f4) (z8.append (.cons .non .nil))
    have j5 : De N W8 (.ref w5) (.dict []) := .dic ((u6.trans (u7.trans u8)) _ _ f5)
    have j6 : De N W8 (.ref w6) (.tuple []) := .tup ((u7.trans u8) _ _ f6) .nil
    have j7 : De N W8 (.ref w7) (.tuple [.tuple rows]) := .tup (u8 _ _ f7) (.cons (.tup c8 z8) .nil)
    have j8 : De N W8 (.ref br) (.tuple l) := .tup b8 w8'
    have j9 : De N W8 (.ref w8) (.tuple rows.reverse) := .tup f8 (DeAll.rev z8)
    have oR : okEG (49 * c + 250) (dp + 3) (.tuple rows) = true := by
      have z : (7 * c + 30 + 2) * rows.length ≤ (7 * c + 30 + 2) * 6 := Nat.mul_le_mul_left _ (by omega)
      exact okEG_tup roK (by omega) (by omega)
    have q1 : okEG (51 * c) (dp + 4) (.list rows) = true := wlstOk c2 (by omega) roK
    have q2 : okEG (51 * c) (dp + 4) (.tuple (rows.take i)) = true := wishOk c2 (by rw [List.length_take]; omega) (fun y hy => roK y (List.mem_of_mem_take hy))
    have q4 : okEG (51 * c) (dp + 4) (.tuple (rows ++ [.none])) = true := wishOk c2 (by rw [List.length_append, List.length_singleton]; omega) (mem_app roK (mem_one (sm _ (by decide +kernel))))
    have q7 : okEG (51 * c) (dp + 4) (.tuple [.tuple rows]) = true := okEG_tup (mem_one (P := fun d => okEG (49 * c + 250) (dp + 3) d = true) oR) (by show (49 * c + 250 + 2) * 1 + 3 ≤ _; omega) (by omega)
    have q8 : okEG (51 * c) (dp + 4) (.tuple l) = true := okEG_mono (rowOk c2 d2 (by omega) lo) (by omega) (by omega)
    have q9 : okEG (51 * c) (dp + 4) (.tuple rows.reverse) = true := wishOk c2 (by rw [List.length_reverse]; omega) (fun y hy => roK y (List.mem_reverse.mp hy))
    have qs : ∀ d : PyData, okEG 2000 2 d = true → okEG (51 * c) (dp + 4) d = true := fun d h => okEG_mono h (by omega) (by omega)
    have mo9 := menC (N := N) (P := fun d => okEG (51 * c) (dp + 4) d = true) f9 u9 (.cons j1 q1 (.cons j2 q2 (.cons j4 q4 (.cons .non (qs _ (by decide +kernel)) (.cons (.int _) (qs _ (by decide +kernel)) (.cons (.bl _) (qs _ (by decide +kernel)) (.cons (.str _) (qs _ (by decide +kernel)) (.cons j5 (qs _ (by decide +kernel)) (.cons j6 (qs _ (by decide +kernel)) (.cons j7 q7 (.cons j8 q8 (.cons j9 q9 .nil))))))))))))
    refine ⟨_, rfl, _, rfl, p, q, w9, _, _, rfl, P9', f9, .inl ⟨rfl, nw1, nw2⟩, List.cons_ne_nil _ _, by show 12 < 1000; decide, fun v G hv PG kG => ?_⟩
    obtain ⟨dv, gv, ov⟩ := (mo9.k (Ks.kn hN kG P9')) v hv
    exact k v dv G gv ov PG (kH3.trans ((x8.trans (Kp.same u9)).trans kG))

/-! ### law -/
def rbl (n : Nat) (ds : List PyData) : List Int := (ds.filter fun d => !okRow n d).map fun _ => 1
theorem rbl_next {n : Nat} {ds : List PyData} {i : Nat} {d : PyData} (h : ds[i]? = some d) : rbl n (ds.take (i + 1)) = rbl n (ds.take i) ++ (if okRow n d = true then [] else [1]) := by
  unfold rbl
  rw [take_filter _ h, List.map_append]
  cases okRow n d <;> rfl
theorem rbl_len (n : Nat) (ds : List PyData) : (rbl n ds).length ≤ ds.length := by
  unfold rbl
  rw [List.length_map]
  exact List.length_filter_le _ _
theorem rbl_nil (n : Nat) : ∀ ds : List PyData, (rbl n ds).isEmpty = ds.all (okRow n)
  | [] => rfl
  | d :: ds => by
    have ih := rbl_nil n ds
    unfold rbl at ih ⊢
    rw [List.filter_cons, List.all_cons]
    cases h : okRow n d with
    | true => simpa using ih
    | false => rfl
theorem okE_snoc (x : PyData) : ∀ ds : List PyData, okEAll (ds ++ [x]) = (okEAll ds && okE x) ∧ wtEAll (ds ++ [x]) = wtEAll ds + (wtE x + 2) ∧ PyData.depthAll (ds ++ [x]) = max (PyData.depthAll ds) x.depth
  | [] => ⟨by simp [okEAll], by simp [wtEAll], by simp [PyData.depthAll]⟩
  | d :: ds => by
    obtain ⟨a, b, c⟩ := okE_snoc x ds
    refine ⟨?_, ?_, ?_⟩
    · show (okE d && okEAll (ds ++ [x])) = (okE d && okEAll ds && okE x)
      rw [a, Bool.and_assoc]
    · show wtE d + 2 + wtEAll (ds ++ [x]) = wtE d + 2 + wtEAll ds + (wtE x + 2)
      omega
    · show max d.depth (PyData.depthAll (ds ++ [x])) = max (max d.depth (PyData.depthAll ds)) x.depth
      omega
theorem okEG_snoc {c dp b e : Nat} {ds : List PyData} {x : PyData} (h : okEG c dp (.list ds) = true) (g : okEG b e x = true) (le : e + 1 ≤ dp) : okEG (c + b + 2) dp (.list (ds ++ [x])) = true := by
  obtain ⟨a1, a2, a3⟩ := okEG_iff.mp h
  obtain ⟨b1, b2, b3⟩ := okEG_iff.mp g
  obtain ⟨s1, s2, s3⟩ := okE_snoc x ds
  simp only [okE] at a1
  simp only [wtE] at a2
  simp only [PyData.depth] at a3
  refine okEG_iff.mpr ⟨?_, ?_, ?_⟩
  · simp only [okE, s1, a1, b1, Bool.and_self]
  · simp only [wtE, s2]
    omega
  · simp only [PyData.depth, s3]
    omega
theorem sD_ok {ss : List Int} (ok : Sz ss) (l6 : ss.length ≤ 6) : okEG 12000 1 (sD ss) = true := by
  refine okEG_tup (c := 1921) (dp := 0) (fun x hx => ?_) (by rw [List.length_map]; omega) (by decide)
  obtain ⟨s, hs, rfl⟩ := List.mem_map.mp hx
  obtain ⟨y, rfl, y2, y3⟩ := ok s hs
  exact okEG_int (by rw [Int.natAbs_natCast]; omega)
theorem ws_ok {ws : List (Nat × Nat)} (h : ∀ w ∈ ws, w.1 < 100 ∧ w.2 < 100) (l6 : ws.length ≤ 6) : okEG 25000 2 (.tuple (ws.map wD)) = true := by
  refine okEG_tup (c := 3900) (dp := 1) (fun x hx => ?_) (by rw [List.length_map]; omega) (by decide)
  obtain ⟨w, hw, rfl⟩ := List.mem_map.mp hx
  obtain ⟨a, b⟩ := h w hw
  refine okEG_tup (c := 1921) (dp := 0) (fun x hx => ?_) (by show (1921 + 2) * 2 + 3 ≤ 3900; decide) (by decide)
  rcases List.mem_cons.mp hx with rfl | hx
  · exact okEG_int (by rw [Int.natAbs_natCast]; omega)
  · rw [List.mem_singleton.mp hx]
    exact okEG_int (by rw [Int.natAbs_natCast]; omega)
theorem mD_ok {ss : List Int} {ws : List (Nat × Nat)} (ok : Sz ss) (l6 : ss.length ≤ 6) (h : ∀ w ∈ ws, w.1 < 100 ∧ w.2 < 100) (l6' : ws.length ≤ 6) : okEG 60000 4 (mD ss ws) = true := by
  refine okEG_tup (c := 25000) (dp := 2) (fun x hx => ?_) (by show (25000 + 2) * 2 + 3 ≤ 60000; decide) (by decide)
  rcases List.mem_cons.mp hx with rfl | hx
  · exact okEG_mono (sD_ok ok l6) (by decide) (by decide)
  · rw [List.mem_singleton.mp hx]
    exact ws_ok h l6'
theorem Werr.ok {ss : List Int} {d e : PyData} (h : Werr ss d e) (l6 : ss.length ≤ 6) : okEG 8000 2 e = true := by
  cases h with
  | form _ => decide +kernel
  | row l hi _ _ =>
    refine okEG_tup (c := 1921) (dp := 0) (fun x hx => ?_) (by show (1921 + 2) * 2 + 3 ≤ 8000; decide) (by decide)
    rcases List.mem_cons.mp hx with rfl | hx
    · decide +kernel
    · rw [List.mem_singleton.mp hx]
      exact okEG_int (by rw [Int.natAbs_natCast]; omega)
  | entry l _ hi hj _ _ =>
    refine okEG_tup (c := 1921) (dp := 0) (fun x hx => ?_) (by show (1921 + 2) * 3 + 3 ≤ 8000; decide) (by decide)
    rcases List.mem_cons.mp hx with rfl | hx
    · decide +kernel
    rcases List.mem_cons.mp hx with rfl | hx
    · exact okEG_int (by rw [Int.natAbs_natCast]; omega)
    · rw [List.mem_singleton.mp hx]
      exact okEG_int (by rw [Int.natAbs_natCast]; omega)
  | none _ _ _ => decide +kernel
theorem two_ok {e : PyData} (h : okEG 8000 2 e = true) : okEG 20000 3 (.list [e, e]) = true := by
  refine okEG_lst (c := 8000) (dp := 2) (fun x hx => ?_) (by show (8000 + 2) * 2 + 3 ≤ 20000; decide) (by decide)
  rcases List.mem_cons.mp hx with rfl | hx
  · exact h
  · rw [List.mem_singleton.mp hx]
    exact h
theorem OkW.of_im {n : Nat} {l : List PyData} (h : RowI n l) : OkW n 2000 2 (.tuple l) := .inr ⟨l, rfl, h.1, fun x hx => by
  obtain ⟨z, rfl, zb⟩ := h.2 x hx
  exact ok_iZ zb⟩
abbrev sc_lawN : List Str := ["script", "deck", "turn", "sizes", "i", "pairs", "machine", "wish", "values", "twice", "kept", "place", "value", "told", "j", "row"]
theorem sc_law : FnScope sc_lawN ["script"] (defScope s_law) := ⟨rfl, rfl, rfl, by decide +kernel, rfl, by decide +kernel, by decide +kernel⟩
theorem ok_law {f : Addr} {fd : FuncData} (F : Fun K "law" "law" s_law f fd) (T : Blt mg) (T_zip : mg "zip" = none) (c_l_deck : Cal P w K mg base 1 "_law_deck" (spDeck K)) (c_l_draw : Cal P w K mg base 1 "_law_draw" spDraw) (c_l_sizes : Cal P w K mg base 3 "_law_sizes" spSizes) (c_l_row : Cal P w K mg base 3 "_law_row" spRow) (c_l_turned : Cal P w K mg base 4 "_law_turned" spTurned)
    (c_l_due : Cal P w K mg base 3 "_law_due" spDue) (c_wish_error : Cal P w K mg base 5 "wish_error" spWerr) (k_wish_error_vm : CalK P w K mg base 5 "wish_error" spWerr ["value", "machine"] kg21c) : GFn P w K mg base 6 f fd ["script"] (spLaw K) := by
  refine gfn_of F sc_law (fun vs H Q E h => ?_) (fun cdv A outer s H vs Q E hcd0 hg hr h => ?_)
  · obtain ⟨a, ns, rfl, _⟩ := h
    rfl
  · obtain ⟨sa, ns, rfl, hS, hlen, k⟩ := h
    refine ⟨_, (pss_cons (ps_set (i := 1) sc_law.nd rfl (.inr rfl) (pe_c c_l_deck hr (by decide) rfl (pa_cons (pv 0) pa_nil)))
      (pss_cons (ps_for PassesOwn.never rfl (pi_range1 (by rfl) T.range (pa_cons pe_int pa_nil)) (pg_name (i := 2) sc_law.nd rfl (.inl rfl)) (pss_cons (ps_set (i := 3) sc_law.nd rfl (.inr rfl) (pe_c c_l_sizes hr (by decide) rfl (pa_cons (pv 1) pa_nil)))
      (pss_cons (ps_setLc (i := 5) (own := [("j", 14), ("i", 4)]) rfl sc_law.nd rfl rfl (sw_true rfl rfl rfl (by decide +kernel)) (pi_zipR (by rfl) T_zip (pa_cons (pe_callTy cr_rangeV1 (by rfl) T.range (by decide +kernel) (pa_cons (pe_callB (call_lenK K rfl) (by rfl) T.len PySem.boot_len (pa_cons (pv 3) pa_nil)) pa_nil)) (pa_cons (pe_callTy cr_rangeV2 (by rfl) T.range (by decide +kernel) (pa_cons pe_int (pa_cons (pe_callB (call_lenK K rfl) (by rfl) T.len PySem.boot_len (pa_cons (pv 3) pa_nil)) pa_nil))) pa_nil))) (blkOk_by (N := sc_lawN) (sc := defScope s_law) (by decide +kernel)) (fun _ _ _ _ _ => (pg_tupK (n := 2) K rfl rfl (pgs_cons (pg_name (i := 14) sc_law.nd rfl (by first | exact .inl rfl | exact .inr rfl)) (pgs_cons (pg_name (i := 4) sc_law.nd rfl (by first | exact .inl rfl | exact .inr rfl)) pgs_nil)))) (fun _ _ _ _ _ => (pts_one (pt_cmpR op_eq (pe_c c_l_draw hr (by decide) rfl (pa_cons (pv 1) (pa_cons pe_int pa_nil))) pe_int (nomark _)))) (fun _ _ _ _ _ => (pe_tup (pa_cons (pv 14) (pa_cons (pv 4) pa_nil)))))
      (pss_cons (ps_par (i := 6) (j := 7) rfl sc_law.nd rfl rfl (by decide) rfl rfl (pa_cons (pe_tup (pa_cons (pv 3) (pa_cons (pe_callTy (call_tupleK K rfl) (by rfl) T.tuple (by decide +kernel) (pa_cons (pv 5) pa_nil)) pa_nil))) (pa_cons (pe_lst pa_nil) pa_nil)) (by rfl))
      (pss_cons (ps_for PassesOwn.never rfl (pi_range1 (by rfl) T.range (pa_cons (pe_callB (call_lenK K rfl) (by rfl) T.len PySem.boot_len (pa_cons (pv 3) pa_nil)) pa_nil)) (pg_name (i := 4) sc_law.nd rfl (.inl rfl)) (pss_one (ps_expr (pe_bm PySem.F.plainAttrs_list PySem.F.slot_list_append PySem.F.type_list_append mt_append (pv 7) (pa_cons (pe_ifExp (pt_cmpR op_gt (pe_c c_l_draw hr (by decide) rfl (pa_cons (pv 1) (pa_cons pe_int pa_nil))) pe_int (nomark _)) (pe_c c_l_row hr (by decide) rfl (pa_cons (pv 1) (pa_cons (pv 3) (pa_cons (pv 4) pa_nil)))) pe_non) pa_nil)))))
      (pss_cons (ps_set (i := 8) sc_law.nd rfl (.inl rfl) (pe_lstN (pa_cons (pe_callTy (call_tupleK K rfl) (by rfl) T.tuple (by decide +kernel) (pa_cons (pv 7) pa_nil)) (pa_cons (pe_c c_l_turned hr (by decide) rfl (pa_cons (pv 1) (pa_cons (pv 3) (pa_cons (pe_callTy (call_tupleK K rfl) (by rfl) T.tuple (by decide +kernel) (pa_cons (pv 7) pa_nil)) pa_nil)))) (pa_cons (pe_c c_l_turned hr (by decide) rfl (pa_cons (pv 1) (pa_cons (pv 3) (pa_cons (pe_callTy (call_tupleK K rfl) (by rfl) T.tuple (by decide +kernel) (pa_cons (pv 7) pa_nil)) pa_nil)))) pa_nil)))))
      (pss_cons (ps_set (i := 9) sc_law.nd rfl (.inl rfl) (pe_c c_l_turned hr (by decide) rfl (pa_cons (pv 1) (pa_cons (pv 3) (pa_cons (pe_callTy (call_tupleK K rfl) (by rfl) T.tuple (by decide +kernel) (pa_cons (pv 7) pa_nil)) pa_nil)))))
      (pss_cons (ps_if (PW.pt (pw_and (pt_val (pe_callB (call_isiK' K rfl) (by rfl) T.isinstance (by decide +kernel) (pa_cons (pv 9) (pa_cons (pe_bltn (v := .ty "tuple") (u := .type "tuple") (by rfl) T.tuple (by decide +kernel) rfl) pa_nil)))) (pw_and (pt_cmpR op_eq (pe_callB (call_lenK K rfl) (by rfl) T.len PySem.boot_len (pa_cons (pv 9) pa_nil)) (pe_callB (call_lenK K rfl) (by rfl) T.len PySem.boot_len (pa_cons (pv 3) pa_nil)) (nomark _)) (pw_and1 (pt_val (pe_callB (call_isiK' K rfl) (by rfl) T.isinstance (by decide +kernel) (pa_cons (pe_c c_l_due hr (by decide) rfl (pa_cons (pv 3) (pa_cons (pv 9) pa_nil))) (pa_cons (pe_bltn (v := .ty "tuple") (u := .type "tuple") (by rfl) T.tuple (by decide +kernel) rfl) pa_nil)))))))) (pss_one (ps_if (pt_cmpR (op_eqDK K rfl hr.units) (pe_lc (own := [("row", 15)]) rfl sc_law.nd (pi_tupK K rfl (pv 9)) (blkOk_by (N := sc_lawN) (sc := defScope s_law) (by decide +kernel)) (fun _ _ _ _ _ => (pg_name (i := 15) sc_law.nd rfl (by first | exact .inl rfl | exact .inr rfl))) (fun _ _ _ _ _ => (pts_one (PW.pt (pw_and (pt_cmpR op_notN (pv 15) pe_non (nomark _)) (pw_and1 (PW.pt (pw_or (pt_not (pt_val (pe_callB (call_isiK' K rfl) (by rfl) T.isinstance (by decide +kernel) (pa_cons (pv 15) (pa_cons (pe_bltn (v := .ty "tuple") (u := .type "tuple") (by rfl) T.tuple (by decide +kernel) rfl) pa_nil))))) (pw_or1 (pt_cmpR op_ne (pe_callB (call_lenK K rfl) (by rfl) T.len PySem.boot_len (pa_cons (pv 15) pa_nil)) (pe_callB (call_lenK K rfl) (by rfl) T.len PySem.boot_len (pa_cons (pv 3) pa_nil)) (nomark _)))))))))) (fun _ _ _ _ _ => pe_int)) (pe_lst pa_nil) (nomark _)) (pss_one (ps_expr (pe_bm PySem.F.plainAttrs_list PySem.F.slot_list_append PySem.F.type_list_append mt_append (pv 8) (pa_cons (pe_c c_l_turned hr (by decide) rfl (pa_cons (pv 1) (pa_cons (pv 3) (pa_cons (pv 9) pa_nil)))) pa_nil)))) pss_nil)) pss_nil)
      (pss_cons (ps_set (i := 10) sc_law.nd rfl (.inl rfl) (pe_callB (call_reprE hg hr) (by rfl) T.repr boot_repr (pa_cons (pe_lstN (pa_cons (pv 6) (pa_cons (pv 8) pa_nil))) pa_nil)))
      (pss_cons (ps_for PassesOwn.never rfl (pi_enum (by rfl) T.enumerate (pa_cons (pv 8) pa_nil)) (pg_tup rfl (pgs_cons (pg_name (i := 11) sc_law.nd rfl (.inl rfl)) (pgs_cons (pg_name (i := 12) sc_law.nd rfl (.inl rfl)) pgs_nil))) (pss_cons (ps_set (i := 13) sc_law.nd rfl (.inl rfl) (pe_ifExp (pt_cmpR op_eq (pv 11) (pv 2) (nomark _)) (pe_ck k_wish_error_vm hr (by decide) rfl (pk_cons (pv 12) (pk_cons (pv 6) pk_nil))) (pe_c c_wish_error hr (by decide) rfl (pa_cons (pv 6) (pa_cons (pv 12) pa_nil)))))
      (pss_one (ps_if (pt_cmpR op_ne (pe_callB (call_reprE hg hr) (by rfl) T.repr boot_repr (pa_cons (pe_lstN (pa_cons (pv 13) (pa_cons (pe_c c_wish_error hr (by decide) rfl (pa_cons (pv 6) (pa_cons (pv 12) pa_nil))) pa_nil))) pa_nil)) (pe_callB (call_reprE hg hr) (by rfl) T.repr boot_repr (pa_cons (pe_op op_repL (pe_lstN (pa_cons (pe_c c_l_due hr (by decide) rfl (pa_cons (pv 3) (pa_cons (pv 12) pa_nil))) pa_nil)) pe_int) pa_nil)) (nomark _)) (pss_one (ps_ret pe_bl)) pss_nil))))
      (pss_one (ps_if (pt_cmpR op_ne (pe_callB (call_reprE hg hr) (by rfl) T.repr boot_repr (pa_cons (pe_lstN (pa_cons (pv 6) (pa_cons (pv 8) pa_nil))) pa_nil)) (pv 10) (nomark _)) (pss_one (ps_ret pe_bl)) pss_nil))))))))))))
      (pss_one (ps_ret pe_bl)))), ?_⟩
    refine ⟨_, rfl, sa, ns, rfl, hS, hlen, fun p q H1 P1 sm1 np nq => ?_⟩
    refine ⟨9, rfl, by decide, by decide, for_range (lo := 0) (n := 9) (fun _ σ H' => ∃ v2 v3 v4 v5 v6 v7 v8 v9 v10 v11 v12 v13 : Option V, σ = [some (.ref sa), some (.ref p), v2, v3, v4, v5, v6, v7, v8, v9, v10, v11, v12, v13, none, none] ∧ Pt H' p q)
      ⟨none, none, none, none, none, none, none, none, none, none, none, none, rfl, P1⟩ ?_ ?_⟩
    · rintro t σ H2 ht ⟨v2, v3, v4, v5, v6, v7, v8, v9, v10, v11, v12, v13, rfl, P2⟩
      refine ⟨_, rfl, p, q, rfl, P2, fun sv ss H3 is l1 l6 ok P3 k3 => ?_⟩
      obtain ⟨b, ys, rfl, hb, ib⟩ := id is.tuple
      have ey := ib.ints
      subst ey
      refine ⟨_, rfl, b, _, rfl, .inr (SqT.of hb), _, rfl, fun r1 nr1 => ?_⟩
      rw [List.length_map]
      generalize qr1 : upd H3 r1 (HO.rng _ _) = R1
      obtain ⟨s1, h1⟩ := newFacts qr1 nr1
      refine ⟨_, rfl, b, _, rfl, .inr (SqT.of (s1 _ _ hb)), _, _, rfl, fun r2 nr2 => ?_⟩
      rw [List.length_map]
      generalize qr2 : upd R1 r2 (HO.rng _ _) = R2
      obtain ⟨s2, h2⟩ := newFacts qr2 nr2
      have P4 := (P3.same s1).same s2
      have s4 := s1.trans s2
      refine ⟨r1, r2, _, _, _, _, rfl, s2 _ _ h1, h2, ⟨by decide, by decide, by omega, by omega⟩, ⟨by decide, by decide, by omega, by omega⟩, fun D nD => ?_⟩
      obtain ⟨nD1, nD2⟩ := P4.np nD
      have nD3 : H3 D = none := Same.free s4 nD
      refine lc_it (walk_zipR (n := ss.length - 1) (by omega)) (fun i H' => Pt H' p q ∧ Kp p q H3 H' ∧ ∃ (us : List V) (ws : List (Nat × Nat)), H' D = some (.lst us) ∧ ImAll H' us (ws.map wD) ∧ ws.length ≤ i ∧ ∀ w ∈ ws, w.1 < 100 ∧ w.2 < 100)
        ⟨P4.new nD, (Kp.same s4).new nD, [], [], upd_same, .nil, Nat.le_refl _, fun w hw => by cases hw⟩ (fun _ _ _ _ => trivial) ?_ ?_
      · rintro i x H5 H6 hi ⟨P5, k5, us, ws, hD, iD, lw, bw⟩ ⟨T1, rfl, nT, rfl⟩
        have lu := iD.length
        rw [List.length_map] at lu
        refine ⟨T1, _, rfl, SqT.of upd_same, rfl, _, _, rfl, _, _, rfl, rfl, rfl, ?_⟩
        generalize qT : upd H5 T1 (HO.tup _) = H6
        obtain ⟨s6, _⟩ := newFacts qT nT
        have P6 := P5.same s6
        have k6 := k5.trans (Kp.same s6)
        refine ⟨_, rfl, p, q, _, rfl, P6, by decide, fun r H7 r0 r1 _ P7 k7 => ⟨rfl, _, rfl, ?_⟩⟩
        have k37 := k6.trans k7
        have hD7 : H7 D = some (.lst us) := k7 _ _ nD1 nD2 (s6 _ _ hD)
        have iD7 : ImAll H7 us (ws.map wD) := (iD.k (Tk.same s6)).k (k7.tk P6)
        refine ite2 (fun _ => ?_) (fun _ => ⟨P7, k37, us, ws, hD7, iD7, by omega, bw⟩)
        refine ⟨_, rfl, _, rfl, by show 2 ≤ sizeLine; decide, fun T2 nT2 => ?_⟩
        generalize qT2 : upd H7 T2 (HO.tup _) = H8
        obtain ⟨s8, h8⟩ := newFacts qT2 nT2
        have P8 := P7.same s8
        have hD8 := s8 _ _ hD7
        have nn : ¬ D = T2 := ne_of_none hD7 nT2
        refine ⟨us, hD8, small1000 (by omega), P8.put nD1 nD2, (k37.trans (Kp.same s8)).put nD3, us ++ [.ref T2], ws ++ [(i, i + 1)], upd_same, ?_, by rw [List.length_append, List.length_singleton]; omega, fun w hw => ?_⟩
        · rw [List.map_append]
          have tk : Tk H8 (upd H8 D (.lst (us ++ [.ref T2]))) := (Tk.refl H8).put hD8
          refine ((iD7.k (Tk.same s8)).k tk).append (.cons (.tup (tk _ _ h8) (.cons ?_ (.cons ?_ .nil))) .nil)
          · rw [show (0 : Int) + (i : Nat) = ((i : Nat) : Int) by omega]
            exact .int _
          · rw [show (1 : Int) + (i : Nat) = ((i + 1 : Nat) : Int) by omega]
            exact .int _
        · rcases List.mem_append.mp hw with hw | hw
          · exact bw w hw
          · rw [List.mem_singleton.mp hw]
            exact ⟨by show i < 100; omega, by show i + 1 < 100; omega⟩
      rintro H5 ⟨P5, k5, us, ws, hD, iD, lw, bw⟩
      refine ⟨_, rfl, _, rfl, D, _, rfl, .inl ⟨SqL.of hD, fun wt nwt => ?_⟩⟩
      generalize qw : upd H5 wt (HO.tup _) = H6
      obtain ⟨s6, h6⟩ := newFacts qw nwt
      refine ⟨by show 2 ≤ sizeLine; decide, fun ma nma => ?_⟩
      generalize qm : upd H6 ma (HO.tup _) = H7
      obtain ⟨s7, h7⟩ := newFacts qm nma
      have k37 := k5.trans (Kp.same (s6.trans s7))
      have P7 := P5.same (s6.trans s7)
      have im7 : Im H7 (.ref ma) (mD ss ws) := .tup h7 (.cons (is.k (k37.tk P3)) (.cons (.tup (s7 _ _ h6) (iD.k (Tk.same (s6.trans s7)))) .nil))
      have okm := mD_ok ok l6 bw (by omega)
      refine ⟨Nat.zero_le _, fun wl nwl => ⟨_, _, rfl, ?_⟩⟩
      generalize qwl : upd H7 wl (HO.lst _) = H8
      obtain ⟨s8, h8⟩ := newFacts qwl nwl
      have P8 := P7.same s8
      obtain ⟨nwl1, nwl2⟩ := P7.np nwl
      have k38 := k37.trans (Kp.same s8)
      have nwl3 : H3 wl = none := k37.fresh nwl1 nwl2 nwl
      have im8 := Same.k s8 im7
      clear iD hD
      refine ⟨_, rfl, b, _, rfl, .inr (SqT.of ((k38.tk P3) _ _ hb)), _, rfl, by rw [List.length_map]; omega, by rw [List.length_map]; omega, for_range (lo := 0) (n := _) (fun i σ H' => ∃ (v4 : Option V) (zs : List V) (rows : List PyData), σ = [some (.ref sa), some (.ref p), some (.int (0 + (t : Int))), some (.ref b), v4, some (.ref D), some (.ref ma), some (.ref wl), v8, v9, v10, v11, v12, v13, none, none] ∧ Pt H' p q ∧ Kp p q H7 H' ∧ H' wl = some (.lst zs) ∧ ImAll H' zs rows ∧ rows.length = i ∧ ∀ r ∈ rows, OkW ss.length 2000 2 r)
        ⟨v4, [], [], rfl, P8, Kp.same s8, h8, .nil, rfl, fun r hr => by cases hr⟩ ?_ ?_⟩
      · rintro i σ H9 hi ⟨v4, zs, rows, rfl, P9, k9, h9, iz, lr, ro⟩
        rw [List.length_map] at hi
        have il : i < ss.length := by omega
        have lz := iz.length
        rw [show (0 : Int) + (i : Int) = ((i : Nat) : Int) by omega]
        refine ⟨_, rfl, .inl ⟨rfl, _, SqL.of h9⟩, _, rfl, p, q, _, rfl, P9, by decide, fun r HA _ _ _ PA kA => ⟨_, _, rfl, rfl, _, rfl, ?_⟩⟩
        have next : ∀ (u : V) (d : PyData) (HB : Hp), Im HB u d → OkW ss.length 2000 2 d → Pt HB p q → Kp p q H9 HB → ∃ (zs' : List V), HB wl = some (.lst zs') ∧ zs'.length < sizeLine ∧ Pt (upd HB wl (.lst (zs' ++ [u]))) p q ∧ Kp p q H7 (upd HB wl (.lst (zs' ++ [u]))) ∧ ImAll (upd HB wl (.lst (zs' ++ [u]))) (zs' ++ [u]) (rows ++ [d]) ∧ zs' = zs := fun u d HB iu ou PB kB => by
          have hwB := kB _ _ nwl1 nwl2 h9
          have tk : Tk HB (upd HB wl (.lst (zs ++ [u]))) := (Tk.refl HB).put hwB
          exact ⟨zs, hwB, small1000 (by omega), PB.put nwl1 nwl2, (k9.trans kB).put nwl, ((iz.k (kB.tk P9)).k tk).append (.cons (iu.k tk) .nil), rfl⟩
        refine shareV (N := fun u H' => ∃ d, Im H' u d ∧ OkW ss.length 2000 2 d ∧ Pt H' p q ∧ Kp p q H9 H') (fun _ rr => ?_) (fun _ rr => rr _ _ ⟨.none, .non, .inl rfl, PA, kA⟩) ?_
        · refine ⟨_, rfl, _, rfl, _, rfl, p, q, _, ss, i, rfl, PA, is.k (((k37.trans k9).trans kA).tk P3), ok, l6, il, fun u l HB iu hl PB kB => rr _ _ ⟨_, iu, OkW.of_im hl, PB, kA.trans kB⟩⟩
        rintro u HB ⟨d, iu, ou, PB, kB⟩
        obtain ⟨zs', hwB, lz', PC, kC, iC, rfl⟩ := next u d HB iu ou PB kB
        refine ⟨wl, _, _, rfl, rfl, hwB, lz', ?_⟩
        refine ⟨_, zs' ++ [u], rows ++ [d], rfl, PC, kC, upd_same, iC, by rw [List.length_append, List.length_singleton, lr], fun r hr => ?_⟩
        rcases List.mem_append.mp hr with hr | hr
        · exact ro r hr
        · rw [List.mem_singleton.mp hr]
          exact ou
      rintro σ H9 ⟨v4, zs, rows, rfl, P9, k9, h9, iz, lr, ro⟩
      rw [List.length_map] at lr
      have lz : zs.length = ss.length := by rw [iz.length]; omega
      have k39 := k37.trans k9
      have gz : ∀ N : Addr → Prop, DeAll N H9 zs rows := fun N => NA.DeAll.of_dg (ImAll.toDg _ _ iz)
      have okw : okEG 102000 6 (.tuple rows) = true := wishOk (c := 2000) (dp := 2) (by decide) (by omega) (fun r hr => (ro r hr).ok l6 (by decide) (by decide))
      refine ⟨_, rfl, wl, _, rfl, .inl ⟨SqL.of h9, fun t1 n1 => ?_⟩⟩
      generalize q1 : upd H9 t1 (HO.tup _) = A1
      obtain ⟨a1, f1⟩ := newFacts q1 n1
      refine ⟨_, rfl, _, rfl, _, rfl, wl, _, rfl, .inl ⟨SqL.of (a1 _ _ h9), fun t2 n2 => ?_⟩⟩
      generalize q2 : upd A1 t2 (HO.tup _) = A2
      obtain ⟨a2, f2⟩ := newFacts q2 n2
      have k92 : Kp p q H9 A2 := Kp.same (a1.trans a2)
      have PA2 := P9.same (a1.trans a2)
      have is3 : ∀ HX, Kp p q H9 HX → Im HX (.ref b) (sD ss) := fun HX kx => is.k ((k39.trans kx).tk P3)
      have gzx : ∀ (N : Addr → Prop) HX, Kp p q H9 HX → DeAll N HX zs rows := fun N HX kx => NA.DeAll.of_dg (ImAll.toDg _ _ (iz.k (kx.tk P9)))
      refine ⟨p, q, _, _, ss, rows, 2000, 2, Nq p q, rfl, PA2, is3 _ k92, ok, l1, l6, fun _ z => z, fun _ z _ => z, .tup f2 (gzx _ _ k92), lr, ro, by decide, by decide, fun u2 d2 A3 g2 o2 PA3 kA3 => ?_⟩
      have k93 := k92.trans kA3
      have hw3 := k93 _ _ nwl1 nwl2 h9
      refine ⟨_, rfl, _, rfl, _, rfl, wl, _, rfl, .inl ⟨SqL.of hw3, fun t3 n3 => ?_⟩⟩
      generalize q3 : upd A3 t3 (HO.tup _) = A4
      obtain ⟨a4, f4⟩ := newFacts q3 n3
      have k94 := k93.trans (Kp.same a4)
      have PA4 := PA3.same a4
      refine ⟨p, q, _, _, ss, rows, 2000, 2, Nq p q, rfl, PA4, is3 _ k94, ok, l1, l6, fun _ z => z, fun _ z _ => z, .tup f4 (gzx _ _ k94), lr, ro, by decide, by decide, fun u3 d3 A5 g3 o3 PA5 kA5 => ?_⟩
      have k95 := k94.trans kA5
      have g1' : De (Nq p q) A5 (.ref t1) (.tuple rows) := .tup ((kA3.trans ((Kp.same a4).trans kA5)).tk PA2 _ _ (a2 _ _ f1)) (gzx _ _ k95)
      have g2' : De (Nq p q) A5 u2 d2 := kd g2 (Ks.kq ((Kp.same a4).trans kA5) PA3)
      refine ⟨by show 3 ≤ sizeLine; decide, fun vl nvl svl => ?_⟩
      generalize qv : upd A5 vl (HO.lst _) = B0
      obtain ⟨sB, fB⟩ := newFacts qv nvl
      obtain ⟨nv1, nv2⟩ := PA5.np nvl
      have PB0 := PA5.same sB
      have kB0 := k95.trans (Kp.same sB)
      generalize eN : (fun b => Nq p q b ∧ b ≠ vl) = N at *
      have hN : ∀ b, N b → Nq p q b := fun b hb => by rw [← eN] at hb; exact hb.1
      have hNv : ∀ b, N b → b ≠ vl := fun b hb => by rw [← eN] at hb; exact hb.2
      have hNi : ∀ b, Nq p q b → b ≠ vl → N b := fun b h1 h2 => by rw [← eN]; exact ⟨h1, h2⟩
      have toN : ∀ (u : V) (d : PyData), De (Nq p q) A5 u d → De N B0 u d := fun u d g => widerD (Ks.same sB) (fun b hb => hNi b hb.1 (fun e => hb.2 (by rw [e]; exact nvl))) (live g)
      have dB : DeAll N B0 [.ref t1, u2, u3] [.tuple rows, d2, d3] := .cons (toN _ _ g1') (.cons (toN _ _ g2') (.cons (toN _ _ g3) .nil))
      have oB : okEG 400000 12 (.list [.tuple rows, d2, d3]) = true := by
        refine okEG_lst (c := 102000) (dp := 6) (fun x hx => ?_) (by show (102000 + 2) * 3 + 3 ≤ 400000; decide) (by decide)
        rcases List.mem_cons.mp hx with rfl | hx
        · exact okw
        rcases List.mem_cons.mp hx with rfl | hx
        · exact o2
        · rw [List.mem_singleton.mp hx]
          exact o3
      have hwB := kB0 _ _ nwl1 nwl2 h9
      refine ⟨_, rfl, _, rfl, _, rfl, wl, _, rfl, .inl ⟨SqL.of hwB, fun t4 n4 => ?_⟩⟩
      generalize q4 : upd B0 t4 (HO.tup _) = B1
      obtain ⟨b1, f5⟩ := newFacts q4 n4
      have kB1 := kB0.trans (Kp.same b1)
      have PB1 := PB0.same b1
      have hvB1 := b1 _ _ fB
      have hFr : ∀ (HX : Hp), HX vl ≠ none → ∀ b, Nq p q b → HX b = none → N b := fun HX hx b hb hn => hNi b hb (fun e => hx (by rw [← e]; exact hn))
      refine ⟨p, q, _, _, ss, rows, 2000, 2, N, rfl, PB1, is3 _ kB1, ok, l1, l6, hN, hFr _ (by rw [hvB1]; intro z; cases z), .tup f5 (gzx _ _ kB1), lr, ro, by decide, by decide, fun tw dtw B2 gtw otw PB2 kB2 => ?_⟩
      have kB12 := kB1.trans kB2
      have hvB2 := kB2 _ _ nv1 nv2 hvB1
      have dB2 : DeAll N B2 [.ref t1, u2, u3] [.tuple rows, d2, d3] := kdA (kdA dB (Ks.same b1)) (Ks.kn hN kB2 PB1)
      dsimp only
      refine ifS_share (N := fun σ' H' => ∃ (xs : List V) (ds : List PyData), σ' = [some (.ref sa), some (.ref p), some (.int (0 + (t : Int))), some (.ref b), v4, some (.ref D), some (.ref ma), some (.ref wl), some (.ref vl), some tw, v10, v11, v12, v13, none, none] ∧ H' vl = some (.lst xs) ∧ DeAll N H' xs ds ∧ okEG 6000000 12 (.list ds) = true ∧ xs.length ≤ 4 ∧ Pt H' p q ∧ Kp p q H9 H') (fun rest => ?_) ?_
      · have rest0 : ∀ H', Same B2 H' → _ := fun H' s' => rest [some (.ref sa), some (.ref p), some (.int (0 + (t : Int))), some (.ref b), v4, some (.ref D), some (.ref ma), some (.ref wl), some (.ref vl), some tw, v10, v11, v12, v13, none, none] H' ⟨_, _, rfl, s' _ _ hvB2, kdA dB2 (Ks.same s'), okEG_mono oB (by decide) (by decide), by show 3 ≤ 4; decide, PB2.same s', kB12.trans (Kp.same s')⟩
        refine ⟨_, rfl, _, _, _, _, _, rfl, tyT, gtw.ty, kit_tup K dtw, _, rfl, ?_⟩
        cases i1 : isT dtw with
        | false => exact iteF (rest0 _ (Same.refl B2))
        | true =>
        obtain ⟨qa, us', es, rfl, rfl, hqa, hes⟩ := gtw.tuple i1
        have le := hes.length
        refine iteT ⟨_, rfl, qa, _, rfl, .inr (SqT.of hqa), _, rfl, b, _, rfl, .inr (SqT.of ((((k39.trans kB12).tk P3)) _ _ hb)), rfl, _, rfl, ?_⟩
        rw [hes.length, List.length_map, dec_int, row_dec]
        cases i2 : isRow ss.length (.tuple es) with
        | false => exact iteF (rest0 _ (Same.refl B2))
        | true =>
        have el : es.length = ss.length := of_decide_eq_true i2
        refine iteT ⟨_, rfl, _, rfl, _, _, ss, _, N, rfl, is3 _ kB12, ok, l6, gtw, fun ue ee B3 we iue sB3 => ⟨_, _, _, _, _, rfl, tyT, (De.of_im (N := N) iue).ty, kit_tup K ee, _, rfl, ?_⟩⟩
        cases i3 : isT ee with
        | false => exact iteF (rest0 _ sB3)
        | true =>
        refine iteT ?_
        refine ⟨_, rfl, qa, rfl, ⟨_, SqT.of (sB3 _ _ hqa)⟩, fun l nl => ?_⟩
        refine lc_tup (K := K) (a := qa) (xs := us') (fun j H' => Same B3 H' ∧ H' l = some (.lst ((rbl ss.length (es.take j)).map V.int))) ⟨Same.new (Same.refl B3) nl, upd_same⟩ (fun j H' _ z => SqT.of (z.1 _ _ (sB3 _ _ hqa))) ?_ ?_
        · rintro j z H1 hz ⟨sm, hl⟩
          obtain ⟨dz, g1, dg0⟩ := (DA.kdA hes (Ks.same (sB3.trans sm))).get hz
          have nx := rbl_next (n := ss.length) g1
          have ll := rbl_len ss.length (es.take j)
          have l2 : (es.take j).length ≤ 6 := by
            rw [List.length_take]
            omega
          have bad : okRow ss.length dz = false → ∃ acc : List V, H1 l = some (.lst acc) ∧ acc.length < sizeLine ∧ (Same B3 (upd H1 l (.lst (acc ++ [V.int 1]))) ∧ (upd H1 l (.lst (acc ++ [V.int 1]))) l = some (.lst ((rbl ss.length (es.take (j + 1))).map V.int))) := fun hb =>
            ⟨_, hl, small1000 (by rw [List.length_map]; omega), Same.put sm nl, by rw [upd_same, nx, hb, if_neg (by decide), List.map_append]; rfl⟩
          have good : okRow ss.length dz = true → Same B3 H1 ∧ H1 l = some (.lst ((rbl ss.length (es.take (j + 1))).map V.int)) := fun hb =>
            ⟨sm, by rw [nx, if_pos hb, List.append_nil]; exact hl⟩
          refine ⟨rfl, ⟨_, rfl, rfl, _, rfl, ?_⟩⟩
          rw [de_isN dg0]
          cases hn : isN dz with
          | true => exact iteF (good (by unfold okRow; rw [hn, Bool.true_or]))
          | false =>
          refine iteT ⟨_, rfl, _, _, _, _, _, rfl, tyT, dg0.ty, kit_tup K dz, _, rfl, ?_⟩
          cases i1 : isT dz with
          | false => exact iteT (iteT (bad (by unfold okRow; rw [hn, isRow_T i1]; rfl)))
          | true =>
          obtain ⟨q', us2, es2, rfl, rfl, hq', hes2⟩ := dg0.tuple i1
          refine iteF ⟨_, rfl, q', _, rfl, .inr (SqT.of hq'), _, rfl, b, _, rfl, .inr (SqT.of ((sB3.trans sm) _ _ (((k39.trans kB12).tk P3) _ _ hb))), rfl, _, rfl, ?_⟩
          rw [hes2.length, List.length_map, dec_int, row_dec]
          cases i2 : isRow ss.length (.tuple es2) with
          | false => exact iteT (bad (by unfold okRow; rw [i2]; rfl))
          | true => exact iteF (good (by unfold okRow; rw [i2, Bool.or_true]))
        rintro H1 ⟨sm, hl⟩
        have full : es.take us'.length = es := by rw [le, List.take_length]
        rw [full] at hl
        refine ⟨by show 0 ≤ sizeLine; decide, fun c0 nc0 => ?_⟩
        generalize qc : upd H1 c0 (HO.lst _) = H2
        obtain ⟨sc2, hc2⟩ := newFacts qc nc0
        have hl2 := sc2 _ _ hl
        refine ⟨.list ((rbl ss.length es).map PyData.int), .list [], .lst (SqL.of hl2) (DpAll.ints K _ _), .lst (SqL.of hc2) .nil, shaped_ints _, rfl, _, rfl, ?_⟩
        rw [eqv_nil, rbl_nil]
        have sBH : Same B2 H2 := (sB3.trans sm).trans sc2
        cases h2 : es.all (okRow ss.length) with
        | false => exact iteF (rest0 _ sBH)
        | true =>
        have rok : ∀ r ∈ es, OkW ss.length 102000 6 r := fun r hr => by
          have z := List.all_eq_true.mp h2 r hr
          unfold okRow at z
          have oi := okEG_item otw hr
          cases hn : isN r with
          | true => exact .inl (by cases r <;> first | rfl | cases hn)
          | false =>
            rw [hn, Bool.false_or] at z
            obtain ⟨l, rfl, ll⟩ := row_of z
            exact .inr ⟨l, rfl, ll, fun x hx => okEG_item oi hx⟩
        have hvH := sBH _ _ hvB2
        refine iteT ⟨_, rfl, .inl ⟨rfl, _, SqL.of hvH⟩, _, rfl, _, rfl, _, rfl, p, q, _, _, ss, es, 102000, 6, N, rfl, PB2.same sBH, is3 _ (kB12.trans (Kp.same sBH)), ok, l1, l6, hN, hFr _ (by rw [hvH]; intro z; cases z), kd gtw (Ks.same sBH), el, rok, by decide, by decide, fun u4 d4 H3' g4 o4 P3' k3' => ?_⟩
        have hv3 := k3' _ _ nv1 nv2 hvH
        refine ⟨vl, _, _, rfl, rfl, hv3, by show 3 < sizeLine; decide, ?_⟩
        have ksv : Ks N H3' (upd H3' vl (.lst ([V.ref t1, u2, u3] ++ [u4]))) := by
          refine ⟨(Tk.refl H3').put hv3, fun b' xs hb' e => ?_, fun b' e => ?_⟩
          · rw [upd_ne (hNv b' hb')]
            exact e
          · rw [upd_ne (ne_of e hv3 (by intro z; cases z))]
            exact e
        refine rest _ _ ⟨[V.ref t1, u2, u3] ++ [u4], [.tuple rows, d2, d3] ++ [d4], rfl, upd_same, kdA ((kdA (kdA dB2 (Ks.same sBH)) (Ks.kn hN k3' (PB2.same sBH))).append (.cons g4 .nil)) ksv, okEG_mono (okEG_snoc oB o4 (by decide)) (by decide) (by decide), by show 4 ≤ 4; decide, P3'.put nv1 nv2, ?_⟩
        refine ((kB12.trans (Kp.same sBH)).trans k3').put ?_
        exact k95.fresh nv1 nv2 nvl
      rintro σ4 C0 ⟨xs, ds, rfl, hvC, dC, oC, lx, PC, kC⟩
      have lds : ds.length = xs.length := dC.length.symm
      have imC : Im C0 (.ref ma) (mD ss ws) := im7.k ((k9.trans kC).tk P7)
      have nqv : Nq p q vl := ⟨nv1, nv2, svl⟩
      have okK : okEG 16000000 20 (.list [mD ss ws, .list ds]) = true := by
        refine okEG_lst (c := 6000000) (dp := 12) (fun x hx => ?_) (by show (6000000 + 2) * 2 + 3 ≤ 16000000; decide) (by decide)
        rcases List.mem_cons.mp hx with rfl | hx
        · exact okEG_mono okm (by decide) (by decide)
        · rw [List.mem_singleton.mp hx]
          exact oC
      have shK := okEG_sh okK (by decide) (by decide)
      have both : ∀ HX, Same C0 HX → DeAll (Nq p q) HX [.ref ma, .ref vl] [mD ss ws, .list ds] := fun HX sx =>
        .cons (De.of_im (Same.k sx imC)) (.cons (.lst nqv (sx _ _ hvC) (widerDAll (Ks.same sx) hN dC)) .nil)
      refine ⟨_, rfl, _, rfl, by show 2 ≤ sizeLine; decide, fun l1' nl1 sl1 => ?_⟩
      generalize qC : upd C0 l1' (HO.lst _) = C1
      obtain ⟨sC1, fC1⟩ := newFacts qC nl1
      refine ⟨l1', _, _, Nq p q, rfl, sl1, fC1, both _ sC1, fun a h => h.2.2, shK, ?_⟩
      refine ⟨_, rfl, vl, xs, rfl, SqL.of (sC1 _ _ hvC), for_it walk_enum (fun _ σ H' => ∃ v11 v12 v13 : Option V, σ = [some (.ref sa), some (.ref p), some (.int (0 + (t : Int))), some (.ref b), v4, some (.ref D), some (.ref ma), some (.ref wl), some (.ref vl), some tw, some (.str (PyData.list [mD ss ws, .list ds]).shown), v11, v12, v13, none, none] ∧ Same C1 H')
        ⟨_, _, _, rfl, Same.refl C1⟩ (fun _ σ H' _ ⟨_, _, _, _, z⟩ => SqL.of (z _ _ (sC1 _ _ hvC))) ?_ ?_⟩
      · rintro i x σ E1 E2 hi ⟨v11, v12, v13, rfl, sE⟩ ⟨T1, x1, x2, rfl, nT, rfl, e1, e2⟩
        cases e1
        obtain ⟨dx, hdx, gx0⟩ := dC.get e2
        refine ⟨T1, _, rfl, SqT.of upd_same, rfl, _, _, rfl, _, _, rfl, rfl, ?_⟩
        generalize qT : upd E1 T1 (HO.tup _) = E2
        obtain ⟨sE2, _⟩ := newFacts qT nT
        have s02 : Same C0 E2 := (sC1.trans sE).trans sE2
        have gx : ∀ HX, Same C0 HX → De N HX x2 dx := fun HX sx => kd gx0 (Ks.same sx)
        have iE : ∀ HX, Same C0 HX → Im HX (.ref ma) (mD ss ws) := fun HX sx => Same.k sx imC
        have isE : ∀ HX, Same C0 HX → Im HX (.ref b) (sD ss) := fun HX sx => Same.k sx (is3 _ kC)
        refine ⟨_, rfl, _, rfl, rfl, _, rfl, ?_⟩
        refine shareV (N := fun u H' => ∃ e, Werr ss dx e ∧ Im H' u e ∧ Same E2 H') (fun _ r => ?_) (fun _ r => ?_) ?_
        · exact ⟨_, rfl, _, rfl, _, _, ss, _, dx, N, rfl, iE _ s02, ok, l6, gx _ s02, fun u e H' we iu s' => r _ _ ⟨e, we, iu, s'⟩⟩
        · exact ⟨_, rfl, _, rfl, _, _, ss, _, dx, N, rfl, iE _ s02, ok, l6, gx _ s02, fun u e H' we iu s' => r _ _ ⟨e, we, iu, s'⟩⟩
        rintro u E3 ⟨e, we, iu, sE3⟩
        have s03 := s02.trans sE3
        have oe := we.ok l6
        have sh2 := okEG_sh (two_ok oe) (by decide) (by decide)
        refine ⟨_, rfl, _, rfl, _, rfl, _, _, ss, _, dx, N, rfl, iE _ s03, ok, l6, gx _ s03, fun u2 e2 E4 we2 iu2 sE4 => ?_⟩
        cases we.det we2
        refine ⟨by show 2 ≤ sizeLine; decide, fun l2 nl2 sl2 => ?_⟩
        generalize qE5 : upd E4 l2 (HO.lst _) = E5
        obtain ⟨sE5, fE5⟩ := newFacts qE5 nl2
        have s05 := (s03.trans sE4).trans sE5
        refine ⟨l2, _, [e, e], Nq p q, rfl, sl2, fE5, .cons (De.of_im (Same.k (sE4.trans sE5) iu)) (.cons (De.of_im (Same.k sE5 iu2)) .nil), fun a h => h.2.2, sh2, ?_⟩
        refine ⟨_, rfl, _, rfl, _, _, ss, dx, N, rfl, isE _ s05, ok, l6, gx _ s05, fun u3 e3 E6 we3 iu3 sE6 => ?_⟩
        cases we.det we3
        refine ⟨by show 1 ≤ sizeLine; decide, fun l3 nl3 sl3 => ?_⟩
        generalize qE7 : upd E6 l3 (HO.lst _) = E7
        obtain ⟨sE7, fE7⟩ := newFacts qE7 nl3
        refine ⟨l3, 2, _, rfl, rfl, fE7, by decide, by decide, by show 1 * 2 ≤ sizeLine; decide, fun l4 nl4 sl4 => ?_⟩
        generalize qE8 : upd E7 l4 (HO.lst _) = E8
        obtain ⟨sE8, fE8⟩ := newFacts qE8 nl4
        have iu3' := Same.k (sE7.trans sE8) iu3
        refine ⟨l4, _, [e, e], Nq p q, rfl, sl4, fE8, .cons (De.of_im iu3') (.cons (De.of_im iu3') .nil), fun a h => h.2.2, sh2, rfl, _, rfl, ?_⟩
        exact iteNS rfl ⟨_, _, _, rfl, (((sE.trans sE2).trans sE3).trans sE4).trans (((sE5.trans sE6).trans sE7).trans sE8)⟩
      rintro σ E1 ⟨v11, v12, v13, rfl, sE⟩
      refine ⟨_, rfl, _, rfl, by show 2 ≤ sizeLine; decide, fun l5 nl5 sl5 => ?_⟩
      generalize qE2 : upd E1 l5 (HO.lst _) = E2
      obtain ⟨sE2, fE2⟩ := newFacts qE2 nl5
      refine ⟨l5, _, _, Nq p q, rfl, sl5, fE2, both _ ((sC1.trans sE).trans sE2), fun a h => h.2.2, shK, _, rfl, rfl, _, rfl, ?_⟩
      exact iteNS rfl ⟨_, _, _, _, _, _, _, _, _, _, _, _, rfl, PC.same ((sC1.trans sE).trans sE2)⟩
    · rintro σ H' ⟨v2, v3, v4, v5, v6, v7, v8, v9, v10, v11, v12, v13, rfl, P'⟩
      exact k H'

end
/-! ### what the top has written -/
theorem all_mk {l : PySem.W.OpenLaw} {w : World} {K : PySem.W.Frag} {h : Heap} {mg : Str → Option Value} {fa f1 f2 f3 f4 f5 f6 f7 f8 f9 f10 f11 f12 f13 f14 f15 f16 f17 f18 : Addr} (X : K.In h) (G : h.Ns mainGlobals mg) (hfa : mg "law" = some (.ref fa))
    {od1 an1 od2 an2 od3 an3 od4 an4 od5 an5 od6 an6 od7 an7 od8 an8 od9 an9 od10 an10 od11 an11 od12 an12 od13 an13 od14 an14 od15 an15 od16 an16 od17 an17 od18 an18 : Option Addr} {sl1 sl2 sl3 sl4 sl5 sl6 sl7 sl8 sl9 sl10 sl11 sl12 sl13 sl14 sl15 sl16 sl17 sl18 : Array (Option Value)} {oc1 kV1 dc1 pm1 cd1 ct1 oc2 kV2 dc2 pm2 cd2 ct2 oc3 kV3 dc3 pm3 cd3 ct3 oc4 kV4 dc4 pm4 cd4 ct4 oc5 kV5 dc5 pm5 cd5 ct5 oc6 kV6 dc6 pm6 cd6 ct6 oc7 kV7 dc7 pm7 cd7 ct7 oc8 kV8 dc8 pm8 cd8 ct8 oc9 kV9 dc9 pm9 cd9 ct9 oc10 kV10 dc10 pm10 cd10 ct10 oc11 kV11 dc11 pm11 cd11 ct11 oc12 kV12 dc12 pm12 cd12 ct12 oc13 kV13 dc13 pm13 cd13 ct13 oc14 kV14 dc14 pm14 cd14 ct14 oc15 kV15 dc15 pm15 cd15 ct15 oc16 kV16 dc16 pm16 cd16 ct16 oc17 kV17 dc17 pm17 cd17 ct17 oc18 kV18 dc18 pm18 cd18 ct18 : Value}
    (a1 : PySem.W.nsIn K mainGlobals "is_an_integer" = some (some (.ref f1))) (l1 : K.lookup f1 = some ⟨oc1, od1, .func (PySem.W.fnOf "is_an_integer" "is_an_integer" (defArgs s_is_an_integer) (defBody s_is_an_integer) (defScope s_is_an_integer) .none kV1 dc1 pm1 an1 cd1 ct1), sl1⟩) (c1 : PySem.W.codeIn K cd1 "is_an_integer" = true) (k1 : PySem.W.keepIn K (.ref f1) = true)
    (a2 : PySem.W.nsIn K mainGlobals "is_below" = some (some (.ref f2))) (l2 : K.lookup f2 = some ⟨oc2, od2, .func (PySem.W.fnOf "is_below" "is_below" (defArgs s_is_below) (defBody s_is_below) (defScope s_is_below) .none kV2 dc2 pm2 an2 cd2 ct2), sl2⟩) (c2 : PySem.W.codeIn K cd2 "is_below" = true) (k2 : PySem.W.keepIn K (.ref f2) = true)
    (a3 : PySem.W.nsIn K mainGlobals "step" = some (some (.ref f3))) (l3 : K.lookup f3 = some ⟨oc3, od3, .func (PySem.W.fnOf "step" "step" (defArgs s_step) (defBody s_step) (defScope s_step) .none kV3 dc3 pm3 an3 cd3 ct3), sl3⟩) (c3 : PySem.W.codeIn K cd3 "step" = true) (k3 : PySem.W.keepIn K (.ref f3) = true)
    (a4 : PySem.W.nsIn K mainGlobals "entry_error" = some (some (.ref f4))) (l4 : K.lookup f4 = some ⟨oc4, od4, .func (PySem.W.fnOf "entry_error" "entry_error" (defArgs s_entry_error) (defBody s_entry_error) (defScope s_entry_error) .none kV4 dc4 pm4 an4 cd4 ct4), sl4⟩) (c4 : PySem.W.codeIn K cd4 "entry_error" = true) (k4 : PySem.W.keepIn K (.ref f4) = true)
    (a5 : PySem.W.nsIn K mainGlobals "is_row" = some (some (.ref f5))) (l5 : K.lookup f5 = some ⟨oc5, od5, .func (PySem.W.fnOf "is_row" "is_row" (defArgs s_is_row) (defBody s_is_row) (defScope s_is_row) .none kV5 dc5 pm5 an5 cd5 ct5), sl5⟩) (c5 : PySem.W.codeIn K cd5 "is_row" = true) (k5 : PySem.W.keepIn K (.ref f5) = true)
    (a6 : PySem.W.nsIn K mainGlobals "is_entry" = some (some (.ref f6))) (l6 : K.lookup f6 = some ⟨oc6, od6, .func (PySem.W.fnOf "is_entry" "is_entry" (defArgs s_is_entry) (defBody s_is_entry) (defScope s_is_entry) .none kV6 dc6 pm6 an6 cd6 ct6), sl6⟩) (c6 : PySem.W.codeIn K cd6 "is_entry" = true) (k6 : PySem.W.keepIn K (.ref f6) = true)
    (a7 : PySem.W.nsIn K mainGlobals "wish_error" = some (some (.ref f7))) (l7 : K.lookup f7 = some ⟨oc7, od7, .func (PySem.W.fnOf "wish_error" "wish_error" (defArgs s_wish_error) (defBody s_wish_error) (defScope s_wish_error) .none kV7 dc7 pm7 an7 cd7 ct7), sl7⟩) (c7 : PySem.W.codeIn K cd7 "wish_error" = true) (k7 : PySem.W.keepIn K (.ref f7) = true)
    (a8 : PySem.W.nsIn K mainGlobals "_law_deck" = some (some (.ref f8))) (l8 : K.lookup f8 = some ⟨oc8, od8, .func (PySem.W.fnOf "_law_deck" "_law_deck" (defArgs s_l_deck) (defBody s_l_deck) (defScope s_l_deck) .none kV8 dc8 pm8 an8 cd8 ct8), sl8⟩) (c8 : PySem.W.codeIn K cd8 "_law_deck" = true) (k8 : PySem.W.keepIn K (.ref f8) = true)
    (a9 : PySem.W.nsIn K mainGlobals "_law_draw" = some (some (.ref f9))) (l9 : K.lookup f9 = some ⟨oc9, od9, .func (PySem.W.fnOf "_law_draw" "_law_draw" (defArgs s_l_draw) (defBody s_l_draw) (defScope s_l_draw) .none kV9 dc9 pm9 an9 cd9 ct9), sl9⟩) (c9 : PySem.W.codeIn K cd9 "_law_draw" = true) (k9 : PySem.W.keepIn K (.ref f9) = true)
    (a10 : PySem.W.nsIn K mainGlobals "_law_pick" = some (some (.ref f10))) (l10 : K.lookup f10 = some ⟨oc10, od10, .func (PySem.W.fnOf "_law_pick" "_law_pick" (defArgs s_l_pick) (defBody s_l_pick) (defScope s_l_pick) .none kV10 dc10 pm10 an10 cd10 ct10), sl10⟩) (c10 : PySem.W.codeIn K cd10 "_law_pick" = true) (k10 : PySem.W.keepIn K (.ref f10) = true)
    (a11 : PySem.W.nsIn K mainGlobals "_law_divisor" = some (some (.ref f11))) (l11 : K.lookup f11 = some ⟨oc11, od11, .func (PySem.W.fnOf "_law_divisor" "_law_divisor" (defArgs s_l_divisor) (defBody s_l_divisor) (defScope s_l_divisor) .none kV11 dc11 pm11 an11 cd11 ct11), sl11⟩) (c11 : PySem.W.codeIn K cd11 "_law_divisor" = true) (k11 : PySem.W.keepIn K (.ref f11) = true)
    (a12 : PySem.W.nsIn K mainGlobals "_law_least" = some (some (.ref f12))) (l12 : K.lookup f12 = some ⟨oc12, od12, .func (PySem.W.fnOf "_law_least" "_law_least" (defArgs s_l_least) (defBody s_l_least) (defScope s_l_least) .none kV12 dc12 pm12 an12 cd12 ct12), sl12⟩) (c12 : PySem.W.codeIn K cd12 "_law_least" = true) (k12 : PySem.W.keepIn K (.ref f12) = true)
    (a13 : PySem.W.nsIn K mainGlobals "_law_is_whole" = some (some (.ref f13))) (l13 : K.lookup f13 = some ⟨oc13, od13, .func (PySem.W.fnOf "_law_is_whole" "_law_is_whole" (defArgs s_l_is_whole) (defBody s_l_is_whole) (defScope s_l_is_whole) .none kV13 dc13 pm13 an13 cd13 ct13), sl13⟩) (c13 : PySem.W.codeIn K cd13 "_law_is_whole" = true) (k13 : PySem.W.keepIn K (.ref f13) = true)
    (a14 : PySem.W.nsIn K mainGlobals "_law_due" = some (some (.ref f14))) (l14 : K.lookup f14 = some ⟨oc14, od14, .func (PySem.W.fnOf "_law_due" "_law_due" (defArgs s_l_due) (defBody s_l_due) (defScope s_l_due) .none kV14 dc14 pm14 an14 cd14 ct14), sl14⟩) (c14 : PySem.W.codeIn K cd14 "_law_due" = true) (k14 : PySem.W.keepIn K (.ref f14) = true)
    (a15 : PySem.W.nsIn K mainGlobals "_law_sizes" = some (some (.ref f15))) (l15 : K.lookup f15 = some ⟨oc15, od15, .func (PySem.W.fnOf "_law_sizes" "_law_sizes" (defArgs s_l_sizes) (defBody s_l_sizes) (defScope s_l_sizes) .none kV15 dc15 pm15 an15 cd15 ct15), sl15⟩) (c15 : PySem.W.codeIn K cd15 "_law_sizes" = true) (k15 : PySem.W.keepIn K (.ref f15) = true)
    (a16 : PySem.W.nsIn K mainGlobals "_law_row" = some (some (.ref f16))) (l16 : K.lookup f16 = some ⟨oc16, od16, .func (PySem.W.fnOf "_law_row" "_law_row" (defArgs s_l_row) (defBody s_l_row) (defScope s_l_row) .none kV16 dc16 pm16 an16 cd16 ct16), sl16⟩) (c16 : PySem.W.codeIn K cd16 "_law_row" = true) (k16 : PySem.W.keepIn K (.ref f16) = true)
    (a17 : PySem.W.nsIn K mainGlobals "_law_turned" = some (some (.ref f17))) (l17 : K.lookup f17 = some ⟨oc17, od17, .func (PySem.W.fnOf "_law_turned" "_law_turned" (defArgs s_l_turned) (defBody s_l_turned) (defScope s_l_turned) .none kV17 dc17 pm17 an17 cd17 ct17), sl17⟩) (c17 : PySem.W.codeIn K cd17 "_law_turned" = true) (k17 : PySem.W.keepIn K (.ref f17) = true)
    (a18 : PySem.W.nsIn K mainGlobals "law" = some (some (.ref f18))) (l18 : K.lookup f18 = some ⟨oc18, od18, .func (PySem.W.fnOf "law" "law" (defArgs s_law) (defBody s_law) (defScope s_law) .none kV18 dc18 pm18 an18 cd18 ct18), sl18⟩) (c18 : PySem.W.codeIn K cd18 "law" = true) (k18 : PySem.W.keepIn K (.ref f18) = true)
    (z_len : PySem.W.nsIn K mainGlobals "len" = some none)
    (z_int : PySem.W.nsIn K mainGlobals "int" = some none)
    (z_max : PySem.W.nsIn K mainGlobals "max" = some none)
    (z_min : PySem.W.nsIn K mainGlobals "min" = some none)
    (z_tuple : PySem.W.nsIn K mainGlobals "tuple" = some none)
    (z_list : PySem.W.nsIn K mainGlobals "list" = some none)
    (z_range : PySem.W.nsIn K mainGlobals "range" = some none)
    (z_any : PySem.W.nsIn K mainGlobals "any" = some none)
    (z_all : PySem.W.nsIn K mainGlobals "all" = some none)
    (z_repr : PySem.W.nsIn K mainGlobals "repr" = some none)
    (z_enumerate : PySem.W.nsIn K mainGlobals "enumerate" = some none)
    (z_isinstance : PySem.W.nsIn K mainGlobals "isinstance" = some none)
    (z_bool : PySem.W.nsIn K mainGlobals "bool" = some none)
    (z_abs : PySem.W.nsIn K mainGlobals "abs" = some none)
    (z_zip : PySem.W.nsIn K mainGlobals "zip" = some none)
    (g_gcd : PySem.W.nsIn K mainGlobals "gcd" = some (some (.builtin "math.gcd"))) :
    ∃ fd : FuncData, (∀ (s : Shared) (v : Value), BindsTo s fd ⟨[v], []⟩ [("script", v)]) ∧ ∀ base : Heap, K.In base → base.Ns mainGlobals mg → GFn l.prog w K mg base 6 fa fd ["script"] (spLaw K) := by
  have e := hfa.symm.trans (PySem.W.mg_of X G a18)
  cases e
  have T : Blt mg := ⟨PySem.W.mg_none_of X G z_len, PySem.W.mg_none_of X G z_int, PySem.W.mg_none_of X G z_max, PySem.W.mg_none_of X G z_min, PySem.W.mg_none_of X G z_tuple, PySem.W.mg_none_of X G z_list, PySem.W.mg_none_of X G z_range, PySem.W.mg_none_of X G z_any, PySem.W.mg_none_of X G z_all, PySem.W.mg_none_of X G z_repr, PySem.W.mg_none_of X G z_enumerate, PySem.W.mg_none_of X G z_isinstance, PySem.W.mg_none_of X G z_bool⟩
  have F1 := fun_mk (st := s_is_an_integer) l1 c1 k1
  have D_is_an_integer : DefAt K mg "is_an_integer" s_is_an_integer ["value"] f1 _ := ⟨F1, PySem.W.mg_of X G a1, F1.binds (ps := ["value"]) fun _ _ _ _ _ _ us hl => match us, hl with | [_], _ => rfl⟩
  have F2 := fun_mk (st := s_is_below) l2 c2 k2
  have D_is_below : DefAt K mg "is_below" s_is_below ["value", "bound"] f2 _ := ⟨F2, PySem.W.mg_of X G a2, F2.binds (ps := ["value", "bound"]) fun _ _ _ _ _ _ us hl => match us, hl with | [_, _], _ => rfl⟩
  have F3 := fun_mk (st := s_step) l3 c3 k3
  have D_step : DefAt K mg "step" s_step ["machine", "j", "i"] f3 _ := ⟨F3, PySem.W.mg_of X G a3, F3.binds (ps := ["machine", "j", "i"]) fun _ _ _ _ _ _ us hl => match us, hl with | [_, _, _], _ => rfl⟩
  have F4 := fun_mk (st := s_entry_error) l4 c4 k4
  have D_entry_error : DefAt K mg "entry_error" s_entry_error ["machine", "rows"] f4 _ := ⟨F4, PySem.W.mg_of X G a4, F4.binds (ps := ["machine", "rows"]) fun _ _ _ _ _ _ us hl => match us, hl with | [_, _], _ => rfl⟩
  have F5 := fun_mk (st := s_is_row) l5 c5 k5
  have D_is_row : DefAt K mg "is_row" s_is_row ["value", "many"] f5 _ := ⟨F5, PySem.W.mg_of X G a5, F5.binds (ps := ["value", "many"]) fun _ _ _ _ _ _ us hl => match us, hl with | [_, _], _ => rfl⟩
  have F6 := fun_mk (st := s_is_entry) l6 c6 k6
  have D_is_entry : DefAt K mg "is_entry" s_is_entry ["machine", "i", "j", "value"] f6 _ := ⟨F6, PySem.W.mg_of X G a6, F6.binds (ps := ["machine", "i", "j", "value"]) fun _ _ _ _ _ _ us hl => match us, hl with | [_, _, _, _], _ => rfl⟩
  have F7 := fun_mk (st := s_wish_error) l7 c7 k7
  have D_wish_error : DefAt K mg "wish_error" s_wish_error ["machine", "value"] f7 _ := ⟨F7, PySem.W.mg_of X G a7, F7.binds (ps := ["machine", "value"]) fun _ _ _ _ _ _ us hl => match us, hl with | [_, _], _ => rfl⟩
  have F8 := fun_mk (st := s_l_deck) l8 c8 k8
  have D_l_deck : DefAt K mg "_law_deck" s_l_deck ["script"] f8 _ := ⟨F8, PySem.W.mg_of X G a8, F8.binds (ps := ["script"]) fun _ _ _ _ _ _ us hl => match us, hl with | [_], _ => rfl⟩
  have F9 := fun_mk (st := s_l_draw) l9 c9 k9
  have D_l_draw : DefAt K mg "_law_draw" s_l_draw ["deck", "many"] f9 _ := ⟨F9, PySem.W.mg_of X G a9, F9.binds (ps := ["deck", "many"]) fun _ _ _ _ _ _ us hl => match us, hl with | [_, _], _ => rfl⟩
  have F10 := fun_mk (st := s_l_pick) l10 c10 k10
  have D_l_pick : DefAt K mg "_law_pick" s_l_pick ["deck", "items"] f10 _ := ⟨F10, PySem.W.mg_of X G a10, F10.binds (ps := ["deck", "items"]) fun _ _ _ _ _ _ us hl => match us, hl with | [_, _], _ => rfl⟩
  have F11 := fun_mk (st := s_l_divisor) l11 c11 k11
  have D_l_divisor : DefAt K mg "_law_divisor" s_l_divisor ["one", "other"] f11 _ := ⟨F11, PySem.W.mg_of X G a11, F11.binds (ps := ["one", "other"]) fun _ _ _ _ _ _ us hl => match us, hl with | [_, _], _ => rfl⟩
  have F12 := fun_mk (st := s_l_least) l12 c12 k12
  have D_l_least : DefAt K mg "_law_least" s_l_least ["sizes", "j", "i"] f12 _ := ⟨F12, PySem.W.mg_of X G a12, F12.binds (ps := ["sizes", "j", "i"]) fun _ _ _ _ _ _ us hl => match us, hl with | [_, _, _], _ => rfl⟩
  have F13 := fun_mk (st := s_l_is_whole) l13 c13 k13
  have D_l_is_whole : DefAt K mg "_law_is_whole" s_l_is_whole ["value", "low", "high"] f13 _ := ⟨F13, PySem.W.mg_of X G a13, F13.binds (ps := ["value", "low", "high"]) fun _ _ _ _ _ _ us hl => match us, hl with | [_, _, _], _ => rfl⟩
  have F14 := fun_mk (st := s_l_due) l14 c14 k14
  have D_l_due : DefAt K mg "_law_due" s_l_due ["sizes", "value"] f14 _ := ⟨F14, PySem.W.mg_of X G a14, F14.binds (ps := ["sizes", "value"]) fun _ _ _ _ _ _ us hl => match us, hl with | [_, _], _ => rfl⟩
  have F15 := fun_mk (st := s_l_sizes) l15 c15 k15
  have D_l_sizes : DefAt K mg "_law_sizes" s_l_sizes ["deck"] f15 _ := ⟨F15, PySem.W.mg_of X G a15, F15.binds (ps := ["deck"]) fun _ _ _ _ _ _ us hl => match us, hl with | [_], _ => rfl⟩
  have F16 := fun_mk (st := s_l_row) l16 c16 k16
  have D_l_row : DefAt K mg "_law_row" s_l_row ["deck", "sizes", "i"] f16 _ := ⟨F16, PySem.W.mg_of X G a16, F16.binds (ps := ["deck", "sizes", "i"]) fun _ _ _ _ _ _ us hl => match us, hl with | [_, _, _], _ => rfl⟩
  have F17 := fun_mk (st := s_l_turned) l17 c17 k17
  have D_l_turned : DefAt K mg "_law_turned" s_l_turned ["deck", "sizes", "wish"] f17 _ := ⟨F17, PySem.W.mg_of X G a17, F17.binds (ps := ["deck", "sizes", "wish"]) fun _ _ _ _ _ _ us hl => match us, hl with | [_, _, _], _ => rfl⟩
  have F18 := fun_mk (st := s_law) l18 c18 k18
  refine ⟨PySem.W.fnOf "law" "law" (defArgs s_law) (defBody s_law) (defScope s_law) .none kV18 dc18 pm18 an18 cd18 ct18, fun s v => .of_eq rfl, fun base _ _ => ?_⟩
  have T_abs := PySem.W.mg_none_of X G z_abs
  have T_zip := PySem.W.mg_none_of X G z_zip
  have c_int := ok_isintE (P := l.prog) (w := w) (base := base) D_is_an_integer T
  have c_below := ok_isbelowE D_is_below c_int
  have f_step := fn_step (P := l.prog) (w := w) (base := base) D_step (PySem.W.mg_of X G g_gcd)
  have c_isrow := ok_isrowE (P := l.prog) (w := w) (base := base) D_is_row T
  have c_isent := ok_isentE D_is_entry T c_below (Cal.of D_step f_step)
  have c_ents := ok_entsE D_entry_error T c_isent
  have f_werr := fn_werr D_wish_error T c_isrow c_ents
  have c_deck := ok_deck (P := l.prog) (w := w) (base := base) D_l_deck T T_abs
  have c_draw := ok_draw (P := l.prog) (w := w) (base := base) D_l_draw T
  have c_pick := ok_pick D_l_pick T c_draw
  have c_divisor := ok_divisor (P := l.prog) (w := w) (base := base) D_l_divisor T
  have c_least := ok_least D_l_least c_divisor
  have c_whole := ok_whole (P := l.prog) (w := w) (base := base) D_l_is_whole T
  have c_due := ok_due D_l_due T c_whole c_least
  have c_sizes := ok_sizes D_l_sizes T c_draw c_pick
  have c_row := ok_row D_l_row T c_draw c_least
  have c_turned := ok_turned D_l_turned T c_draw c_pick c_row
  exact ok_law F18 T T_zip c_deck c_draw c_sizes c_row c_turned c_due (Cal.of D_wish_error f_werr) (CalK.of D_wish_error f_werr (k_werr D_wish_error.fn))
end DA
end NA
open PySem PySem.W PyProof.Rows in
set_option maxRecDepth 100000 in
set_option maxHeartbeats 0 in
theorem PySem.Challenge.cw_narrowadds_k37_what_are_wishes_holds : PySem.Challenge.rw_narrowadds_k37_what_are_wishes.Holds := by
  w_on; o_law; k_head; (case hw => w_witness2)
  k_fill
  refine NA.walkG (l := PySem.Challenge.rw_narrowadds_k37_what_are_wishes) (n := 63) (k := 6) (x := "script") (sp := NA.spLaw) rfl (by decide) rfl ⟨rfl, by decide, by decide⟩ (fun w h Y => PySem.W.kIn_of Y) ?F (fun _ _ a ns hl _ hS => ⟨a, ns, rfl, hS, hl, fun _ => rfl⟩)
  case F =>
    intro w mg fa h KX G hmg
    refine' NA.DA.all_mk KX G hmg ?a1 ?l1 ?c1 ?k1 ?a2 ?l2 ?c2 ?k2 ?a3 ?l3 ?c3 ?k3 ?a4 ?l4 ?c4 ?k4 ?a5 ?l5 ?c5 ?k5 ?a6 ?l6 ?c6 ?k6 ?a7 ?l7 ?c7 ?k7 ?a8 ?l8 ?c8 ?k8 ?a9 ?l9 ?c9 ?k9 ?a10 ?l10 ?c10 ?k10 ?a11 ?l11 ?c11 ?k11 ?a12 ?l12 ?c12 ?k12 ?a13 ?l13 ?c13 ?k13 ?a14 ?l14 ?c14 ?k14 ?a15 ?l15 ?c15 ?k15 ?a16 ?l16 ?c16 ?k16 ?a17 ?l17 ?c17 ?k17 ?a18 ?l18 ?c18 ?k18 ?z_len ?z_int ?z_max ?z_min ?z_tuple ?z_list ?z_range ?z_any ?z_all ?z_repr ?z_enumerate ?z_isinstance ?z_bool ?z_abs ?z_zip ?g_gcd
    (case a1 => k_is)
    (case l1 => k_is)
    (case c1 => k_is)
    (case k1 => k_is)
    (case a2 => k_is)
    (case l2 => k_is)
    (case c2 => k_is)
    (case k2 => k_is)
    (case a3 => k_is)
    (case l3 => k_is)
    (case c3 => k_is)
    (case k3 => k_is)
    (case a4 => k_is)
    (case l4 => k_is)
    (case c4 => k_is)
    (case k4 => k_is)
    (case a5 => k_is)
    (case l5 => k_is)
    (case c5 => k_is)
    (case k5 => k_is)
    (case a6 => k_is)
    (case l6 => k_is)
    (case c6 => k_is)
    (case k6 => k_is)
    (case a7 => k_is)
    (case l7 => k_is)
    (case c7 => k_is)
    (case k7 => k_is)
    (case a8 => k_is)
    (case l8 => k_is)
    (case c8 => k_is)
    (case k8 => k_is)
    (case a9 => k_is)
    (case l9 => k_is)
    (case c9 => k_is)
    (case k9 => k_is)
    (case a10 => k_is)
    (case l10 => k_is)
    (case c10 => k_is)
    (case k10 => k_is)
    (case a11 => k_is)
    (case l11 => k_is)
    (case c11 => k_is)
    (case k11 => k_is)
    (case a12 => k_is)
    (case l12 => k_is)
    (case c12 => k_is)
    (case k12 => k_is)
    (case a13 => k_is)
    (case l13 => k_is)
    (case c13 => k_is)
    (case k13 => k_is)
    (case a14 => k_is)
    (case l14 => k_is)
    (case c14 => k_is)
    (case k14 => k_is)
    (case a15 => k_is)
    (case l15 => k_is)
    (case c15 => k_is)
    (case k15 => k_is)
    (case a16 => k_is)
    (case l16 => k_is)
    (case c16 => k_is)
    (case k16 => k_is)
    (case a17 => k_is)
    (case l17 => k_is)
    (case c17 => k_is)
    (case k17 => k_is)
    (case a18 => k_is)
    (case l18 => k_is)
    (case c18 => k_is)
    (case k18 => k_is)
    (case z_len => k_is)
    (case z_int => k_is)
    (case z_max => k_is)
    (case z_min => k_is)
    (case z_tuple => k_is)
    (case z_list => k_is)
    (case z_range => k_is)
    (case z_any => k_is)
    (case z_all => k_is)
    (case z_repr => k_is)
    (case z_enumerate => k_is)
    (case z_isinstance => k_is)
    (case z_bool => k_is)
    (case z_abs => k_is)
    (case z_zip => k_is)
    (case g_gcd => k_is)
