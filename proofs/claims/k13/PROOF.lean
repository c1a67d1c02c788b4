import PyProof.Rows.All
import Wide.All
import OpenK.AllK
import Wide.FinOn
import HandS.ForMost
import HandS.Codes
import HandS.Wide
import HandS.WideMore
import HandS.Gcd
import HandS.Walk
import HandS.Style
import HandS.Conv
import HandS.IsInst
import HandS.SetIn
import HandS.TupLe
import HandS.TupAny
import HandS.TupMul
import HandS.Zip
import HandS.Star
import HandS.ListItems
import HandS.Sort
import HandS.TryOnly
import HandS.TupLen
import HandS.Text
import HandS.StrMore
import HandS.FStr
import HandS.DictComp
import HandS.SetKeys
import HandS.More
import PyProof.Rows.ReprOcc
import KE.GoesZip
import PyProof.CollectWalk
import PyProof.ListNew
import PyProof.MeetsSeq2
import PyProof.WalkInts
import KE.GoesMore
import KE.GoesEnum
import KE.KSetDisp
import PySem.Challenge.RW_narrowadds_k13_whole_tables_of_programs
set_option Elab.async false
set_option linter.all false
set_option maxRecDepth 100000
set_option maxHeartbeats 2000000
set_option exponentiation.threshold 5000
/-! the mathematics of sizes: primes to 97, how often they divide -/
namespace NA
def PRn : List Nat := [2, 3, 5, 7, 11, 13, 17, 19, 23, 29, 31, 37, 41, 43, 47, 53, 59, 61, 67, 71, 73, 79, 83, 89, 97]
inductive Smo : Nat → Prop
  | one : Smo 1
  | mul {p n : Nat} : p ∈ PRn → Smo n → Smo (p * n)
theorem PRn_two {p : Nat} (h : p ∈ PRn) : 2 ≤ p := by
  have e : PRn.all (fun p => decide (2 ≤ p)) = true := by decide
  exact of_decide_eq_true (List.all_eq_true.mp e p h)
theorem PRn_le {p : Nat} (h : p ∈ PRn) : p ≤ 97 := by
  have e : PRn.all (fun p => decide (p ≤ 97)) = true := by decide
  exact of_decide_eq_true (List.all_eq_true.mp e p h)
theorem Smo.pos {n : Nat} (h : Smo n) : 0 < n := by
  induction h with
  | one => decide
  | mul hp _ ih => exact Nat.mul_pos (Nat.lt_of_lt_of_le (by decide) (PRn_two hp)) ih
theorem Smo.mulr {p n : Nat} (hp : p ∈ PRn) (h : Smo n) : Smo (n * p) := by
  rw [Nat.mul_comm]
  exact .mul hp h
def stripN (p : Nat) : Nat → Nat → Nat
  | 0, n => n
  | f + 1, n => if n % p = 0 then stripN p f (n / p) else n
theorem stripN_smo {p : Nat} (hp : p ∈ PRn) : ∀ (f n : Nat), Smo (stripN p f n) → Smo n
  | 0, _, h => h
  | f + 1, n, h => by
    unfold stripN at h
    by_cases e : n % p = 0
    · rw [if_pos e] at h
      have h1 := stripN_smo hp f (n / p) h
      have h2 : n = p * (n / p) := by
        have := Nat.div_add_mod n p
        omega
      rw [h2]
      exact .mul hp h1
    · rw [if_neg e] at h
      exact h
def smoB (n : Nat) : Bool := PRn.foldl (fun n p => stripN p 110 n) n == 1
theorem foldl_smo : ∀ (l : List Nat), (∀ p ∈ l, p ∈ PRn) → ∀ n, Smo (l.foldl (fun n p => stripN p 110 n) n) → Smo n
  | [], _, _, h => h
  | p :: l, hl, n, h => stripN_smo (hl p List.mem_cons_self) 110 n (foldl_smo l (fun q hq => hl q (List.mem_cons_of_mem _ hq)) _ h)
theorem smo_of {n : Nat} (h : smoB n = true) : Smo n := by
  refine foldl_smo PRn (fun _ h => h) n ?_
  rw [show List.foldl (fun n p => stripN p 110 n) n PRn = 1 from eq_of_beq h]
  exact .one
def SizeOk (n : Int) : Prop := ∃ m : Nat, n = m ∧ 2 ≤ m ∧ m ≤ 10 ^ 30 ∧ Smo m
def wlt (a b : Nat × Nat) : Prop := a.1 < b.1 ∨ (a.1 = b.1 ∧ a.2 < b.2)
/-- wires of a machine of many registers -/
structure WOk (many : Nat) (ws : List (Nat × Nat)) : Prop where
  asc : ws.Pairwise wlt
  low : ∀ w ∈ ws, w.1 < many ∧ w.2 < many ∧ w.1 ≠ w.2
structure MOk (ss : List Int) (ws : List (Nat × Nat)) : Prop where
  one : 1 ≤ ss.length
  six : ss.length ≤ 6
  size : ∀ s ∈ ss, SizeOk s
  wires : WOk ss.length ws
end NA
namespace NA
def val (p n : Nat) : Nat := if h : 2 ≤ p ∧ 0 < n ∧ n % p = 0 then val p (n / p) + 1 else 0
termination_by n
decreasing_by exact Nat.div_lt_self h.2.1 h.1
theorem val_yes {p n : Nat} (hp : 2 ≤ p) (hn : 0 < n) (h : n % p = 0) : val p n = val p (n / p) + 1 := by
  rw [val]
  exact dif_pos ⟨hp, hn, h⟩
theorem val_no {p n : Nat} (h : n % p ≠ 0) : val p n = 0 := by
  rw [val]
  exact dif_neg fun z => h z.2.2
theorem pow_dvd_val {p : Nat} (hp : 2 ≤ p) : ∀ (k n : Nat), 0 < n → (p ^ k ∣ n ↔ k ≤ val p n)
  | 0, n, _ => by simp
  | k + 1, n, hn => by
    by_cases h : n % p = 0
    · have e : n = p * (n / p) := by
        have := Nat.div_add_mod n p
        omega
      have hq : 0 < n / p := Nat.div_pos (Nat.le_of_dvd hn (Nat.dvd_of_mod_eq_zero h)) (by omega)
      rw [val_yes hp hn h]
      have ih := pow_dvd_val hp k (n / p) hq
      constructor
      · intro d
        rw [e, Nat.pow_succ, Nat.mul_comm] at d
        have := ih.mp (Nat.dvd_of_mul_dvd_mul_left (by omega) d)
        omega
      · intro d
        have := ih.mpr (by omega)
        rw [e, Nat.pow_succ, Nat.mul_comm]
        exact Nat.mul_dvd_mul_left p this
    · rw [val_no h]
      constructor
      · intro d
        exact absurd (Nat.mod_eq_zero_of_dvd (Nat.dvd_trans (by rw [Nat.pow_succ]; exact Nat.dvd_mul_left p _) d)) h
      · intro d
        omega
theorem val_eq {p n m : Nat} (hp : 2 ≤ p) (hn : 0 < n) (hm : 0 < m) (h : ∀ k, p ^ k ∣ n ↔ p ^ k ∣ m) : val p n = val p m := by
  have a := (pow_dvd_val hp (val p n) m hm).mp ((h _).mp ((pow_dvd_val hp _ n hn).mpr (Nat.le_refl _)))
  have b := (pow_dvd_val hp (val p m) n hn).mp ((h _).mpr ((pow_dvd_val hp _ m hm).mpr (Nat.le_refl _)))
  omega
theorem PRn_prime {p : Nat} (h : p ∈ PRn) {d : Nat} (hd : d ∣ p) : d = 1 ∨ d = p := by
  have e : (PRn.all fun p => (List.range (p + 1)).all fun d => p % d != 0 || d == 1 || d == p) = true := by decide +kernel
  have e1 := List.all_eq_true.mp e p h
  have dl : d ≤ p := Nat.le_of_dvd (Nat.lt_of_lt_of_le (by decide) (PRn_two h)) hd
  have e2 := List.all_eq_true.mp e1 d (List.mem_range.mpr (by omega))
  have m := Nat.mod_eq_zero_of_dvd hd
  simp only [m, bne_self_eq_false, Bool.false_or, Bool.or_eq_true, beq_iff_eq] at e2
  exact e2
theorem PRn_cop {p x : Nat} (h : p ∈ PRn) (hx : ¬ p ∣ x) : Nat.Coprime p x := by
  rcases PRn_prime h (Nat.gcd_dvd_left p x) with e | e
  · exact e
  · exact absurd (e ▸ Nat.gcd_dvd_right p x) hx
theorem PRn_euclid {p x y : Nat} (h : p ∈ PRn) (d : p ∣ x * y) : p ∣ x ∨ p ∣ y := by
  by_cases hx : p ∣ x
  · exact .inl hx
  · exact .inr ((PRn_cop h hx).dvd_of_dvd_mul_left d)
theorem PRn_ne {p q : Nat} (hp : p ∈ PRn) (hq : q ∈ PRn) (h : p ≠ q) : Nat.Coprime p q := PRn_cop hp fun d => by
  rcases PRn_prime hq d with e | e
  · have := PRn_two hp
    omega
  · exact h e
theorem val_mul_ne {p q n : Nat} (hp : p ∈ PRn) (hq : q ∈ PRn) (hn : 0 < n) (h : p ≠ q) : val p (q * n) = val p n := by
  refine val_eq (PRn_two hp) (Nat.mul_pos (Nat.lt_of_lt_of_le (by decide) (PRn_two hq)) hn) hn fun k => ⟨fun d => ?_, fun d => Nat.dvd_trans d (Nat.dvd_mul_left n q)⟩
  exact (Nat.Coprime.pow_left k (PRn_ne hp hq h)).dvd_of_dvd_mul_left d
theorem val_mul_self {p n : Nat} (hp : 2 ≤ p) (hn : 0 < n) : val p (p * n) = val p n + 1 := by
  rw [val_yes hp (Nat.mul_pos (by omega) hn) (Nat.mul_mod_right p n), Nat.mul_div_cancel_left n (by omega)]
theorem val_add {p : Nat} (hp : p ∈ PRn) : ∀ (x y : Nat), 0 < x → 0 < y → val p (x * y) = val p x + val p y := by
  intro x
  induction x using Nat.strongRecOn with
  | ind x ih =>
    intro y hx hy
    have h2 := PRn_two hp
    by_cases h : x % p = 0
    · have e : x = p * (x / p) := by
        have := Nat.div_add_mod x p
        omega
      have hq : 0 < x / p := Nat.div_pos (Nat.le_of_dvd hx (Nat.dvd_of_mod_eq_zero h)) (by omega)
      have i := ih (x / p) (Nat.div_lt_self hx h2) y hq hy
      rw [val_yes h2 hx h, show x * y = p * (x / p * y) by rw [← Nat.mul_assoc, ← e], val_mul_self h2 (Nat.mul_pos hq hy), i]
      omega
    · rw [val_no h, Nat.zero_add]
      have c : Nat.Coprime p x := PRn_cop hp fun d => h (Nat.mod_eq_zero_of_dvd d)
      refine val_eq h2 (Nat.mul_pos hx hy) hy fun k => ⟨fun d => (Nat.Coprime.pow_left k c).dvd_of_dvd_mul_left d, fun d => Nat.dvd_trans d (Nat.dvd_mul_left y x)⟩
theorem val_gcd {p a b : Nat} (hp : 2 ≤ p) (ha : 0 < a) (hb : 0 < b) : val p (Nat.gcd a b) = min (val p a) (val p b) := by
  have hg : 0 < Nat.gcd a b := Nat.gcd_pos_of_pos_left b ha
  have le : ∀ k, k ≤ val p (Nat.gcd a b) ↔ k ≤ val p a ∧ k ≤ val p b := fun k => by
    rw [← pow_dvd_val hp k _ hg, ← pow_dvd_val hp k a ha, ← pow_dvd_val hp k b hb]
    exact ⟨fun d => ⟨Nat.dvd_trans d (Nat.gcd_dvd_left a b), Nat.dvd_trans d (Nat.gcd_dvd_right a b)⟩, fun ⟨x, y⟩ => Nat.dvd_gcd x y⟩
  have h1 := (le _).mp (Nat.le_refl _)
  have h2 := (le (min (val p a) (val p b))).mpr ⟨Nat.min_le_left _ _, Nat.min_le_right _ _⟩
  omega
/-! ### a size is put together of its primes -/
def made (l : List Nat) (m s : Nat) : Nat := l.foldl (fun m p => m * p ^ val p s) m
theorem made_acc : ∀ (l : List Nat) (m s : Nat), made l m s = m * made l 1 s
  | [], m, s => by simp [made]
  | p :: l, m, s => by
    show made l (m * p ^ val p s) s = m * made l (1 * p ^ val p s) s
    rw [made_acc l (m * p ^ val p s) s, made_acc l (1 * p ^ val p s) s, Nat.one_mul, Nat.mul_assoc]
theorem made_one : ∀ l : List Nat, made l 1 1 = 1
  | [] => rfl
  | p :: l => by
    show made l (1 * p ^ val p 1) 1 = 1
    have v : val p 1 = 0 := by
      by_cases h : 1 % p = 0
      · by_cases h2 : 2 ≤ p
        · rw [Nat.mod_eq_of_lt (by omega)] at h
          cases h
        · rw [val]
          exact dif_neg fun z => h2 z.1
      · exact val_no h
    rw [v, Nat.pow_zero, Nat.mul_one, made_one l]
theorem made_mul {q n : Nat} (hq : q ∈ PRn) (hn : 0 < n) : ∀ l : List Nat, (∀ p ∈ l, p ∈ PRn) → made l 1 (q * n) = q ^ l.count q * made l 1 n
  | [], _ => by simp [made]
  | p :: l, hl => by
    have ih := made_mul hq hn l fun x hx => hl x (List.mem_cons_of_mem _ hx)
    have hp := hl p List.mem_cons_self
    show made l (1 * p ^ val p (q * n)) (q * n) = q ^ (p :: l).count q * made l (1 * p ^ val p n) n
    rw [made_acc l (1 * p ^ val p (q * n)), made_acc l (1 * p ^ val p n), ih, Nat.one_mul, Nat.one_mul]
    by_cases e : p = q
    · subst e
      rw [val_mul_self (PRn_two hp) hn, List.count_cons_self, Nat.pow_succ, Nat.pow_succ]
      simp only [Nat.mul_assoc, Nat.mul_left_comm]
    · rw [val_mul_ne hp hq hn e, List.count_cons_of_ne e]
      simp only [Nat.mul_left_comm]
theorem made_smo {s : Nat} (h : Smo s) : made PRn 1 s = s := by
  induction h with
  | one => exact made_one PRn
  | @mul q n hq hn ih =>
    rw [made_mul hq hn.pos PRn fun _ z => z, ih]
    have c : PRn.count q = 1 := by
      have e : (PRn.all fun q => PRn.count q == 1) = true := by decide +kernel
      exact eq_of_beq (List.all_eq_true.mp e q hq)
    rw [c, Nat.pow_one]
theorem made_filter {s : Nat} (f : Nat → Bool) : ∀ (l : List Nat) (m : Nat), (∀ p ∈ l, f p = false → val p s = 0) → made (l.filter f) m s = made l m s
  | [], _, _ => rfl
  | p :: l, m, h => by
    have hl : ∀ q ∈ l, f q = false → val q s = 0 := fun q hq => h q (List.mem_cons_of_mem _ hq)
    cases e : f p with
    | true =>
      rw [List.filter_cons_of_pos e]
      exact made_filter f l _ hl
    | false =>
      rw [List.filter_cons_of_neg (by rw [e]; exact Bool.false_ne_true), made_filter f l m hl]
      show made l m s = made l (m * p ^ val p s) s
      rw [h p List.mem_cons_self e, Nat.pow_zero, Nat.mul_one]
/-! ### steps: b by what it has in common with a -/
def stp (a b : Nat) : Nat := b / Nat.gcd b a
section
variable {a b : Nat}
theorem gcd_pos' (hb : 0 < b) : 0 < Nat.gcd b a := Nat.gcd_pos_of_pos_left a hb
theorem stp_mul (a b : Nat) : stp a b * Nat.gcd b a = b := Nat.div_mul_cancel (Nat.gcd_dvd_left b a)
theorem stp_pos (hb : 0 < b) : 0 < stp a b := Nat.div_pos (Nat.le_of_dvd hb (Nat.gcd_dvd_left b a)) (gcd_pos' hb)
theorem stp_cop (hb : 0 < b) : Nat.Coprime (stp a b) (a / Nat.gcd b a) := Nat.coprime_div_gcd_div_gcd (gcd_pos' hb)
theorem a_eq (a b : Nat) : a / Nat.gcd b a * Nat.gcd b a = a := Nat.div_mul_cancel (Nat.gcd_dvd_right b a)
/-- the multiples that do -/
theorem stp_iff (hb : 0 < b) (x : Nat) : b ∣ x * a ↔ stp a b ∣ x := by
  have g := gcd_pos' (a := a) hb
  have eb : b = Nat.gcd b a * stp a b := by rw [Nat.mul_comm]; exact (stp_mul a b).symm
  have ea : x * a = Nat.gcd b a * (x * (a / Nat.gcd b a)) := by
    rw [Nat.mul_left_comm, Nat.mul_comm (Nat.gcd b a), a_eq]
  constructor
  · intro d
    rw [ea] at d
    have d2 : Nat.gcd b a * stp a b ∣ Nat.gcd b a * (x * (a / Nat.gcd b a)) := by rw [← eb]; exact d
    exact (stp_cop hb).dvd_of_dvd_mul_right (Nat.dvd_of_mul_dvd_mul_left g d2)
  · intro d
    rw [ea]
    have d2 : Nat.gcd b a * stp a b ∣ Nat.gcd b a * (x * (a / Nat.gcd b a)) := Nat.mul_dvd_mul_left _ (Nat.dvd_trans d (Nat.dvd_mul_right x _))
    rw [← eb] at d2
    exact d2
theorem stp_least (hb : 0 < b) {p : Nat} (hp : 2 ≤ p) (h : stp a b % p = 0) : stp a b / p * a % b ≠ 0 := fun z => by
  have d := (stp_iff hb _).mp (Nat.dvd_of_mod_eq_zero z)
  have pos := stp_pos (a := a) hb
  have q : 0 < stp a b / p := Nat.div_pos (Nat.le_of_dvd pos (Nat.dvd_of_mod_eq_zero h)) (by omega)
  have := Nat.le_of_dvd q d
  have := Nat.div_lt_self pos hp
  omega
theorem stp_val (ha : 0 < a) (hb : 0 < b) {p : Nat} (hp : p ∈ PRn) : val p (stp a b) = val p b - val p a := by
  have e := val_add hp (stp a b) (Nat.gcd b a) (stp_pos hb) (gcd_pos' hb)
  rw [stp_mul, val_gcd (PRn_two hp) hb ha] at e
  omega
theorem stp_one (hb : 0 < b) : stp a b = 1 ↔ a % b = 0 := by
  constructor
  · intro e
    have d := (stp_iff hb 1).mpr (by rw [e]; exact Nat.dvd_refl 1)
    rw [Nat.one_mul] at d
    exact Nat.mod_eq_zero_of_dvd d
  · intro e
    have d := (stp_iff hb 1).mp (by rw [Nat.one_mul]; exact Nat.dvd_of_mod_eq_zero e)
    exact Nat.dvd_one.mp d
theorem stp_all (hb : 0 < b) : stp a b = b ↔ Nat.gcd b a = 1 := by
  have e := stp_mul a b
  constructor
  · intro h
    rw [h] at e
    have : b * Nat.gcd b a = b * 1 := by rw [e, Nat.mul_one]
    exact Nat.eq_of_mul_eq_mul_left hb this
  · intro h
    rw [h, Nat.mul_one] at e
    exact e
theorem stp_does (hb : 0 < b) : stp a b * a % b = 0 := Nat.mod_eq_zero_of_dvd ((stp_iff hb _).mpr (Nat.dvd_refl _))
theorem stp_two {c : Nat} (hb : 0 < b) (hc : 0 < c) : stp a b * stp b c % stp a c = 0 := by
  refine Nat.mod_eq_zero_of_dvd ((stp_iff hc _).mp ?_)
  have d1 : b ∣ stp a b * a := (stp_iff hb _).mpr (Nat.dvd_refl _)
  have d2 : c ∣ stp b c * b := (stp_iff hc _).mpr (Nat.dvd_refl _)
  have e : stp a b * stp b c * a = stp b c * (stp a b * a) := by
    rw [Nat.mul_comm (stp a b), Nat.mul_assoc]
  rw [e]
  exact Nat.dvd_trans d2 (Nat.mul_dvd_mul_left _ d1)
end
end NA
namespace NA
open PySem PySem.Spec PyProof.Rows L2

/-! ### defs while no repr is under way -/
abbrev Bare (A : Around) : Prop := A.guards = some []
structure GFn (P : Program) (w : World) (K : PySem.W.Frag) (mg : Str → Option Value) (base : Heap) (k : Nat) (f : Addr) (fd : FuncData) (ps : List Str) (sp : Sp) : Prop where
  len : ∀ vs H Q E, sp vs H Q E → vs.length = ps.length
  go : ∀ (A : Around) (outer : List Env) (s : Shared) (H : Hp) (args : Args) (us : List Value) (vs : List V) (Q : VK) (E : XK),
    Bare A → Room k A → Env0 P w K mg base A outer s H → BindsTo s fd args (ps.zip us) → Vals vs us → sp vs H Q E →
    codeAny (model P w) A (.call (.ref f) args) (CR CX0 outer P w H s Q E) s
/-- a def of the text: where it stands, how it binds -/
structure DefAt (K : PySem.W.Frag) (mg : Str → Option Value) (x : Str) (st : Stmt) (ps : List Str) (f : Addr) (fd : FuncData) : Prop where
  fn : Fun K x x st f fd
  mgf : mg x = some (.ref f)
  bd : Binds K fd ps []
structure Cal (P : Program) (w : World) (K : PySem.W.Frag) (mg : Str → Option Value) (base : Heap) (k : Nat) (x : Str) (sp : Sp) : Prop where
  ex : ∃ (f : Addr) (fd : FuncData) (ps : List Str), FnOk P w K mg base CX0 k f fd ps sp ∧ mg x = some (.ref f) ∧ PySem.W.keepIn K (.ref f) = true ∧ Binds K fd ps []
structure GCal (P : Program) (w : World) (K : PySem.W.Frag) (mg : Str → Option Value) (base : Heap) (k : Nat) (x : Str) (sp : Sp) : Prop where
  ex : ∃ (f : Addr) (fd : FuncData) (ps : List Str), GFn P w K mg base k f fd ps sp ∧ mg x = some (.ref f) ∧ PySem.W.keepIn K (.ref f) = true ∧ Binds K fd ps []
section
variable {P : Program} {w : World} {K : PySem.W.Frag} {mg : Str → Option Value} {base : Heap}
theorem cal_of {x : Str} {st : Stmt} {f : Addr} {fd : FuncData} {N ps : List Str} {k : Nat} {sp : Sp} (D : DefAt K mg x st ps f fd) (S : FnScope N ps (defScope st)) (len : ∀ vs H Q E, sp vs H Q E → vs.length = ps.length)
    (body : ∀ (cdv : Value) (A : Around) (outer : List Env) (s : Shared) (H : Hp) (vs : List V) (Q : VK) (E : XK), Room k (A.deeper (envOfC x (defScope st) s.heap.objs.size f cdv)) → sp vs H Q E →
      ∃ t, PSs (cxOf CX0 P w K mg base N x (defScope st) f cdv A outer s H E).nox (defBody st) t ∧ t { nx := fun _ H' => Q .non H', rt := Q } (start N vs) H) : Cal P w K mg base (k + 1) x sp :=
  ⟨f, fd, ps, D.fn.ok S len body, D.mgf, D.fn.kp, D.bd⟩
theorem gfn_of {x : Str} {st : Stmt} {f : Addr} {fd : FuncData} {N ps : List Str} {k : Nat} {sp : Sp} (F : Fun K x x st f fd) (S : FnScope N ps (defScope st)) (len : ∀ vs H Q E, sp vs H Q E → vs.length = ps.length)
    (body : ∀ (cdv : Value) (A : Around) (outer : List Env) (s : Shared) (H : Hp) (vs : List V) (Q : VK) (E : XK), PySem.W.codeIn K cdv x = true → Bare A → Room k (A.deeper (envOfC x (defScope st) s.heap.objs.size f cdv)) → sp vs H Q E →
      ∃ t, PSs (cxOf CX0 P w K mg base N x (defScope st) f cdv A outer s H E).nox (defBody st) t ∧ t { nx := fun _ H' => Q .non H', rt := Q } (start N vs) H) : GFn P w K mg base (k + 1) f fd ps sp := by
  obtain ⟨oc, od, kV, doc, pm, an, cdv, ct, osl, rfl, lk, hcode⟩ := F.ex
  refine ⟨len, fun A outer s H args us vs Q E hg room e0 bind rel want => ?_⟩
  have hlen := len _ _ _ _ want
  have KX : K.In s.heap := e0.mod.kin.keeps fun b o z => (e0.bs b o z).1
  have nolim : s.heap.NoLimit := e0.mod.nolimit.keeps fun b o z => (e0.bs b o z).1
  have kinds : ∀ y ∈ ps.zip us, (defScope st).names.lookup y.1 = some .local ∨ ((defScope st).names.lookup y.1 = some .cell ∧ ((cellsFrom (s.heap.objs.size + 1) (defScope st).names []).lookup y.1).isSome = true) := by
    intro ⟨nm, v⟩ hy
    rcases S.par nm (List.of_mem_zip hy).1 with z | z
    · exact .inl z
    · exact .inr ⟨z, PySem.W.cellsFrom_some _ _ _ (.inl z)⟩
  refine codeAny_call_function room.depth (KX _ _ lk) rfl S.co S.gen rfl (PySem.W.codeRec_of KX hcode) (bind _ _ _ _ ?_)
  refine wpAny_newFunctionEnv_cells S.kind kinds fun env henv s1 inc => ?_
  subst henv
  refine ⟨nolim.keeps inc.toInCall.keep, codeAny_func ?_⟩
  obtain ⟨t, derives, reads⟩ := body cdv A outer s H vs Q E hcode hg (room.deeper _) want
  have I := inv_start (CX := CX0) (E := E) (cd := cdv) S room.hd e0 hlen rel inc
  refine wpAny_mono (derives.nox.run [] s1 (start N vs) H _ I reads) (fun fl s' hs => ?_) fun e s' hs => hs
  cases fl with
  | ret u =>
    obtain ⟨v, σ', H', J, rv, q⟩ := hs
    exact ⟨v, H', J.os, J.bare, J.base, J.hok, rv, q⟩
  | next =>
    obtain ⟨σ', H', J, q⟩ := hs
    exact ⟨V.non, H', J.os, J.bare, J.base, J.hok, rfl, q⟩
  | brk =>
    obtain ⟨σ', H', J, q⟩ := hs
    exact False.elim q
  | cont =>
    obtain ⟨σ', H', J, q⟩ := hs
    exact False.elim q
theorem gcal_of {x : Str} {st : Stmt} {f : Addr} {fd : FuncData} {N ps : List Str} {k : Nat} {sp : Sp} (D : DefAt K mg x st ps f fd) (S : FnScope N ps (defScope st)) (len : ∀ vs H Q E, sp vs H Q E → vs.length = ps.length)
    (body : ∀ (cdv : Value) (A : Around) (outer : List Env) (s : Shared) (H : Hp) (vs : List V) (Q : VK) (E : XK), PySem.W.codeIn K cdv x = true → Bare A → Room k (A.deeper (envOfC x (defScope st) s.heap.objs.size f cdv)) → sp vs H Q E →
      ∃ t, PSs (cxOf CX0 P w K mg base N x (defScope st) f cdv A outer s H E).nox (defBody st) t ∧ t { nx := fun _ H' => Q .non H', rt := Q } (start N vs) H) : GCal P w K mg base (k + 1) x sp :=
  ⟨f, fd, ps, gfn_of D.fn S len body, D.mgf, D.fn.kp, D.bd⟩
end
section
variable {X : Cx} {x : Str} {p pos : Pos} {e : Expr} {es : List Expr} {t : TA} {k j : Nat} {sp : Sp}
/-- f(..) of such a def -/
theorem pe_g (c : GCal X.prog X.w X.K X.mg X.base k x sp) (hg : Bare X.A) (hr : Room j X.A) (hk : k ≤ j) (hgl : Gl X x) (ha : PA X (e :: es) t) (hdb : (x == ("__debug__" : Str)) = false := by decide)
    (he : starEach (e :: es) X.env = (false, eval e X.env) :: starEach es X.env := by rfl) (hpl : (backTo pos (starEach es X.env)).any (·.1) = false := by rfl) :
    PE X (.Call (.Name x p) (e :: es) [] pos) (tCall sp [] E0 t) := by
  obtain ⟨f, fd, ps, F, hm, hkeep, hb⟩ := c.ex
  refine ⟨fun pins s σ H Q I h => wpAny_Call_Name_kw (ld_glob I hgl hm ?_ hdb)⟩
  refine PySem.W.callWith_K (h₀ := X.base) I.ok.mod.kin hkeep (thn (ha.run pos pins s σ H _ I h) fun us s1 ⟨vs, H1, I1, r, q⟩ => ⟨I1.kIn, ?_⟩) he hpl
  have q' : sp (vs ++ []) H1 Q E0 := q
  rw [List.append_nil] at q'
  have l : (us ++ []).length = ps.length := by rw [List.append_nil, ← r.length]; exact F.len _ _ _ _ q'
  have b := hb s1 us I1.kIn l
  rw [List.append_nil] at b
  refine wpAny_call (codeAny_mono (F.go X.A X.stack s1 H1 ⟨us, []⟩ us vs Q E0 hg (hr.mono hk) I1.env0 b r q') fun res s' hq => ?_)
  cases res with
  | error err => exact False.elim hq
  | ok fl =>
    cases fl with
    | ret u => exact I1.after hq
    | next => exact False.elim hq
    | brk => exact False.elim hq
    | cont => exact False.elim hq
/-- f(k=v, ..): keywords alone -/
theorem pe_kw {CX : CXT} {f : Addr} {fd : FuncData} {ps ks : List Str} {E : XK} {kws : List Keyword} {tk : TA} {g : List Value → List Value → List Value} {gV : List V → List V → List V} (F : FnOk X.prog X.w X.K X.mg X.base CX k f fd ps sp) (hr : Room k X.A) (hgl : Gl X x) (hm : X.mg x = some (.ref f))
    (hkeep : PySem.W.keepIn X.K (.ref f) = true) (hb : KBinds X.K fd ps ks g gV) (hx : Passes CX X E) (hkw : PK X kws tk) (hall : (backToKw pos (keywordEach kws X.env)).all (·.1.isSome) = true := by rfl)
    (hks : (backToKw pos (keywordEach kws X.env)).filterMap (·.1) = ks := by rfl) (hdb : (x == ("__debug__" : Str)) = false := by decide)
    (hpl : ((backTo pos (starEach [] X.env)).any (·.1) || (backToKw pos (keywordEach kws X.env)).any (·.1.isNone)) = false := by rfl) :
    PE X (.Call (.Name x p) [] kws pos) (tCallK sp gV E tNil tk) := by
  refine ⟨fun pins s σ H Q I h => wpAny_Call_Name_kw (ld_glob I hgl hm ?_ hdb)⟩
  refine PySem.W.callWith_KW0 (h₀ := X.base) I.ok.mod.kin hkeep hall (thn (hkw.run pos pins s σ H _ I h) fun ws s2 ⟨zs, H2, I2, rz, q2⟩ => ⟨I2.kIn, ?_⟩) hpl
  rw [hks]
  exact run_fnk (us := []) F hr hb hx I2 .nil rz q2
end
/-- a def that may be called by keywords, in the order ks -/
structure CalK (P : Program) (w : World) (K : PySem.W.Frag) (mg : Str → Option Value) (base : Heap) (k : Nat) (x : Str) (sp : Sp) (ks : List Str) (gV : List V → List V → List V) : Prop where
  ex : ∃ (f : Addr) (fd : FuncData) (ps : List Str) (g : List Value → List Value → List Value), FnOk P w K mg base CX0 k f fd ps sp ∧ mg x = some (.ref f) ∧ PySem.W.keepIn K (.ref f) = true ∧ KBinds K fd ps ks g gV
section
variable {X : Cx} {x : Str} {p pos : Pos} {k j : Nat} {sp : Sp} {ks : List Str} {kws : List Keyword} {tk : TA} {gV : List V → List V → List V}
theorem pe_ck (c : CalK X.prog X.w X.K X.mg X.base k x sp ks gV) (hr : Room j X.A) (hk : k ≤ j) (hgl : Gl X x) (hkw : PK X kws tk) (hall : (backToKw pos (keywordEach kws X.env)).all (·.1.isSome) = true := by rfl)
    (hks : (backToKw pos (keywordEach kws X.env)).filterMap (·.1) = ks := by rfl) (hdb : (x == ("__debug__" : Str)) = false := by decide)
    (hpl : ((backTo pos (starEach [] X.env)).any (·.1) || (backToKw pos (keywordEach kws X.env)).any (·.1.isNone)) = false := by rfl) :
    PE X (.Call (.Name x p) [] kws pos) (tCallK sp gV E0 tNil tk) := by
  obtain ⟨f, fd, ps, g, F, hm, hkeep, hb⟩ := c.ex
  exact pe_kw F (hr.mono hk) hgl hm hkeep hb pass0 hkw hall hks hdb hpl
theorem pe_c0 (c : Cal X.prog X.w X.K X.mg X.base k x sp) (hr : Room j X.A) (hk : k ≤ j) (hgl : Gl X x) (hdb : (x == ("__debug__" : Str)) = false := by decide) : PE X (.Call (.Name x p) [] [] pos) (tCall sp [] E0 tNil) := by
  obtain ⟨f, fd, ps, F, hm, hkeep, hb⟩ := c.ex
  exact pe_call0 F (hr.mono hk) hgl hm hkeep hb .nil pass0 hdb
theorem pe_c {e : Expr} {es : List Expr} {t : TA} (c : Cal X.prog X.w X.K X.mg X.base k x sp) (hr : Room j X.A) (hk : k ≤ j) (hgl : Gl X x) (ha : PA X (e :: es) t) (hdb : (x == ("__debug__" : Str)) = false := by decide)
    (he : starEach (e :: es) X.env = (false, eval e X.env) :: starEach es X.env := by rfl) (hpl : (backTo pos (starEach es X.env)).any (·.1) = false := by rfl) : PE X (.Call (.Name x p) (e :: es) [] pos) (tCall sp [] E0 t) := by
  obtain ⟨f, fd, ps, F, hm, hkeep, hb⟩ := c.ex
  exact pe_call F (hr.mono hk) hgl hm hkeep hb .nil pass0 ha hdb he hpl
end
/-- the end of a law over such a def -/
theorem walkG {l : PySem.W.OpenLaw} {n k : Nat} {q : Program} {loose : List Str} {XP : (Str → Option Value) → Heap → Prop} {YP : World → Heap → Prop} {d : DefRec} {K : Params → PySem.W.Frag} {sp : PySem.W.Frag → Sp} {x : Str}
    (hn : l.most = some n) (hn2 : n ≤ sizeLine) (hdf : d.params.defaults = []) (hr : Room k callerA)
    (hY : ∀ (w : World) (h : Heap), YP w h → (K w.params).In h)
    (F : ∀ (w : World) (mg : Str → Option Value) (fa : Addr) (h : Heap), (K w.params).In h → h.Ns mainGlobals mg → mg d.name = some (.ref fa) →
      ∃ fd : FuncData, (∀ (s : Shared) (u : Value), BindsTo s fd ⟨[u], []⟩ [(x, u)]) ∧
        ∀ base : Heap, (K w.params).In base → base.Ns mainGlobals mg → GFn l.prog w (K w.params) mg base k fa fd [x] (sp (K w.params)))
    (hsp : ∀ (K : PySem.W.Frag) (H : Hp) (a : Addr) (ns : List Int), ns.length ≤ n → Only H → SqL K H a (ns.map V.int) → sp K [.ref a] H (fun v _ => v = .bl true) fun _ _ _ => False) :
    PySem.W.WalkO q loose XP YP l.row.toRowW d [] (fun f vs => PySem.call f vs) := by
  refine Att.attach_call hn hdf fun w s₀ s₁ mg mb fa o pm cd doc a vs ns G Y ho hd hcd hmg hobj hints hlen hgen => ?_
  have KX := hY w _ Y
  obtain ⟨fd, hb, hF⟩ := F w mg fa _ KX G.T.g hmg
  have mine : ∀ base : Heap, (K w.params).In base → base.Ns mainGlobals mg → FnOk l.prog w (K w.params) mg base CX0 k fa fd [x] (sp (K w.params)) → True := fun _ _ _ _ => trivial
  have rv := vals_ints hints
  have lenV := hints.length
  -- as the layer's own head does it, for the caller's surroundings alone
  have core : ∀ H : Hp, Only H → SqL (K w.params) H a (ns.map V.int) → HOk l.prog w H s₁.heap → (∀ b, H b ≠ none → b = a) → (H a ≠ none → (K w.params).lookup a = none) →
      codeAny (model l.prog w) callerA (.call (.ref fa) ⟨[.ref a], []⟩) (fun r s' => r = .ok (.ret (.bool true)) ∧ OldK s₁.heap s'.heap ∧ s'.os = s₁.os ∧ AllBare s'.gens) s₁ := by
    intro H hO hS hok only unk
    have keepHid : ∀ {b : Addr} {ob : Obj}, s₁.heap.get? b = some ob → H b = none → (hidT s₁.heap H).get? b = some ob := fun z nn => hidT_get z nn
    have dictFree : ∀ {b : Addr} {ob : Obj} {es : Array DictEntry} {ep : Nat}, s₁.heap.get? b = some ob → ob.data = .dict es ep → H b = none := by
      intro b ob es ep z dd
      cases hb' : H b with
      | none => rfl
      | some u =>
        have eb : b = a := only b (by rw [hb']; exact Option.some_ne_none u)
        rw [eb, hobj] at z
        cases z
        have dd' : Data.seq vs.toArray _ = Data.dict es ep := dd
        cases dd'
    have nsHid : ∀ {b : Addr} {m : Str → Option Value}, s₁.heap.Ns b m → (hidT s₁.heap H).Ns b m := fun {b m} ⟨ob, es, ep, z, dd, rest⟩ => ⟨ob, es, ep, keepHid z (dictFree z dd), dd, rest⟩
    have inHid : (K w.params).In (hidT s₁.heap H) := fun b ob z => keepHid (KX b ob z) (by
      cases hb' : H b with
      | none => rfl
      | some u =>
        have eb : b = a := only b (by rw [hb']; exact Option.some_ne_none u)
        rw [eb, unk (by rw [← eb, hb']; exact Option.some_ne_none u)] at z
        cases z)
    have M : Mod (K w.params) mg (hidT s₁.heap H) := ⟨inHid, nsHid G.T.g, ⟨mb, nsHid G.T.b, G.T.builtins⟩, let ⟨mc, z1, z2⟩ := G.T.nolimit; ⟨mc, nsHid z1, z2⟩⟩
    have e0 : Env0 l.prog w (K w.params) mg (hidT s₁.heap H) callerA [] s₁ H := ⟨rfl, M, fun b ob z => of_hidT z, Nat.le_of_eq (hidT_size _ _), trivial, fun b hb => absurd (show b ∈ ([] : List Addr) from hb) List.not_mem_nil, hok, .of_eq hgen⟩
    refine codeAny_mono ((hF _ inHid (nsHid G.T.g)).go callerA [] s₁ H ⟨[.ref a], []⟩ [.ref a] [.ref a] _ _ rfl hr e0 (hb s₁ (.ref a)) (.cons rfl .nil) (hsp (K w.params) H a ns hlen hO hS)) fun r s' hq => ?_
    have hq2 : ∃ u, r = .ok (.ret u) ∧ CE [] l.prog w H s₁ (fun v _ => v = .bl true) u s' := by
      cases r with
      | error err => exact False.elim hq
      | ok fl =>
        cases fl with
        | ret u => exact ⟨u, rfl, hq⟩
        | next => exact False.elim hq
        | brk => exact False.elim hq
        | cont => exact False.elim hq
    match hq2 with
    | ⟨u, er, v, H', os, bare, un, hok', rel, q⟩ =>
      have q' : v = .bl true := q
      subst q'
      have eu : u = Value.bool true := rel
      subst eu
      refine ⟨er, OldK.of_keep fun b ob z => ?_, os, bare⟩
      cases hb' : H b with
      | none => exact un.keep b ob z hb' (fun m => by cases m) (fun m => by cases m)
      | some u =>
        rcases hO b with n0 | ⟨ob', xs, n0⟩
        · rw [hb'] at n0
          cases n0
        · have n1 := un.frzs b ob' _ n0
          obtain ⟨z1, _⟩ := hok b _ n0
          obtain ⟨z2, _⟩ := hok' b _ n1
          rw [z] at z1
          cases z1
          exact z2
  cases hk : (K w.params).lookup a with
  | some ob =>
    have z := KX a ob hk
    rw [hobj] at z
    cases z
    exact core (fun _ => none) (fun _ => .inl rfl) (.inr ⟨_, vs.toArray, _, hk, rfl, rfl, rfl, by rw [List.size_toArray, lenV]; exact Nat.le_trans hlen hn2, by simpa using rv⟩) (fun b u z => by have z' : (none : Option HO) = some u := z; cases z') (fun b z => absurd rfl z) fun z => absurd rfl z
  | none =>
    refine core (fun b => if b = a then some (.frz { cls := .type "list", data := .seq vs.toArray } (.lst (ns.map V.int))) else none) (fun b => ?_) (.inl (.inr ⟨{ cls := .type "list", data := .seq vs.toArray }, if_pos rfl⟩)) (fun b u z => ?_) (fun b z => ?_) fun _ => hk
    · by_cases eb : b = a
      · exact .inr ⟨_, _, if_pos eb⟩
      · exact .inl (if_neg eb)
    · by_cases eb : b = a
      · have z' := (if_pos eb).symm.trans z
        cases z'
        subst eb
        exact ⟨hobj, by rw [List.length_map]; exact Nat.le_trans hlen hn2, vs, _, rv, hobj⟩
      · have z' := (if_neg eb).symm.trans z
        cases z'
    · by_cases eb : b = a
      · exact eb
      · exact absurd (if_neg eb) z
end NA
namespace NA
open PySem PySem.Spec PyProof.Rows L2

/-! ### how long a repr may be -/
mutual
def cost : PyData → Nat
  | .none => 4
  | .bool _ => 5
  | .int _ => 1921
  | .str x => 10 * x.length + 2
  | .list xs => costAll xs + 3
  | .tuple xs => costAll xs + 3
  | .dict _ => 0
def costAll : List PyData → Nat
  | [] => 0
  | x :: xs => cost x + 2 + costAll xs
end
def strSmall (x : Str) : Bool := x.cps.toList.all fun c => decide (c < 16 ^ 8)
mutual
def okD : PyData → Bool
  | .none => true
  | .bool _ => true
  | .int i => decide (i.natAbs.log2 < 1920)
  | .str x => strSmall x
  | .list xs => okAll xs
  | .tuple xs => okAll xs
  | .dict _ => false
def okAll : List PyData → Bool
  | [] => true
  | x :: xs => okD x && okAll xs
end
mutual
theorem okD_facts : ∀ d : PyData, okD d = true → d.showable = true ∧ d.hasDict = false ∧ d.shown.length ≤ cost d
  | .none, _ => ⟨rfl, rfl, by decide +kernel⟩
  | .bool true, _ => ⟨rfl, rfl, by decide +kernel⟩
  | .bool false, _ => ⟨rfl, rfl, by decide +kernel⟩
  | .int i, h => by
    have h1 : i.natAbs.log2 < 1920 := by simpa [okD] using h
    refine ⟨by simpa [PyData.showable] using h1, by simp only [PyData.hasDict], ?_⟩
    simp only [PyData.shown, cost]
    exact PyProof.Rows.int_text_len_1921 h1
  | .str x, h => by
    refine ⟨by simp only [PyData.showable], by simp only [PyData.hasDict], ?_⟩
    simp only [PyData.shown, cost]
    refine StrLaws.reprText_len x fun c hc => ?_
    have h1 : strSmall x = true := by simpa [okD] using h
    unfold strSmall at h1
    exact of_decide_eq_true (List.all_eq_true.mp h1 c hc)
  | .list xs, h => by
    obtain ⟨a, b, c, e⟩ := okAll_facts xs (by simpa [okD] using h)
    refine ⟨by simpa [PyData.showable] using a, by simpa [PyData.hasDict] using b, ?_⟩
    simp only [PyData.shown, cost]
    have := listText_len_le (PyData.shownAll xs)
    omega
  | .tuple xs, h => by
    obtain ⟨a, b, c, e⟩ := okAll_facts xs (by simpa [okD] using h)
    refine ⟨by simpa [PyData.showable] using a, by simpa [PyData.hasDict] using b, ?_⟩
    simp only [PyData.shown, cost]
    have := tupleText_len_le (PyData.shownAll xs)
    omega
  | .dict _, h => by simp [okD] at h
theorem okAll_facts : ∀ xs : List PyData, okAll xs = true → PyData.showableAll xs = true ∧ PyData.hasDictAll xs = false ∧ ((PyData.shownAll xs).map (·.length)).sum + 2 * (PyData.shownAll xs).length ≤ costAll xs ∧ True
  | [], _ => ⟨rfl, rfl, Nat.le_refl _, trivial⟩
  | x :: xs, h => by
    have h' : okD x = true ∧ okAll xs = true := by simpa [okAll] using h
    obtain ⟨a, b, c⟩ := okD_facts x h'.1
    obtain ⟨d, e, f, _⟩ := okAll_facts xs h'.2
    refine ⟨by simp only [PyData.showableAll, a, d, Bool.and_self], by simp only [PyData.hasDictAll, b, e, Bool.or_self], ?_, trivial⟩
    simp only [PyData.shownAll, costAll, List.map_cons, List.sum_cons, List.length_cons]
    omega
end
/-- data whose repr may be taken -/
structure Sh (d : PyData) : Prop where
  ok : okD d = true
  cost : cost d ≤ 16000000
  depth : d.depth ≤ 60
section
variable {X : Cx}
theorem call_reprD {k : Nat} (hg : Bare X.A) (hr : Room k X.A) : CallR X (.builtin "repr") (fun xs H Q => ∃ v d, xs = [v] ∧ Dp X.K H v d ∧ Sh d ∧ Q (.str d.shown) H) := by
  intro pins s σ H xs us Q I r h
  obtain ⟨v, d, rfl, hd, sh, q⟩ := h
  obtain ⟨u, rfl, rv⟩ := r.one
  obtain ⟨f1, f2, f3⟩ := okD_facts d sh.ok
  have hz : d.shown.length ≤ sizeLine := Nat.le_trans f3 (Nat.le_trans sh.cost (by decide))
  have hu := hr.un
  have hdep := sh.depth
  obtain ⟨as, rd⟩ := Dp.reads I d v u hd rv
  have big : ∀ a, u = Value.ref a → wpAny (model X.prog X.w) X.A (call (.builtin "repr") [u]) (EP X pins σ Q) X.xe s := fun a e => by
    subst e
    exact repr_of_reads' rd f1 (PyData.noDict_hsm f2) hg (by omega) (fun _ _ z => z) (fun h' u tk hk => ⟨.str _, H, I.kept (t' := tk) hk, ⟨_, rfl⟩, q⟩) hz
  cases hd with
  | non =>
    cases (show u = Value.none from rv)
    exact PySem.P.repr_of_none ⟨.str _, H, I.tok _, ⟨_, rfl⟩, q⟩
  | bl b =>
    cases (show u = Value.bool b from rv)
    refine PySem.P.repr_of_bool ⟨.str _, H, I.tok _, ⟨_, rfl⟩, ?_⟩
    simpa only [PyData.shown] using q
  | int i =>
    obtain ⟨t, rfl⟩ := (show ∃ t, u = Value.int i t from rv)
    refine PySem.P.repr_of_int (by simpa [okD] using sh.ok) ⟨.str _, H, I.tok _, ⟨_, rfl⟩, ?_⟩
    simpa only [PyData.shown] using q
  | str x =>
    obtain ⟨t, rfl⟩ := (show ∃ t, u = Value.str x t from rv)
    refine PySem.P.repr_of_str ⟨.str _, H, I.tok _, ⟨_, rfl⟩, ?_⟩ (by simpa only [PyData.shown] using hz)
    simpa only [PyData.shown] using q
  | lst _ _ => exact big _ rv
  | tup _ _ => exact big _ rv
end
/-! ### data that never changes: tuples all the way -/
mutual
inductive Im (H : Hp) : V → PyData → Prop
  | non : Im H .non .none
  | bl (b : Bool) : Im H (.bl b) (.bool b)
  | int (i : Int) : Im H (.int i) (.int i)
  | str (x : Str) : Im H (.str x) (.str x)
  | tup {a : Addr} {xs : List V} {ds : List PyData} : H a = some (.tup xs) → ImAll H xs ds → Im H (.ref a) (.tuple ds)
inductive ImAll (H : Hp) : List V → List PyData → Prop
  | nil : ImAll H [] []
  | cons {v : V} {vs : List V} {d : PyData} {ds : List PyData} : Im H v d → ImAll H vs ds → ImAll H (v :: vs) (d :: ds)
end
/-- tuples stay -/
def Tk (H H' : Hp) : Prop := ∀ b xs, H b = some (.tup xs) → H' b = some (.tup xs)
theorem Tk.refl (H : Hp) : Tk H H := fun _ _ h => h
theorem Tk.trans {H H1 H2 : Hp} (a : Tk H H1) (b : Tk H1 H2) : Tk H H2 := fun c x h => b c x (a c x h)
theorem Tk.new {H H' : Hp} {p : Addr} {o : HO} (e : Tk H H') (h : H' p = none) : Tk H (upd H' p o) := fun b xs z => by
  have z' := e b xs z
  rw [upd_ne (ne_of_none z' h)]
  exact z'
theorem Tk.put {H H' : Hp} {p : Addr} {xs : List V} {o : HO} (e : Tk H H') (h : H' p = some (.lst xs)) : Tk H (upd H' p o) := fun b ys z => by
  have z' := e b ys z
  rw [upd_ne (ne_of z' h (by intro q; cases q))]
  exact z'
theorem Tk.same {H H' : Hp} (e : Same H H') : Tk H H' := fun b xs z => e b _ z
mutual
theorem Im.keep {H H' : Hp} (e : Tk H H') : ∀ (d : PyData) (v : V), Im H v d → Im H' v d
  | .none, _, h => by cases h; exact .non
  | .bool _, _, h => by cases h; exact .bl _
  | .int _, _, h => by cases h; exact .int _
  | .str _, _, h => by cases h; exact .str _
  | .tuple ds, _, h => by
    cases h with
    | tup a b => exact .tup (e _ _ a) (ImAll.keep e ds _ b)
  | .list _, _, h => by cases h
  | .dict _, _, h => by cases h
theorem ImAll.keep {H H' : Hp} (e : Tk H H') : ∀ (ds : List PyData) (vs : List V), ImAll H vs ds → ImAll H' vs ds
  | [], _, h => by cases h; exact .nil
  | d :: ds, _, h => by
    cases h with
    | cons a b => exact .cons (Im.keep e d _ a) (ImAll.keep e ds _ b)
end
theorem Im.k {H H' : Hp} {v : V} {d : PyData} (h : Im H v d) (e : Tk H H') : Im H' v d := Im.keep e d v h
theorem ImAll.k {H H' : Hp} {vs : List V} {ds : List PyData} (h : ImAll H vs ds) (e : Tk H H') : ImAll H' vs ds := ImAll.keep e ds vs h
mutual
theorem Im.toDp {K : PySem.W.Frag} {H : Hp} : ∀ (d : PyData) (v : V), Im H v d → Dp K H v d
  | .none, _, h => by cases h; exact .non
  | .bool _, _, h => by cases h; exact .bl _
  | .int _, _, h => by cases h; exact .int _
  | .str _, _, h => by cases h; exact .str _
  | .tuple ds, _, h => by
    cases h with
    | tup a b => exact .tup (SqT.of a) (ImAll.toDp ds _ b)
  | .list _, _, h => by cases h
  | .dict _, _, h => by cases h
theorem ImAll.toDp {K : PySem.W.Frag} {H : Hp} : ∀ (ds : List PyData) (vs : List V), ImAll H vs ds → DpAll K H vs ds
  | [], _, h => by cases h; exact .nil
  | d :: ds, _, h => by
    cases h with
    | cons a b => exact .cons (Im.toDp d _ a) (ImAll.toDp ds _ b)
end
theorem Im.dp {K : PySem.W.Frag} {H : Hp} {v : V} {d : PyData} (h : Im H v d) : Dp K H v d := Im.toDp d v h
theorem ImAll.dp {K : PySem.W.Frag} {H : Hp} {vs : List V} {ds : List PyData} (h : ImAll H vs ds) : DpAll K H vs ds := ImAll.toDp ds vs h
theorem Im.tuple {H : Hp} {v : V} {ds : List PyData} (h : Im H v (.tuple ds)) : ∃ a xs, v = .ref a ∧ H a = some (.tup xs) ∧ ImAll H xs ds := by
  cases h with
  | tup a b => exact ⟨_, _, rfl, a, b⟩
theorem Im.isInt {H : Hp} {v : V} {i : Int} (h : Im H v (.int i)) : v = .int i := by cases h; rfl
theorem ImAll.length {H : Hp} : ∀ {vs : List V} {ds : List PyData}, ImAll H vs ds → vs.length = ds.length
  | _, _, .nil => rfl
  | _, _, .cons _ b => by rw [List.length_cons, List.length_cons, ImAll.length b]
theorem ImAll.get {H : Hp} : ∀ {vs : List V} {ds : List PyData} {i : Nat} {d : PyData}, ImAll H vs ds → ds[i]? = some d → ∃ v, vs[i]? = some v ∧ Im H v d
  | _, _, _, _, .nil, e => by simp at e
  | _, _, 0, _, .cons a _, e => by
    simp at e
    subst e
    exact ⟨_, rfl, a⟩
  | _, _, i + 1, d, .cons _ b, e => by
    obtain ⟨v, h1, h2⟩ := ImAll.get (i := i) (d := d) b (by simpa using e)
    exact ⟨v, by simpa using h1, h2⟩
theorem ImAll.ints {H : Hp} : ∀ {vs : List V} {ns : List Int}, ImAll H vs (ns.map PyData.int) → vs = ns.map V.int
  | vs, [], h => by cases h; rfl
  | vs, n :: ns, h => by
    cases h with
    | cons a b =>
      cases a
      rw [List.map_cons, ImAll.ints b]
theorem ImAll.of_ints (H : Hp) : ∀ ns : List Int, ImAll H (ns.map V.int) (ns.map PyData.int)
  | [] => .nil
  | n :: ns => .cons (.int n) (ImAll.of_ints H ns)
theorem ImAll.append {H : Hp} : ∀ {vs ws : List V} {ds es : List PyData}, ImAll H vs ds → ImAll H ws es → ImAll H (vs ++ ws) (ds ++ es)
  | _, _, _, _, .nil, h => h
  | _, _, _, _, .cons a b, h => .cons a (ImAll.append b h)
end NA
namespace PySem
open Sem (wp)
open AutoSeq1 (wpAny_loadPart')
/-- the iterator of a tuple at l, new -/
abbrev tIt (l : Addr) : Obj := { cls := .type "tuple_iterator", data := .fields #[.ref l, .int 0 0] }
/-- the enumerate object over the iterator at i, new -/
abbrev tEn (i : Addr) : Obj := { cls := .type "enumerate", data := .fields #[.none, .bool false, .ref i, rawInt 0, .none, .none] }
set_option maxHeartbeats 1000000 in
theorem enumT_new (l : Addr) (o : Obj) (its : Array Value) (hc : o.cls = .type "tuple") (hd : ∃ n, o.data = .seq its n) :
    Meets (Builtin.«enumerate.__new__» ⟨[.type "enumerate", .ref l], []⟩)
      (fun _ R s => s.heap.get? l = some o ∧ R (.ok (.ret (.ref (s.heap.push (tIt l)).objs.size))) { s with heap := (s.heap.push (tIt l)).push (tEn s.heap.objs.size) }) :=
  .of_wp fun prog w A R s h => by
    obtain ⟨hp, gg, dr, tk, os⟩ := s
    obtain ⟨hl, h⟩ := h
    have sub := sub_enumerate
    have T : Heap.IsTuple (Shared.heap ⟨hp, gg, dr, tk, os⟩) l its := ⟨o, hl, hc, hd⟩
    wp_walk using wpAny_loadPart' hl
    refine wpAny_stack_any fun _ => wpAny_pure ?_
    split
    · rename_i cc _ _ _ _ _
      cases (cc == Value.type "enumerate")
      · wp_walk using wpAny_loadPart' hl, wpAny_pyIter_tuple T
        exact ⟨_, rfl, h⟩
      · wp_walk using wpAny_loadPart' hl, wpAny_pyIter_tuple T
        exact ⟨_, rfl, h⟩
    · wp_walk using wpAny_loadPart' hl, wpAny_pyIter_tuple T
      exact ⟨_, rfl, h⟩
section
variable {prog : Program} {w : World} {A : Around} {E : Value → Shared → Prop} {s : Shared}
theorem enumT_call {l : Addr} {its : Array Value} {Q : Value → Shared → Prop} (T : s.heap.IsTuple l its)
    (h : ∀ h', IsEnum h' (s.heap.objs.size + 1) s.heap.objs.size 0 .none → h'.get? s.heap.objs.size = some (tIt l) →
      (∀ b o, s.heap.get? b = some o → h'.get? b = some o) → Q (.ref (s.heap.objs.size + 1)) { s with heap := h' }) :
    wpAny (model prog w) A (call (.type "enumerate") [.ref l]) Q E s := by
  obtain ⟨o, hl, hc, hd⟩ := T
  refine callType_new F.called_enumerate (by decide) (F.typeCall_enumerate_1 _) (F.newCall_enumerate_1 _) (fun obj => F.args_object_init_2 obj _) F.entry_enumerate_new (enumT_new l o its hc hd) ⟨hl, ?_⟩
  have sz : (s.heap.push (tIt l)).objs.size = s.heap.objs.size + 1 := Heap.size_push ..
  show _ ∧ _
  rw [sz]
  have en : IsEnum ((s.heap.push (tIt l)).push (tEn s.heap.objs.size)) (s.heap.objs.size + 1) s.heap.objs.size 0 .none := by
    have z := Heap.get?_push_size (s.heap.push (tIt l)) (o := tEn s.heap.objs.size) rfl
    rw [sz] at z
    exact z
  exact ⟨⟨_, en, rfl⟩, h _ en (Heap.get?_push_of_some _ (Heap.get?_push_size _ rfl)) fun b u z => Heap.get?_push_of_some _ (Heap.get?_push_of_some _ z)⟩
end
end PySem
namespace NA
open PySem PySem.Spec PyProof.Rows L2
/-- enumerate(t), t a tuple: each item in a new pair -/
def IeT (K : PySem.W.Frag) (a : Addr) : It :=
  ⟨fun i H => ∃ (xs : List V) (x : V), SqT K H a xs ∧ xs[i]? = some x, fun i H v H' => ∃ T x, v = .ref T ∧ H T = none ∧ H' = upd H T (.tup [.int (i : Nat), x]) ∧ ∀ xs, SqT K H a xs → xs[i]? = some x,
    fun i H => ∃ xs : List V, SqT K H a xs ∧ xs.length ≤ i⟩
theorem turn_enumT {P : Program} {w : World} {K : PySem.W.Frag} {elts : List Expr} {kk : Nat} {tpos : Pos} (a e it : Addr) :
    Turn P w K (.Tuple elts kk tpos) (IeT K a) [e, it] e (fun i h => (∃ old, IsEnum h e it (0 + ((i : Nat) : Int)) old) ∧ h.IsTupleIter it a i ∧ e ≠ it) where
  mem := by simp
  obj := fun i h st b hb => by
    obtain ⟨⟨old, he⟩, ⟨o, ho, hc, hd⟩, _⟩ := st
    have cases2 : b = e ∨ b = it := by simpa using hb
    rcases cases2 with z | z
    · subst z
      exact ⟨_, he, fun v q => nomatch q⟩
    · subst z
      exact ⟨o, ho, fun v q => by rw [hd] at q; cases q⟩
  keep := fun i h h' st k => by
    obtain ⟨⟨old, he⟩, hi, hne⟩ := st
    exact ⟨⟨old, k e (by simp) _ he⟩, hi.at fun o q => k it (by simp) o q, hne⟩
  item := by
    intro X hP hw hK hc i pins s σ H E I hf st hg
    subst hP hw hK
    obtain ⟨⟨old, he⟩, hit, hne⟩ := st
    obtain ⟨xs, x, hq, hx⟩ := hg
    obtain ⟨its, rv, tp, hz⟩ := I.tuple hq
    obtain ⟨u, hu, ru⟩ := rv.get hx
    have el : e < s.heap.objs.size := Heap.lt_size he
    have il : it < s.heap.objs.size := by obtain ⟨_, q, _⟩ := hit; exact Heap.lt_size q
    have al : a < s.heap.objs.size := tp.lt
    have lenI : i < its.toArray.size := by
      have := (List.getElem?_eq_some_iff.mp hu).1
      simpa using this
    -- the tuple's own iterator, by what it draws
    have ta_it : a ≠ it := fun z => by
      obtain ⟨o1, q1, c1, _⟩ := hit
      obtain ⟨o2, q2, c2, _⟩ := (show s.heap.IsTuple a its.toArray from tp)
      rw [z, q1] at q2
      cases q2
      rw [c1] at c2
      exact absurd c2 (by decide)
    have ta_e : a ≠ e := fun z => by
      obtain ⟨o2, q2, c2, _⟩ := (show s.heap.IsTuple a its.toArray from tp)
      rw [z, show s.heap.get? e = some _ from he] at q2
      cases q2
      exact absurd (show Value.type "enumerate" = Value.type "tuple" from c2) (by decide)
    have D : Draws X.prog X.w X.A.in1 it [it, a] its.toArray.size (fun i v => its.toArray[i]? = some v) (fun i h => h.IsTupleIter it a i ∧ h.IsTuple a its.toArray) := Draws.tuple (A := X.A.in1) (I.ok.hd hc) it a ta_it its.toArray
    refine wpAny_pyNext_enum_itemC D he ⟨hit, tp⟩ lenI hne (by simp [hne, Ne.symm ta_e]) fun y h' tk hP ho hs' hT hsz hk => ?_
    have ey : y = u := Option.some.inj (hP.symm.trans (by simpa using hu))
    subst ey
    refine ⟨_, rfl, wpAny_letOwnedTupleGo_enum (s := { s with heap := h', toks := tk + 1 }) ho fun h'' he' sb => ?_⟩
    have hT2 : h''.get? s.heap.objs.size = some { cls := .type "tuple", data := .seq #[.int (0 + (i : Int)) tk, y] } := (sb.2 _ (Nat.ne_of_gt el)).trans hT
    have e0 : (0 + (i : Int)) = (i : Int) := by omega
    have new : ObjOk X.prog X.w (upd H s.heap.objs.size (.tup [.int (i : Nat), x])) h'' s.heap.objs.size (.tup [.int (i : Nat), x]) :=
      ⟨by show 2 ≤ sizeLine; decide, [.int (0 + (i : Int)) tk, y], .cons ⟨tk, by rw [e0]⟩ (.cons ru .nil), ⟨_, hT2, rfl, _, rfl⟩⟩
    have I1 : Inv X pins σ (upd H s.heap.objs.size (.tup [.int (i : Nat), x])) { s with heap := h'', toks := tk + 1 } :=
      I.turnedNew (ch := [e, it]) (fun b ob hb q => (sb.2 b (fun z => hb (by simp [z]))).trans (hk b ob (fun z => hb (by simp [z])) (fun z => hb (by simp [z])) q)) hf (Nat.le_refl _) new
    refine ⟨.ref s.heap.objs.size, _, I1, rfl, ⟨_, x, rfl, I.hok.fresh (Nat.le_refl _), rfl, fun ys hy => by rw [I.tuple_inj hy hq]; exact hx⟩, ⟨⟨y, ?_⟩, hs'.1.at fun o q => (sb.2 it (Ne.symm hne)).trans q, hne⟩, fun b hb => ?_⟩
    · have e1 : (0 + ((i + 1 : Nat) : Int)) = 0 + (i : Int) + 1 := by omega
      rw [e1]
      exact he'
    · have lt : b < s.heap.objs.size := by
        have cases2 : b = e ∨ b = it := by simpa using hb
        rcases cases2 with z | z
        · rw [z]; exact el
        · rw [z]; exact il
      rw [upd_ne (Nat.ne_of_lt lt)]
      exact (hf b hb).1
  done := by
    intro X hP hw hK hc i pins s σ H E I hf st hg
    subst hP hw hK
    obtain ⟨⟨old, he⟩, hit, hne⟩ := st
    obtain ⟨xs, hq, hx⟩ := hg
    obtain ⟨its, rv, tp, hz⟩ := I.tuple hq
    have ta_it : a ≠ it := fun z => by
      obtain ⟨o1, q1, c1, _⟩ := hit
      obtain ⟨o2, q2, c2, _⟩ := (show s.heap.IsTuple a its.toArray from tp)
      rw [z, q1] at q2
      cases q2
      rw [c1] at c2
      exact absurd c2 (by decide)
    obtain ⟨f0, f1, f2, f3, f4, f5⟩ := hf it (by simp)
    have ln := rv.length
    have gone : xs.length ≤ i := hx
    have D : Draws X.prog X.w X.A.in1 it [it, a] i (fun _ _ => False) (fun j h => j = i ∧ h.IsTupleIter it a j ∧ h.IsTuple a its.toArray) := {
      live := fun j h st => by
        obtain ⟨_, ⟨o, q, _⟩, _⟩ := st
        exact ⟨o, q⟩
      frame := fun j h h' st k => ⟨st.1, st.2.1.at fun o q => k it (by simp) o q, st.2.2.at fun o q => k a (by simp) o q⟩
      item := fun j s Q E hj st _ => absurd hj (by rw [st.1]; exact Nat.lt_irrefl _)
      done := fun s Q E st hE => wpAny_nextOf_tuple_end (A := X.A.in1) (I.ok.hd hc) st.2.1 st.2.2 (Array.getElem?_eq_none (by simp; omega)) hE }
    exact wpAny_pyNext_enum_endD D he ⟨rfl, hit, tp⟩ fun h' eb => ⟨rfl, I.turned (t' := s.toks) (fun b o hb q => eb b o hb q) f0 f1 f3 f4 f5⟩
  self := fun A i s Q E st h => by
    obtain ⟨⟨_, he⟩, _⟩ := st
    exact wpAny_pyIter_enum he h
def iEnumT (K : PySem.W.Frag) (ta : TA) : TI := fun σ H R => ta σ H fun vs H1 => ∃ a xs, vs = [.ref a] ∧ SqT K H1 a xs ∧ R (IeT K a) H1
theorem pi_enumT {X : Cx} {e : Expr} {ta : TA} {p pos tpos : Pos} {elts : List Expr} {kk : Nat} (hg : Gl X "enumerate") (hm : X.mg "enumerate" = none) (ha : PA X [e] ta) (hs : starEach [e] X.env = [(false, eval e X.env)] := by rfl) :
    PI X (.Tuple elts kk tpos) (.Call (.Name "enumerate" p) [e] [] pos) (iEnumT X.K ta) := by
  refine ⟨fun pins s σ H R I h => ?_⟩
  refine Call_ (ld_blt I hg hm boot_enumerate (PyProof.Rows.callWith_type1 (thn (ha.run pos pins s σ H _ I h) fun us s1 ⟨vs, H1, I1, r1, q1⟩ => ?_) hs rfl))
  obtain ⟨a, xs, ex, hq, q⟩ := q1
  subst ex
  obtain ⟨u, rfl, ru⟩ := r1.one
  cases (show u = Value.ref a from ru)
  obtain ⟨its, rv, tp, hz⟩ := I1.tuple hq
  refine enumT_call (its := its.toArray) tp fun h' en it kept => wpAny_pyIter_enum en ?_
  refine ⟨s1.heap.objs.size + 1, [s1.heap.objs.size + 1, s1.heap.objs.size], _, _, H1, rfl, I1.kept (t' := s1.toks) kept, turn_enumT a (s1.heap.objs.size + 1) s1.heap.objs.size, ⟨⟨.none, en⟩, ⟨_, it, rfl, rfl⟩, Nat.succ_ne_self _⟩, fun b hb => ?_, q⟩
  have two : b = s1.heap.objs.size + 1 ∨ b = s1.heap.objs.size := by simpa using hb
  have le : s1.heap.objs.size ≤ b := by
    rcases two with z | z
    · rw [z]
      exact Nat.le_succ _
    · rw [z]
      exact Nat.le_refl _
  exact I1.fpOk le (I1.hok.fresh le)
theorem walk_enumT {K : PySem.W.Frag} {a : Addr} {xs : List V} : Walk (IeT K a) xs.length (fun H => SqT K H a xs) (YPair (fun i => some (.int (i : Nat))) (fun i => xs[i]?)) := by
  refine ⟨fun i _ hi q => ⟨xs, xs[i], q, by simp [hi]⟩, fun _ q => ⟨xs, q, Nat.le_refl _⟩, fun i H v H' _ q y => ?_⟩
  obtain ⟨T, x, y1, y2, y3, y4⟩ := y
  exact ⟨T, .int (i : Nat), x, y1, y2, y3, rfl, y4 xs q⟩
end NA
namespace NA
open PySem PySem.Spec PyProof.Rows L2

/-! ### built-in names that no text here takes -/
structure Blt (mg : Str → Option Value) : Prop where
  len : mg "len" = none
  int : mg "int" = none
  max : mg "max" = none
  min : mg "min" = none
  tuple : mg "tuple" = none
  list : mg "list" = none
  range : mg "range" = none
  any : mg "any" = none
  all : mg "all" = none
  repr : mg "repr" = none
  enumerate : mg "enumerate" = none
  isinstance : mg "isinstance" = none
  bool : mg "bool" = none
/-! ### the pot that is drawn from -/
def Pt (H : Hp) (p q : Addr) : Prop := ∃ (cs : List Int) (a b n : Int), H p = some (.lst [.ref q, .int a, .int b, .int n]) ∧ H q = some (.lst (cs.map V.int)) ∧ cs.length ≤ 60 ∧ 0 ≤ a ∧ a < 4294967296 ∧ 0 ≤ b ∧ b < 4294967296
theorem Pt.lp {H : Hp} {p q : Addr} (h : Pt H p q) : ∃ xs, H p = some (.lst xs) := by
  obtain ⟨cs, a, b, n, h1, _⟩ := h
  exact ⟨_, h1⟩
theorem Pt.lq {H : Hp} {p q : Addr} (h : Pt H p q) : ∃ xs, H q = some (.lst xs) := by
  obtain ⟨cs, a, b, n, _, h1, _⟩ := h
  exact ⟨_, h1⟩
theorem pq_ne {H : Hp} {p q : Addr} {cs : List Int} {a b n : Int} (h1 : H p = some (.lst [.ref q, .int a, .int b, .int n])) (h2 : H q = some (.lst (cs.map V.int))) : p ≠ q := fun e => by
  subst e
  rw [h1] at h2
  cases cs with
  | nil => cases h2
  | cons c cs => cases h2
theorem Pt.ne {H : Hp} {p q : Addr} (h : Pt H p q) : p ≠ q := by
  obtain ⟨cs, a, b, n, h1, h2, _⟩ := h
  exact pq_ne h1 h2
/-- all else stays -/
def Kp (p q : Addr) (H H' : Hp) : Prop := ∀ b o, b ≠ p → b ≠ q → H b = some o → H' b = some o
theorem Kp.refl (p q : Addr) (H : Hp) : Kp p q H H := fun _ _ _ _ h => h
theorem Kp.trans {p q : Addr} {H H1 H2 : Hp} (a : Kp p q H H1) (b : Kp p q H1 H2) : Kp p q H H2 := fun c o n1 n2 h => b c o n1 n2 (a c o n1 n2 h)
theorem Kp.new {p q c : Addr} {o : HO} {H H' : Hp} (e : Kp p q H H') (h : H' c = none) : Kp p q H (upd H' c o) := fun b u n1 n2 z => by
  have z' := e b u n1 n2 z
  rw [upd_ne (ne_of_none z' h)]
  exact z'
theorem Kp.same {p q : Addr} {H H' : Hp} (e : Same H H') : Kp p q H H' := fun b o _ _ z => e b o z
/-- a change of what was not there at the beginning -/
theorem Kp.put {p q c : Addr} {o : HO} {H H' : Hp} (e : Kp p q H H') (h : H c = none) : Kp p q H (upd H' c o) := fun b u n1 n2 z => by
  rw [upd_ne (ne_of_none z h)]
  exact e b u n1 n2 z
theorem Kp.fresh {p q c : Addr} {H H' : Hp} (e : Kp p q H H') (n1 : c ≠ p) (n2 : c ≠ q) (h : H' c = none) : H c = none := by
  cases z : H c with
  | none => rfl
  | some o =>
    rw [e c o n1 n2 z] at h
    cases h
theorem Kp.tk {p q : Addr} {H H' : Hp} (e : Kp p q H H') (P : Pt H p q) : Tk H H' := fun b xs z => by
  obtain ⟨ys, h1⟩ := P.lp
  obtain ⟨zs, h2⟩ := P.lq
  exact e b _ (ne_of z h1 (by intro k; cases k)) (ne_of z h2 (by intro k; cases k)) z
theorem Pt.new {H : Hp} {p q c : Addr} {o : HO} (P : Pt H p q) (h : H c = none) : Pt (upd H c o) p q := by
  obtain ⟨cs, a, b, n, h1, h2, r⟩ := P
  exact ⟨cs, a, b, n, by rw [upd_ne (ne_of_none h1 h)]; exact h1, by rw [upd_ne (ne_of_none h2 h)]; exact h2, r⟩
theorem Pt.put {H : Hp} {p q c : Addr} {o : HO} (P : Pt H p q) (n1 : c ≠ p) (n2 : c ≠ q) : Pt (upd H c o) p q := by
  obtain ⟨cs, a, b, n, h1, h2, r⟩ := P
  exact ⟨cs, a, b, n, by rw [upd_ne (Ne.symm n1)]; exact h1, by rw [upd_ne (Ne.symm n2)]; exact h2, r⟩
theorem Pt.same {H H' : Hp} {p q : Addr} (P : Pt H p q) (e : Same H H') : Pt H' p q := by
  obtain ⟨cs, a, b, n, h1, h2, r⟩ := P
  exact ⟨cs, a, b, n, e _ _ h1, e _ _ h2, r⟩
theorem Pt.np {H : Hp} {p q c : Addr} (P : Pt H p q) (h : H c = none) : c ≠ p ∧ c ≠ q := by
  obtain ⟨xs, h1⟩ := P.lp
  obtain ⟨ys, h2⟩ := P.lq
  refine ⟨fun e => ?_, fun e => ?_⟩
  · rw [e, h1] at h
    cases h
  · rw [e, h2] at h
    cases h
theorem Same.new {H H' : Hp} {c : Addr} {o : HO} (e : Same H H') (h : H' c = none) : Same H (upd H' c o) := fun b u z => by
  have z' := e b u z
  rw [upd_ne (ne_of_none z' h)]
  exact z'
/-- data all of whose items are ints -/
theorem DpAll.ints (K : PySem.W.Frag) (H : Hp) : ∀ ns : List Int, DpAll K H (ns.map V.int) (ns.map PyData.int)
  | [] => .nil
  | n :: ns => .cons (.int n) (DpAll.ints K H ns)
theorem canLay_ints : ∀ ns : List Int, PyData.canLayAll0 (ns.map PyData.int) = true
  | [] => rfl
  | n :: ns => by
    rw [List.map_cons]
    simp only [PyData.canLayAll0, PyData.canLay0, canLay_ints ns, Bool.and_self]
theorem depth_ints : ∀ ns : List Int, PyData.depthAll (ns.map PyData.int) = 0
  | [] => rfl
  | n :: ns => by
    rw [List.map_cons]
    simp only [PyData.depthAll, PyData.depth, depth_ints ns, Nat.max_self]
theorem shaped_ints (ns : List Int) : SeqAt.shaped (.list (ns.map PyData.int)) = true := by
  unfold SeqAt.shaped
  simp only [PyData.canLay0, PyData.depth, canLay_ints, depth_ints, Bool.true_and]
  decide
theorem Im.int0 {H : Hp} (n : Nat) : Im H (.int (0 + (n : Int))) (.int n) := by
  rw [Int.zero_add]
  exact .int _
/-! ### the promises of what draws -/
def spDip : Sp := fun vs H Q _ => ∃ (p q : Addr) (n : Int), vs = [.ref p, .int n] ∧ Pt H p q ∧ 0 < n ∧ n < 1073741824 ∧ ∀ (r : Int) (H' : Hp), 0 ≤ r → r < n → Pt H' p q → Kp p q H H' → Q (.int r) H'
def spPick : Sp := fun vs H Q _ => ∃ (p q a : Addr) (xs : List V), vs = [.ref p, .ref a] ∧ Pt H p q ∧ H a = some (.lst xs) ∧ a ≠ p ∧ a ≠ q ∧ xs ≠ [] ∧ xs.length < 1000 ∧
  ∀ (v : V) (H' : Hp), v ∈ xs → Pt H' p q → Kp p q H H' → Q v H'
def PR : List Int := [2, 3, 5, 7, 11, 13, 17, 19, 23, 29, 31, 37, 41, 43, 47, 53, 59, 61, 67, 71, 73, 79, 83, 89, 97]
def spPrimes : Sp := fun vs H Q _ => vs = [] ∧ ∀ a, H a = none → Q (.ref a) (upd H a (.lst (PR.map V.int)))
def spGreat : Sp := fun vs H Q _ => ∃ (p q : Addr), vs = [.ref p] ∧ Pt H p q ∧ ∀ (n : Int) (H' : Hp), SizeOk n → Pt H' p q → Kp p q H H' → Q (.int n) H'
def sD (ss : List Int) : PyData := .tuple (ss.map .int)
def wD (w : Nat × Nat) : PyData := .tuple [.int w.1, .int w.2]
def mD (ss : List Int) (ws : List (Nat × Nat)) : PyData := .tuple [sD ss, .tuple (ws.map wD)]
def spSizes : Sp := fun vs H Q _ => ∃ (p q : Addr) (g : Bool), vs = [.ref p, .bl g] ∧ Pt H p q ∧
  ∀ (v : V) (ss : List Int) (H' : Hp), Im H' v (sD ss) → 1 ≤ ss.length → ss.length ≤ 6 → (∀ s ∈ ss, SizeOk s) → Pt H' p q → Kp p q H H' → Q v H'
def spWires : Sp := fun vs H Q _ => ∃ (p q : Addr) (m : Nat), vs = [.ref p, .int m] ∧ m ≤ 6 ∧ Pt H p q ∧
  ∀ (v : V) (ws : List (Nat × Nat)) (H' : Hp), Im H' v (.tuple (ws.map wD)) → WOk m ws → Pt H' p q → Kp p q H H' → Q v H'
def spMachine : Sp := fun vs H Q _ => ∃ (p q : Addr) (g : Bool), vs = [.ref p, .bl g] ∧ Pt H p q ∧
  ∀ (v : V) (ss : List Int) (ws : List (Nat × Nat)) (H' : Hp), Im H' v (mD ss ws) → MOk ss ws → Pt H' p q → Kp p q H H' → Q v H'
/-- a list at c of great numbers, all of them ints that may be a size but for 1 -/
def okV (v : V) : Bool := match v with
  | .int i => decide (1 ≤ i) && decide (i ≤ 10 ^ 30) && smoB i.toNat
  | _ => false
theorem okV_of {v : V} (h : okV v = true) : ∃ m : Nat, v = .int m ∧ 1 ≤ m ∧ m ≤ 10 ^ 30 ∧ Smo m := by
  cases v with
  | int i =>
    have h' : (decide (1 ≤ i) && decide (i ≤ 10 ^ 30) && smoB i.toNat) = true := h
    rw [Bool.and_eq_true, Bool.and_eq_true] at h'
    have h1 : 1 ≤ i := of_decide_eq_true h'.1.1
    have h2 : i ≤ 10 ^ 30 := of_decide_eq_true h'.1.2
    exact ⟨i.toNat, by rw [Int.toNat_of_nonneg (by omega)], by omega, by omega, smo_of h'.2⟩
  | _ => cases h
def fewV : List V := [.int 2, .int 3, .int 4, .int 5, .int 6, .int 8, .int 9, .int 12, .int 16, .int 18, .int 27, .int 97, .int 36]
def spCommon : Sp := fun vs H Q _ => ∃ a b : Nat, vs = [.int a, .int b] ∧ b < 2 ^ 4000 ∧ Q (.int (Nat.gcd a b : Nat)) H
end NA
namespace NA
open PySem PySem.Spec PyProof.Rows L2
theorem Same.put {H H' : Hp} {c : Addr} {o : HO} (e : Same H H') (h : H c = none) : Same H (upd H' c o) := fun b u z => by
  rw [upd_ne (ne_of_none z h)]
  exact e b u z
theorem take_filter {α : Type} {l : List α} {i : Nat} {x : α} (f : α → Bool) (h : l[i]? = some x) : (l.take (i + 1)).filter f = (l.take i).filter f ++ (if f x = true then [x] else []) := by
  rw [List.take_add_one, h, List.filter_append]
  simp only [Option.toList, List.filter_cons, List.filter_nil]
theorem take_map {α β : Type} {l : List α} {i : Nat} {x : α} (f : α → β) (h : l[i]? = some x) : (l.take (i + 1)).map f = (l.take i).map f ++ [f x] := by
  rw [List.take_add_one, h, List.map_append]
  rfl
theorem map_get {α β : Type} {l : List α} {f : α → β} {i : Nat} {y : β} (h : (l.map f)[i]? = some y) : ∃ x, l[i]? = some x ∧ y = f x := by
  rw [List.getElem?_map] at h
  cases e : l[i]? with
  | none =>
    rw [e] at h
    cases h
  | some x =>
    rw [e] at h
    exact ⟨x, rfl, (Option.some.inj h).symm⟩
theorem dec_int0 (x y : Int) : decide (V.int x = V.int y) = decide (x = y) := by
  by_cases h : x = y
  · subst h
    rw [decide_eq_true rfl, decide_eq_true rfl]
  · rw [decide_eq_false h, decide_eq_false fun z => h (V.int.inj z)]
/-- primes that divide some of these -/
def dv (ss : List Int) (p : Int) : Bool := ss.any fun s => decide (s % p = 0)
def dueP (ss : List Int) : List Int := PR.filter (dv ss)
def spDepth : Sp := fun vs H Q _ => ∃ (v : V) (ss : List Int) (d : PyData) (p i s : Nat), vs = [v, .int p, .int i] ∧ Im H v (.tuple [sD ss, d]) ∧ 2 ≤ p ∧ p ≤ 1000 ∧ ss[i]? = some (s : Int) ∧ 0 < s ∧ s < 2 ^ 4000 ∧ Q (.int (val p s : Nat)) H
def spStep : Sp := fun vs H Q _ => ∃ (v : V) (ss : List Int) (d : PyData) (j i a b : Nat), vs = [v, .int j, .int i] ∧ Im H v (.tuple [sD ss, d]) ∧ ss[j]? = some (a : Int) ∧ ss[i]? = some (b : Int) ∧ 0 < b ∧ b < 2 ^ 4000 ∧ Q (.int (stp a b : Nat)) H
def spPrimesOf : Sp := fun vs H Q _ => ∃ (v : V) (ss : List Int) (d : PyData), vs = [v] ∧ Im H v (.tuple [sD ss, d]) ∧ ss.length ≤ 100 ∧ ∀ (u : V) (H' : Hp), Im H' u (.tuple ((dueP ss).map .int)) → Same H H' → Q u H'
def spLStep : Sp := fun vs H Q _ => ∃ (v : V) (ss : List Int) (j i a b : Nat), vs = [v, .int j, .int i] ∧ Im H v (sD ss) ∧ ss[j]? = some (a : Int) ∧ ss[i]? = some (b : Int) ∧ 0 < b ∧ b < 2 ^ 4000 ∧ Q (.int (stp a b : Nat)) H
def spOften : Sp := fun vs H Q _ => ∃ (s p : Nat), vs = [.int s, .int p] ∧ 2 ≤ p ∧ p ≤ 1000 ∧ 0 < s ∧ s < 2 ^ 4000 ∧ Q (.int (val p s : Nat)) H
def spPot (K : PySem.W.Frag) : Sp := fun vs H Q _ => ∃ (a : Addr) (ns : List Int), vs = [.ref a] ∧ SqL K H a (ns.map V.int) ∧ ns.length ≤ 63 ∧ ∀ (p q : Addr) (H' : Hp), Pt H' p q → Same H H' → H p = none → H q = none → Q (.ref p) H'
theorem pl_pos {p s : Nat} (hp : 2 ≤ p) (h : 0 < s) (e : s % p = 0) : 0 < s / p := Nat.div_pos (Nat.le_of_dvd h (Nat.dvd_of_mod_eq_zero e)) (by omega)
theorem Cal.of {P : Program} {w : World} {K : PySem.W.Frag} {mg : Str → Option Value} {base : Heap} {x : Str} {st : Stmt} {f : Addr} {fd : FuncData} {ps : List Str} {k : Nat} {sp : Sp} (D : DefAt K mg x st ps f fd) (F : FnOk P w K mg base CX0 k f fd ps sp) : Cal P w K mg base k x sp :=
  ⟨f, fd, ps, F, D.mgf, D.fn.kp, D.bd⟩
theorem CalK.of {P : Program} {w : World} {K : PySem.W.Frag} {mg : Str → Option Value} {base : Heap} {x : Str} {st : Stmt} {f : Addr} {fd : FuncData} {ps ks : List Str} {k : Nat} {sp : Sp} {g : List Value → List Value → List Value} {gV : List V → List V → List V} (D : DefAt K mg x st ps f fd)
    (F : FnOk P w K mg base CX0 k f fd ps sp) (b : KBinds K fd ps ks g gV) : CalK P w K mg base k x sp ks gV :=
  ⟨f, fd, ps, g, F, D.mgf, D.fn.kp, b⟩
/-- keywords alone, put in order by o -/
def kg1 {α : Type} : List α → List α → List α
  | [], [a] => [a]
  | _, _ => []
def kg321 {α : Type} : List α → List α → List α
  | [], [a, b, c] => [c, b, a]
  | _, _ => []
theorem kg1_rel {vs zs : List V} {us ws : List Value} (h1 : Vals vs us) (h2 : Vals zs ws) : Vals (kg1 vs zs) (kg1 us ws) := by
  cases h1 with
  | cons _ _ => exact .nil
  | nil =>
    cases h2 with
    | nil => exact .nil
    | cons a h2 =>
      cases h2 with
      | nil => exact .cons a .nil
      | cons _ _ => exact .nil
theorem kg321_rel {vs zs : List V} {us ws : List Value} (h1 : Vals vs us) (h2 : Vals zs ws) : Vals (kg321 vs zs) (kg321 us ws) := by
  cases h1 with
  | cons _ _ => exact .nil
  | nil =>
    cases h2 with
    | nil => exact .nil
    | cons a h2 =>
      cases h2 with
      | nil => exact .nil
      | cons b h2 =>
        cases h2 with
        | nil => exact .nil
        | cons c h2 =>
          cases h2 with
          | nil => exact .cons c (.cons b (.cons a .nil))
          | cons _ _ => exact .nil
section
variable {X : Cx}
/-! rules over a written part that is named -/
theorem pi_listK (K : PySem.W.Frag) (hK : X.K = K) {tg l : Expr} {tl : TE} (hl : PE X l tl) : PI X tg l (iList K tl) := hK ▸ pi_list hl
theorem pi_tupK (K : PySem.W.Frag) (hK : X.K = K) {tg l : Expr} {tl : TE} (hl : PE X l tl) : PI X tg l (iTup K tl) := hK ▸ pi_tup hl
theorem ix_listK (K : PySem.W.Frag) (hK : X.K = K) : IxR X (rIxL K) := hK ▸ ix_list
theorem ix_tupK (K : PySem.W.Frag) (hK : X.K = K) : IxR X (rIxT K) := hK ▸ ix_tup
theorem sl_listK (K : PySem.W.Frag) (hK : X.K = K) : SlR X (rSlL K) := hK ▸ sl_list
theorem cr_anyK (K : PySem.W.Frag) (hK : X.K = K) (hc : X.calm = true) : CallR X (.builtin "any") (rAny K) := hK ▸ cr_any hc
theorem cr_allK (K : PySem.W.Frag) (hK : X.K = K) (hc : X.calm = true) : CallR X (.builtin "all") (rAll K) := hK ▸ cr_all hc
def rLenQ (K : PySem.W.Frag) : List V → Hp → VK → Prop := fun xs H Q => ∃ p ys, xs = [.ref p] ∧ (SqL K H p ys ∨ SqT K H p ys) ∧ Q (.int ys.length) H
theorem call_lenK (K : PySem.W.Frag) (hK : X.K = K) : CallR X (.builtin "len") (rLenQ K) := hK ▸ call_len_seq
def rTupQ (K : PySem.W.Frag) : List V → Hp → VK → Prop := fun xs H Q => ∃ p ys, xs = [.ref p] ∧ ((SqL K H p ys ∧ ∀ l, H l = none → Q (.ref l) (upd H l (.tup ys))) ∨ (SqT K H p ys ∧ Q (.ref p) H))
theorem call_tupleK (K : PySem.W.Frag) (hK : X.K = K) : CallR X (.type "tuple") (rTupQ K) := hK ▸ call_tuple_of
def rLstQ (K : PySem.W.Frag) : List V → Hp → VK → Prop := fun xs H Q => ∃ p ys, xs = [.ref p] ∧ (SqL K H p ys ∨ SqT K H p ys) ∧ ∀ l, H l = none → Q (.ref l) (upd H l (.lst ys))
theorem call_listK (K : PySem.W.Frag) (hK : X.K = K) : CallR X (.type "list") (rLstQ K) := hK ▸ call_list_of
theorem op_neDK (K : PySem.W.Frag) (hK : X.K = K) (hu : X.A.units + 64 < cLine) : OpR X (compareOp .NotEq) (rNeD K) := hK ▸ op_neD hu
theorem op_eqDK (K : PySem.W.Frag) (hK : X.K = K) (hu : X.A.units + 64 < cLine) : OpR X (compareOp .Eq) (rEqD K) := hK ▸ op_eqD hu
def rReprQ (K : PySem.W.Frag) : List V → Hp → VK → Prop := fun xs H Q => ∃ v d, xs = [v] ∧ Dp K H v d ∧ Sh d ∧ Q (.str d.shown) H
theorem call_reprK (K : PySem.W.Frag) (hK : X.K = K) {k : Nat} (hg : Bare X.A) (hr : Room k X.A) : CallR X (.builtin "repr") (rReprQ K) := hK ▸ call_reprD hg hr
theorem call_isiK' (K : PySem.W.Frag) (hK : X.K = K) : CallR X (.builtin "isinstance") (rIsi K) := hK ▸ call_isi
/-- an operator in place, by its rule -/
theorem ip_of {op : Operator} {r : R2} (h : OpR X (inplaceOp op) r) : PIp X op r := fun pins s σ H x y v u Q I rx ry z => h pins s σ H x y v u Q I rx ry z
/-- expressions one behind another, none starred -/
inductive PEL (X : Cx) : List Expr → TA → Prop
  | nil : PEL X [] tNil
  | cons {e : Expr} {es : List Expr} {te : TE} {t : TA} : PE X e te → PEL X es t → PySem.W.kdsPlain e = true → PEL X (e :: es) (tCons te t)
theorem PEL.plain {es : List Expr} {t : TA} (h : PEL X es t) : es.all PySem.W.kdsPlain = true := by
  induction h with
  | nil => rfl
  | cons _ _ h3 ih => rw [List.all_cons, h3, ih] <;> rfl
theorem PEL.run {es : List Expr} {t : TA} (h : PEL X es t) : ∀ (pins : List (Addr × Obj)) (s : Shared) (σ : L2.St) (H : Hp) (R : List V → Hp → Prop) (Q : List Value → Shared → Prop), Inv X pins σ H s → t σ H R →
    (∀ us s' vs H', Inv X pins σ H' s' → Vals vs us → R vs H' → Q us s') → PySem.W.KdsAll (model X.prog X.w) X.A X.xe X.env es Q s := by
  induction h with
  | nil => intro pins s σ H R Q I h q; exact q [] s [] H I .nil h
  | cons he _ _ ih =>
    intro pins s σ H R Q I h q
    refine thn (he.run pins s σ H _ I h) fun u s1 ⟨v, H1, I1, rv, h1⟩ => ?_
    exact ih pins s1 σ H1 _ _ I1 h1 fun us s' vs H' I' rel r => q (u :: us) s' (v :: vs) H' I' (.cons rv rel) r
theorem Vals.toInts : ∀ {ns : List Int} {us : List Value}, Vals (ns.map V.int) us → IntsAre us ns
  | [], _, h => by cases h; exact .nil
  | n :: ns, _, h => by
    cases h with
    | cons a b =>
      obtain ⟨t, rfl⟩ := a
      exact .cons n t (Vals.toInts b)
/-- how many unlike ones -/
def unlike : List Int → List Int → Nat
  | _, [] => 0
  | seen, n :: ns => if n ∈ seen then unlike seen ns else unlike (n :: seen) ns + 1
section
variable {P : Program} {w : World} {A : Around} {E : Value → Shared → Prop} {s : Shared} {D : Addr}
theorem unledI {S : Int → Bool} {n : Nat} {Q : Unit → Shared → Prop} (hS : s.heap.SetOf (intKind P w) D S n) (h : ∀ h', h'.SetOf (intKind P w) D S n → (∀ b o, b ≠ D → s.heap.get? b = some o → h'.get? b = some o) → Q () { s with heap := h' }) :
    wpAny (model P w) A (setUnled D) Q E s := by
  obtain ⟨o, es, ep, tb, get, exact', data, elems, mem, bound, fit, cnt⟩ := hS
  have fit' : ({ tb with led := false } : SetTable).fits es.size = true := by cases tb; exact fit
  unfold setUnled
  refine wpAny_bind (wpAny_setState_of get data fit ?_)
  dsimp only
  refine wpAny_storeSet_of get data ?_ (fits_of_scanBound bound)
  obtain ⟨_, hS2⟩ := SetOf_store (knd := intKind P w) get exact' data elems mem bound fit'
  rw [cnt] at hS2
  have but := Heap.SameBut.update s.heap D (Obj.putSet es { tb with led := false })
  exact h _ hS2 fun b ob hb z => (but.2 b hb).trans z
theorem fillI {u : Bool} {h₀ : Heap} {us : List Value} {ns : List Int} (r : IntsAre us ns) : ∀ (h : Heap) (k : Nat) (S : Int → Bool) (seen : List Int) (n : Nat) (Q : Value → Shared → Prop), h.SetOf (intKind P w) D S n → (∀ z, S z = true ↔ z ∈ seen) →
    (∀ b o, b ≠ D → h₀.get? b = some o → h.get? b = some o) → n + ns.length < 4000 →
    (∀ h' k' S', h'.SetOf (intKind P w) D S' (n + unlike seen ns) → (∀ b o, b ≠ D → h₀.get? b = some o → h'.get? b = some o) → PySem.W.KdsFill (model P w) A E u D Q [] { s with heap := h', toks := k' }) →
    PySem.W.KdsFill (model P w) A E u D Q us { s with heap := h, toks := k } := by
  induction r with
  | nil =>
    intro h k S seen n Q hS _ hk _ q
    exact q h k S hS hk
  | cons y t r ih =>
    rename_i us2 ns2
    intro h k S seen n Q hS hmem hk hn q
    rw [List.length_cons] at hn
    refine PySem.W.kds_fill_cons ?_
    unfold setAdd
    refine wpAny_holding (wpAny_bind ((intKind P w).pyHash (k := y) (intKind_is _ _ _ _) ?_))
    refine wpAny_setAddHashed_of (knd := intKind P w) (s := { s with heap := h, toks := k + 1 }) (intKind_is _ _ _ _) rfl hS (by unfold scanBound; omega) fun h' sb hS' => ?_
    refine ih h' (k + 1) _ (if y ∈ seen then seen else y :: seen) _ Q hS' (fun z => ?_) (fun b o hb e => (sb.2 b hb).trans (hk b o hb e)) (by split <;> omega) fun h2 k2 S2 a b => q h2 k2 S2 ?_ b
    · by_cases hy : y ∈ seen
      · rw [if_pos hy]
        simp only [Bool.or_eq_true, decide_eq_true_eq, hmem]
        exact ⟨fun z => z.elim id fun e => e ▸ hy, Or.inl⟩
      · rw [if_neg hy]
        simp only [Bool.or_eq_true, decide_eq_true_eq, hmem, List.mem_cons]
        exact Or.comm
    · have e : n + unlike seen (y :: ns2) = (if S y = true then n else n + 1) + unlike (if y ∈ seen then seen else y :: seen) ns2 := by
        by_cases hy : y ∈ seen
        · rw [if_pos ((hmem y).mpr hy), if_pos hy]
          show n + (if y ∈ seen then unlike seen ns2 else unlike (y :: seen) ns2 + 1) = _
          rw [if_pos hy]
        · rw [if_neg (fun z => hy ((hmem y).mp z)), if_neg hy]
          show n + (if y ∈ seen then unlike seen ns2 else unlike (y :: seen) ns2 + 1) = _
          rw [if_neg hy]
          omega
      rw [e]
      exact a
end
/-- len({e, ..}), all of them ints -/
def tLenSet (t : TA) : TE := fun σ H Q => t σ H fun vs H1 => ∃ ns : List Int, vs = ns.map V.int ∧ ns.length ≤ 30 ∧ Q (.int (unlike [] ns : Nat)) H1
theorem pe_lenSetI {es : List Expr} {t : TA} {p p2 pos : Pos} (hgl : Gl X "len") (hm : X.mg "len" = none) (hs : PEL X es t) (hl : es.length ≤ 30) (hcd : PySem.W.kdsCode X.K X.env.code = true) :
    PE X (.Call (.Name "len" p) [.Set es 0 p2] [] pos) (tLenSet t) := by
  refine ⟨fun pins s σ H Q I h => wpAny_Call_Name_kw (ld_blt I hgl hm PySem.boot_len ?_ (by decide) (by decide))⟩
  refine PyProof.Rows.callWith_builtin1 (Calls.spliced_cons ?_) (by rfl) (by rfl)
  rw [arm_eval_Set]
  refine wpAny_bind (wpAny_standAt ?_)
  refine wpAny_bind (PySem.W.kds_main I.kIn hcd fun b => ?_)
  rw [PySem.W.kds_star es hs.plain, List.map_map]
  refine PySem.W.kds_core (ts := (evalEach es X.env).map fun t => do let v ← t; standAt p2; pure v) (road0 es) ?_ ?_ ?_ fun led => ?_
  · refine List.findIdx?_eq_none_iff.mpr fun x hx => ?_
    obtain ⟨t, _, rfl⟩ := List.mem_map.mp hx
    rfl
  · rw [List.length_map, PySem.W.kds_len]
    exact hl
  · rw [List.map_map]
    try rfl
  · -- the set's object stands behind the items' evaluation
    have I1 : Inv X pins σ H { s with heap := s.heap.push { cls := .type "set", dict := none, data := .set #[] 0 (.fresh 0 0 led) } } := I.kept (t' := s.toks) fun b u e => Heap.get?_push_of_some _ e
    have hget : (s.heap.push { cls := .type "set", dict := none, data := .set #[] 0 (.fresh 0 0 led) }).get? s.heap.objs.size = some { cls := .type "set", dict := none, data := .set #[] 0 (.fresh 0 0 led) } := Heap.get?_push_size _ rfl
    have I2 := I1.pinned (fp := [s.heap.objs.size]) (fun b hb => by
      rw [List.mem_singleton.mp hb]
      exact I.fpOk (Nat.le_refl _) (I.hok.fresh (Nat.le_refl _))) (fun b hb => by
      rw [List.mem_singleton.mp hb]
      exact ⟨_, hget, fun v z => nomatch z⟩)
    refine PySem.W.kds_all p2 es _ _ (hs.run _ _ σ H (fun vs H1 => ∃ ns : List Int, vs = ns.map V.int ∧ ns.length ≤ 30 ∧ Q (.int (unlike [] ns : Nat)) H1) _ I2 h fun us s' vs H' I' rel hq => ?_)
    obtain ⟨ns, rfl, hl2, q⟩ := hq
    have hpin : s'.heap.get? s.heap.objs.size = some { cls := .type "set", dict := none, data := .set #[] 0 (.fresh 0 0 led) } :=
      (I'.pin _ (List.mem_append_right _ (List.mem_append_right _ (mem_pinsAt (List.mem_singleton.mpr rfl) hget)))).1
    have free : H' s.heap.objs.size = none := (I'.pin _ (List.mem_append_right _ (List.mem_append_right _ (mem_pinsAt (List.mem_singleton.mpr rfl) hget)))).2.1
    have I3 := I'.unpinned
    have hS0 : s'.heap.SetOf (intKind X.prog X.w) s.heap.objs.size (fun _ => false) 0 := (setObjOf_fresh (knd := intKind X.prog X.w) led).setOf hpin (by decide)
    obtain ⟨f0, f1, f2, f3, f4, f5⟩ := I.fpOk (H' := H') (Nat.le_refl s.heap.objs.size) free
    have last : ∀ (h' : Heap) (k' : Nat) (S' : Int → Bool), h'.SetOf (intKind X.prog X.w) s.heap.objs.size S' (0 + unlike [] ns) → (∀ b o, b ≠ s.heap.objs.size → s'.heap.get? b = some o → h'.get? b = some o) →
        wpAny (model X.prog X.w) X.A (spliced []) (fun vs s2 => wpAny (model X.prog X.w) X.A (call (.builtin "len") (.ref s.heap.objs.size :: vs)) (EP X pins σ Q) X.xe s2) X.xe { s' with heap := h', toks := k' } := fun h' k' S' hS hk => by
      refine Calls.spliced_nil ?_
      obtain ⟨o, el, ep, tb, get, exact', data, elems, mem, bound, fit, cnt⟩ := hS
      have fz : (el.size : Int) < 2 ^ 63 := by
        have : el.size < 4096 := bound
        omega
      refine call_len_set (s := { s' with heap := h', toks := k' }) get exact' data fit fz ⟨.int (unlike [] ns : Nat), H', I3.turned (fun b ob hb e => hk b ob hb e) f0 f1 f3 f4 f5, ⟨k' + 1, ?_⟩, q⟩
      rw [cnt, Nat.zero_add]
    refine fillI (s := s') (h₀ := s'.heap) (Vals.toInts rel) s'.heap s'.toks (fun _ => false) [] 0 _ hS0 (fun z => ⟨fun e => Bool.noConfusion e, fun e => absurd e List.not_mem_nil⟩) (fun _ _ _ e => e) (by omega) fun h' k' S' hS hk => ?_
    cases hu : (displayRoad 0 es == DisplayRoad.unsure) with
    | false => exact PySem.W.kds_fill_nil rfl (last h' k' S' hS hk)
    | true => exact PySem.W.kds_fill_unled rfl (unledI (s := { s' with heap := h', toks := k' }) hS fun h2 hS2 sb => last h2 k' S' hS2 fun b o hb e => sb b o hb (hk b o hb e))
end
end NA
namespace NA
open PySem PySem.Spec PyProof.Rows L2
theorem small_log {i : Int} (h : i.natAbs < 2 ^ 1900) : i.natAbs.log2 < 1920 := Nat.lt_of_lt_of_le (PySem.Flt.log2_lt_of (by decide) h) (by decide)
theorem okAll_ints : ∀ ns : List Int, (∀ n ∈ ns, n.natAbs < 2 ^ 1900) → okAll (ns.map PyData.int) = true
  | [], _ => rfl
  | n :: ns, h => by
    rw [List.map_cons]
    simp only [okAll, okD, okAll_ints ns fun m hm => h m (List.mem_cons_of_mem _ hm), Bool.and_true]
    exact decide_eq_true (small_log (h n List.mem_cons_self))
theorem costAll_ints : ∀ ns : List Int, costAll (ns.map PyData.int) = 1923 * ns.length
  | [] => rfl
  | n :: ns => by
    rw [List.map_cons]
    simp only [costAll, cost, costAll_ints ns, List.length_cons]
    omega
theorem Sh.ints {ns : List Int} (h : ∀ n ∈ ns, n.natAbs < 2 ^ 1900) (l : ns.length ≤ 1000) : Sh (.tuple (ns.map .int)) := by
  refine ⟨by simpa only [okD] using okAll_ints ns h, ?_, ?_⟩
  · simp only [NA.cost, costAll_ints]
    omega
  · simp only [PyData.depth, depth_ints]
    decide
theorem Sh.pair {d e : PyData} (a : Sh d) (b : Sh e) (ca : NA.cost d ≤ 4000000) (cb : NA.cost e ≤ 4000000) (da : d.depth ≤ 50) (db : e.depth ≤ 50) : Sh (.list [d, e]) := by
  refine ⟨?_, ?_, ?_⟩
  · simp only [okD, okAll, a.ok, b.ok, Bool.and_self]
  · simp only [NA.cost, costAll]
    omega
  · simp only [PyData.depth, PyData.depthAll]
    omega
theorem Sh.int {i : Int} (h : i.natAbs < 2 ^ 1900) : Sh (.int i) := ⟨by simp only [okD]; exact decide_eq_true (small_log h), by simp only [NA.cost]; decide, by simp only [PyData.depth]; decide⟩
theorem asc_len (N : Nat) : ∀ (l : List Nat) (lo : Nat), l.Pairwise (· < ·) → (∀ x ∈ l, lo ≤ x ∧ x < N) → l.length ≤ N - lo
  | [], _, _, _ => Nat.zero_le _
  | x :: l, lo, h, hb => by
    obtain ⟨h1, h2⟩ := List.pairwise_cons.mp h
    obtain ⟨b1, b2⟩ := hb x List.mem_cons_self
    have ih := asc_len N l (x + 1) h2 fun y hy => ⟨h1 y hy, (hb y (List.mem_cons_of_mem _ hy)).2⟩
    rw [List.length_cons]
    omega
theorem WOk.len {m : Nat} {ws : List (Nat × Nat)} (h : WOk m ws) (hm : m ≤ 6) : ws.length ≤ 36 := by
  have z := asc_len 36 (ws.map fun w => 6 * w.1 + w.2) 0 ?_ ?_
  · rw [List.length_map] at z
    omega
  · rw [List.pairwise_map]
    refine List.Pairwise.imp_of_mem (fun {a b} ha hb e => ?_) h.asc
    obtain ⟨a1, a2, _⟩ := h.low a ha
    obtain ⟨b1, b2, _⟩ := h.low b hb
    rcases e with e | ⟨e1, e2⟩ <;> omega
  · intro x hx
    obtain ⟨w, hw, rfl⟩ := List.mem_map.mp hx
    obtain ⟨b1, b2, _⟩ := h.low w hw
    omega
theorem okAll_wires : ∀ ws : List (Nat × Nat), (∀ w ∈ ws, w.1 < 1000 ∧ w.2 < 1000) → okAll (ws.map wD) = true
  | [], _ => rfl
  | w :: ws, h => by
    obtain ⟨a, b⟩ := h w List.mem_cons_self
    have s : ∀ n : Nat, n < 1000 → (n : Int).natAbs < 2 ^ 1900 := fun n hn => by
      rw [Int.natAbs_natCast]
      exact Nat.lt_trans hn (by decide)
    rw [List.map_cons]
    simp only [okAll, wD, okD, decide_eq_true (small_log (s _ a)), decide_eq_true (small_log (s _ b)), Bool.and_self, Bool.true_and]
    exact okAll_wires ws fun x hx => h x (List.mem_cons_of_mem _ hx)
theorem costAll_wires : ∀ ws : List (Nat × Nat), costAll (ws.map wD) = 3851 * ws.length
  | [] => rfl
  | w :: ws => by
    rw [List.map_cons]
    simp only [costAll, wD, cost, costAll_wires ws, List.length_cons]
    omega
theorem depth_wires : ∀ ws : List (Nat × Nat), PyData.depthAll (ws.map wD) ≤ 1
  | [] => by simp [PyData.depthAll]
  | w :: ws => by
    have := depth_wires ws
    rw [List.map_cons]
    simp only [PyData.depthAll, wD, PyData.depth]
    omega
theorem SizeOk.small {n : Int} (h : SizeOk n) : n.natAbs < 2 ^ 100 := by
  obtain ⟨m, rfl, _, h2, _⟩ := h
  rw [Int.natAbs_natCast]
  exact Nat.lt_of_le_of_lt h2 (by decide)
theorem Sh.mach {ss : List Int} {ws : List (Nat × Nat)} (h : MOk ss ws) : Sh (mD ss ws) := by
  have l1 := h.six
  have l2 := h.wires.len l1
  refine ⟨?_, ?_, ?_⟩
  · have a := okAll_ints ss fun n hn => Nat.lt_trans (h.size n hn).small (by decide)
    have b := okAll_wires ws fun w hw => by
      obtain ⟨x, y, _⟩ := h.wires.low w hw
      omega
    simp only [mD, sD, okD, okAll, a, b, Bool.and_self]
  · simp only [mD, sD, NA.cost, costAll, costAll_ints, costAll_wires]
    omega
  · have := depth_wires ws
    simp only [mD, sD, PyData.depth, PyData.depthAll, depth_ints]
    omega
theorem eqv_nil (ns : List Int) : PyData.eqv (.list (ns.map .int)) (.list []) = ns.isEmpty := by
  cases ns with
  | nil => rfl
  | cons n ns => rfl
/-- the primes of sizes, as numbers from 0 on -/
def dueN (ss : List Int) : List Nat := PRn.filter fun p => dv ss p
theorem dueP_eq (ss : List Int) : dueP ss = (dueN ss).map (fun n : Nat => (n : Int)) := by
  unfold dueP dueN
  rw [show PR = PRn.map (fun n : Nat => (n : Int)) by decide +kernel, List.filter_map]
  rfl
theorem dueN_mem {ss : List Int} {p : Nat} (h : p ∈ dueN ss) : p ∈ PRn := (List.mem_filter.mp h).1
theorem dueN_len (ss : List Int) : (dueN ss).length ≤ 25 := List.length_filter_le _ _
theorem dueP_len (ss : List Int) : (dueP ss).length ≤ 25 := List.length_filter_le _ _
theorem dueP_small {ss : List Int} : ∀ n ∈ dueP ss, n.natAbs < 2 ^ 1900 := fun n hn => by
  rw [dueP_eq] at hn
  obtain ⟨p, hp, rfl⟩ := List.mem_map.mp hn
  rw [Int.natAbs_natCast]
  exact Nat.lt_of_le_of_lt (PRn_le (dueN_mem hp)) (by decide)
theorem dueN_made {ss : List Int} {s : Nat} (h : (s : Int) ∈ ss) (hs : Smo s) : made (dueN ss) 1 s = s := by
  unfold dueN
  rw [made_filter, made_smo hs]
  intro p hp e
  refine val_no fun z => ?_
  have : dv ss (p : Int) = true := List.any_eq_true.mpr ⟨s, h, decide_eq_true (by
    show ((s % p : Nat) : Int) = 0
    rw [z]
    rfl)⟩
  rw [this] at e
  cases e
theorem made_pos {s : Nat} : ∀ (l : List Nat), (∀ p ∈ l, 0 < p) → 0 < made l 1 s
  | [], _ => Nat.one_pos
  | p :: l, h => by
    show 0 < made l (1 * p ^ val p s) s
    rw [made_acc]
    exact Nat.mul_pos (Nat.mul_pos Nat.one_pos (Nat.pow_pos (h p List.mem_cons_self))) (made_pos l fun q hq => h q (List.mem_cons_of_mem _ hq))
theorem made_app (l r : List Nat) (s : Nat) : made (l ++ r) 1 s = made l 1 s * made r 1 s := by
  have : made (l ++ r) 1 s = made r (made l 1 s) s := List.foldl_append
  rw [this, made_acc]
theorem made_take {l : List Nat} {s : Nat} (h : ∀ p ∈ l, 0 < p) (n : Nat) : made (l.take n) 1 s ≤ made l 1 s := by
  have e := made_app (l.take n) (l.drop n) s
  rw [List.take_append_drop] at e
  rw [e]
  exact Nat.le_mul_of_pos_right _ (made_pos _ fun p hp => h p (List.mem_of_mem_drop hp))
theorem made_next {l : List Nat} {s n p : Nat} (h : l[n]? = some p) : made (l.take (n + 1)) 1 s = made (l.take n) 1 s * p ^ val p s := by
  rw [List.take_add_one, h, made_app]
  show made (l.take n) 1 s * (1 * p ^ val p s) = _
  rw [Nat.one_mul]
def spDivided : Sp := fun vs H Q _ => ∃ (v : V) (ss : List Int) (ws : List (Nat × Nat)), vs = [v] ∧ Im H v (mD ss ws) ∧ MOk ss ws ∧ ∀ H', Same H H' → Q (.bl true) H'
def spLeast : Sp := fun vs H Q _ => ∃ (v : V) (ss : List Int) (ws : List (Nat × Nat)) (j i : Nat), vs = [v, .int j, .int i] ∧ Im H v (mD ss ws) ∧ MOk ss ws ∧ j < ss.length ∧ i < ss.length ∧ ∀ H', Same H H' → Q (.bl true) H'
def spLaw (K : PySem.W.Frag) : Sp := fun vs H Q _ => ∃ (a : Addr) (ns : List Int), vs = [.ref a] ∧ SqL K H a (ns.map V.int) ∧ ns.length ≤ 63 ∧ ∀ H', Q (.bl true) H'
theorem Same.k {H H' : Hp} {v : V} {d : PyData} (e : Same H H') (h : Im H v d) : Im H' v d := h.k (Tk.same e)
end NA
namespace NA
open PySem PySem.Spec PyProof.Rows L2
/-! ### data with lists in it; N: where lists may stand -/
mutual
inductive Dg (N : Addr → Prop) (H : Hp) : V → PyData → Prop
  | non : Dg N H .non .none
  | bl (b : Bool) : Dg N H (.bl b) (.bool b)
  | int (i : Int) : Dg N H (.int i) (.int i)
  | str (x : Str) : Dg N H (.str x) (.str x)
  | lst {a : Addr} {xs : List V} {ds : List PyData} : N a → H a = some (.lst xs) → DgAll N H xs ds → Dg N H (.ref a) (.list ds)
  | tup {a : Addr} {xs : List V} {ds : List PyData} : H a = some (.tup xs) → DgAll N H xs ds → Dg N H (.ref a) (.tuple ds)
inductive DgAll (N : Addr → Prop) (H : Hp) : List V → List PyData → Prop
  | nil : DgAll N H [] []
  | cons {v : V} {vs : List V} {d : PyData} {ds : List PyData} : Dg N H v d → DgAll N H vs ds → DgAll N H (v :: vs) (d :: ds)
end
/-- tuples stay, lists where they may stand, the empty dicts -/
structure Ks (N : Addr → Prop) (H H' : Hp) : Prop where
  tup : Tk H H'
  lst : ∀ b xs, N b → H b = some (.lst xs) → H' b = some (.lst xs)
  dic : ∀ b kvs, H b = some (.dK kvs) → H' b = some (.dK kvs)
theorem Ks.same {N : Addr → Prop} {H H' : Hp} (e : Same H H') : Ks N H H' := ⟨Tk.same e, fun b _ _ h => e b _ h, fun b _ h => e b _ h⟩
theorem Ks.kp {p q : Addr} {H H' : Hp} (e : Kp p q H H') (P : Pt H p q) : Ks (fun a => a ≠ p ∧ a ≠ q) H H' := by
  refine ⟨e.tk P, fun b xs n h => e b _ n.1 n.2 h, fun b kvs h => ?_⟩
  obtain ⟨ys, h1⟩ := P.lp
  obtain ⟨zs, h2⟩ := P.lq
  exact e b _ (ne_of h h1 (by intro k; cases k)) (ne_of h h2 (by intro k; cases k)) h
theorem Ks.refl (N : Addr → Prop) (H : Hp) : Ks N H H := ⟨Tk.refl H, fun _ _ _ h => h, fun _ _ h => h⟩
theorem Ks.trans {N : Addr → Prop} {H H1 H2 : Hp} (a : Ks N H H1) (b : Ks N H1 H2) : Ks N H H2 := ⟨a.tup.trans b.tup, fun c x n h => b.lst c x n (a.lst c x n h), fun c x h => b.dic c x (a.dic c x h)⟩
mutual
theorem Dg.keep {N N' : Addr → Prop} {H H' : Hp} (e : Ks N H H') (m : ∀ a, N a → N' a) : ∀ (d : PyData) (v : V), Dg N H v d → Dg N' H' v d
  | .none, _, h => by cases h; exact .non
  | .bool _, _, h => by cases h; exact .bl _
  | .int _, _, h => by cases h; exact .int _
  | .str _, _, h => by cases h; exact .str _
  | .tuple ds, _, h => by
    cases h with
    | tup a b => exact .tup (e.tup _ _ a) (DgAll.keep e m ds _ b)
  | .list ds, _, h => by
    cases h with
    | lst n a b => exact .lst (m _ n) (e.lst _ _ n a) (DgAll.keep e m ds _ b)
  | .dict _, _, h => by cases h
theorem DgAll.keep {N N' : Addr → Prop} {H H' : Hp} (e : Ks N H H') (m : ∀ a, N a → N' a) : ∀ (ds : List PyData) (vs : List V), DgAll N H vs ds → DgAll N' H' vs ds
  | [], _, h => by cases h; exact .nil
  | d :: ds, _, h => by
    cases h with
    | cons a b => exact .cons (Dg.keep e m d _ a) (DgAll.keep e m ds _ b)
end
mutual
theorem Dg.toDp {N : Addr → Prop} {K : PySem.W.Frag} {H : Hp} : ∀ (d : PyData) (v : V), Dg N H v d → Dp K H v d
  | .none, _, h => by cases h; exact .non
  | .bool _, _, h => by cases h; exact .bl _
  | .int _, _, h => by cases h; exact .int _
  | .str _, _, h => by cases h; exact .str _
  | .tuple ds, _, h => by
    cases h with
    | tup a b => exact .tup (SqT.of a) (DgAll.toDp ds _ b)
  | .list ds, _, h => by
    cases h with
    | lst n a b => exact .lst (SqL.of a) (DgAll.toDp ds _ b)
  | .dict _, _, h => by cases h
theorem DgAll.toDp {N : Addr → Prop} {K : PySem.W.Frag} {H : Hp} : ∀ (ds : List PyData) (vs : List V), DgAll N H vs ds → DpAll K H vs ds
  | [], _, h => by cases h; exact .nil
  | d :: ds, _, h => by
    cases h with
    | cons a b => exact .cons (Dg.toDp d _ a) (DgAll.toDp ds _ b)
end
mutual
theorem Im.toDg {N : Addr → Prop} {H : Hp} : ∀ (d : PyData) (v : V), Im H v d → Dg N H v d
  | .none, _, h => by cases h; exact .non
  | .bool _, _, h => by cases h; exact .bl _
  | .int _, _, h => by cases h; exact .int _
  | .str _, _, h => by cases h; exact .str _
  | .tuple ds, _, h => by
    cases h with
    | tup a b => exact .tup a (ImAll.toDg ds _ b)
  | .list _, _, h => by cases h
  | .dict _, _, h => by cases h
theorem ImAll.toDg {N : Addr → Prop} {H : Hp} : ∀ (ds : List PyData) (vs : List V), ImAll H vs ds → DgAll N H vs ds
  | [], _, h => by cases h; exact .nil
  | d :: ds, _, h => by
    cases h with
    | cons a b => exact .cons (Im.toDg d _ a) (ImAll.toDg ds _ b)
end
theorem Im.dg {N : Addr → Prop} {H : Hp} {v : V} {d : PyData} (h : Im H v d) : Dg N H v d := Im.toDg d v h
/-- such data, or an empty dict -/
def Dv (N : Addr → Prop) (H : Hp) (v : V) (d : PyData) : Prop := Dg N H v d ∨ ∃ a, v = .ref a ∧ H a = some (.dK []) ∧ d = .dict []
theorem Dg.k {N : Addr → Prop} {H H' : Hp} {v : V} {d : PyData} (h : Dg N H v d) (e : Ks N H H') : Dg N H' v d := Dg.keep e (fun _ z => z) d v h
theorem DgAll.k {N : Addr → Prop} {H H' : Hp} {v : List V} {d : List PyData} (h : DgAll N H v d) (e : Ks N H H') : DgAll N H' v d := DgAll.keep e (fun _ z => z) d v h
theorem Dg.any {N : Addr → Prop} {H : Hp} {v : V} {d : PyData} (h : Dg N H v d) : Dg (fun _ => True) H v d := Dg.keep (Ks.refl N H) (fun _ _ => trivial) d v h
theorem Dv.k {N : Addr → Prop} {H H' : Hp} {v : V} {d : PyData} (h : Dv N H v d) (e : Ks N H H') : Dv N H' v d := by
  rcases h with h | ⟨a, h1, h2, h3⟩
  · exact .inl (h.k e)
  · exact .inr ⟨a, h1, e.dic _ _ h2, h3⟩
theorem Dv.any {N : Addr → Prop} {H : Hp} {v : V} {d : PyData} (h : Dv N H v d) : Dv (fun _ => True) H v d := by
  rcases h with h | h
  · exact .inl h.any
  · exact .inr h
theorem DgAll.length {N : Addr → Prop} {H : Hp} : ∀ {vs : List V} {ds : List PyData}, DgAll N H vs ds → vs.length = ds.length
  | _, _, .nil => rfl
  | _, _, .cons _ b => by rw [List.length_cons, List.length_cons, DgAll.length b]
theorem DgAll.get {N : Addr → Prop} {H : Hp} : ∀ {vs : List V} {ds : List PyData} {i : Nat} {v : V}, DgAll N H vs ds → vs[i]? = some v → ∃ d, ds[i]? = some d ∧ Dg N H v d
  | _, _, _, _, .nil, e => by simp at e
  | _, _, 0, _, .cons a _, e => by
    simp at e
    subst e
    exact ⟨_, rfl, a⟩
  | _, _, i + 1, v, .cons _ b, e => by
    obtain ⟨d, h1, h2⟩ := DgAll.get (i := i) (v := v) b (by simpa using e)
    exact ⟨d, by simpa using h1, h2⟩
theorem DgAll.append {N : Addr → Prop} {H : Hp} : ∀ {vs ws : List V} {ds es : List PyData}, DgAll N H vs ds → DgAll N H ws es → DgAll N H (vs ++ ws) (ds ++ es)
  | _, _, _, _, .nil, h => h
  | _, _, _, _, .cons a b, h => .cons a (DgAll.append b h)
theorem DgAll.take {N : Addr → Prop} {H : Hp} : ∀ (n : Nat) {vs : List V} {ds : List PyData}, DgAll N H vs ds → DgAll N H (vs.take n) (ds.take n)
  | 0, _, _, _ => .nil
  | _ + 1, _, _, .nil => .nil
  | n + 1, _, _, .cons a b => .cons a (DgAll.take n b)
theorem DgAll.drop {N : Addr → Prop} {H : Hp} : ∀ (n : Nat) {vs : List V} {ds : List PyData}, DgAll N H vs ds → DgAll N H (vs.drop n) (ds.drop n)
  | 0, _, _, h => h
  | _ + 1, _, _, .nil => .nil
  | n + 1, _, _, .cons a b => DgAll.drop n b
/-! ### types -/
def tyD : PyData → String
  | .none => "NoneType"
  | .bool _ => "bool"
  | .int _ => "int"
  | .str _ => "str"
  | .list _ => "list"
  | .tuple _ => "tuple"
  | .dict _ => "dict"
theorem Dv.ty {N : Addr → Prop} {K : PySem.W.Frag} {H : Hp} {v : V} {d : PyData} (h : Dv N H v d) : TyX K H v (.type (tyD d)) := by
  rcases h with h | ⟨a, rfl, h2, rfl⟩
  · cases h with
    | non => exact .base .non
    | bl b => exact .base (.bl b)
    | int i => exact .base (.int i)
    | str x => exact .base (.str x)
    | lst _ a _ => exact .base (.lst a)
    | tup a _ => exact .base (.tup a)
  · exact .base (.dK h2)
def isT : PyData → Bool
  | .tuple _ => true
  | _ => false
def isIB : PyData → Bool
  | .int _ => true
  | .bool _ => true
  | _ => false
def isB : PyData → Bool
  | .bool _ => true
  | _ => false
def isI : PyData → Bool
  | .int _ => true
  | _ => false
theorem kit_tup (K : PySem.W.Frag) (d : PyData) : PySem.W.kitOne K (.type (tyD d)) (.type "tuple") = some (isT d) := by
  cases d with
  | none => exact kit_ty (show kitB "NoneType" "tuple" = some false by decide +kernel)
  | bool _ => exact kit_ty (show kitB "bool" "tuple" = some false by decide +kernel)
  | int _ => exact kit_ty (show kitB "int" "tuple" = some false by decide +kernel)
  | str _ => exact kit_ty (show kitB "str" "tuple" = some false by decide +kernel)
  | list _ => exact kit_ty (show kitB "list" "tuple" = some false by decide +kernel)
  | tuple _ => exact kit_ty (show kitB "tuple" "tuple" = some true by decide +kernel)
  | dict _ => exact kit_ty (show kitB "dict" "tuple" = some false by decide +kernel)
theorem kit_int (K : PySem.W.Frag) (d : PyData) : PySem.W.kitOne K (.type (tyD d)) (.type "int") = some (isIB d) := by
  cases d with
  | none => exact kit_ty (show kitB "NoneType" "int" = some false by decide +kernel)
  | bool _ => exact kit_ty (show kitB "bool" "int" = some true by decide +kernel)
  | int _ => exact kit_ty (show kitB "int" "int" = some true by decide +kernel)
  | str _ => exact kit_ty (show kitB "str" "int" = some false by decide +kernel)
  | list _ => exact kit_ty (show kitB "list" "int" = some false by decide +kernel)
  | tuple _ => exact kit_ty (show kitB "tuple" "int" = some false by decide +kernel)
  | dict _ => exact kit_ty (show kitB "dict" "int" = some false by decide +kernel)
theorem kit_bool (K : PySem.W.Frag) (d : PyData) : PySem.W.kitOne K (.type (tyD d)) (.type "bool") = some (isB d) := by
  cases d with
  | none => exact kit_ty (show kitB "NoneType" "bool" = some false by decide +kernel)
  | bool _ => exact kit_ty (show kitB "bool" "bool" = some true by decide +kernel)
  | int _ => exact kit_ty (show kitB "int" "bool" = some false by decide +kernel)
  | str _ => exact kit_ty (show kitB "str" "bool" = some false by decide +kernel)
  | list _ => exact kit_ty (show kitB "list" "bool" = some false by decide +kernel)
  | tuple _ => exact kit_ty (show kitB "tuple" "bool" = some false by decide +kernel)
  | dict _ => exact kit_ty (show kitB "dict" "bool" = some false by decide +kernel)
theorem Dv.tuple {N : Addr → Prop} {H : Hp} {v : V} {d : PyData} (h : Dv N H v d) (e : isT d = true) : ∃ a xs ds, v = .ref a ∧ d = .tuple ds ∧ H a = some (.tup xs) ∧ DgAll N H xs ds := by
  rcases h with h | ⟨a, rfl, h2, rfl⟩
  · cases h with
    | tup a b => exact ⟨_, _, _, rfl, rfl, a, b⟩
    | non => cases e
    | bl _ => cases e
    | int _ => cases e
    | str _ => cases e
    | lst _ _ _ => cases e
  · cases e
theorem Dv.int {N : Addr → Prop} {H : Hp} {v : V} {d : PyData} (h : Dv N H v d) (e : isI d = true) : ∃ i, v = .int i ∧ d = .int i := by
  rcases h with h | ⟨a, rfl, h2, rfl⟩
  · cases h with
    | int i => exact ⟨i, rfl, rfl⟩
    | non => cases e
    | bl _ => cases e
    | tup _ _ => cases e
    | str _ => cases e
    | lst _ _ _ => cases e
  · cases e
/-! ### repr -/
structure ShV (d : PyData) : Prop where
  ok : Sh d ∨ d = .dict []
def rReprV (N : Addr → Prop) : List V → Hp → VK → Prop := fun xs H Q => ∃ v d, xs = [v] ∧ Dv N H v d ∧ ShV d ∧ Q (.str d.shown) H
theorem call_reprV {X : Cx} (N : Addr → Prop) {k : Nat} (hg : Bare X.A) (hr : Room k X.A) : CallR X (.builtin "repr") (rReprV N) := by
  intro pins s σ H xs us Q I r h
  obtain ⟨v, d, rfl, hd, sh, q⟩ := h
  rcases hd with hd | ⟨a, rfl, h2, rfl⟩
  · rcases sh.ok with s1 | e
    · exact call_reprD hg hr pins s σ H [v] us Q I r ⟨v, d, rfl, Dg.toDp d v hd, s1, q⟩
    · subst e
      cases hd
  · obtain ⟨u, rfl, ru⟩ := r.one
    cases (show u = Value.ref a from ru)
    have ok : ObjOk X.prog X.w H s.heap a (.dK []) := I.hok a _ h2
    obtain ⟨_, ns, vs, kv, o, es, ep, g1, g2, g3, g4, g5⟩ := ok
    have hu := hr.un
    have vs0 : vs = [] := by cases kv; rfl
    subst vs0
    have es0 : es.toList = [] := by
      have z := g5.1
      cases h : es.toList with
      | nil => rfl
      | cons x l =>
        rw [h] at z
        cases z
    have rd : Reads s.heap (.ref a) (.dict []) (a :: [] ++ []) := .dict g1 g2.1 g3 (by rw [es0]; exact .nil) (by rw [es0]; exact .nil)
    have nsm : sysModules ≠ a := fun z => by
      rw [z, beq_self_eq_true] at ns
      cases ns
    refine repr_of_reads' rd (by decide) (fun _ => by simpa using nsm) hg (by show X.A.units + (1 + 1) < cLine; omega) (fun _ _ z => z) (fun h' u tk hk => ⟨.str _, H, I.kept (t' := tk) hk, ⟨_, rfl⟩, q⟩) (by decide +kernel)
end NA
namespace NA
open PySem PySem.Spec PyProof.Rows L2
/-! ### what is wrong with a machine, over data -/
def strp (p n : Nat) : Nat := n / p ^ val p n
theorem strp_yes {p n : Nat} (hp : 2 ≤ p) (hn : 0 < n) (h : n % p = 0) : strp p n = strp p (n / p) := by
  unfold strp
  rw [val_yes hp hn h, Nat.pow_succ, Nat.mul_comm, Nat.div_div_eq_div_mul]
theorem strp_no {p n : Nat} (h : n % p ≠ 0) : strp p n = n := by
  unfold strp
  rw [val_no h, Nat.pow_zero, Nat.div_one]
theorem strp_pos {p n : Nat} (hp : 2 ≤ p) (hn : 0 < n) : 0 < strp p n := by
  have d := (pow_dvd_val hp (val p n) n hn).mpr (Nat.le_refl _)
  exact Nat.div_pos (Nat.le_of_dvd hn d) (Nat.pow_pos (by omega))
theorem strp_le (p n : Nat) : strp p n ≤ n := Nat.div_le_self _ _
def strA (l : List Nat) (n : Nat) : Nat := l.foldl (fun r p => strp p r) n
theorem strA_next {l : List Nat} {n i p : Nat} (h : l[i]? = some p) : strA (l.take (i + 1)) n = strp p (strA (l.take i) n) := by
  unfold strA
  rw [List.take_add_one, h, List.foldl_append]
  rfl
def isSz : PyData → Bool
  | .int n => decide (2 ≤ n) && decide (n ≤ 10 ^ 30) && (strA PRn n.toNat == 1)
  | _ => false
def isBl (m : Nat) : PyData → Bool
  | .int n => decide (0 ≤ n) && decide (n < (m : Int))
  | _ => false
def isWr (m : Nat) : PyData → Bool
  | .tuple [.int a, .int b] => isBl m (.int a) && isBl m (.int b) && !decide (a = b)
  | _ => false
def leP : PyData → PyData → Bool
  | .tuple [.int a, .int b], .tuple [.int c, .int d] => if a = c then (if b = d then true else decide (b ≤ d)) else decide (a ≤ c)
  | _, _ => false
def bd (f : Nat → Bool) (n : Nat) : List Nat := (List.range n).filter f
theorem bd_zero (f : Nat → Bool) : bd f 0 = [] := rfl
theorem bd_succ (f : Nat → Bool) (n : Nat) : bd f (n + 1) = bd f n ++ (if f n = true then [n] else []) := by
  unfold bd
  rw [List.range_succ, List.filter_append, List.filter_cons, List.filter_nil]
theorem bd_none {f : Nat → Bool} {n : Nat} (h : bd f n = []) : ∀ i, i < n → f i = false := fun i hi => by
  cases e : f i with
  | false => rfl
  | true =>
    have : i ∈ bd f n := List.mem_filter.mpr ⟨List.mem_range.mpr hi, e⟩
    rw [h] at this
    cases this
theorem bd_first {f : Nat → Bool} {i : Nat} (h : bd f i = []) (e : f i = true) : ∀ n, i < n → ∃ l, bd f n = i :: l := by
  intro n hn
  induction n with
  | zero => omega
  | succ n ih =>
    rw [bd_succ]
    by_cases z : i = n
    · subst z
      rw [h, if_pos e]
      exact ⟨[], rfl⟩
    · obtain ⟨l, hl⟩ := ih (by omega)
      rw [hl]
      exact ⟨_, rfl⟩
theorem bd_lt {f : Nat → Bool} {n i : Nat} (h : i ∈ bd f n) : i < n := List.mem_range.mp (List.mem_filter.mp h).1
theorem bd_len (f : Nat → Bool) (n : Nat) : (bd f n).length ≤ n := by
  have := List.length_filter_le f (List.range n)
  rwa [List.length_range] at this
def szBad (S : List PyData) (i : Nat) : Bool := !isSz (S.getD i .none)
def wrBad (m : Nat) (W : List PyData) (i : Nat) : Bool := !isWr m (W.getD i .none)
def orBad (W : List PyData) (k : Nat) : Bool := leP (W.getD (k + 1) .none) (W.getD k .none)
def eT (x : Str) (i : Nat) : PyData := .tuple [.str x, .int i]
def merr3 (W : List PyData) : PyData := match bd (orBad W) (W.length - 1) with
  | k :: _ => eT "order" (k + 1)
  | [] => .none
def merrW (m : Nat) (W : List PyData) : PyData := match bd (wrBad m W) W.length with
  | i :: _ => eT "wire" i
  | [] => merr3 W
def merr2 (S W : List PyData) : PyData := match bd (szBad S) S.length with
  | i :: _ => eT "size" i
  | [] => merrW S.length W
def formD : PyData → Option (List PyData × List PyData)
  | .tuple [.tuple S, .tuple W] => if 1 ≤ S.length ∧ S.length ≤ 6 then some (S, W) else none
  | _ => none
def merr (d : PyData) : PyData := match formD d with
  | some (S, W) => merr2 S W
  | none => .str "form"
theorem formD_some {d : PyData} {S W : List PyData} (h : formD d = some (S, W)) : d = .tuple [.tuple S, .tuple W] ∧ 1 ≤ S.length ∧ S.length ≤ 6 := by
  unfold formD at h
  split at h
  · split at h
    · rename_i S' W' z
      cases h
      exact ⟨rfl, z⟩
    · cases h
  · cases h
theorem get_getD {l : List PyData} {i : Nat} {d : PyData} (h : l[i]? = some d) : l.getD i .none = d := by
  rw [List.getD_eq_getElem?_getD, h]
  rfl
theorem merr_form {d : PyData} (h : formD d = none) : merr d = .str "form" := by unfold merr; rw [h]
theorem merr_some {d : PyData} {S W : List PyData} (h : formD d = some (S, W)) : merr d = merr2 S W := by unfold merr; rw [h]
theorem merr2_size {S W : List PyData} {i : Nat} {l : List Nat} (h : bd (szBad S) S.length = i :: l) : merr2 S W = eT "size" i := by unfold merr2; rw [h]
theorem merr2_ok {S W : List PyData} (h : bd (szBad S) S.length = []) : merr2 S W = merrW S.length W := by unfold merr2; rw [h]
theorem merrW_wire {m : Nat} {W : List PyData} {i : Nat} {l : List Nat} (h : bd (wrBad m W) W.length = i :: l) : merrW m W = eT "wire" i := by unfold merrW; rw [h]
theorem merrW_ok {m : Nat} {W : List PyData} (h : bd (wrBad m W) W.length = []) : merrW m W = merr3 W := by unfold merrW; rw [h]
theorem merr3_ord {W : List PyData} {k : Nat} {l : List Nat} (h : bd (orBad W) (W.length - 1) = k :: l) : merr3 W = eT "order" (k + 1) := by unfold merr3; rw [h]
theorem merr3_ok {W : List PyData} (h : bd (orBad W) (W.length - 1) = []) : merr3 W = .none := by unfold merr3; rw [h]
theorem bd_all {f : PyData → Bool} {l : List PyData} (h : bd (fun i => !f (l.getD i .none)) l.length = []) : ∀ x ∈ l, f x = true := fun x hx => by
  obtain ⟨i, hi, rfl⟩ := List.getElem_of_mem hx
  have z := bd_none h i hi
  rw [get_getD (List.getElem?_eq_getElem hi)] at z
  simpa using z
/-- all but the order -/
structure Almost (d : PyData) (S W : List PyData) : Prop where
  eq : d = .tuple [.tuple S, .tuple W]
  one : 1 ≤ S.length
  six : S.length ≤ 6
  sz : ∀ x ∈ S, isSz x = true
  wr : ∀ x ∈ W, isWr S.length x = true
theorem isWr_shape {m : Nat} {d : PyData} (h : isWr m d = true) : ∃ a b : Nat, d = .tuple [.int a, .int b] ∧ a < m ∧ b < m := by
  unfold isWr at h
  split at h
  · rename_i a b
    simp only [isBl, Bool.and_eq_true, decide_eq_true_eq] at h
    exact ⟨a.toNat, b.toNat, by rw [Int.toNat_of_nonneg h.1.1.1, Int.toNat_of_nonneg h.1.2.1], by omega, by omega⟩
  · cases h
def wn (d : PyData) : Nat := match d with
  | .tuple [.int a, .int b] => 6 * a.toNat + b.toNat
  | _ => 0
theorem wn_lt {d e : PyData} (hd : isWr 6 d = true) (he : isWr 6 e = true) (h : leP e d = false) : wn d < wn e := by
  obtain ⟨a, b, rfl, a1, b1⟩ := isWr_shape hd
  obtain ⟨c, f, rfl, c1, f1⟩ := isWr_shape he
  simp only [leP] at h
  simp only [wn, Int.toNat_natCast]
  split at h
  · split at h
    · cases h
    · have := of_decide_eq_false h
      omega
  · have := of_decide_eq_false h
    omega
theorem isWr_mono {m : Nat} (hm : m ≤ 6) {d : PyData} (h : isWr m d = true) : isWr 6 d = true := by
  unfold isWr at h ⊢
  split at h
  · simp only [isBl, Bool.and_eq_true, decide_eq_true_eq] at h ⊢
    exact ⟨⟨⟨h.1.1.1, by omega⟩, ⟨h.1.2.1, by omega⟩⟩, h.2⟩
  · cases h
theorem asc_of {W : List PyData} (h6 : ∀ x ∈ W, isWr 6 x = true) (ho : ∀ k, k < W.length - 1 → orBad W k = false) : W.length ≤ 36 := by
  have step : ∀ n, n < W.length → n ≤ wn (W.getD n .none) := by
    intro n
    induction n with
    | zero => intro _; exact Nat.zero_le _
    | succ n ih =>
      intro hn
      have a := ih (by omega)
      have m1 := get_getD (List.getElem?_eq_getElem (show n < W.length by omega))
      have m2 := get_getD (List.getElem?_eq_getElem hn)
      have z := ho n (by omega)
      unfold orBad at z
      rw [m1] at a
      rw [m1, m2] at z
      rw [m2]
      have := wn_lt (h6 _ (List.getElem_mem (by omega))) (h6 _ (List.getElem_mem hn)) z
      omega
  by_cases e : W.length = 0
  · omega
  · have hn : W.length - 1 < W.length := by omega
    have s := step _ hn
    rw [get_getD (List.getElem?_eq_getElem hn)] at s
    obtain ⟨a, b, z, a1, b1⟩ := isWr_shape (h6 _ (List.getElem_mem hn))
    rw [z] at s
    simp only [wn, Int.toNat_natCast] at s
    omega
theorem merr_almost {d : PyData} (h : merr d = .none ∨ ∃ k, merr d = eT "order" k) : ∃ S W, Almost d S W ∧ (merr d = .none → W.length ≤ 36) := by
  cases hf : formD d with
  | none =>
    rw [merr_form hf] at h
    rcases h with h | ⟨k, h⟩ <;> cases h
  | some SW =>
    obtain ⟨S, W⟩ := SW
    obtain ⟨e, o, x⟩ := formD_some hf
    rw [merr_some hf] at h ⊢
    cases hs : bd (szBad S) S.length with
    | cons i l =>
      rw [merr2_size hs] at h
      rcases h with h | ⟨k, h⟩
      · cases h
      · exact absurd (by injection h with h; injection h with h _; injection h : ("size" : Str) = "order") (by decide +kernel)
    | nil =>
      rw [merr2_ok hs] at h ⊢
      cases hw : bd (wrBad S.length W) W.length with
      | cons i l =>
        rw [merrW_wire hw] at h
        rcases h with h | ⟨k, h⟩
        · cases h
        · exact absurd (by injection h with h; injection h with h _; injection h : ("wire" : Str) = "order") (by decide +kernel)
      | nil =>
        rw [merrW_ok hw]
        have wr : ∀ y ∈ W, isWr S.length y = true := bd_all hw
        refine ⟨S, W, ⟨e, o, x, bd_all hs, wr⟩, fun hn => ?_⟩
        cases ho : bd (orBad W) (W.length - 1) with
        | cons k l =>
          rw [merr3_ord ho] at hn
          cases hn
        | nil => exact asc_of (fun y hy => isWr_mono x (wr y hy)) (bd_none ho)
/-! ### how great such data is -/
def okG (c dp : Nat) (d : PyData) : Bool := okD d && decide (cost d ≤ c) && decide (d.depth ≤ dp)
theorem okG_iff {c dp : Nat} {d : PyData} : okG c dp d = true ↔ okD d = true ∧ cost d ≤ c ∧ d.depth ≤ dp := by
  unfold okG
  simp only [Bool.and_eq_true, decide_eq_true_eq, and_assoc]
theorem okG_mono {c dp c' dp' : Nat} {d : PyData} (h : okG c dp d = true) (a : c ≤ c') (b : dp ≤ dp') : okG c' dp' d = true := by
  rw [okG_iff] at h ⊢
  exact ⟨h.1, by omega, by omega⟩
theorem okG_all {c dp : Nat} : ∀ {l : List PyData}, (∀ x ∈ l, okG c dp x = true) → okAll l = true ∧ costAll l ≤ (c + 2) * l.length ∧ PyData.depthAll l ≤ dp
  | [], _ => ⟨rfl, Nat.le_refl _, Nat.zero_le _⟩
  | x :: l, h => by
    obtain ⟨a, b, e⟩ := okG_all fun y hy => h y (List.mem_cons_of_mem _ hy)
    obtain ⟨a1, b1, e1⟩ := okG_iff.mp (h x List.mem_cons_self)
    refine ⟨by simp only [okAll, a, a1, Bool.and_self], ?_, ?_⟩
    · simp only [costAll, List.length_cons, Nat.mul_succ]
      omega
    · simp only [PyData.depthAll]
      omega
theorem okG_tup {c dp c' dp' : Nat} {l : List PyData} (h : ∀ x ∈ l, okG c dp x = true) (a : (c + 2) * l.length + 3 ≤ c') (b : dp + 1 ≤ dp') : okG c' dp' (.tuple l) = true := by
  obtain ⟨h1, h2, h3⟩ := okG_all h
  refine okG_iff.mpr ⟨by simpa only [okD] using h1, ?_, ?_⟩
  · simp only [cost]
    omega
  · simp only [PyData.depth]
    omega
theorem okG_lst {c dp c' dp' : Nat} {l : List PyData} (h : ∀ x ∈ l, okG c dp x = true) (a : (c + 2) * l.length + 3 ≤ c') (b : dp + 1 ≤ dp') : okG c' dp' (.list l) = true := by
  obtain ⟨h1, h2, h3⟩ := okG_all h
  refine okG_iff.mpr ⟨by simpa only [okD] using h1, ?_, ?_⟩
  · simp only [cost]
    omega
  · simp only [PyData.depth]
    omega
theorem okG_sh {c dp : Nat} {d : PyData} (h : okG c dp d = true) (a : c ≤ 16000000) (b : dp ≤ 60) : ShV d := by
  obtain ⟨h1, h2, h3⟩ := okG_iff.mp h
  exact ⟨.inl ⟨h1, by omega, by omega⟩⟩
/-- things in the place of a size or a wire -/
def okI (d : PyData) : Bool := okG 10000 3 d
theorem isSz_ok {d : PyData} (h : isSz d = true) : okI d = true := by
  unfold isSz at h
  split at h
  · rename_i n
    simp only [Bool.and_eq_true, decide_eq_true_eq] at h
    refine okG_iff.mpr ⟨?_, by simp only [cost]; decide, by simp only [PyData.depth]; decide⟩
    simp only [okD]
    refine decide_eq_true (small_log ?_)
    have a := h.1.1
    have b := h.1.2
    have : n.natAbs ≤ 10 ^ 30 := by omega
    exact Nat.lt_of_le_of_lt this (by decide)
  · cases h
theorem isWr_ok {m : Nat} (hm : m ≤ 6) {d : PyData} (h : isWr m d = true) : okI d = true := by
  obtain ⟨a, b, rfl, a1, b1⟩ := isWr_shape h
  have s : ∀ k : Nat, k < 6 → okG 2000 1 (.int (k : Int)) = true := fun k hk => by
    refine okG_iff.mpr ⟨?_, by simp only [cost]; decide, by simp only [PyData.depth]; decide⟩
    simp only [okD]
    refine decide_eq_true (small_log ?_)
    rw [Int.natAbs_natCast]
    exact Nat.lt_trans hk (by decide)
  refine okG_tup (c := 2000) (dp := 1) (fun x hx => ?_) (by show (2000 + 2) * 2 + 3 ≤ 10000; decide) (by decide)
  rcases List.mem_cons.mp hx with e | hx
  · rw [e]
    exact s a (by omega)
  · rw [List.mem_singleton.mp hx]
    exact s b (by omega)
theorem ShV.len {l : List PyData} (h : ShV (.tuple l)) : 2 * l.length ≤ 16000000 := by
  rcases h.ok with h | h
  · have z := h.cost
    simp only [cost] at z
    have : ∀ l : List PyData, 2 * l.length ≤ costAll l := by
      intro l
      induction l with
      | nil => exact Nat.le_refl _
      | cons x l ih =>
        simp only [costAll, List.length_cons]
        omega
    have := this l
    omega
  · cases h
theorem ShV.sub {l : List PyData} (h : ShV (.tuple l)) {x : PyData} (hx : x ∈ l) : ShV x := by
  rcases h.ok with h | h
  · have z1 := h.ok
    have z2 := h.cost
    have z3 := h.depth
    simp only [okD] at z1
    simp only [cost] at z2
    simp only [PyData.depth] at z3
    have : ∀ l : List PyData, okAll l = true → x ∈ l → okD x = true ∧ cost x ≤ costAll l ∧ x.depth ≤ PyData.depthAll l := by
      intro l
      induction l with
      | nil => intro _ m; cases m
      | cons y l ih =>
        intro o m
        simp only [okAll, Bool.and_eq_true] at o
        simp only [costAll, PyData.depthAll]
        rcases List.mem_cons.mp m with e | m
        · subst e
          exact ⟨o.1, by omega, by omega⟩
        · obtain ⟨a, b, c⟩ := ih o.2 m
          exact ⟨a, by omega, by omega⟩
    obtain ⟨a, b, c⟩ := this l z1 hx
    exact ⟨.inl ⟨a, by omega, by omega⟩⟩
  · cases h
theorem pi_enumTK {X : Cx} (K : PySem.W.Frag) (hK : X.K = K) {e : Expr} {ta : TA} {p pos tpos : Pos} {elts : List Expr} {kk : Nat} (hg : Gl X "enumerate") (hm : X.mg "enumerate" = none) (ha : PA X [e] ta) (hs : starEach [e] X.env = [(false, eval e X.env)] := by rfl) :
    PI X (.Tuple elts kk tpos) (.Call (.Name "enumerate" p) [e] [] pos) (iEnumT K ta) := hK ▸ pi_enumT hg hm ha hs
theorem op_leTK {X : Cx} (K : PySem.W.Frag) (hK : X.K = K) (hu : X.A.units < cLine) : OpR X (compareOp CmpOp.LtE) (rLeT K) := hK ▸ op_leT hu
theorem pg_tupK {X : Cx} (K : PySem.W.Frag) (hK : X.K = K) {pos : Pos} {es : List Expr} {k : Nat} {t : TGs} {n : Nat} (hc : X.calm = true) (h : PGs X es t) (h1 : (assignEach es X.env).length = n := by rfl) (h2 : List.findIdx? (fun x => x.fst) (assignEach es X.env) = none := by rfl) :
    PG X (.Tuple es k pos) (gTup K n t) := hK ▸ pg_tup hc h h1 h2
theorem keepN {H : Hp} {a c : Addr} {o o' : HO} (h : H a = some o) (n : H c = none) : (upd H c o') a = some o := by
  rw [upd_ne (ne_of_none h n)]
  exact h
/-! ### promises -/
theorem room_lt {k : Nat} {A : Around} (hr : Room k A) : A.units < cLine := by
  have := hr.units
  omega
abbrev An : Addr → Prop := fun _ => True
def Np (p q : Addr) : Addr → Prop := fun a => a ≠ p ∧ a ≠ q
def spB (f : PyData → Bool) : Sp := fun vs H Q _ => ∃ (v : V) (d : PyData), vs = [v] ∧ Dv An H v d ∧ ShV d ∧ ∀ H', Same H H' → Q (.bl (f d)) H'
def isInt0 : PyData → Bool
  | .int _ => true
  | _ => false
def isPr : PyData → Bool
  | .tuple [_, _] => true
  | _ => false
def spBelow : Sp := fun vs H Q _ => ∃ (v : V) (d : PyData) (m : Nat), vs = [v, .int m] ∧ Dv An H v d ∧ ∀ H', Same H H' → Q (.bl (isBl m d)) H'
def spWireB : Sp := fun vs H Q _ => ∃ (v : V) (d : PyData) (m : Nat), vs = [v, .int m] ∧ Dv An H v d ∧ ShV d ∧ ∀ H', Same H H' → Q (.bl (isWr m d)) H'
def spMerr : Sp := fun vs H Q _ => ∃ (v : V) (d : PyData), vs = [v] ∧ Dv An H v d ∧ ShV d ∧ ∀ (u : V) (H' : Hp), Im H' u (merr d) → Same H H' → Q u H'
def spOddS : Sp := fun vs H Q _ => ∃ (p q : Addr), vs = [.ref p] ∧ Pt H p q ∧ ∀ (v : V) (d : PyData) (H' : Hp), Dg (Np p q) H' v d → okI d = true → Pt H' p q → Kp p q H H' → Q v H'
def spOddW : Sp := fun vs H Q _ => ∃ (p q : Addr) (m : Nat), vs = [.ref p, .int m] ∧ m ≤ 6 ∧ Pt H p q ∧ ∀ (v : V) (d : PyData) (H' : Hp), Dg (Np p q) H' v d → okI d = true → Pt H' p q → Kp p q H H' → Q v H'
def loB : PyData → Bool
  | .tuple [.tuple _, .tuple W] => decide (W.length ≤ 100)
  | _ => true
theorem lo_ok {S W : List PyData} (h : loB (.tuple [.tuple S, .tuple W]) = true) : W.length ≤ 100 := of_decide_eq_true h
theorem lo_no {S : List PyData} (h : ∀ x ∈ S, isT x = false) : loB (.tuple S) = true := by
  unfold loB
  split
  · rename_i e
    injection e with e
    have := h _ (e ▸ List.mem_cons_self)
    cases this
  · rfl
theorem sz_isT {d : PyData} (h : isSz d = true) : isT d = false := by cases d <;> first | rfl | cases h
def Fit (d : PyData) : Prop := ShV d ∧ loB d = true
def spSpoilt : Sp := fun vs H Q _ => ∃ (p q : Addr) (v : V) (d : PyData) (S W : List PyData), vs = [.ref p, v] ∧ Pt H p q ∧ Dg (Np p q) H v d ∧ Almost d S W ∧ W.length ≤ 36 ∧
  ∀ (v : V) (d : PyData) (H' : Hp), Dv (Np p q) H' v d → Fit d → Pt H' p q → Kp p q H H' → Q v H'
end NA
namespace NA
open PySem PySem.Spec PyProof.Rows L2
/-! ### zip of two or three, lists or tuples as they come -/
inductive Sk
  | l
  | t
def SqS (K : PySem.W.Frag) (k : Sk) (H : Hp) (a : Addr) (xs : List V) : Prop := match k with
  | .l => SqL K H a xs
  | .t => SqT K H a xs
def ItS (k : Sk) (h : Heap) (it a : Addr) (i : Nat) : Prop := match k with
  | .l => h.IsListIter it a i
  | .t => h.IsTupleIter it a i
def OfS (k : Sk) (h : Heap) (a : Addr) (its : Array Value) : Prop := match k with
  | .l => h.IsList a its
  | .t => h.IsTuple a its
def itO (k : Sk) (a : Addr) : Obj := match k with
  | .l => { cls := .type "list_iterator", data := .fields #[.ref a, .int 0 0] }
  | .t => { cls := .type "tuple_iterator", data := .fields #[.ref a, .int 0 0] }
theorem SqS.of_l {K : PySem.W.Frag} {H : Hp} {a : Addr} {xs : List V} (h : H a = some (.lst xs)) : SqS K .l H a xs := SqL.of h
theorem SqS.of_t {K : PySem.W.Frag} {H : Hp} {a : Addr} {xs : List V} (h : H a = some (.tup xs)) : SqS K .t H a xs := SqT.of h
theorem srcDraws {prog : Program} {w : World} {A : Around} (k : Sk) (hA : A.handled = none) (it a : Addr) (ne : a ≠ it) (its : Array Value) :
    Draws prog w A it [it, a] its.size (fun i v => its[i]? = some v) (fun i h => ItS k h it a i ∧ OfS k h a its) := by
  cases k with
  | l => exact Draws.list hA it a ne its
  | t => exact Draws.tuple hA it a ne its
theorem src_of {X : Cx} {pins : List (Addr × Obj)} {σ : L2.St} {H : Hp} {s : Shared} {k : Sk} {a : Addr} {xs : List V} (I : Inv X pins σ H s) (h : SqS X.K k H a xs) : ∃ its : List Value, Vals xs its ∧ OfS k s.heap a its.toArray := by
  cases k with
  | l =>
    obtain ⟨its, rv, tp, _⟩ := I.list h
    exact ⟨its, rv, tp.isList⟩
  | t =>
    obtain ⟨its, rv, tp, _⟩ := I.tuple h
    exact ⟨its, rv, tp⟩
theorem src_inj {X : Cx} {pins : List (Addr × Obj)} {σ : L2.St} {H : Hp} {s : Shared} {k : Sk} {a : Addr} {xs ys : List V} (I : Inv X pins σ H s) (h : SqS X.K k H a xs) (h2 : SqS X.K k H a ys) : xs = ys := by
  cases k with
  | l => exact I.list_inj h h2
  | t => exact I.tuple_inj h h2
theorem OfS.lt {k : Sk} {h : Heap} {a : Addr} {its : Array Value} (e : OfS k h a its) : a < h.objs.size := by
  cases k with
  | l => obtain ⟨o, h, _⟩ := e; exact Heap.lt_size h
  | t => obtain ⟨o, h, _⟩ := e; exact Heap.lt_size h
theorem OfS.at {k : Sk} {h h' : Heap} {a : Addr} {its : Array Value} (e : OfS k h a its) (f : ∀ o, h.get? a = some o → h'.get? a = some o) : OfS k h' a its := by
  cases k with
  | l => exact Heap.IsList.at e f
  | t => exact Heap.IsTuple.at e f
theorem ItS.at {k : Sk} {h h' : Heap} {it a : Addr} {i : Nat} (e : ItS k h it a i) (f : ∀ o, h.get? it = some o → h'.get? it = some o) : ItS k h' it a i := by
  cases k with
  | l => exact Heap.IsListIter.at e f
  | t => exact Heap.IsTupleIter.at e f
theorem ItS.obj {k : Sk} {h : Heap} {it a : Addr} {i : Nat} (e : ItS k h it a i) : ∃ o, h.get? it = some o ∧ ∀ v : Option Value, o.data ≠ .cell v := by
  cases k with
  | l =>
    obtain ⟨o, a, _, c⟩ := e
    exact ⟨o, a, fun v q => by rw [c] at q; cases q⟩
  | t =>
    obtain ⟨o, a, _, c⟩ := e
    exact ⟨o, a, fun v q => by rw [c] at q; cases q⟩
theorem itO_is (k : Sk) {h : Heap} {it a : Addr} (e : h.get? it = some (itO k a)) : ItS k h it a 0 := by
  cases k with
  | l => exact ⟨_, e, rfl, rfl⟩
  | t => exact ⟨_, e, rfl, rfl⟩
theorem begins (k : Sk) (a : Addr) (its : Array Value) : Begins (.ref a) (itO k a) (fun h => OfS k h a its) := by
  cases k with
  | l => exact ⟨fun prog w A E s Q h q => wpAny_pyIter_list h q, fun h h' e f => OfS.at (k := .l) e fun o q => f _ o q, rfl⟩
  | t => exact ⟨fun prog w A E s Q h q => wpAny_pyIter_tuple h q, fun h h' e f => OfS.at (k := .t) e fun o q => f _ o q, rfl⟩
def ItzG (K : PySem.W.Frag) (k1 : Sk) (a : Addr) (k2 : Sk) (b : Addr) : It :=
  ⟨fun i H => ∃ (xs ys : List V) (x y : V), SqS K k1 H a xs ∧ SqS K k2 H b ys ∧ xs[i]? = some x ∧ ys[i]? = some y,
   fun i H v H' => ∃ T x y, v = .ref T ∧ H T = none ∧ H' = upd H T (.tup [x, y]) ∧ (∀ xs, SqS K k1 H a xs → xs[i]? = some x) ∧ ∀ ys, SqS K k2 H b ys → ys[i]? = some y,
   fun i H => ∃ xs ys : List V, SqS K k1 H a xs ∧ SqS K k2 H b ys ∧ i = min xs.length ys.length⟩
theorem ge5 {n c : Nat} (e : c = n + 4 ∨ c = n + 2 ∨ c = n + 3 ∨ c = n ∨ c = n + 1) : n ≤ c := by omega
theorem lt5 {n m c : Nat} (h : n + 4 < m) (e : c = n + 4 ∨ c = n + 2 ∨ c = n + 3 ∨ c = n ∨ c = n + 1) : c < m := by omega
theorem nn {a b : Nat} (h : a < b ∨ b < a) : a ≠ b := by omega
theorem nm2 {x a b : Nat} (h1 : x ≠ a) (h2 : x ≠ b) : ¬ x ∈ [a, b] := by
  intro h
  rcases List.mem_cons.mp h with e | h
  · exact h1 e
  · exact h2 (List.mem_singleton.mp h)
theorem sep2 {n a b : Nat} (la : a < n) (lb : b < n) : ZipSep2 (n + 4) (n + 2) (n + 3) n (n + 1) [n, a] [n + 1, b] :=
  ⟨(show (n + 2 : Nat) ≠ n + 4 by omega), (show (n + 3 : Nat) ≠ n + 4 by omega), (show (n + 2 : Nat) ≠ n + 3 by omega), (show (n + 2 : Nat) ≠ n by omega), List.mem_cons_self, nm2 (by omega) (by omega), nm2 (by omega) (by omega),
   (show (n + 2 : Nat) ≠ n + 1 by omega), List.mem_cons_self, nm2 (by omega) (by omega), nm2 (by omega) (by omega), nm2 (by omega) (by omega), nm2 (by omega) (by omega)⟩
theorem turn_zipG {P : Program} {w : World} {K : PySem.W.Frag} {elts : List Expr} {kk : Nat} {tpos : Pos} (k1 : Sk) (a : Nat) (k2 : Sk) (b n : Nat) (la : a < n) (lb : b < n) :
    Turn P w K (.Tuple elts kk tpos) (ItzG K k1 a k2 b) [n + 4, n + 2, n + 3, n, n + 1] (n + 4) (fun i h => IsZip h (n + 4) (n + 2) (n + 3) .none ∧ IsTupOf2 h (n + 2) (.ref n) (.ref (n + 1)) ∧ (∃ x y, IsTupOf2 h (n + 3) x y) ∧ ItS k1 h n a i ∧ ItS k2 h (n + 1) b i) where
  mem := by simp
  obj := fun i h st c hc => by
    obtain ⟨s1, s2, ⟨x, y, s3⟩, s4, s5⟩ := st
    rcases (show c = n + 4 ∨ c = n + 2 ∨ c = n + 3 ∨ c = n ∨ c = n + 1 by simpa using hc) with e | e | e | e | e <;> subst e
    · exact ⟨_, s1, fun v q => nomatch q⟩
    · exact ⟨_, s2, fun v q => nomatch q⟩
    · exact ⟨_, s3, fun v q => nomatch q⟩
    · exact s4.obj
    · exact s5.obj
  keep := fun i h h' st k => by
    obtain ⟨s1, s2, ⟨x, y, s3⟩, s4, s5⟩ := st
    exact ⟨k _ (by simp) _ s1, k _ (by simp) _ s2, ⟨x, y, k _ (by simp) _ s3⟩, s4.at fun o q => k _ (by simp) o q, s5.at fun o q => k _ (by simp) o q⟩
  item := by
    intro X hP hw hK hc i pins s σ H E I hf st hg
    subst hP hw hK
    obtain ⟨s1, s2, ⟨p0, p1, s3⟩, s4, s5⟩ := st
    obtain ⟨xs, ys, x, y, hx, hy, ex, ey⟩ := hg
    obtain ⟨its, rv, o1⟩ := src_of I hx
    obtain ⟨jts, rw2, o2⟩ := src_of I hy
    obtain ⟨u, hu, ru⟩ := rv.get ex
    obtain ⟨v, hv, rv2⟩ := rw2.get ey
    have lz : n + 4 < s.heap.objs.size := Heap.lt_size s1
    have sep := sep2 la lb
    have D1 := srcDraws (prog := X.prog) (w := X.w) (A := X.A.in1) k1 (I.ok.hd hc) n a (nn (by omega)) its.toArray
    have D2 := srcDraws (prog := X.prog) (w := X.w) (A := X.A.in1) k2 (I.ok.hd hc) (n + 1) b (nn (by omega)) jts.toArray
    refine wpAny_pyNext_zipD2_item sep D1 D2 s1 s2 s3 ⟨s4, o1⟩ ⟨s5, o2⟩ (by have := (List.getElem?_eq_some_iff.mp hu).1; simpa using this) (by have := (List.getElem?_eq_some_iff.mp hv).1; simpa using this) fun y1 y2 h' tk q1 q2 z1 z2 z3 z4 hT hsz hk => ?_
    have e1 : y1 = u := Option.some.inj (q1.symm.trans (by simpa using hu))
    have e2 : y2 = v := Option.some.inj (q2.symm.trans (by simpa using hv))
    subst e1 e2
    refine ⟨_, rfl, wpAny_letOwnedTupleGo_zip (s := { s with heap := h', toks := tk }) z1 fun h'' hz'' sb => ?_⟩
    have sb' : ∀ c o, c ≠ n + 4 → h'.get? c = some o → h''.get? c = some o := fun c o hc q => (sb.2 c hc).trans q
    have hT2 : h''.get? s.heap.objs.size = some { cls := .type "tuple", data := .seq #[y1, y2] } := sb' _ _ (nn (by omega)) hT
    have new : ObjOk X.prog X.w (upd H s.heap.objs.size (.tup [x, y])) h'' s.heap.objs.size (.tup [x, y]) :=
      ⟨by show 2 ≤ sizeLine; decide, [y1, y2], .cons ru (.cons rv2 .nil), ⟨_, hT2, rfl, _, rfl⟩⟩
    have I1 : Inv X pins σ (upd H s.heap.objs.size (.tup [x, y])) { s with heap := h'', toks := tk } :=
      I.turnedNew (ch := [n + 4, n + 2, n + 3, n, n + 1]) (fun c ob hc q => by
        have hc' : c ≠ n + 4 ∧ c ≠ n + 2 ∧ c ≠ n + 3 ∧ c ≠ n ∧ c ≠ n + 1 := by simpa using hc
        exact sb' _ _ hc'.1 (hk c ob hc'.1 hc'.2.2.1 hc'.2.2.2.1 hc'.2.2.2.2 q)) hf (Nat.le_refl _) new
    refine ⟨.ref s.heap.objs.size, _, I1, rfl, ⟨_, x, y, rfl, I.hok.fresh (Nat.le_refl _), rfl, fun zs hz => by rw [src_inj I hz hx]; exact ex, fun zs hz => by rw [src_inj I hz hy]; exact ey⟩, ⟨hz'', sb' _ _ (nn (by omega)) (hk _ _ (nn (by omega)) (nn (by omega)) (nn (by omega)) (nn (by omega)) s2), ⟨_, _, sb' _ _ (nn (by omega)) z2⟩, z3.1.at fun o q => sb' _ _ (nn (by omega)) q, z4.1.at fun o q => sb' _ _ (nn (by omega)) q⟩, fun c hc => ?_⟩
    have lt : c < s.heap.objs.size := lt5 lz (by simpa using hc)
    rw [upd_ne (Nat.ne_of_lt lt)]
    exact (hf c hc).1
  done := by
    intro X hP hw hK hc i pins s σ H E I hf st hg
    subst hP hw hK
    obtain ⟨s1, s2, ⟨p0, p1, s3⟩, s4, s5⟩ := st
    obtain ⟨xs, ys, hx, hy, ei⟩ := hg
    obtain ⟨its, rv, o1⟩ := src_of I hx
    obtain ⟨jts, rw2, o2⟩ := src_of I hy
    have l1 := rv.length
    have l2 := rw2.length
    have sep := sep2 la lb
    have D1 := srcDraws (prog := X.prog) (w := X.w) (A := X.A.in1) k1 (I.ok.hd hc) n a (nn (by omega)) its.toArray
    have D2 := srcDraws (prog := X.prog) (w := X.w) (A := X.A.in1) k2 (I.ok.hd hc) (n + 1) b (nn (by omega)) jts.toArray
    refine wpAny_pyNext_zipD2_end sep D1 D2 s1 s2 s3 ⟨s4, o1⟩ ⟨s5, o2⟩ (by simp; omega) (by simp; omega) (by simp; omega) fun h' tk hk => ⟨rfl, ?_⟩
    exact I.turnedL (ch := [n + 4, n + 2, n + 3, n, n + 1]) (fun c o hc q => by
      have hc' : c ≠ n + 4 ∧ c ≠ n + 2 ∧ c ≠ n + 3 ∧ c ≠ n ∧ c ≠ n + 1 := by simpa using hc
      exact hk c o hc'.1 hc'.2.2.1 hc'.2.2.2.1 hc'.2.2.2.2 q) hf
  self := fun A i s Q E st h => wpAny_pyIter_zip st.1 h
def iZipG (K : PySem.W.Frag) (k1 k2 : Sk) (ta : TA) : TI := fun σ H R => ta σ H fun vs H1 => ∃ a b xs ys, vs = [.ref a, .ref b] ∧ SqS K k1 H1 a xs ∧ SqS K k2 H1 b ys ∧ R (ItzG K k1 a k2 b) H1
theorem zipG_call {prog : Program} {w : World} {A : Around} {E : Value → Shared → Prop} {s : Shared} {k1 k2 : Sk} {a b : Addr} {its jts : Array Value} {Q : Value → Shared → Prop} (h1 : OfS k1 s.heap a its) (h2 : OfS k2 s.heap b jts)
    (h : ∀ h', IsZip h' (s.heap.objs.size + 4) (s.heap.objs.size + 2) (s.heap.objs.size + 3) .none → IsTupOf2 h' (s.heap.objs.size + 2) (.ref s.heap.objs.size) (.ref (s.heap.objs.size + 1)) → IsTupOf2 h' (s.heap.objs.size + 3) .none .none →
      ItS k1 h' s.heap.objs.size a 0 → ItS k2 h' (s.heap.objs.size + 1) b 0 → (∀ c o, s.heap.get? c = some o → h'.get? c = some o) → Q (.ref (s.heap.objs.size + 4)) { s with heap := h' }) :
    wpAny (model prog w) A (call (.type "zip") [.ref a, .ref b]) Q E s := by
  refine callType_new F.called_zip (by decide) (F.typeCall_zip_2 _ _) (F.newCall_zip_2 _ _) (fun obj => F.args_object_init_3 obj _ _) F.entry_zip_new (meets_zip_newB2 (begins k1 a its) (begins k2 b jts)) ⟨⟨h1, h2⟩, ?_⟩
  have f1 : (itO k1 a).isFreed = false := by cases k1 <;> rfl
  have f2 : (itO k2 b).isFreed = false := by cases k2 <;> rfl
  have z1 : (s.heap.push (itO k1 a)).objs.size = s.heap.objs.size + 1 := Heap.size_push ..
  have z2 : ((s.heap.push (itO k1 a)).push (itO k2 b)).objs.size = s.heap.objs.size + 2 := by rw [Heap.size_push, z1]
  have z3 : (gzT2 s.heap (itO k1 a) (itO k2 b)).objs.size = s.heap.objs.size + 3 := by rw [gzT2, Heap.size_push, z2]
  have z4 : (gzO2 s.heap (itO k1 a) (itO k2 b)).objs.size = s.heap.objs.size + 4 := by rw [gzO2, Heap.size_push, z3]
  have g1 : (s.heap.push (itO k1 a)).get? s.heap.objs.size = some (itO k1 a) := Heap.get?_push_size s.heap f1
  have g2 : ((s.heap.push (itO k1 a)).push (itO k2 b)).get? (s.heap.objs.size + 1) = some (itO k2 b) := by
    have z := Heap.get?_push_size (s.heap.push (itO k1 a)) f2
    rwa [z1] at z
  have g3 : IsTupOf2 (gzT2 s.heap (itO k1 a) (itO k2 b)) (s.heap.objs.size + 2) (.ref s.heap.objs.size) (.ref (s.heap.objs.size + 1)) := by
    have z := Heap.get?_push_size ((s.heap.push (itO k1 a)).push (itO k2 b)) (o := { cls := .type "tuple", data := .seq #[.ref s.heap.objs.size, .ref (s.heap.push (itO k1 a)).objs.size] }) rfl
    rw [z2, z1] at z
    show (Heap.push _ { cls := .type "tuple", data := .seq #[.ref s.heap.objs.size, .ref (s.heap.push (itO k1 a)).objs.size] }).get? _ = _
    rw [z1]
    exact z
  have g4 : IsTupOf2 (gzO2 s.heap (itO k1 a) (itO k2 b)) (s.heap.objs.size + 3) .none .none := by
    have z := Heap.get?_push_size (gzT2 s.heap (itO k1 a) (itO k2 b)) (o := { cls := .type "tuple", data := .seq #[.none, .none] }) rfl
    rwa [z3] at z
  have g5 : IsZip (gzZ2 s.heap (itO k1 a) (itO k2 b)) (s.heap.objs.size + 4) (s.heap.objs.size + 2) (s.heap.objs.size + 3) .none := by
    have z := Heap.get?_push_size (gzO2 s.heap (itO k1 a) (itO k2 b)) (o := { cls := .type "zip", data := .fields #[.none, .bool false, .bool false, .ref ((s.heap.push (itO k1 a)).push (itO k2 b)).objs.size, .ref (gzT2 s.heap (itO k1 a) (itO k2 b)).objs.size] }) rfl
    show (Heap.push _ { cls := .type "zip", data := .fields #[.none, .bool false, .bool false, .ref ((s.heap.push (itO k1 a)).push (itO k2 b)).objs.size, .ref (gzT2 s.heap (itO k1 a) (itO k2 b)).objs.size] }).get? _ = _
    rw [z4, z2, z3] at z
    rw [z2, z3]
    exact z
  show _ ∧ _
  rw [z4]
  exact ⟨⟨_, g5, rfl⟩, h _ g5 (Heap.get?_push_of_some _ (Heap.get?_push_of_some _ g3)) (Heap.get?_push_of_some _ g4)
    (itO_is k1 (Heap.get?_push_of_some _ (Heap.get?_push_of_some _ (Heap.get?_push_of_some _ (Heap.get?_push_of_some _ g1)))))
    (itO_is k2 (Heap.get?_push_of_some _ (Heap.get?_push_of_some _ (Heap.get?_push_of_some _ g2))))
    fun c o q => Heap.get?_push_of_some _ (Heap.get?_push_of_some _ (Heap.get?_push_of_some _ (Heap.get?_push_of_some _ (Heap.get?_push_of_some _ q))))⟩
theorem pi_zipG {X : Cx} (K : PySem.W.Frag) (hK : X.K = K) (k1 k2 : Sk) {e e2 : Expr} {ta : TA} {p pos tpos : Pos} {elts : List Expr} {kk : Nat} (hg : Gl X "zip") (hm : X.mg "zip" = none) (ha : PA X [e, e2] ta) (hs : starEach [e, e2] X.env = (false, eval e X.env) :: starEach [e2] X.env := by rfl) (hs2 : ((backTo pos (starEach [e2] X.env)).any fun x => x.fst) = false := by rfl) :
    PI X (.Tuple elts kk tpos) (.Call (.Name "zip" p) [e, e2] [] pos) (iZipG K k1 k2 ta) := by
  subst hK
  refine ⟨fun pins s σ H R I h => ?_⟩
  refine Call_ (ld_blt I hg hm boot_zip (PyProof.Rows.callWith_type1 (thn (ha.run pos pins s σ H _ I h) fun us s1 ⟨vs, H1, I1, r1, q1⟩ => ?_) hs hs2))
  obtain ⟨a, b, xs, ys, ex, hx, hy, q⟩ := q1
  subst ex
  obtain ⟨u, v, rfl, ru, rv⟩ := vals2 r1
  cases (show u = Value.ref a from ru)
  cases (show v = Value.ref b from rv)
  obtain ⟨its, _, o1⟩ := src_of I1 hx
  obtain ⟨jts, _, o2⟩ := src_of I1 hy
  refine zipG_call o1 o2 fun h' z1 z2 z3 z4 z5 kept => wpAny_pyIter_zip z1 ?_
  have I2 := I1.kept (t' := s1.toks) kept
  refine ⟨s1.heap.objs.size + 4, [s1.heap.objs.size + 4, s1.heap.objs.size + 2, s1.heap.objs.size + 3, s1.heap.objs.size, s1.heap.objs.size + 1], _, _, H1, rfl, I2, turn_zipG k1 a k2 b s1.heap.objs.size o1.lt o2.lt, ⟨z1, z2, ⟨_, _, z3⟩, z4, z5⟩, fun c hc => ?_, q⟩
  have le : s1.heap.objs.size ≤ c := ge5 (by simpa using hc)
  exact I1.fpOk le (I1.hok.fresh le)
theorem walk_zipG {K : PySem.W.Frag} {k1 k2 : Sk} {a b : Addr} {xs ys : List V} {n : Nat} (hn : n = min xs.length ys.length) : Walk (ItzG K k1 a k2 b) n (fun H => SqS K k1 H a xs ∧ SqS K k2 H b ys) (YPair (fun i => xs[i]?) (fun i => ys[i]?)) := by
  refine ⟨fun i H hi q => ⟨xs, ys, xs[i]'(by omega), ys[i]'(by omega), q.1, q.2, by simp, by simp⟩, fun H q => ⟨xs, ys, q.1, q.2, hn⟩, fun i H v H' _ q y => ?_⟩
  obtain ⟨T, x, z, y1, y2, y3, y4, y5⟩ := y
  exact ⟨T, x, z, y1, y2, y3, y4 xs q.1, y5 ys q.2⟩
end NA
namespace NA
open PySem PySem.Spec PyProof.Rows L2
/-! ### zip of three -/
def ItzG3 (K : PySem.W.Frag) (k1 : Sk) (a : Addr) (k2 : Sk) (b : Addr) (k3 : Sk) (c : Addr) : It :=
  ⟨fun i H => ∃ (xs ys zs : List V) (x y z : V), SqS K k1 H a xs ∧ SqS K k2 H b ys ∧ SqS K k3 H c zs ∧ xs[i]? = some x ∧ ys[i]? = some y ∧ zs[i]? = some z,
   fun i H v H' => ∃ T x y z, v = .ref T ∧ H T = none ∧ H' = upd H T (.tup [x, y, z]) ∧ (∀ xs, SqS K k1 H a xs → xs[i]? = some x) ∧ (∀ ys, SqS K k2 H b ys → ys[i]? = some y) ∧ ∀ zs, SqS K k3 H c zs → zs[i]? = some z,
   fun i H => ∃ xs ys zs : List V, SqS K k1 H a xs ∧ SqS K k2 H b ys ∧ SqS K k3 H c zs ∧ i = min (min xs.length ys.length) zs.length⟩
theorem sep3 {n a b c : Nat} (la : a < n) (lb : b < n) (lc : c < n) : ZipSep3 (n + 5) (n + 3) (n + 4) n (n + 1) (n + 2) [n, a] [n + 1, b] [n + 2, c] :=
  ⟨nn (by omega), nn (by omega), nn (by omega), nn (by omega), List.mem_cons_self, nm2 (by omega) (by omega), nm2 (by omega) (by omega),
   nn (by omega), List.mem_cons_self, nm2 (by omega) (by omega), nm2 (by omega) (by omega), nn (by omega), List.mem_cons_self, nm2 (by omega) (by omega), nm2 (by omega) (by omega),
   nm2 (by omega) (by omega), nm2 (by omega) (by omega), nm2 (by omega) (by omega), nm2 (by omega) (by omega), nm2 (by omega) (by omega), nm2 (by omega) (by omega)⟩
theorem lt6 {n m c : Nat} (h : n + 5 < m) (e : c = n + 5 ∨ c = n + 3 ∨ c = n + 4 ∨ c = n ∨ c = n + 1 ∨ c = n + 2) : c < m := by omega
theorem ge6 {n c : Nat} (e : c = n + 5 ∨ c = n + 3 ∨ c = n + 4 ∨ c = n ∨ c = n + 1 ∨ c = n + 2) : n ≤ c := by omega
theorem turn_zipG3 {P : Program} {w : World} {K : PySem.W.Frag} {elts : List Expr} {kk : Nat} {tpos : Pos} (k1 : Sk) (a : Nat) (k2 : Sk) (b : Nat) (k3 : Sk) (c n : Nat) (la : a < n) (lb : b < n) (lc : c < n) :
    Turn P w K (.Tuple elts kk tpos) (ItzG3 K k1 a k2 b k3 c) [n + 5, n + 3, n + 4, n, n + 1, n + 2] (n + 5) (fun i h => IsZip h (n + 5) (n + 3) (n + 4) .none ∧ IsTupOf3 h (n + 3) (.ref n) (.ref (n + 1)) (.ref (n + 2)) ∧ (∃ x y z, IsTupOf3 h (n + 4) x y z) ∧ ItS k1 h n a i ∧ ItS k2 h (n + 1) b i ∧ ItS k3 h (n + 2) c i) where
  mem := by simp
  obj := fun i h st d hd => by
    obtain ⟨s1, s2, ⟨x, y, z, s3⟩, s4, s5, s6⟩ := st
    rcases (show d = n + 5 ∨ d = n + 3 ∨ d = n + 4 ∨ d = n ∨ d = n + 1 ∨ d = n + 2 by simpa using hd) with e | e | e | e | e | e <;> subst e
    · exact ⟨_, s1, fun v q => nomatch q⟩
    · exact ⟨_, s2, fun v q => nomatch q⟩
    · exact ⟨_, s3, fun v q => nomatch q⟩
    · exact s4.obj
    · exact s5.obj
    · exact s6.obj
  keep := fun i h h' st k => by
    obtain ⟨s1, s2, ⟨x, y, z, s3⟩, s4, s5, s6⟩ := st
    exact ⟨k _ (by simp) _ s1, k _ (by simp) _ s2, ⟨x, y, z, k _ (by simp) _ s3⟩, s4.at fun o q => k _ (by simp) o q, s5.at fun o q => k _ (by simp) o q, s6.at fun o q => k _ (by simp) o q⟩
  item := by
    intro X hP hw hK hc i pins s σ H E I hf st hg
    subst hP hw hK
    obtain ⟨s1, s2, ⟨p0, p1, p2, s3⟩, s4, s5, s6⟩ := st
    obtain ⟨xs, ys, zs, x, y, z, hx, hy, hz, ex, ey, ez⟩ := hg
    obtain ⟨its, rv, o1⟩ := src_of I hx
    obtain ⟨jts, rw2, o2⟩ := src_of I hy
    obtain ⟨kts, rw3, o3⟩ := src_of I hz
    obtain ⟨u, hu, ru⟩ := rv.get ex
    obtain ⟨v, hv, rv2⟩ := rw2.get ey
    obtain ⟨w3, hw3, rv3⟩ := rw3.get ez
    have lz : n + 5 < s.heap.objs.size := Heap.lt_size s1
    have sep := sep3 la lb lc
    have D1 := srcDraws (prog := X.prog) (w := X.w) (A := X.A.in1) k1 (I.ok.hd hc) n a (nn (by omega)) its.toArray
    have D2 := srcDraws (prog := X.prog) (w := X.w) (A := X.A.in1) k2 (I.ok.hd hc) (n + 1) b (nn (by omega)) jts.toArray
    have D3 := srcDraws (prog := X.prog) (w := X.w) (A := X.A.in1) k3 (I.ok.hd hc) (n + 2) c (nn (by omega)) kts.toArray
    refine wpAny_pyNext_zipD3_item sep D1 D2 D3 s1 s2 s3 ⟨s4, o1⟩ ⟨s5, o2⟩ ⟨s6, o3⟩ (by have := (List.getElem?_eq_some_iff.mp hu).1; simpa using this) (by have := (List.getElem?_eq_some_iff.mp hv).1; simpa using this) (by have := (List.getElem?_eq_some_iff.mp hw3).1; simpa using this) fun y1 y2 y3 h' tk q1 q2 q3 z1 z2 z3 z4 z5 hT hsz hk => ?_
    have e1 : y1 = u := Option.some.inj (q1.symm.trans (by simpa using hu))
    have e2 : y2 = v := Option.some.inj (q2.symm.trans (by simpa using hv))
    have e3 : y3 = w3 := Option.some.inj (q3.symm.trans (by simpa using hw3))
    subst e1 e2 e3
    refine ⟨_, rfl, wpAny_letOwnedTupleGo_zip (s := { s with heap := h', toks := tk }) z1 fun h'' hz'' sb => ?_⟩
    have sb' : ∀ d o, d ≠ n + 5 → h'.get? d = some o → h''.get? d = some o := fun d o hd q => (sb.2 d hd).trans q
    have hT2 : h''.get? s.heap.objs.size = some { cls := .type "tuple", data := .seq #[y1, y2, y3] } := sb' _ _ (nn (by omega)) hT
    have new : ObjOk X.prog X.w (upd H s.heap.objs.size (.tup [x, y, z])) h'' s.heap.objs.size (.tup [x, y, z]) :=
      ⟨by show 3 ≤ sizeLine; decide, [y1, y2, y3], .cons ru (.cons rv2 (.cons rv3 .nil)), ⟨_, hT2, rfl, _, rfl⟩⟩
    have I1 : Inv X pins σ (upd H s.heap.objs.size (.tup [x, y, z])) { s with heap := h'', toks := tk } :=
      I.turnedNew (ch := [n + 5, n + 3, n + 4, n, n + 1, n + 2]) (fun d ob hd q => by
        have hd' : d ≠ n + 5 ∧ d ≠ n + 3 ∧ d ≠ n + 4 ∧ d ≠ n ∧ d ≠ n + 1 ∧ d ≠ n + 2 := by simpa using hd
        exact sb' _ _ hd'.1 (hk d ob hd'.1 hd'.2.2.1 hd'.2.2.2.1 hd'.2.2.2.2.1 hd'.2.2.2.2.2 q)) hf (Nat.le_refl _) new
    refine ⟨.ref s.heap.objs.size, _, I1, rfl, ⟨_, x, y, z, rfl, I.hok.fresh (Nat.le_refl _), rfl, fun ws hw => by rw [src_inj I hw hx]; exact ex, fun ws hw => by rw [src_inj I hw hy]; exact ey, fun ws hw => by rw [src_inj I hw hz]; exact ez⟩,
      ⟨hz'', sb' _ _ (nn (by omega)) (hk _ _ (nn (by omega)) (nn (by omega)) (nn (by omega)) (nn (by omega)) (nn (by omega)) s2), ⟨_, _, _, sb' _ _ (nn (by omega)) z2⟩, z3.1.at fun o q => sb' _ _ (nn (by omega)) q, z4.1.at fun o q => sb' _ _ (nn (by omega)) q, z5.1.at fun o q => sb' _ _ (nn (by omega)) q⟩, fun d hd => ?_⟩
    have lt : d < s.heap.objs.size := lt6 lz (by simpa using hd)
    rw [upd_ne (Nat.ne_of_lt lt)]
    exact (hf d hd).1
  done := by
    intro X hP hw hK hc i pins s σ H E I hf st hg
    subst hP hw hK
    obtain ⟨s1, s2, ⟨p0, p1, p2, s3⟩, s4, s5, s6⟩ := st
    obtain ⟨xs, ys, zs, hx, hy, hz, ei⟩ := hg
    obtain ⟨its, rv, o1⟩ := src_of I hx
    obtain ⟨jts, rw2, o2⟩ := src_of I hy
    obtain ⟨kts, rw3, o3⟩ := src_of I hz
    have l1 := rv.length
    have l2 := rw2.length
    have l3 := rw3.length
    have sep := sep3 la lb lc
    have D1 := srcDraws (prog := X.prog) (w := X.w) (A := X.A.in1) k1 (I.ok.hd hc) n a (nn (by omega)) its.toArray
    have D2 := srcDraws (prog := X.prog) (w := X.w) (A := X.A.in1) k2 (I.ok.hd hc) (n + 1) b (nn (by omega)) jts.toArray
    have D3 := srcDraws (prog := X.prog) (w := X.w) (A := X.A.in1) k3 (I.ok.hd hc) (n + 2) c (nn (by omega)) kts.toArray
    refine wpAny_pyNext_zipD3_end sep D1 D2 D3 s1 s2 s3 ⟨s4, o1⟩ ⟨s5, o2⟩ ⟨s6, o3⟩ (by simp; omega) (by simp; omega) (by simp; omega) (by simp; omega) fun h' tk hk => ⟨rfl, ?_⟩
    exact I.turnedL (ch := [n + 5, n + 3, n + 4, n, n + 1, n + 2]) (fun d o hd q => by
      have hd' : d ≠ n + 5 ∧ d ≠ n + 3 ∧ d ≠ n + 4 ∧ d ≠ n ∧ d ≠ n + 1 ∧ d ≠ n + 2 := by simpa using hd
      exact hk d o hd'.1 hd'.2.2.1 hd'.2.2.2.1 hd'.2.2.2.2.1 hd'.2.2.2.2.2 q) hf
  self := fun A i s Q E st h => wpAny_pyIter_zip st.1 h
def iZipG3 (K : PySem.W.Frag) (k1 k2 k3 : Sk) (ta : TA) : TI := fun σ H R => ta σ H fun vs H1 => ∃ a b c xs ys zs, vs = [.ref a, .ref b, .ref c] ∧ SqS K k1 H1 a xs ∧ SqS K k2 H1 b ys ∧ SqS K k3 H1 c zs ∧ R (ItzG3 K k1 a k2 b k3 c) H1
theorem zipG3_call {prog : Program} {w : World} {A : Around} {E : Value → Shared → Prop} {s : Shared} {k1 k2 k3 : Sk} {a b c : Addr} {its jts kts : Array Value} {Q : Value → Shared → Prop} (h1 : OfS k1 s.heap a its) (h2 : OfS k2 s.heap b jts) (h3 : OfS k3 s.heap c kts)
    (h : ∀ h', IsZip h' (s.heap.objs.size + 5) (s.heap.objs.size + 3) (s.heap.objs.size + 4) .none → IsTupOf3 h' (s.heap.objs.size + 3) (.ref s.heap.objs.size) (.ref (s.heap.objs.size + 1)) (.ref (s.heap.objs.size + 2)) → IsTupOf3 h' (s.heap.objs.size + 4) .none .none .none →
      ItS k1 h' s.heap.objs.size a 0 → ItS k2 h' (s.heap.objs.size + 1) b 0 → ItS k3 h' (s.heap.objs.size + 2) c 0 → (∀ c o, s.heap.get? c = some o → h'.get? c = some o) → Q (.ref (s.heap.objs.size + 5)) { s with heap := h' }) :
    wpAny (model prog w) A (call (.type "zip") [.ref a, .ref b, .ref c]) Q E s := by
  refine callType_new F.called_zip (by decide) (F.typeCall_zip_3 _ _ _) (F.newCall_zip_3 _ _ _) (fun obj => F.args_object_init_4 obj _ _ _) F.entry_zip_new (meets_zip_newB3 (begins k1 a its) (begins k2 b jts) (begins k3 c kts)) ⟨⟨h1, h2, h3⟩, ?_⟩
  have f1 : (itO k1 a).isFreed = false := by cases k1 <;> rfl
  have f2 : (itO k2 b).isFreed = false := by cases k2 <;> rfl
  have f3 : (itO k3 c).isFreed = false := by cases k3 <;> rfl
  have z1 : (s.heap.push (itO k1 a)).objs.size = s.heap.objs.size + 1 := Heap.size_push ..
  have z2 : ((s.heap.push (itO k1 a)).push (itO k2 b)).objs.size = s.heap.objs.size + 2 := by rw [Heap.size_push, z1]
  have z3 : (((s.heap.push (itO k1 a)).push (itO k2 b)).push (itO k3 c)).objs.size = s.heap.objs.size + 3 := by rw [Heap.size_push, z2]
  have z4 : (gzT3 s.heap (itO k1 a) (itO k2 b) (itO k3 c)).objs.size = s.heap.objs.size + 4 := by rw [gzT3, Heap.size_push, z3]
  have z5 : (gzO3 s.heap (itO k1 a) (itO k2 b) (itO k3 c)).objs.size = s.heap.objs.size + 5 := by rw [gzO3, Heap.size_push, z4]
  have g1 : (s.heap.push (itO k1 a)).get? s.heap.objs.size = some (itO k1 a) := Heap.get?_push_size s.heap f1
  have g2 : ((s.heap.push (itO k1 a)).push (itO k2 b)).get? (s.heap.objs.size + 1) = some (itO k2 b) := by
    have z := Heap.get?_push_size (s.heap.push (itO k1 a)) f2
    rwa [z1] at z
  have g2' : (((s.heap.push (itO k1 a)).push (itO k2 b)).push (itO k3 c)).get? (s.heap.objs.size + 2) = some (itO k3 c) := by
    have z := Heap.get?_push_size ((s.heap.push (itO k1 a)).push (itO k2 b)) f3
    rwa [z2] at z
  have g3 : IsTupOf3 (gzT3 s.heap (itO k1 a) (itO k2 b) (itO k3 c)) (s.heap.objs.size + 3) (.ref s.heap.objs.size) (.ref (s.heap.objs.size + 1)) (.ref (s.heap.objs.size + 2)) := by
    have z := Heap.get?_push_size (((s.heap.push (itO k1 a)).push (itO k2 b)).push (itO k3 c)) (o := { cls := .type "tuple", data := .seq #[.ref s.heap.objs.size, .ref (s.heap.push (itO k1 a)).objs.size, .ref ((s.heap.push (itO k1 a)).push (itO k2 b)).objs.size] }) rfl
    rw [z3, z2, z1] at z
    show (Heap.push _ { cls := .type "tuple", data := .seq #[.ref s.heap.objs.size, .ref (s.heap.push (itO k1 a)).objs.size, .ref ((s.heap.push (itO k1 a)).push (itO k2 b)).objs.size] }).get? _ = _
    rw [z2, z1]
    exact z
  have g4 : IsTupOf3 (gzO3 s.heap (itO k1 a) (itO k2 b) (itO k3 c)) (s.heap.objs.size + 4) .none .none .none := by
    have z := Heap.get?_push_size (gzT3 s.heap (itO k1 a) (itO k2 b) (itO k3 c)) (o := { cls := .type "tuple", data := .seq #[.none, .none, .none] }) rfl
    rwa [z4] at z
  have g5 : IsZip (gzZ3 s.heap (itO k1 a) (itO k2 b) (itO k3 c)) (s.heap.objs.size + 5) (s.heap.objs.size + 3) (s.heap.objs.size + 4) .none := by
    have z := Heap.get?_push_size (gzO3 s.heap (itO k1 a) (itO k2 b) (itO k3 c)) (o := { cls := .type "zip", data := .fields #[.none, .bool false, .bool false, .ref (((s.heap.push (itO k1 a)).push (itO k2 b)).push (itO k3 c)).objs.size, .ref (gzT3 s.heap (itO k1 a) (itO k2 b) (itO k3 c)).objs.size] }) rfl
    show (Heap.push _ { cls := .type "zip", data := .fields #[.none, .bool false, .bool false, .ref (((s.heap.push (itO k1 a)).push (itO k2 b)).push (itO k3 c)).objs.size, .ref (gzT3 s.heap (itO k1 a) (itO k2 b) (itO k3 c)).objs.size] }).get? _ = _
    rw [z5, z3, z4] at z
    rw [z3, z4]
    exact z
  show _ ∧ _
  rw [z5]
  exact ⟨⟨_, g5, rfl⟩, h _ g5 (Heap.get?_push_of_some _ (Heap.get?_push_of_some _ g3)) (Heap.get?_push_of_some _ g4)
    (itO_is k1 (Heap.get?_push_of_some _ (Heap.get?_push_of_some _ (Heap.get?_push_of_some _ (Heap.get?_push_of_some _ (Heap.get?_push_of_some _ g1))))))
    (itO_is k2 (Heap.get?_push_of_some _ (Heap.get?_push_of_some _ (Heap.get?_push_of_some _ (Heap.get?_push_of_some _ g2)))))
    (itO_is k3 (Heap.get?_push_of_some _ (Heap.get?_push_of_some _ (Heap.get?_push_of_some _ g2'))))
    fun c o q => Heap.get?_push_of_some _ (Heap.get?_push_of_some _ (Heap.get?_push_of_some _ (Heap.get?_push_of_some _ (Heap.get?_push_of_some _ (Heap.get?_push_of_some _ q)))))⟩
theorem vals3 {x y z : V} {us : List Value} (h : Vals [x, y, z] us) : ∃ u v w, us = [u, v, w] ∧ RelV x u ∧ RelV y v ∧ RelV z w := by
  cases h with
  | cons a h =>
    cases h with
    | cons b h =>
      cases h with
      | cons c h =>
        cases h
        exact ⟨_, _, _, rfl, a, b, c⟩
theorem pi_zipG3 {X : Cx} (K : PySem.W.Frag) (hK : X.K = K) (k1 k2 k3 : Sk) {e e2 e3 : Expr} {ta : TA} {p pos tpos : Pos} {elts : List Expr} {kk : Nat} (hg : Gl X "zip") (hm : X.mg "zip" = none) (ha : PA X [e, e2, e3] ta) (hs : starEach [e, e2, e3] X.env = (false, eval e X.env) :: starEach [e2, e3] X.env := by rfl) (hs2 : ((backTo pos (starEach [e2, e3] X.env)).any fun x => x.fst) = false := by rfl) :
    PI X (.Tuple elts kk tpos) (.Call (.Name "zip" p) [e, e2, e3] [] pos) (iZipG3 K k1 k2 k3 ta) := by
  subst hK
  refine ⟨fun pins s σ H R I h => ?_⟩
  refine Call_ (ld_blt I hg hm boot_zip (PyProof.Rows.callWith_type1 (thn (ha.run pos pins s σ H _ I h) fun us s1 ⟨vs, H1, I1, r1, q1⟩ => ?_) hs hs2))
  obtain ⟨a, b, c, xs, ys, zs, ex, hx, hy, hz, q⟩ := q1
  subst ex
  obtain ⟨u, v, w3, rfl, ru, rv, rw3⟩ := vals3 r1
  cases (show u = Value.ref a from ru)
  cases (show v = Value.ref b from rv)
  cases (show w3 = Value.ref c from rw3)
  obtain ⟨its, _, o1⟩ := src_of I1 hx
  obtain ⟨jts, _, o2⟩ := src_of I1 hy
  obtain ⟨kts, _, o3⟩ := src_of I1 hz
  refine zipG3_call o1 o2 o3 fun h' z1 z2 z3 z4 z5 z6 kept => wpAny_pyIter_zip z1 ?_
  have I2 := I1.kept (t' := s1.toks) kept
  refine ⟨s1.heap.objs.size + 5, [s1.heap.objs.size + 5, s1.heap.objs.size + 3, s1.heap.objs.size + 4, s1.heap.objs.size, s1.heap.objs.size + 1, s1.heap.objs.size + 2], _, _, H1, rfl, I2, turn_zipG3 k1 a k2 b k3 c s1.heap.objs.size o1.lt o2.lt o3.lt, ⟨z1, z2, ⟨_, _, _, z3⟩, z4, z5, z6⟩, fun d hd => ?_, q⟩
  have le : s1.heap.objs.size ≤ d := ge6 (by simpa using hd)
  exact I1.fpOk le (I1.hok.fresh le)
def YTri (xs ys zs : Nat → Option V) : Nat → Hp → V → Hp → Prop := fun i H v H' => ∃ T x y z, v = .ref T ∧ H T = none ∧ H' = upd H T (.tup [x, y, z]) ∧ xs i = some x ∧ ys i = some y ∧ zs i = some z
theorem walk_zipG3 {K : PySem.W.Frag} {k1 k2 k3 : Sk} {a b c : Addr} {xs ys zs : List V} {n : Nat} (hn : n = min (min xs.length ys.length) zs.length) : Walk (ItzG3 K k1 a k2 b k3 c) n (fun H => SqS K k1 H a xs ∧ SqS K k2 H b ys ∧ SqS K k3 H c zs) (YTri (fun i => xs[i]?) (fun i => ys[i]?) (fun i => zs[i]?)) := by
  refine ⟨fun i H hi q => ⟨xs, ys, zs, xs[i]'(by omega), ys[i]'(by omega), zs[i]'(by omega), q.1, q.2.1, q.2.2, by simp, by simp, by simp⟩, fun H q => ⟨xs, ys, zs, q.1, q.2.1, q.2.2, hn⟩, fun i H v H' _ q y => ?_⟩
  obtain ⟨T, x, z, u, y1, y2, y3, y4, y5, y6⟩ := y
  exact ⟨T, x, z, u, y1, y2, y3, y4 xs q.1, y5 ys q.2.1, y6 zs q.2.2⟩
end NA
namespace NA
open PySem PySem.Spec PyProof.Rows L2
/-! ### deeds, programs, contents: data and promises of what draws them -/
theorem ix_anyK {X : Cx} (K : PySem.W.Frag) (hK : X.K = K) : IxR X (fun x y H Q => rIxL K x y H Q ∨ rIxT K x y H Q) := fun value slice pins s σ H x y v u Q I rx ry h e =>
  h.elim (fun h => ix_listK K hK value slice pins s σ H x y v u Q I rx ry h e) (fun h => ix_tupK K hK value slice pins s σ H x y v u Q I rx ry h e)
theorem cr_sumK {X : Cx} (K : PySem.W.Frag) (hK : X.K = K) (hc : X.calm = true) : CallR X (.builtin "sum") (rSum K) := hK ▸ cr_sum hc
theorem Cal.weak {P : Program} {w : World} {K : PySem.W.Frag} {mg : Str → Option Value} {base : Heap} {x : Str} {k : Nat} {sp sp' : Sp} (c : Cal P w K mg base k x sp) (f : ∀ vs H Q E, sp' vs H Q E → sp vs H Q E) : Cal P w K mg base k x sp' := by
  obtain ⟨a, fd, ps, F, r⟩ := c.ex
  exact ⟨a, fd, ps, ⟨fun vs H Q E h => F.len vs H Q E (f vs H Q E h), fun A outer s H args us vs Q E hr he hb hv h => F.run A outer s H args us vs Q E hr he hb hv (f vs H Q E h)⟩, r⟩
def spDipW : Sp := fun vs H Q _ => ∃ (p q : Addr) (n : Int), vs = [.ref p, .int n] ∧ Pt H p q ∧ 0 < n ∧ n.natAbs < 2 ^ 4000 ∧ ∀ (r : Int) (H' : Hp), 0 ≤ r → r < n → Pt H' p q → Kp p q H H' → Q (.int r) H'
theorem dip_of {vs : List V} {H : Hp} {Q : VK} {E : XK} (h : spDip vs H Q E) : spDipW vs H Q E := by
  obtain ⟨p, q, n, e, hP, n0, n1, k⟩ := h
  exact ⟨p, q, n, e, hP, n0, Nat.lt_trans (show n.natAbs < 1073741824 by omega) (by decide), k⟩
def spPickA : Sp := fun vs H Q _ => ∃ (p q a : Addr) (xs : List V) (o : HO), vs = [.ref p, .ref a] ∧ Pt H p q ∧ H a = some o ∧ ((o = .lst xs ∧ a ≠ p ∧ a ≠ q) ∨ o = .tup xs) ∧ xs ≠ [] ∧ xs.length < 1000 ∧
  ∀ (v : V) (H' : Hp), v ∈ xs → Pt H' p q → Kp p q H H' → Q v H'
theorem pick_of {vs : List V} {H : Hp} {Q : VK} {E : XK} (h : spPick vs H Q E) : spPickA vs H Q E := by
  obtain ⟨p, q, a, xs, e, hP, ha, n1, n2, ne, lt, k⟩ := h
  exact ⟨p, q, a, xs, _, e, hP, ha, .inl ⟨rfl, n1, n2⟩, ne, lt, k⟩
def dD (d : Nat × Nat × Int) : PyData := .tuple [.int d.1, .int d.2.1, .int d.2.2]
def pD (l : List (Nat × Nat × Int)) : PyData := .tuple (l.map dD)
/-- a deed of a machine -/
structure DOk (ss : List Int) (ws : List (Nat × Nat)) (d : Nat × Nat × Int) : Prop where
  wire : (d.1, d.2.1) ∈ ws
  most : d.2.2.natAbs ≤ 10 ^ 60
  step : ∃ a b : Nat, ss[d.1]? = some (a : Int) ∧ ss[d.2.1]? = some (b : Int) ∧ ((stp a b : Nat) : Int) ∣ d.2.2
/-- contents of sizes -/
structure COk (ss hs : List Int) : Prop where
  len : hs.length = ss.length
  low : ∀ (i : Nat) (h s : Int), hs[i]? = some h → ss[i]? = some s → 0 ≤ h ∧ h < s
def spDeed : Sp := fun vs H Q _ => ∃ (p q : Addr) (v : V) (ss : List Int) (ws : List (Nat × Nat)), vs = [.ref p, v] ∧ Pt H p q ∧ Im H v (mD ss ws) ∧ MOk ss ws ∧ ws ≠ [] ∧
  ∀ (u : V) (d : Nat × Nat × Int) (H' : Hp), Im H' u (dD d) → DOk ss ws d → Pt H' p q → Kp p q H H' → Q u H'
def spProgram : Sp := fun vs H Q _ => ∃ (p q : Addr) (v : V) (ss : List Int) (ws : List (Nat × Nat)) (m : Nat), vs = [.ref p, v, .int m] ∧ Pt H p q ∧ Im H v (mD ss ws) ∧ MOk ss ws ∧ m ≤ 900 ∧
  ∀ (u : V) (l : List (Nat × Nat × Int)) (H' : Hp), Im H' u (pD l) → (∀ d ∈ l, DOk ss ws d) → l.length ≤ m → Pt H' p q → Kp p q H H' → Q u H'
def spContents : Sp := fun vs H Q _ => ∃ (p q : Addr) (v : V) (ss : List Int), vs = [.ref p, v] ∧ Pt H p q ∧ Im H v (sD ss) ∧ (∀ s ∈ ss, SizeOk s) ∧ ss.length ≤ 900 ∧
  ∀ (u : V) (hs : List Int) (H' : Hp), Im H' u (sD hs) → COk ss hs → Pt H' p q → Kp p q H H' → Q u H'
theorem SizeOk.nat {s : Int} (h : SizeOk s) : ∃ m : Nat, s = (m : Int) ∧ 2 ≤ m ∧ m ≤ 10 ^ 30 := by
  obtain ⟨m, e, a, b, _⟩ := h
  exact ⟨m, e, a, b⟩
theorem stp_le {a b : Nat} (hb : 0 < b) : 0 < stp a b ∧ stp a b ≤ b := ⟨stp_pos hb, Nat.div_le_self _ _⟩
/-- the law's own deed by deed, of any integers -/
def addI (ns : List Int) (d : Nat × Nat × Int) : List Int := ns.set d.2.1 (ns.getD d.2.1 0 + d.2.2 * ns.getD d.1 0)
def farI (l : List (Nat × Nat × Int)) (ns : List Int) : List Int := l.foldl addI ns
def remI (ns ss : List Int) : List Int := List.zipWith (fun n s => n % s) ns ss
def runI (ss : List Int) (l : List (Nat × Nat × Int)) (ns : List Int) : List Int := remI (farI l ns) ss
theorem addI_len (ns : List Int) (d : Nat × Nat × Int) : (addI ns d).length = ns.length := List.length_set ..
theorem farI_next {l : List (Nat × Nat × Int)} {ns : List Int} {i : Nat} {d : Nat × Nat × Int} (h : l[i]? = some d) : farI (l.take (i + 1)) ns = addI (farI (l.take i) ns) d := by
  unfold farI
  rw [List.take_add_one, h, List.foldl_append]
  rfl
def mostI (B : Nat) (ns : List Int) : Prop := ∀ n ∈ ns, n.natAbs < 2 ^ B
theorem getD_most {B : Nat} {ns : List Int} (h : mostI B ns) (i : Nat) : (ns.getD i 0).natAbs < 2 ^ B := by
  rw [List.getD_eq_getElem?_getD]
  cases e : ns[i]? with
  | none => exact Nat.pow_pos (by decide)
  | some x => exact h x (List.mem_of_getElem? e)
theorem addI_most {B : Nat} {ns : List Int} {d : Nat × Nat × Int} (h : mostI B ns) (hd : d.2.2.natAbs < 2 ^ 200) : mostI (B + 201) (addI ns d) := by
  intro n hn
  have up : 2 ^ B ≤ 2 ^ (B + 200) := Nat.pow_le_pow_right (by decide) (by omega)
  have e2 : 2 ^ (B + 201) = 2 ^ (B + 200) + 2 ^ (B + 200) := by rw [show B + 201 = B + 200 + 1 by omega, Nat.pow_succ]; omega
  rcases List.mem_or_eq_of_mem_set hn with m | e
  · have := h n m
    omega
  · have a := getD_most h d.2.1
    have b := getD_most h d.1
    have c : (d.2.2 * ns.getD d.1 0).natAbs < 2 ^ (B + 200) := by
      rw [Int.natAbs_mul, Nat.pow_add, Nat.mul_comm]
      exact Nat.mul_lt_mul'' b hd
    rw [e]
    have := Int.natAbs_add_le (ns.getD d.2.1 0) (d.2.2 * ns.getD d.1 0)
    omega
def spRunI (K : PySem.W.Frag) : Sp := fun vs H Q _ => ∃ (v u : V) (a : Addr) (ss ns : List Int) (l : List (Nat × Nat × Int)), vs = [v, u, .ref a] ∧ Im H v (sD ss) ∧ Im H u (pD l) ∧ (SqL K H a (ns.map V.int) ∨ SqT K H a (ns.map V.int)) ∧
  ns.length = ss.length ∧ ss.length ≤ 100 ∧ (∀ s ∈ ss, SizeOk s) ∧ (∀ d ∈ l, d.1 < ss.length ∧ d.2.1 < ss.length ∧ d.2.2.natAbs ≤ 10 ^ 60) ∧ l.length ≤ 1000 ∧ mostI 5000 ns ∧
  ∀ (y : V) (H' : Hp), Im H' y (sD (runI ss l ns)) → Same H H' → Q y H'
end NA
namespace NA
open PySem PySem.Spec PyProof.Rows L2
/-! ### tables: data and promises -/
def tD (t : List (List Int)) : PyData := .tuple (t.map sD)
def dot (row hs : List Int) : Int := (List.zipWith (fun e h => e * h) row hs).sum
def ledI (ss : List Int) (t : List (List Int)) (hs : List Int) : List Int := List.zipWith (fun row s => dot row hs % s) t ss
def colI (one : List (List Int)) (j : Nat) : List Int := one.map fun r => r.getD j 0
def bothI (ss : List Int) (one other : List (List Int)) : List (List Int) := List.zipWith (fun row s => (List.range ss.length).map fun j => dot row (colI one j) % s) other ss
def stillI (n : Nat) : List (List Int) := (List.range n).map fun i => (List.range n).map fun j => if i = j then 1 else 0
/-- as many rows as sizes, each as long, entries not too great -/
structure TSh (n : Nat) (t : List (List Int)) : Prop where
  len : t.length = n
  row : ∀ r ∈ t, r.length = n
  most : ∀ r ∈ t, mostI 300 r
/-- a table of sizes -/
structure TOk (ss : List Int) (t : List (List Int)) : Prop where
  len : t.length = ss.length
  row : ∀ r ∈ t, r.length = ss.length
  low : ∀ (i j : Nat) (r : List Int) (e s : Int), t[i]? = some r → r[j]? = some e → ss[i]? = some s → 0 ≤ e ∧ e < s
  step : ∀ (i j : Nat) (r : List Int) (e : Int), t[i]? = some r → r[j]? = some e → i ≠ j → ∃ a b : Nat, ss[j]? = some (a : Int) ∧ ss[i]? = some (b : Int) ∧ ((stp a b : Nat) : Int) ∣ e
theorem Im.row {H : Hp} {vs : List V} {t : List (List Int)} {i : Nat} {r : List Int} (h : ImAll H vs (t.map sD)) (e : t[i]? = some r) : ∃ a, vs[i]? = some (.ref a) ∧ H a = some (.tup (r.map V.int)) := by
  obtain ⟨v, h1, h2⟩ := h.get (i := i) (d := sD r) (by rw [List.getElem?_map, e]; rfl)
  obtain ⟨a, xs, rfl, ha, ix⟩ := h2.tuple
  have := ix.ints
  subst this
  exact ⟨a, h1, ha⟩
def spLed : Sp := fun vs H Q _ => ∃ (x y z : V) (ss : List Int) (t : List (List Int)) (hs : List Int), vs = [x, y, z] ∧ Im H x (sD ss) ∧ Im H y (tD t) ∧ Im H z (sD hs) ∧ (∀ s ∈ ss, SizeOk s) ∧ ss.length ≤ 100 ∧ TSh ss.length t ∧ hs.length = ss.length ∧ mostI 300 hs ∧
  ∀ (u : V) (H' : Hp), Im H' u (sD (ledI ss t hs)) → Same H H' → Q u H'
def spBoth : Sp := fun vs H Q _ => ∃ (x y z : V) (ss : List Int) (one other : List (List Int)), vs = [x, y, z] ∧ Im H x (sD ss) ∧ Im H y (tD one) ∧ Im H z (tD other) ∧ (∀ s ∈ ss, SizeOk s) ∧ ss.length ≤ 100 ∧ TSh ss.length one ∧ TSh ss.length other ∧
  ∀ (u : V) (H' : Hp), Im H' u (tD (bothI ss one other)) → Same H H' → Q u H'
def spStill : Sp := fun vs H Q _ => ∃ (x : V) (ss : List Int), vs = [x] ∧ Im H x (sD ss) ∧ ss.length ≤ 100 ∧ ∀ (u : V) (H' : Hp), Im H' u (tD (stillI ss.length)) → Same H H' → Q u H'
def spTable : Sp := fun vs H Q _ => ∃ (p q : Addr) (v : V) (ss : List Int), vs = [.ref p, v] ∧ Pt H p q ∧ Im H v (sD ss) ∧ (∀ s ∈ ss, SizeOk s) ∧ ss.length ≤ 100 ∧
  ∀ (u : V) (t : List (List Int)) (H' : Hp), Im H' u (tD t) → TOk ss t → Pt H' p q → Kp p q H H' → Q u H'
theorem mul_wide {a b : Int} {A B : Nat} (ha : a.natAbs < 2 ^ A) (hb : b.natAbs < 2 ^ B) (h : A + B + 2 ≤ 900000) : CMulW a b :=
  wide_mul (a := A + 1) (b := B + 1) (Nat.lt_of_lt_of_le ha (Nat.pow_le_pow_right (by decide) (by omega))) (Nat.lt_of_lt_of_le hb (Nat.pow_le_pow_right (by decide) (by omega))) (by omega) (by omega) (by omega)
/-! rows that are lists yet -/
structure Rws (p q R : Addr) (H : Hp) (rs : List Addr) (t : List (List Int)) : Prop where
  top : H R = some (.lst (rs.map V.ref))
  len : rs.length = t.length
  row : ∀ (i : Nat) (a : Addr), rs[i]? = some a → ∃ r, t[i]? = some r ∧ H a = some (.lst (r.map V.int))
  nd : rs.Nodup
  off : ∀ a ∈ rs, a ≠ R ∧ a ≠ p ∧ a ≠ q
theorem Rws.kp {p q R : Addr} {H H' : Hp} {rs : List Addr} {t : List (List Int)} (h : Rws p q R H rs t) (nR : R ≠ p ∧ R ≠ q) (k : Kp p q H H') : Rws p q R H' rs t :=
  ⟨k _ _ nR.1 nR.2 h.top, h.len, fun i a e => by
    obtain ⟨r, h1, h2⟩ := h.row i a e
    have o := h.off a (List.mem_of_getElem? e)
    exact ⟨r, h1, k _ _ o.2.1 o.2.2 h2⟩, h.nd, h.off⟩
theorem Rws.same {p q R : Addr} {H H' : Hp} {rs : List Addr} {t : List (List Int)} (h : Rws p q R H rs t) (k : Same H H') : Rws p q R H' rs t :=
  ⟨k _ _ h.top, h.len, fun i a e => by
    obtain ⟨r, h1, h2⟩ := h.row i a e
    exact ⟨r, h1, k _ _ h2⟩, h.nd, h.off⟩
theorem Rws.set {p q R : Addr} {H : Hp} {rs : List Addr} {t : List (List Int)} (h : Rws p q R H rs t) {i : Nat} {a : Addr} (e : rs[i]? = some a) (r : List Int) : Rws p q R (upd H a (.lst (r.map V.int))) rs (t.set i r) := by
  have o := h.off a (List.mem_of_getElem? e)
  refine ⟨?_, by rw [List.length_set]; exact h.len, fun j b eb => ?_, h.nd, h.off⟩
  · rw [upd_ne (Ne.symm o.1)]
    exact h.top
  · have li : i < t.length := by rw [← h.len]; exact (List.getElem?_eq_some_iff.mp e).1
    by_cases ij : i = j
    · subst ij
      rw [e] at eb
      cases eb
      exact ⟨r, by rw [List.getElem?_set_self li], upd_same⟩
    · obtain ⟨r', h1, h2⟩ := h.row j b eb
      refine ⟨r', by rw [List.getElem?_set_ne ij]; exact h1, ?_⟩
      have nb : b ≠ a := fun z => by
        subst z
        obtain ⟨l1, g1⟩ := List.getElem?_eq_some_iff.mp e
        obtain ⟨l2, g2⟩ := List.getElem?_eq_some_iff.mp eb
        rcases Nat.lt_or_gt_of_ne ij with lt | lt
        · exact (List.pairwise_iff_getElem.mp h.nd i j l1 l2 lt) (g1.trans g2.symm)
        · exact (List.pairwise_iff_getElem.mp h.nd j i l2 l1 lt) (g2.trans g1.symm)
      rw [upd_ne nb]
      exact h2
theorem Rws.put {p q R a : Addr} {H : Hp} {rs : List Addr} {t : List (List Int)} {r : List Int} (h : Rws p q R H rs t) (nR : R ≠ p ∧ R ≠ q) (ha : H a = some (.lst (r.map V.int))) (n1 : a ∉ rs) (n2 : a ≠ R ∧ a ≠ p ∧ a ≠ q) : Rws p q R (upd H R (.lst (rs.map V.ref ++ [.ref a]))) (rs ++ [a]) (t ++ [r]) := by
  refine ⟨by rw [upd_same, List.map_append]; rfl, by rw [List.length_append, List.length_append, h.len]; rfl, fun i b eb => ?_, ?_, fun b hb => ?_⟩
  · by_cases e : i < rs.length
    · rw [List.getElem?_append_left e] at eb
      obtain ⟨r', h1, h2⟩ := h.row i b eb
      have o := h.off b (List.mem_of_getElem? eb)
      exact ⟨r', by rw [List.getElem?_append_left (by rw [← h.len]; exact e)]; exact h1, by rw [upd_ne o.1]; exact h2⟩
    · rw [List.getElem?_append_right (by omega)] at eb
      have z : i - rs.length = 0 := by
        have := (List.getElem?_eq_some_iff.mp eb).1
        rw [List.length_singleton] at this
        omega
      rw [z] at eb
      cases eb
      refine ⟨r, by rw [List.getElem?_append_right (by have := h.len; omega), ← h.len, z]; rfl, by rw [upd_ne n2.1]; exact ha⟩
  · refine List.nodup_append.mpr ⟨h.nd, List.pairwise_singleton _ a, fun x hx y hy e => ?_⟩
    rw [List.mem_singleton.mp hy] at e
    exact n1 (e ▸ hx)
  · rcases List.mem_append.mp hb with hb | hb
    · exact h.off b hb
    · rw [List.mem_singleton.mp hb]
      exact n2
theorem stp_dvd (a b : Nat) : stp a b ∣ b := Nat.div_dvd_of_dvd (Nat.gcd_dvd_left b a)
theorem TOk.still {ss : List Int} (ok : ∀ s ∈ ss, SizeOk s) : TOk ss (stillI ss.length) := by
  have g : ∀ (i j : Nat) (r : List Int) (e : Int), (stillI ss.length)[i]? = some r → r[j]? = some e → i < ss.length ∧ j < ss.length ∧ e = if i = j then 1 else 0 := fun i j r e h1 h2 => by
    unfold stillI at h1
    rw [List.getElem?_map] at h1
    have li : i < ss.length := Nat.lt_of_not_le fun z => by
      rw [List.getElem?_eq_none (by rw [List.length_range]; exact z)] at h1
      cases h1
    rw [List.getElem?_eq_getElem (by rw [List.length_range]; exact li), List.getElem_range] at h1
    cases h1
    rw [List.getElem?_map] at h2
    have lj : j < ss.length := Nat.lt_of_not_le fun z => by
      rw [List.getElem?_eq_none (by rw [List.length_range]; exact z)] at h2
      cases h2
    rw [List.getElem?_eq_getElem (by rw [List.length_range]; exact lj), List.getElem_range] at h2
    cases h2
    exact ⟨li, lj, rfl⟩
  refine ⟨by unfold stillI; rw [List.length_map, List.length_range], fun r hr => ?_, fun i j r e s h1 h2 h3 => ?_, fun i j r e h1 h2 n => ?_⟩
  · obtain ⟨i, _, rfl⟩ := List.mem_map.mp hr
    rw [List.length_map, List.length_range]
  · obtain ⟨li, lj, rfl⟩ := g i j r e h1 h2
    obtain ⟨m, rfl, m2, _⟩ := (ok s (List.mem_of_getElem? h3)).nat
    split <;> omega
  · obtain ⟨li, lj, rfl⟩ := g i j r e h1 h2
    rw [if_neg n]
    obtain ⟨m, em, _⟩ := (ok ss[j] (List.getElem_mem lj)).nat
    obtain ⟨k, ek, _⟩ := (ok ss[i] (List.getElem_mem li)).nat
    exact ⟨m, k, by rw [List.getElem?_eq_getElem lj, em], by rw [List.getElem?_eq_getElem li, ek], Int.dvd_zero _⟩
theorem TOk.set {ss : List Int} {t : List (List Int)} (h : TOk ss t) {i j : Nat} {r : List Int} {e : Int} (hi : t[i]? = some r) (low : ∀ s, ss[i]? = some s → 0 ≤ e ∧ e < s) (st : i ≠ j → ∃ a b : Nat, ss[j]? = some (a : Int) ∧ ss[i]? = some (b : Int) ∧ ((stp a b : Nat) : Int) ∣ e) : TOk ss (t.set i (r.set j e)) := by
  have li : i < t.length := (List.getElem?_eq_some_iff.mp hi).1
  have g : ∀ (k l : Nat) (r' : List Int) (e' : Int), (t.set i (r.set j e))[k]? = some r' → r'[l]? = some e' → (k = i ∧ l = j ∧ e' = e) ∨ ∃ r'', t[k]? = some r'' ∧ r''[l]? = some e' := fun k l r' e' h1 h2 => by
    by_cases ik : i = k
    · subst ik
      rw [List.getElem?_set_self li] at h1
      cases h1
      by_cases jl : j = l
      · subst jl
        have lj : j < r.length := Nat.lt_of_not_le fun z => by
          rw [List.getElem?_eq_none (by rw [List.length_set]; exact z)] at h2
          cases h2
        rw [List.getElem?_set_self lj] at h2
        cases h2
        exact .inl ⟨rfl, rfl, rfl⟩
      · rw [List.getElem?_set_ne jl] at h2
        exact .inr ⟨r, hi, h2⟩
    · rw [List.getElem?_set_ne ik] at h1
      exact .inr ⟨r', h1, h2⟩
  refine ⟨by rw [List.length_set]; exact h.len, fun r' hr => ?_, fun k l r' e' s h1 h2 h3 => ?_, fun k l r' e' h1 h2 n => ?_⟩
  · rcases List.mem_or_eq_of_mem_set hr with m | m
    · exact h.row r' m
    · rw [m, List.length_set]
      exact h.row r (List.mem_of_getElem? hi)
  · rcases g k l r' e' h1 h2 with ⟨rfl, rfl, rfl⟩ | ⟨r'', a, b⟩
    · exact low s h3
    · exact h.low k l r'' e' s a b h3
  · rcases g k l r' e' h1 h2 with ⟨rfl, rfl, rfl⟩ | ⟨r'', a, b⟩
    · exact st n
    · exact h.step k l r'' e' a b n
end NA
namespace NA
/-! ### the mathematics of deeds -/
theorem mod_eq {a b s : Int} : a % s = b % s ↔ s ∣ a - b := by
  rw [Int.emod_eq_emod_iff_emod_sub_eq_zero, Int.dvd_iff_emod_eq_zero]
theorem stp_hit {a b : Nat} {c : Int} (h : ((stp a b : Nat) : Int) ∣ c) : (b : Int) ∣ c * (a : Int) := by
  obtain ⟨k, rfl⟩ := h
  have e : b ∣ stp a b * a := by
    unfold stp
    obtain ⟨t, ht⟩ := Nat.gcd_dvd_right b a
    refine ⟨t, ?_⟩
    have d := Nat.div_mul_cancel (Nat.gcd_dvd_left b a)
    calc b / Nat.gcd b a * a = b / Nat.gcd b a * (Nat.gcd b a * t) := by rw [← ht]
      _ = b / Nat.gcd b a * Nat.gcd b a * t := by rw [Nat.mul_assoc]
      _ = b * t := by rw [d]
  have e2 : (b : Int) ∣ ((stp a b : Nat) : Int) * (a : Int) := by
    rw [← Int.natCast_mul]
    exact Int.natCast_dvd_natCast.mpr e
  rw [Int.mul_assoc, Int.mul_comm k, ← Int.mul_assoc]
  exact Int.dvd_trans e2 (Int.dvd_mul_right _ _)
/-- alike modulo the sizes -/
structure Cg (ss ns ms : List Int) : Prop where
  l1 : ns.length = ss.length
  l2 : ms.length = ss.length
  alike : ∀ (i : Nat) (s : Int), ss[i]? = some s → s ∣ ns.getD i 0 - ms.getD i 0
theorem Cg.refl {ss ns : List Int} (h : ns.length = ss.length) : Cg ss ns ns := ⟨h, h, fun i s _ => by rw [Int.sub_self]; exact Int.dvd_zero _⟩
theorem Cg.symm {ss ns ms : List Int} (h : Cg ss ns ms) : Cg ss ms ns := ⟨h.l2, h.l1, fun i s e => by
  have := h.alike i s e
  rw [← Int.neg_sub]
  exact Int.dvd_neg.mpr this⟩
theorem Cg.trans {ss ns ms ks : List Int} (h : Cg ss ns ms) (g : Cg ss ms ks) : Cg ss ns ks := ⟨h.l1, g.l2, fun i s e => by
  have a := h.alike i s e
  have b := g.alike i s e
  have := Int.dvd_add a b
  rwa [show ns.getD i 0 - ms.getD i 0 + (ms.getD i 0 - ks.getD i 0) = ns.getD i 0 - ks.getD i 0 by omega] at this⟩
theorem getD_set {ns : List Int} {i j : Nat} {x : Int} (h : i < ns.length) : (ns.set i x).getD j 0 = if i = j then x else ns.getD j 0 := by
  rw [List.getD_eq_getElem?_getD, List.getD_eq_getElem?_getD]
  by_cases e : i = j
  · subst e
    rw [List.getElem?_set_self h, if_pos rfl]
    rfl
  · rw [List.getElem?_set_ne e, if_neg e]
/-- a deed with its places among the sizes -/
structure DIn (ss : List Int) (d : Nat × Nat × Int) : Prop where
  lj : d.1 < ss.length
  li : d.2.1 < ss.length
  ne : d.1 ≠ d.2.1
  hit : ∀ a b : Int, ss[d.1]? = some a → ss[d.2.1]? = some b → b ∣ d.2.2 * a
theorem DOk.din {ss : List Int} {ws : List (Nat × Nat)} {d : Nat × Nat × Int} (h : DOk ss ws d) (ok : MOk ss ws) : DIn ss d := by
  obtain ⟨a, b, c⟩ := ok.wires.low _ h.wire
  obtain ⟨x, y, hx, hy, st⟩ := h.step
  refine ⟨a, b, c, fun p q hp hq => ?_⟩
  rw [hx] at hp
  rw [hy] at hq
  cases hp
  cases hq
  exact stp_hit st
theorem addI_getD {ns : List Int} {d : Nat × Nat × Int} (h : d.2.1 < ns.length) (j : Nat) : (addI ns d).getD j 0 = if d.2.1 = j then ns.getD d.2.1 0 + d.2.2 * ns.getD d.1 0 else ns.getD j 0 := getD_set h
theorem get_some {ss : List Int} {i : Nat} (h : i < ss.length) : ∃ s, ss[i]? = some s := ⟨ss[i], List.getElem?_eq_getElem h⟩
theorem Cg.add {ss ns ms : List Int} {d : Nat × Nat × Int} (h : Cg ss ns ms) (hd : DIn ss d) : Cg ss (addI ns d) (addI ms d) := by
  refine ⟨by rw [addI_len, h.l1], by rw [addI_len, h.l2], fun k s e => ?_⟩
  rw [addI_getD (by rw [h.l1]; exact hd.li), addI_getD (by rw [h.l2]; exact hd.li)]
  by_cases z : d.2.1 = k
  · subst z
    rw [if_pos rfl, if_pos rfl]
    obtain ⟨a, ha⟩ := get_some hd.lj
    obtain ⟨t, ht⟩ := h.alike d.1 a ha
    have e1 := h.alike _ s e
    have e2 : s ∣ d.2.2 * (ns.getD d.1 0 - ms.getD d.1 0) := by
      rw [ht, ← Int.mul_assoc]
      exact Int.dvd_trans (hd.hit a s ha e) (Int.dvd_mul_right _ _)
    have := Int.dvd_add e1 e2
    rwa [show ns.getD d.2.1 0 - ms.getD d.2.1 0 + d.2.2 * (ns.getD d.1 0 - ms.getD d.1 0) = ns.getD d.2.1 0 + d.2.2 * ns.getD d.1 0 - (ms.getD d.2.1 0 + d.2.2 * ms.getD d.1 0) by rw [Int.mul_sub]; omega] at this
  · rw [if_neg z, if_neg z]
    exact h.alike k s e
theorem Cg.far {ss : List Int} {l : List (Nat × Nat × Int)} (hl : ∀ d ∈ l, DIn ss d) : ∀ {ns ms : List Int}, Cg ss ns ms → Cg ss (farI l ns) (farI l ms) := by
  induction l with
  | nil => exact fun h => h
  | cons d l ih => exact fun h => ih (fun x hx => hl x (List.mem_cons_of_mem _ hx)) (h.add (hl d List.mem_cons_self))
theorem remI_getD {ns ss : List Int} {i : Nat} {s : Int} (h : ns.length = ss.length) (e : ss[i]? = some s) : (remI ns ss).getD i 0 = ns.getD i 0 % s := by
  have li := (List.getElem?_eq_some_iff.mp e).1
  have z : ns[i]? = some (ns.getD i 0) := by
    rw [List.getD_eq_getElem?_getD, List.getElem?_eq_getElem (by omega)]
    rfl
  rw [List.getD_eq_getElem?_getD]
  unfold remI
  rw [List.getElem?_zipWith, z, e]
  rfl
theorem remI_length {ns ss : List Int} (h : ns.length = ss.length) : (remI ns ss).length = ss.length := by
  unfold remI
  rw [List.length_zipWith]
  omega
theorem ext_getD {ns ms : List Int} (h : ns.length = ms.length) (e : ∀ i, i < ns.length → ns.getD i 0 = ms.getD i 0) : ns = ms := by
  refine List.ext_getElem h fun i h1 h2 => ?_
  have := e i h1
  rwa [List.getD_eq_getElem?_getD, List.getD_eq_getElem?_getD, List.getElem?_eq_getElem h1, List.getElem?_eq_getElem h2] at this
theorem Cg.rem {ss ns ms : List Int} (h : Cg ss ns ms) : remI ns ss = remI ms ss := by
  refine ext_getD (by rw [remI_length h.l1, remI_length h.l2]) fun i hi => ?_
  rw [remI_length h.l1] at hi
  obtain ⟨s, hs⟩ := get_some hi
  rw [remI_getD h.l1 hs, remI_getD h.l2 hs]
  exact mod_eq.mpr (h.alike i s hs)
theorem cg_rem {ss ns : List Int} (h : ns.length = ss.length) : Cg ss (remI ns ss) ns := ⟨remI_length h, h, fun i s e => by
  rw [remI_getD h e, Int.emod_def]
  exact ⟨-(ns.getD i 0 / s), by rw [Int.mul_neg]; omega⟩⟩
theorem rem_of {ss hs : List Int} (h : COk ss hs) : remI hs ss = hs := by
  refine ext_getD (by rw [remI_length h.len, h.len]) fun i hi => ?_
  rw [remI_length h.len] at hi
  obtain ⟨s, es⟩ := get_some hi
  rw [remI_getD h.len es]
  obtain ⟨x, ex⟩ := get_some (show i < hs.length by rw [h.len]; exact hi)
  obtain ⟨a, b⟩ := h.low i x s ex es
  rw [List.getD_eq_getElem?_getD, ex]
  exact Int.emod_eq_of_lt a b
theorem rem_cok {ss ns : List Int} (ok : ∀ s ∈ ss, SizeOk s) (h : ns.length = ss.length) : COk ss (remI ns ss) := by
  refine ⟨remI_length h, fun i x s ex es => ?_⟩
  have := remI_getD h es
  rw [List.getD_eq_getElem?_getD, ex] at this
  obtain ⟨m, rfl, m2, _⟩ := (ok s (List.mem_of_getElem? es)).nat
  have e : x = ns.getD i 0 % (m : Int) := this
  rw [e]
  exact ⟨Int.emod_nonneg _ (by omega), Int.emod_lt_of_pos _ (by omega)⟩
/-- deed by deed, each register modulo its size -/
def doneI (ss hs : List Int) (d : Nat × Nat × Int) : List Int := remI (addI hs d) ss
def runP (ss : List Int) (l : List (Nat × Nat × Int)) (hs : List Int) : List Int := l.foldl (doneI ss) hs
theorem runP_cg {ss : List Int} {l : List (Nat × Nat × Int)} (hl : ∀ d ∈ l, DIn ss d) : ∀ {hs ns : List Int}, Cg ss hs ns → Cg ss (runP ss l hs) (farI l ns) := by
  induction l with
  | nil => exact fun h => h
  | cons d l ih =>
    intro hs ns h
    have a := h.add (hl d List.mem_cons_self)
    exact ih (fun x hx => hl x (List.mem_cons_of_mem _ hx)) ((cg_rem a.l1).trans a)
theorem runP_cok {ss : List Int} (ok : ∀ s ∈ ss, SizeOk s) {l : List (Nat × Nat × Int)} : ∀ {hs : List Int}, COk ss hs → COk ss (runP ss l hs) := by
  induction l with
  | nil => exact fun h => h
  | cons d l ih => exact fun h => ih (rem_cok ok (by rw [addI_len, h.len]))
/-- what deeds do one by one is what they do in the whole -/
theorem runP_eq {ss : List Int} (ok : ∀ s ∈ ss, SizeOk s) {l : List (Nat × Nat × Int)} (hl : ∀ d ∈ l, DIn ss d) {hs ns : List Int} (h : COk ss hs) (g : Cg ss hs ns) : runP ss l hs = runI ss l ns := by
  have a := runP_cg hl g
  have b := rem_of (runP_cok (l := l) ok h)
  rw [← b]
  exact a.rem
/-- backward -/
def backI (l : List (Nat × Nat × Int)) : List (Nat × Nat × Int) := (l.map fun d => (d.1, d.2.1, -d.2.2)).reverse
theorem DIn.neg {ss : List Int} {d : Nat × Nat × Int} (h : DIn ss d) : DIn ss (d.1, d.2.1, -d.2.2) := ⟨h.lj, h.li, h.ne, fun a b ha hb => by
  rw [Int.neg_mul]
  exact Int.dvd_neg.mpr (h.hit a b ha hb)⟩
theorem add_back {ns : List Int} {d : Nat × Nat × Int} (hj : d.2.1 < ns.length) (ne : d.1 ≠ d.2.1) : addI (addI ns d) (d.1, d.2.1, -d.2.2) = ns := by
  refine ext_getD (by rw [addI_len, addI_len]) fun k hk => ?_
  rw [addI_getD (by rw [addI_len]; exact hj)]
  by_cases e : d.2.1 = k
  · rw [if_pos e, addI_getD hj, addI_getD hj, if_pos rfl, if_neg (Ne.symm ne), ← e, Int.neg_mul]
    dsimp only
    omega
  · rw [if_neg e, addI_getD hj, if_neg e]
theorem far_app (l m : List (Nat × Nat × Int)) (ns : List Int) : farI (l ++ m) ns = farI m (farI l ns) := List.foldl_append
theorem far_back {ss : List Int} {l : List (Nat × Nat × Int)} (hl : ∀ d ∈ l, DIn ss d) : ∀ {ns : List Int}, ns.length = ss.length → farI (backI l) (farI l ns) = ns := by
  induction l with
  | nil => exact fun _ => rfl
  | cons d l ih =>
    intro ns h
    have a := ih (fun x hx => hl x (List.mem_cons_of_mem _ hx)) (ns := addI ns d) (by rw [addI_len, h])
    have dd := hl d List.mem_cons_self
    have e : backI (d :: l) = backI l ++ [(d.1, d.2.1, -d.2.2)] := by
      unfold backI
      rw [List.map_cons, List.reverse_cons]
    rw [e, far_app]
    show addI (farI (backI l) (farI l (addI ns d))) _ = ns
    rw [a]
    exact add_back (by rw [h]; exact dd.li) dd.ne
theorem back_din {ss : List Int} {l : List (Nat × Nat × Int)} (hl : ∀ d ∈ l, DIn ss d) : ∀ d ∈ backI l, DIn ss d := fun d hd => by
  unfold backI at hd
  obtain ⟨x, hx, rfl⟩ := List.mem_map.mp (List.mem_reverse.mp hd)
  exact (hl x hx).neg
theorem runP_back {ss : List Int} (ok : ∀ s ∈ ss, SizeOk s) {l : List (Nat × Nat × Int)} (hl : ∀ d ∈ l, DIn ss d) {hs : List Int} (h : COk ss hs) : runP ss (backI l) (runP ss l hs) = hs := by
  have a := runP_cg hl (Cg.refl h.len)
  rw [runP_eq ok (back_din hl) (runP_cok ok h) a]
  unfold runI
  rw [far_back hl h.len, rem_of h]
/-- sums -/
def sumI (ns ms : List Int) : List Int := List.zipWith (fun a b => a + b) ns ms
theorem sumI_len {ns ms : List Int} {n : Nat} (h : ns.length = n) (g : ms.length = n) : (sumI ns ms).length = n := by
  unfold sumI
  rw [List.length_zipWith]
  omega
theorem sumI_getD {ns ms : List Int} (h : ns.length = ms.length) (i : Nat) : (sumI ns ms).getD i 0 = ns.getD i 0 + ms.getD i 0 := by
  rw [List.getD_eq_getElem?_getD, List.getD_eq_getElem?_getD, List.getD_eq_getElem?_getD]
  unfold sumI
  rw [List.getElem?_zipWith]
  by_cases e : i < ns.length
  · rw [List.getElem?_eq_getElem e, List.getElem?_eq_getElem (by omega)]
    rfl
  · rw [List.getElem?_eq_none (by omega), List.getElem?_eq_none (by omega)]
    rfl
theorem add_sum {ns ms : List Int} {d : Nat × Nat × Int} (h : ns.length = ms.length) (hi : d.2.1 < ns.length) : addI (sumI ns ms) d = sumI (addI ns d) (addI ms d) := by
  have l1 : (sumI ns ms).length = ns.length := sumI_len rfl h.symm
  refine ext_getD (by rw [addI_len, l1, sumI_len (addI_len ns d) (by rw [addI_len, h])]) fun k hk => ?_
  rw [addI_getD (by omega), sumI_getD (ns := addI ns d) (ms := addI ms d) (by rw [addI_len, addI_len, h]), addI_getD hi, addI_getD (ns := ms) (by omega), sumI_getD h, sumI_getD h, sumI_getD h, Int.mul_add]
  split <;> omega
theorem far_sum {l : List (Nat × Nat × Int)} : ∀ {ns ms : List Int}, ns.length = ms.length → (∀ d ∈ l, d.2.1 < ns.length) → farI l (sumI ns ms) = sumI (farI l ns) (farI l ms) := by
  induction l with
  | nil => exact fun _ _ => rfl
  | cons d l ih =>
    intro ns ms h hl
    show farI l (addI (sumI ns ms) d) = sumI (farI l (addI ns d)) (farI l (addI ms d))
    rw [add_sum h (hl d List.mem_cons_self)]
    exact ih (by rw [addI_len, addI_len, h]) fun x hx => by rw [addI_len]; exact hl x (List.mem_cons_of_mem _ hx)
end NA
namespace NA
/-! ### sums -/
def sumF : Nat → (Nat → Int) → Int
  | 0, _ => 0
  | n + 1, F => F 0 + sumF n fun k => F (k + 1)
theorem sumF_congr : ∀ {n : Nat} {F G : Nat → Int}, (∀ k, k < n → F k = G k) → sumF n F = sumF n G
  | 0, _, _, _ => rfl
  | n + 1, F, G, h => by
    show F 0 + _ = G 0 + _
    rw [h 0 (by omega), sumF_congr fun k hk => h (k + 1) (by omega)]
theorem sumF_add : ∀ (n : Nat) (F G : Nat → Int), sumF n (fun k => F k + G k) = sumF n F + sumF n G
  | 0, _, _ => rfl
  | n + 1, F, G => by
    show F 0 + G 0 + sumF n (fun k => F (k + 1) + G (k + 1)) = F 0 + sumF n _ + (G 0 + sumF n _)
    rw [sumF_add n]
    omega
theorem sumF_mul (c : Int) : ∀ (n : Nat) (F : Nat → Int), sumF n (fun k => c * F k) = c * sumF n F
  | 0, _ => by show (0 : Int) = c * 0; rw [Int.mul_zero]
  | n + 1, F => by
    show c * F 0 + sumF n (fun k => c * F (k + 1)) = c * (F 0 + sumF n _)
    rw [sumF_mul c n, Int.mul_add]
theorem sumF_zero : ∀ (n : Nat), sumF n (fun _ => 0) = 0
  | 0 => rfl
  | n + 1 => by
    show (0 : Int) + sumF n (fun _ => 0) = 0
    rw [sumF_zero n]
    rfl
theorem sumF_swap : ∀ (n m : Nat) (F : Nat → Nat → Int), sumF n (fun j => sumF m fun k => F j k) = sumF m (fun k => sumF n fun j => F j k)
  | 0, m, F => (sumF_zero m).symm
  | n + 1, m, F => by
    show sumF m (fun k => F 0 k) + sumF n (fun j => sumF m fun k => F (j + 1) k) = sumF m (fun k => F 0 k + sumF n fun j => F (j + 1) k)
    rw [sumF_add, sumF_swap n]
theorem sumF_dvd {s : Int} : ∀ {n : Nat} {F : Nat → Int}, (∀ k, k < n → s ∣ F k) → s ∣ sumF n F
  | 0, _, _ => Int.dvd_zero _
  | n + 1, F, h => Int.dvd_add (h 0 (by omega)) (sumF_dvd fun k hk => h (k + 1) (by omega))
theorem sumF_alike {s : Int} {n : Nat} {F G : Nat → Int} (h : ∀ k, k < n → s ∣ F k - G k) : s ∣ sumF n F - sumF n G := by
  have := sumF_dvd h
  rw [show sumF n (fun k => F k - G k) = sumF n F - sumF n G from ?_] at this
  · exact this
  · have e := sumF_add n (fun k => F k - G k) G
    rw [show (fun k => F k - G k + G k) = F from funext fun k => by omega] at e
    omega
theorem sumF_one (n i : Nat) (F : Nat → Int) (h : i < n) : sumF n (fun k => (if i = k then 1 else 0) * F k) = F i := by
  induction n generalizing i F with
  | zero => omega
  | succ n ih =>
    show (if i = 0 then 1 else 0) * F 0 + sumF n (fun k => (if i = k + 1 then 1 else 0) * F (k + 1)) = F i
    cases i with
    | zero =>
      rw [if_pos rfl, sumF_congr (G := fun _ => 0) fun k _ => by rw [if_neg (by omega), Int.zero_mul], sumF_zero]
      omega
    | succ i =>
      rw [if_neg (by omega), sumF_congr (G := fun k => (if i = k then 1 else 0) * F (k + 1)) fun k _ => by
        by_cases e : i = k
        · rw [if_pos e, if_pos (by omega)]
        · rw [if_neg e, if_neg (by omega)], ih i (fun k => F (k + 1)) (by omega)]
      omega
theorem dot_sum : ∀ {row hs : List Int} {n : Nat}, row.length = n → hs.length = n → dot row hs = sumF n fun k => row.getD k 0 * hs.getD k 0
  | [], [], _, e, _ => by subst e; rfl
  | r :: row, h :: hs, n + 1, e1, e2 => by
    have a := dot_sum (row := row) (hs := hs) (n := n) (by simpa using e1) (by simpa using e2)
    unfold dot at a ⊢
    rw [List.zipWith_cons_cons, List.sum_cons, a]
    rfl
  | [], _ :: _, _, e1, e2 => by rw [← e1] at e2; cases e2
  | _ :: _, [], _, e1, e2 => by rw [← e1] at e2; cases e2
  | _ :: _, _ :: _, 0, e1, _ => by cases e1
/-! ### tables by their entries -/
def en (t : List (List Int)) (i j : Nat) : Int := (t.getD i []).getD j 0
theorem en_of {t : List (List Int)} {i : Nat} {r : List Int} (h : t[i]? = some r) (j : Nat) : en t i j = r.getD j 0 := by
  unfold en
  have e : t.getD i [] = r := by
    rw [List.getD_eq_getElem?_getD, h]
    rfl
  rw [e]
/-- of the right form -/
structure Sq (n : Nat) (t : List (List Int)) : Prop where
  len : t.length = n
  row : ∀ r ∈ t, r.length = n
theorem TOk.sq {ss : List Int} {t : List (List Int)} (h : TOk ss t) : Sq ss.length t := ⟨h.len, h.row⟩
theorem Sq.get {n : Nat} {t : List (List Int)} (h : Sq n t) {i : Nat} (hi : i < n) : ∃ r, t[i]? = some r ∧ r.length = n := by
  have hi' : i < t.length := by rw [h.len]; exact hi
  exact ⟨t[i], List.getElem?_eq_getElem hi', h.row _ (List.getElem_mem hi')⟩
theorem sq_ext {n : Nat} {t u : List (List Int)} (a : Sq n t) (b : Sq n u) (e : ∀ i j, i < n → j < n → en t i j = en u i j) : t = u := by
  refine List.ext_getElem (by rw [a.len, b.len]) fun i h1 h2 => ?_
  have hi : i < n := by rw [← a.len]; exact h1
  refine ext_getD (by rw [a.row _ (List.getElem_mem h1), b.row _ (List.getElem_mem h2)]) fun j hj => ?_
  have := e i j hi (by rw [← a.row _ (List.getElem_mem h1)]; exact hj)
  rwa [en_of (List.getElem?_eq_getElem h1), en_of (List.getElem?_eq_getElem h2)] at this
theorem led_getD {ss : List Int} {t : List (List Int)} {hs : List Int} (q : Sq ss.length t) (lh : hs.length = ss.length) {i : Nat} {s : Int} (e : ss[i]? = some s) : (ledI ss t hs).getD i 0 = (sumF ss.length fun j => en t i j * hs.getD j 0) % s := by
  have hi := (List.getElem?_eq_some_iff.mp e).1
  obtain ⟨r, hr, rl⟩ := q.get hi
  rw [List.getD_eq_getElem?_getD]
  unfold ledI
  rw [List.getElem?_zipWith, hr, e]
  show dot r hs % s = _
  rw [dot_sum rl lh]
  congr 1
  exact sumF_congr fun j _ => by rw [en_of hr]
theorem led_len {ss : List Int} {t : List (List Int)} {hs : List Int} (q : Sq ss.length t) : (ledI ss t hs).length = ss.length := by
  unfold ledI
  rw [List.length_zipWith, q.len, Nat.min_self]
theorem both_get {ss : List Int} {one other : List (List Int)} {i : Nat} {r : List Int} {s : Int} (hr : other[i]? = some r) (e : ss[i]? = some s) : (bothI ss one other)[i]? = some ((List.range ss.length).map fun j => dot r (colI one j) % s) := by
  unfold bothI
  rw [List.getElem?_zipWith, hr, e]
theorem both_sq {ss : List Int} {one other : List (List Int)} (q : Sq ss.length other) : Sq ss.length (bothI ss one other) := by
  have l : (bothI ss one other).length = ss.length := by
    unfold bothI
    rw [List.length_zipWith, q.len, Nat.min_self]
  refine ⟨l, fun r hr => ?_⟩
  obtain ⟨i, hi, rfl⟩ := List.getElem_of_mem hr
  obtain ⟨s, es⟩ := get_some (show i < ss.length by omega)
  obtain ⟨r0, hr0, _⟩ := q.get (show i < ss.length by omega)
  have := both_get (one := one) hr0 es
  rw [List.getElem?_eq_getElem hi] at this
  rw [Option.some.inj this, List.length_map, List.length_range]
theorem both_en {ss : List Int} {one other : List (List Int)} (q1 : Sq ss.length one) (q2 : Sq ss.length other) {i j : Nat} {s : Int} (e : ss[i]? = some s) (hj : j < ss.length) : en (bothI ss one other) i j = (sumF ss.length fun k => en other i k * en one k j) % s := by
  have hi := (List.getElem?_eq_some_iff.mp e).1
  obtain ⟨r, hr, rl⟩ := q2.get hi
  rw [en_of (both_get hr e), List.getD_eq_getElem?_getD, List.getElem?_map, List.getElem?_eq_getElem (by rw [List.length_range]; exact hj), List.getElem_range]
  show dot r (colI one j) % s = _
  rw [dot_sum (n := ss.length) rl (by unfold colI; rw [List.length_map, q1.len])]
  congr 1
  refine sumF_congr fun k hk => ?_
  obtain ⟨r1, hr1, _⟩ := q1.get hk
  rw [en_of hr, en_of hr1]
  congr 1
  rw [List.getD_eq_getElem?_getD]
  unfold colI
  rw [List.getElem?_map, hr1]
  rfl
/-- entries that give what they must -/
def Hit (ss : List Int) (t : List (List Int)) : Prop := ∀ (i j : Nat) (s r : Int), ss[i]? = some s → ss[j]? = some r → s ∣ en t i j * r
theorem TOk.hit {ss : List Int} {t : List (List Int)} (h : TOk ss t) : Hit ss t := by
  intro i j s r hs hr
  by_cases e : i = j
  · subst e
    rw [hs] at hr
    cases hr
    exact Int.dvd_mul_left _ _
  · obtain ⟨row, hrow, rl⟩ := h.sq.get (List.getElem?_eq_some_iff.mp hs).1
    have hj := (List.getElem?_eq_some_iff.mp hr).1
    have ej : row[j]? = some (row.getD j 0) := by
      rw [List.getD_eq_getElem?_getD, List.getElem?_eq_getElem (by omega)]
      rfl
    obtain ⟨a, b, ha, hb, st⟩ := h.step i j row _ hrow ej e
    rw [hr] at ha
    rw [hs] at hb
    cases ha
    cases hb
    rw [en_of hrow]
    exact stp_hit st
/-- the sums over rests are alike the sums over what left them -/
theorem hit_sum {ss : List Int} {t : List (List Int)} (h : Hit ss t) {i : Nat} {s : Int} (e : ss[i]? = some s) {F G : Nat → Int} (fg : ∀ (k : Nat) (r : Int), ss[k]? = some r → r ∣ F k - G k) : s ∣ (sumF ss.length fun k => en t i k * F k) - sumF ss.length fun k => en t i k * G k := by
  refine sumF_alike fun k hk => ?_
  obtain ⟨r, hr⟩ := get_some hk
  obtain ⟨x, hx⟩ := fg k r hr
  rw [← Int.mul_sub, hx, ← Int.mul_assoc]
  exact Int.dvd_trans (h i k s r e hr) (Int.dvd_mul_right _ _)
theorem mod_sub (a s : Int) : s ∣ a % s - a := by
  rw [Int.emod_def]
  exact ⟨-(a / s), by rw [Int.mul_neg]; omega⟩
theorem dvd_sub_comm {a b s : Int} (h : s ∣ a - b) : s ∣ b - a := by
  rw [← Int.neg_sub]
  exact Int.dvd_neg.mpr h
theorem mod_congr {a b s : Int} (h : s ∣ a - b) : a % s = b % s := mod_eq.mpr h
/-- one table behind another leads as the one and then the other -/
theorem led_both {ss : List Int} {one other : List (List Int)} {hs : List Int} (q1 : Sq ss.length one) (q2 : Sq ss.length other) (h2 : Hit ss other) (lh : hs.length = ss.length) : ledI ss (bothI ss one other) hs = ledI ss other (ledI ss one hs) := by
  refine ext_getD (by rw [led_len (both_sq q2), led_len q2]) fun i hi => ?_
  rw [led_len (both_sq q2)] at hi
  obtain ⟨s, es⟩ := get_some hi
  rw [led_getD (both_sq q2) lh es, led_getD q2 (led_len q1) es]
  refine mod_congr ?_
  -- both are alike the double sum
  have a : s ∣ (sumF ss.length fun j => en (bothI ss one other) i j * hs.getD j 0) - sumF ss.length fun j => (sumF ss.length fun k => en other i k * en one k j) * hs.getD j 0 := by
    refine sumF_alike fun j hj => ?_
    rw [both_en q1 q2 es hj, ← Int.sub_mul]
    exact Int.dvd_trans (mod_sub _ _) (Int.dvd_mul_right _ _)
  have b : s ∣ (sumF ss.length fun k => en other i k * (ledI ss one hs).getD k 0) - sumF ss.length fun k => en other i k * sumF ss.length fun j => en one k j * hs.getD j 0 :=
    hit_sum h2 es fun k r hr => by
      rw [led_getD q1 lh hr]
      exact mod_sub _ _
  have c : (sumF ss.length fun j => (sumF ss.length fun k => en other i k * en one k j) * hs.getD j 0) = sumF ss.length fun k => en other i k * sumF ss.length fun j => en one k j * hs.getD j 0 := by
    rw [sumF_congr (G := fun j => sumF ss.length fun k => en other i k * (en one k j * hs.getD j 0)) fun j _ => by
      rw [Int.mul_comm, ← sumF_mul]
      exact sumF_congr fun k _ => by rw [Int.mul_comm, Int.mul_assoc], sumF_swap]
    exact sumF_congr fun k _ => sumF_mul _ _ _
  rw [c] at a
  have := Int.dvd_add a (dvd_sub_comm b)
  rwa [show ∀ x y z : Int, x - y + (y - z) = x - z from fun x y z => by omega] at this
theorem both_hit {ss : List Int} {one other : List (List Int)} (q1 : Sq ss.length one) (q2 : Sq ss.length other) (h1 : Hit ss one) (h2 : Hit ss other) : Hit ss (bothI ss one other) := by
  intro i j s r hs hr
  have hj := (List.getElem?_eq_some_iff.mp hr).1
  rw [both_en q1 q2 hs hj]
  have a : s ∣ (sumF ss.length fun k => en other i k * en one k j) * r := by
    rw [Int.mul_comm, ← sumF_mul]
    refine sumF_dvd fun k hk => ?_
    obtain ⟨x, hx⟩ := get_some hk
    obtain ⟨y, hy⟩ := h1 k j x r hx hr
    have e : r * (en other i k * en one k j) = en other i k * x * y := by
      rw [Int.mul_comm, Int.mul_assoc, hy, Int.mul_assoc]
    rw [e]
    exact Int.dvd_trans (h2 i k s x hs hx) (Int.dvd_mul_right _ _)
  have b : s ∣ ((sumF ss.length fun k => en other i k * en one k j) % s - sumF ss.length fun k => en other i k * en one k j) * r := Int.dvd_trans (mod_sub _ _) (Int.dvd_mul_right _ _)
  rw [Int.sub_mul] at b
  have := Int.dvd_add b a
  rwa [show ∀ x y : Int, x - y + y = x from fun x y => by omega] at this
theorem both_assoc {ss : List Int} {one other third : List (List Int)} (q1 : Sq ss.length one) (q2 : Sq ss.length other) (q3 : Sq ss.length third) (h3 : Hit ss third) : bothI ss (bothI ss one other) third = bothI ss one (bothI ss other third) := by
  refine sq_ext (both_sq q3) (both_sq (both_sq q3)) fun i j hi hj => ?_
  obtain ⟨s, es⟩ := get_some hi
  rw [both_en (both_sq q2) q3 es hj, both_en q1 (both_sq q3) es hj]
  refine mod_congr ?_
  have a : s ∣ (sumF ss.length fun k => en third i k * en (bothI ss one other) k j) - sumF ss.length fun k => en third i k * sumF ss.length fun l => en other k l * en one l j :=
    hit_sum h3 es fun k r hr => by
      rw [both_en q1 q2 hr hj]
      exact mod_sub _ _
  have b : s ∣ (sumF ss.length fun l => en (bothI ss other third) i l * en one l j) - sumF ss.length fun l => (sumF ss.length fun k => en third i k * en other k l) * en one l j := by
    refine sumF_alike fun l hl => ?_
    rw [both_en q2 q3 es hl, ← Int.sub_mul]
    exact Int.dvd_trans (mod_sub _ _) (Int.dvd_mul_right _ _)
  have c : (sumF ss.length fun l => (sumF ss.length fun k => en third i k * en other k l) * en one l j) = sumF ss.length fun k => en third i k * sumF ss.length fun l => en other k l * en one l j := by
    rw [sumF_congr (G := fun l => sumF ss.length fun k => en third i k * (en other k l * en one l j)) fun l _ => by
      rw [Int.mul_comm, ← sumF_mul]
      exact sumF_congr fun k _ => by rw [Int.mul_comm, Int.mul_assoc], sumF_swap]
    exact sumF_congr fun k _ => sumF_mul _ _ _
  rw [c] at b
  have := Int.dvd_add a (dvd_sub_comm b)
  rwa [show ∀ x y z : Int, x - y + (y - z) = x - z from fun x y z => by omega] at this
theorem still_sq (n : Nat) : Sq n (stillI n) := ⟨by unfold stillI; rw [List.length_map, List.length_range], fun r hr => by
  unfold stillI at hr
  obtain ⟨i, _, rfl⟩ := List.mem_map.mp hr
  rw [List.length_map, List.length_range]⟩
theorem still_en {n i j : Nat} (hi : i < n) (hj : j < n) : en (stillI n) i j = if i = j then 1 else 0 := by
  have e : (stillI n)[i]? = some ((List.range n).map fun j => if i = j then 1 else 0) := by
    unfold stillI
    rw [List.getElem?_map, List.getElem?_eq_getElem (by rw [List.length_range]; exact hi), List.getElem_range]
    rfl
  rw [en_of e, List.getD_eq_getElem?_getD, List.getElem?_map, List.getElem?_eq_getElem (by rw [List.length_range]; exact hj), List.getElem_range]
  rfl
theorem led_still {ss hs : List Int} (h : COk ss hs) : ledI ss (stillI ss.length) hs = hs := by
  refine ext_getD (by rw [led_len (still_sq _), h.len]) fun i hi => ?_
  rw [led_len (still_sq _)] at hi
  obtain ⟨s, es⟩ := get_some hi
  rw [led_getD (still_sq _) h.len es, sumF_congr (G := fun j => (if i = j then 1 else 0) * hs.getD j 0) fun j hj => by rw [still_en hi hj], sumF_one _ _ _ hi]
  obtain ⟨x, ex⟩ := get_some (show i < hs.length by rw [h.len]; exact hi)
  obtain ⟨a, b⟩ := h.low i x s ex es
  rw [List.getD_eq_getElem?_getD, ex]
  exact Int.emod_eq_of_lt a b
/-- entries from 0 below the size of their row -/
def Low (ss : List Int) (t : List (List Int)) : Prop := ∀ (i j : Nat) (s : Int), ss[i]? = some s → j < ss.length → 0 ≤ en t i j ∧ en t i j < s
theorem TOk.lowE {ss : List Int} {t : List (List Int)} (h : TOk ss t) : Low ss t := by
  intro i j s hs hj
  obtain ⟨row, hrow, rl⟩ := h.sq.get (List.getElem?_eq_some_iff.mp hs).1
  have ej : row[j]? = some (row.getD j 0) := by
    rw [List.getD_eq_getElem?_getD, List.getElem?_eq_getElem (by omega)]
    rfl
  rw [en_of hrow]
  exact h.low i j row _ s hrow ej hs
theorem both_low {ss : List Int} {one other : List (List Int)} (ok : ∀ s ∈ ss, SizeOk s) (q1 : Sq ss.length one) (q2 : Sq ss.length other) : Low ss (bothI ss one other) := by
  intro i j s hs hj
  rw [both_en q1 q2 hs hj]
  obtain ⟨m, rfl, m2, _⟩ := (ok s (List.mem_of_getElem? hs)).nat
  exact ⟨Int.emod_nonneg _ (by omega), Int.emod_lt_of_pos _ (by omega)⟩
theorem both_still {ss : List Int} {t : List (List Int)} (q : Sq ss.length t) (l : Low ss t) : bothI ss t (stillI ss.length) = t := by
  refine sq_ext (both_sq (still_sq _)) q fun i j hi hj => ?_
  obtain ⟨s, es⟩ := get_some hi
  rw [both_en q (still_sq _) es hj, sumF_congr (G := fun k => (if i = k then 1 else 0) * en t k j) fun k hk => by rw [still_en hi hk], sumF_one _ _ _ hi]
  obtain ⟨a, b⟩ := l i j s es hj
  exact Int.emod_eq_of_lt a b
theorem still_both {ss : List Int} {t : List (List Int)} (q : Sq ss.length t) (l : Low ss t) : bothI ss (stillI ss.length) t = t := by
  refine sq_ext (both_sq q) q fun i j hi hj => ?_
  obtain ⟨s, es⟩ := get_some hi
  rw [both_en (still_sq _) q es hj, sumF_congr (G := fun k => (if j = k then 1 else 0) * en t i k) fun k hk => by
    rw [still_en hk hj, Int.mul_comm]
    by_cases e : k = j
    · rw [if_pos e, if_pos e.symm]
    · rw [if_neg e, if_neg (Ne.symm e)], sumF_one _ _ _ hj]
  obtain ⟨a, b⟩ := l i j s es hj
  exact Int.emod_eq_of_lt a b
/-- the table of a deed -/
def deedI (ss : List Int) (d : Nat × Nat × Int) : List (List Int) := (stillI ss.length).set d.2.1 (((stillI ss.length).getD d.2.1 []).set d.1 (d.2.2 % ss.getD d.2.1 1))
theorem still_row {n i : Nat} (hi : i < n) : (stillI n).getD i [] = (List.range n).map fun j => if i = j then 1 else 0 := by
  rw [List.getD_eq_getElem?_getD]
  unfold stillI
  rw [List.getElem?_map, List.getElem?_eq_getElem (by rw [List.length_range]; exact hi), List.getElem_range]
  rfl
theorem deed_sq {ss : List Int} {d : Nat × Nat × Int} (h : DIn ss d) : Sq ss.length (deedI ss d) := by
  have q := still_sq ss.length
  refine ⟨by unfold deedI; rw [List.length_set, q.len], fun r hr => ?_⟩
  unfold deedI at hr
  rcases List.mem_or_eq_of_mem_set hr with m | m
  · exact q.row r m
  · rw [m, List.length_set, still_row h.li, List.length_map, List.length_range]
theorem deed_en {ss : List Int} {d : Nat × Nat × Int} (h : DIn ss d) {i j : Nat} {s : Int} (es : ss[i]? = some s) (hj : j < ss.length) : en (deedI ss d) i j = if i = d.2.1 ∧ j = d.1 then d.2.2 % s else if i = j then 1 else 0 := by
  have hi := (List.getElem?_eq_some_iff.mp es).1
  by_cases e : d.2.1 = i
  · subst e
    have a : (deedI ss d)[d.2.1]? = some (((stillI ss.length).getD d.2.1 []).set d.1 (d.2.2 % ss.getD d.2.1 1)) := by
      unfold deedI
      rw [List.getElem?_set_self (by rw [(still_sq _).len]; exact hi)]
    rw [en_of a, getD_set (by rw [still_row hi, List.length_map, List.length_range]; exact h.lj)]
    have b : ss.getD d.2.1 1 = s := by
      rw [List.getD_eq_getElem?_getD, es]
      rfl
    rw [b]
    by_cases z : d.1 = j
    · rw [if_pos z, if_pos ⟨rfl, z.symm⟩]
    · rw [if_neg z, if_neg (fun q => z q.2.symm)]
      exact still_en hi hj
  · rw [if_neg (fun q => e q.1.symm)]
    have a : (deedI ss d)[i]? = (stillI ss.length)[i]? := by
      unfold deedI
      rw [List.getElem?_set_ne e]
    obtain ⟨r, hr, _⟩ := (still_sq ss.length).get hi
    rw [hr] at a
    rw [en_of a, ← en_of hr]
    exact still_en hi hj
/-- it leads as the deed does -/
theorem led_deed {ss hs : List Int} {d : Nat × Nat × Int} (h : DIn ss d) (c : COk ss hs) : ledI ss (deedI ss d) hs = doneI ss hs d := by
  unfold doneI
  refine ext_getD (by rw [led_len (deed_sq h), remI_length (by rw [addI_len, c.len])]) fun i hi => ?_
  rw [led_len (deed_sq h)] at hi
  obtain ⟨s, es⟩ := get_some hi
  rw [led_getD (deed_sq h) c.len es, remI_getD (by rw [addI_len, c.len]) es, addI_getD (by rw [c.len]; exact h.li)]
  refine mod_congr ?_
  by_cases e : d.2.1 = i
  · subst e
    rw [if_pos rfl]
    have f : ∀ j, j < ss.length → en (deedI ss d) d.2.1 j * hs.getD j 0 = (if d.2.1 = j then 1 else 0) * hs.getD j 0 + (if d.1 = j then 1 else 0) * (d.2.2 % s * hs.getD j 0) := fun j hj => by
      rw [deed_en h es hj]
      by_cases z : j = d.1
      · subst z
        rw [if_pos ⟨rfl, rfl⟩, if_neg (Ne.symm h.ne), if_pos rfl]
        omega
      · rw [if_neg (fun q => z q.2), if_neg (c := d.1 = j) (Ne.symm z)]
        omega
    rw [sumF_congr f, sumF_add, sumF_one _ _ (fun j => hs.getD j 0) h.li, sumF_one _ _ (fun j => d.2.2 % s * hs.getD j 0) h.lj]
    rw [show ∀ x y z : Int, x + y - (x + z) = y - z from fun x y z => by omega, ← Int.sub_mul]
    exact Int.dvd_trans (mod_sub _ _) (Int.dvd_mul_right _ _)
  · rw [if_neg e, sumF_congr (G := fun j => (if i = j then 1 else 0) * hs.getD j 0) fun j hj => by rw [deed_en h es hj, if_neg (fun q => e q.1.symm)], sumF_one _ _ _ hi, Int.sub_self]
    exact Int.dvd_zero _
theorem deed_hit {ss : List Int} {d : Nat × Nat × Int} (h : DIn ss d) : Hit ss (deedI ss d) := by
  intro i j s r hs hr
  rw [deed_en h hs (List.getElem?_eq_some_iff.mp hr).1]
  by_cases e : i = d.2.1 ∧ j = d.1
  · rw [if_pos e]
    obtain ⟨rfl, rfl⟩ := e
    have a := h.hit r s hr hs
    have b : s ∣ (d.2.2 % s - d.2.2) * r := Int.dvd_trans (mod_sub _ _) (Int.dvd_mul_right _ _)
    rw [Int.sub_mul] at b
    have := Int.dvd_add b a
    rwa [show ∀ x y : Int, x - y + y = x from fun x y => by omega] at this
  · rw [if_neg e]
    by_cases z : i = j
    · subst z
      rw [hs] at hr
      cases hr
      exact Int.dvd_mul_left _ _
    · rw [if_neg z, Int.zero_mul]
      exact Int.dvd_zero _
theorem still_hit (ss : List Int) : Hit ss (stillI ss.length) := by
  intro i j s r hs hr
  rw [still_en (List.getElem?_eq_some_iff.mp hs).1 (List.getElem?_eq_some_iff.mp hr).1]
  by_cases z : i = j
  · subst z
    rw [hs] at hr
    cases hr
    exact Int.dvd_mul_left _ _
  · rw [if_neg z, Int.zero_mul]
    exact Int.dvd_zero _
/-- the table of a program, deed by deed -/
def tabI (ss : List Int) (l : List (Nat × Nat × Int)) : List (List Int) := l.foldl (fun t d => bothI ss t (deedI ss d)) (stillI ss.length)
theorem tab_from {ss : List Int} {l : List (Nat × Nat × Int)} (hl : ∀ d ∈ l, DIn ss d) : ∀ {t : List (List Int)}, Sq ss.length t → Hit ss t → Sq ss.length (l.foldl (fun t d => bothI ss t (deedI ss d)) t) ∧ Hit ss (l.foldl (fun t d => bothI ss t (deedI ss d)) t) ∧ ∀ hs, COk ss hs → (∀ s ∈ ss, SizeOk s) → ledI ss (l.foldl (fun t d => bothI ss t (deedI ss d)) t) hs = runP ss l (ledI ss t hs) := by
  induction l with
  | nil => exact fun q h => ⟨q, h, fun _ _ _ => rfl⟩
  | cons d l ih =>
    intro t q h
    have dd := hl d List.mem_cons_self
    obtain ⟨a, b, c⟩ := ih (fun x hx => hl x (List.mem_cons_of_mem _ hx)) (t := bothI ss t (deedI ss d)) (both_sq (deed_sq dd)) (both_hit q (deed_sq dd) h (deed_hit dd))
    refine ⟨a, b, fun hs ch ok => ?_⟩
    have lc : COk ss (ledI ss t hs) := by
      refine ⟨led_len q, fun i x s ex es => ?_⟩
      have := led_getD q ch.len es
      rw [List.getD_eq_getElem?_getD, ex] at this
      obtain ⟨m, rfl, m2, _⟩ := (ok s (List.mem_of_getElem? es)).nat
      have e : x = (sumF ss.length fun j => en t i j * hs.getD j 0) % (m : Int) := this
      rw [e]
      exact ⟨Int.emod_nonneg _ (by omega), Int.emod_lt_of_pos _ (by omega)⟩
    show ledI ss (l.foldl (fun t d => bothI ss t (deedI ss d)) (bothI ss t (deedI ss d))) hs = runP ss l (doneI ss (ledI ss t hs) d)
    rw [c hs ch ok, led_both q (deed_sq dd) (deed_hit dd) ch.len, led_deed dd lc]
/-- the table of a program leads as the program does -/
theorem led_tab {ss : List Int} {l : List (Nat × Nat × Int)} (ok : ∀ s ∈ ss, SizeOk s) (hl : ∀ d ∈ l, DIn ss d) {hs : List Int} (h : COk ss hs) : ledI ss (tabI ss l) hs = runP ss l hs := by
  obtain ⟨_, _, c⟩ := tab_from hl (still_sq ss.length) (still_hit ss)
  unfold tabI
  rw [c hs h ok, led_still h]
end NA
namespace PySem
open Sem (wp)
open PyProof.Rows
open AutoSeq1 (wpAny_loadPart')
/-! ### t[::-1], t a tuple -/
section
variable {prog : Program} {w : World} {A : Around} {E : Value → Shared → Prop} {s : Shared}
theorem fields_ {sl : Addr} {o : Obj} {a b c : Value} {Q : Value × Value × Value → Shared → Prop} (ho : s.heap.get? sl = some o) (hd : o.data = .fields #[a, b, c]) (q : Q (a, b, c) s) : wpAny (model prog w) A (Builtin.Slice.sliceFields (.ref sl)) Q E s := by
  unfold Builtin.Slice.sliceFields
  obtain ⟨hp, gg, dr, tk, os⟩ := s
  obtain ⟨oc, od, odt, osl⟩ := o
  cases (show odt = _ from hd)
  wp_walk using wpAny_loadPart' ho
  exact q
theorem applied_rev {sl : Addr} {u : Tok} {n : Nat} {Q : Int × Int × Nat → Shared → Prop} (h : s.heap.IsSliceOf sl .none .none (.int (-1) u)) (q : Q ((n : Int) - 1, -1, n) s) :
    wpAny (model prog w) A (Builtin.Slice.sliceApplied (.ref sl) (pure (n : Int))) Q E s := by
  obtain ⟨o, ho, hc, hd⟩ := h
  unfold Builtin.Slice.sliceApplied
  refine wpAny_bind (fields_ ho hd ?_)
  dsimp only
  refine wpAny_bind (slicePart_int ?_)
  dsimp only [Option.getD]
  rw [if_neg (by decide)]
  refine wpAny_bind (slicePart_none (wpAny_bind (slicePart_none ?_)))
  refine wpAny_bind (wpAny_pure ?_)
  have e : Builtin.Slice.slicePlaces ((n : Int) - 1) (-1) (-1) = n := by
    unfold Builtin.Slice.slicePlaces
    rw [if_neg (by decide)]
    by_cases h : (n : Int) - 1 > -1
    · rw [if_pos h, show - (-1 : Int) = 1 from rfl, Int.ediv_one]
      omega
    · rw [if_neg h]
      omega
  have e2 : Builtin.Slice.sliceAdjust none none (-1) (n : Int) = ((n : Int) - 1, -1) := by
    unfold Builtin.Slice.sliceAdjust
    rfl
  rw [e2]
  dsimp only
  rw [e]
  exact wpAny_pure q
theorem fm_map {α β : Type} {f : α → Option β} {g : α → β} : ∀ (l : List α), (∀ k ∈ l, f k = some (g k)) → List.filterMap f l = l.map g
  | [], _ => rfl
  | x :: l, h => by
    rw [List.filterMap_cons, h x List.mem_cons_self, List.map_cons, fm_map l fun k hk => h k (List.mem_cons_of_mem _ hk)]
theorem rev_pick (items : Array Value) : (List.filterMap (fun k : Nat => items[((items.size : Int) - 1 + (k : Int) * -1).toNat]?) (List.range items.size)) = items.toList.reverse := by
  rw [fm_map (g := fun k => (items[items.size - 1 - k]?).getD .none)]
  · refine List.ext_getElem? fun i => ?_
    rw [List.getElem?_map]
    by_cases h : i < items.size
    · rw [List.getElem?_eq_getElem (by rw [List.length_range]; exact h), List.getElem_range, List.getElem?_reverse (by simpa using h), Array.getElem?_toList, Array.length_toList]
      show some ((items[items.size - 1 - i]?).getD .none) = _
      rw [Array.getElem?_eq_getElem (show items.size - 1 - i < items.size by omega)]
      rfl
    · rw [List.getElem?_eq_none (by rw [List.length_range]; omega), List.getElem?_eq_none (by simp; omega)]
      rfl
  · intro k hk
    have := List.mem_range.mp hk
    have z : ((items.size : Int) - 1 + (k : Int) * -1).toNat = items.size - 1 - k := by omega
    rw [z, Array.getElem?_eq_getElem (show items.size - 1 - k < items.size by omega)]
    rfl
theorem tuple_rev_meets (t sl : Addr) (items : Array Value) (u : Tok) (hl : items.size ≤ sizeLine) : Meets (Builtin.«tuple.__getitem__» ⟨[.ref t, .ref sl], []⟩)
    (fun _ R s => (IsTup s.heap t items ∧ s.heap.IsSliceOf sl .none .none (.int (-1) u)) ∧ R (.ok (.ret (.ref s.heap.objs.size))) { s with heap := s.heap.push { cls := .type "tuple", data := .seq items.toList.reverse.toArray } }) :=
  .of_wp fun prog w A R s h => by
    obtain ⟨⟨T, hs⟩, h⟩ := h
    have S := hs
    obtain ⟨o2, ho2, hc2, hd2⟩ := hs
    obtain ⟨oc, od, odt, osl⟩ := o2
    cases (show oc = _ from hc2)
    cases (show odt = _ from hd2)
    obtain ⟨hp, gg, dr, tk, os⟩ := s
    wp_walk using tupleItemsOf_ T, applied_rev S, wpAny_loadPart' ho2
    rw [rev_pick, if_neg (by simp; exact hl)]
    wp_walk
    exact ⟨_, rfl, h⟩
theorem getItem_tuple_rev {t sl : Addr} {items : Array Value} {u : Tok} {Q : Value → Shared → Prop} (T : IsTup s.heap t items) (hs : s.heap.IsSliceOf sl .none .none (.int (-1) u)) (hl : items.size ≤ sizeLine)
    (q : Q (.ref s.heap.objs.size) { s with heap := s.heap.push { cls := .type "tuple", data := .seq items.toList.reverse.toArray } }) : wpAny (model prog w) A (getItem (.ref t) (.ref sl)) Q E s := by
  have T2 := T
  obtain ⟨o, ho, hc, n, hd⟩ := T2
  exact getItem_meets (T := "tuple") ⟨o, ho, hc⟩ (by decide) slot_tuple_getitem entry_tuple_getitem (args_tuple_getitem _ _) (tuple_rev_meets t sl items u hl) ⟨⟨T, hs⟩, q⟩
end
end PySem
namespace NA
open PySem PySem.Spec PyProof.Rows L2
def tRevT (K : PySem.W.Frag) (te : TE) : TE := fun σ H Q => te σ H fun x H1 => ∃ a xs, x = .ref a ∧ SqT K H1 a xs ∧ ∀ p, H1 p = none → Q (.ref p) (upd H1 p (.tup xs.reverse))
theorem vals_app {xs ys : List V} {us vs : List Value} (a : Vals xs us) (b : Vals ys vs) : Vals (xs ++ ys) (us ++ vs) := by
  induction a with
  | nil => exact b
  | cons h _ ih => exact .cons h ih
theorem vals_rev {xs : List V} {us : List Value} (a : Vals xs us) : Vals xs.reverse us.reverse := by
  induction a with
  | nil => exact .nil
  | cons h _ ih =>
    rw [List.reverse_cons, List.reverse_cons]
    exact vals_app ih (.cons h .nil)
theorem pe_revT {X : Cx} (K : PySem.W.Frag) (hK : X.K = K) {e st : Expr} {te : TE} {pos p2 : Pos} (he : PE X e te) (hst : PE X st (tC (.int (-1)))) (hl : ∀ o r : Value, letTemporaryGo e o r = pure () := by intro _ _; rfl) : PE X (.Subscript e (.Slice none none (some st) p2) pos) (tRevT K te) := by
  subst hK
  refine ⟨fun pins s σ H Q I h => ?_⟩
  rw [arm_eval_Subscript]
  refine wpAny_bind (thn (he.run pins s σ H _ I h) fun v s1 ⟨x, H1, I1, rx, q1⟩ => ?_)
  obtain ⟨a, xs, rfl, ha, q⟩ := q1
  cases (show v = Value.ref a from rx)
  refine wpAny_bind (wpAny_holding (wpAny_Slice ?_))
  refine (show wpAny _ _ (pure Value.none) _ _ _ from wpAny_pure ?_)
  refine (show wpAny _ _ (pure Value.none) _ _ _ from wpAny_pure ?_)
  refine (show wpAny _ _ (eval st X.env) _ _ _ from thn (hst.run pins s1 σ H1 (fun y H2 => y = .int (-1) ∧ H2 = H1) I1 ⟨rfl, rfl⟩) fun u s2 ⟨y, H2, I2, ry, ey, eh⟩ => ?_)
  subst ey eh
  obtain ⟨t, rfl⟩ := (show ∃ t, u = Value.int (-1) t from ry)
  refine wpAny_bind (wpAny_standAt ?_)
  obtain ⟨its, rv, tp, hz⟩ := I2.tuple ha
  have T1 : IsTup s2.heap a its.toArray := tp
  have k1 : ∀ b o, s2.heap.get? b = some o → (s2.heap.push { cls := .type "slice", data := .fields #[.none, .none, .int (-1) t] }).get? b = some o := fun b o q => Heap.get?_push_of_some _ q
  have I3 := I2.kept (t' := s2.toks) k1
  obtain ⟨o, ho, hc, n, hd⟩ := T1
  have T3 : IsTup (s2.heap.push { cls := .type "slice", data := .fields #[.none, .none, .int (-1) t] }) a its.toArray := ⟨o, k1 _ _ ho, hc, n, hd⟩
  have hs : (s2.heap.push { cls := .type "slice", data := .fields #[.none, .none, .int (-1) t] }).IsSliceOf s2.heap.objs.size .none .none (.int (-1) t) := ⟨_, Heap.get?_push_size _ rfl, rfl, rfl⟩
  have lx := rv.length
  have hn : H2 (s2.heap.push { cls := .type "slice", data := .fields #[.none, .none, .int (-1) t] }).objs.size = none := I3.hok.fresh (Nat.le_refl _)
  have new : ObjOk X.prog X.w (upd H2 (s2.heap.push { cls := .type "slice", data := .fields #[.none, .none, .int (-1) t] }).objs.size (.tup xs.reverse)) ((s2.heap.push { cls := .type "slice", data := .fields #[.none, .none, .int (-1) t] }).push { cls := .type "tuple", data := .seq its.toArray.toList.reverse.toArray }) (s2.heap.push { cls := .type "slice", data := .fields #[.none, .none, .int (-1) t] }).objs.size (.tup xs.reverse) :=
    ⟨by rw [List.length_reverse]; exact hz, its.reverse, vals_rev rv, ⟨_, Heap.get?_push_size _ rfl, rfl, _, rfl⟩⟩
  have I4 := I3.turnedNew (t' := s2.toks) (ch := []) (h' := (s2.heap.push { cls := .type "slice", data := .fields #[.none, .none, .int (-1) t] }).push { cls := .type "tuple", data := .seq its.toArray.toList.reverse.toArray }) (fun b o _ q => Heap.get?_push_of_some _ q) (fun b hb => nomatch hb) (Nat.le_refl _) new
  exact tail_of_ItemOn (value := e) (slice := .Slice none none (some st) p2) (ops := [.ref a, .ref s2.heap.objs.size]) ⟨"tuple", "tuple.__getitem__", slot_tuple_getitem.1, ⟨o, k1 _ _ ho, hc⟩, getItem_tuple_rev T3 hs (by rw [List.size_toArray]; omega) ⟨V.ref (s2.heap.push { cls := .type "slice", data := .fields #[.none, .none, .int (-1) t] }).objs.size, _, I4, rfl, q _ hn⟩⟩ rfl (fun r => hl _ _)
theorem pe_m1 {X : Cx} {a : Expr} {pos : Pos} (ha : PE X a (tC (.int 1))) : PE X (.UnaryOp .USub a pos) (tC (.int (-1))) :=
  ⟨fun pins s σ H Q I h => (pe_un un_neg ha).run pins s σ H Q I ⟨1, rfl, h⟩⟩
end NA
namespace PySem
open Sem (wp)
open PyProof.Rows
open AutoSeq1 (wpAny_loadPart')
theorem tuple_mul1 (l : Addr) (items : Array Value) (n : Nat) (dd : Option Addr) (sl : Array (Option Value)) (u : Tok) : Meets (Builtin.«tuple.__mul__» ⟨[.ref l, .int 1 u], []⟩)
    (fun _ R s => s.heap.get? l = some { cls := .type "tuple", dict := dd, data := .seq items n, slots := sl } ∧ R (.ok (.ret (.ref l))) s) :=
  .of_wp fun prog w A R s h => by
    obtain ⟨ho, h⟩ := h
    have T : IsTup s.heap l items := ⟨_, ho, rfl, n, rfl⟩
    obtain ⟨hp, gg, dr, tk, os⟩ := s
    wp_walk using tupleItemsOf_ T, wpAny_loadPart' ho
    exact ⟨_, rfl, h⟩
end PySem
namespace NA
open PySem PySem.Spec PyProof.Rows L2
/-- t * k for k from 1 on: t itself, or a new tuple -/
def rRepA (K : PySem.W.Frag) : R2 := fun x y H Q => ∃ l k xs, x = .ref l ∧ y = .int k ∧ SqT K H l xs ∧ xs ≠ [] ∧ 1 ≤ k ∧ k ≤ 1000 ∧ xs.length ≤ 1000 ∧ (k = 1 → Q (.ref l) H) ∧ (k ≠ 1 → ∀ p, H p = none → Q (.ref p) (upd H p (.tup (List.replicate k.toNat xs).flatten)))
theorem op_repA {X : Cx} (K : PySem.W.Frag) (hK : X.K = K) : OpR X (binaryOp .Mult) (rRepA K) := by
  subst hK
  intro pins s σ H x y v u Q I rx ry h
  obtain ⟨l, k, xs, rfl, rfl, hT, ne, k1, k2, l2, q1, q2⟩ := h
  by_cases e : k = 1
  · subst e
    cases (show v = Value.ref l from rx)
    obtain ⟨t, rfl⟩ := (show ∃ t, u = Value.int 1 t from ry)
    obtain ⟨its, rv, tp, hz⟩ := I.tuple hT
    obtain ⟨o, ho, hc, n, hd⟩ := tp
    obtain ⟨oc, dd, odt, sl⟩ := o
    cases (show oc = _ from hc)
    cases (show odt = _ from hd)
    refine wpAny_binaryOp_repeat_ref (T := "tuple") (U := "int") (by decide) ⟨_, ho, rfl⟩ (fun s' => typeIs_int s' 1 t) noFill_tuple_mul F.fills_int_mul F.slot_int_rmul repeat_tuple F.slot_int_index.lookup ?_
    refine call_meets F.slot_int_rmul (typeIs_int s 1 t) F.entry_int_rmul (F.args_int_rmul_2 _ _) (int_rmul_tuple 1 t l its.toArray n dd sl) ⟨ho, rfl, ⟨_, ho, rfl⟩, ?_⟩
    exact call_meets F.slot_tuple_mul ⟨_, ho, rfl⟩ F.entry_tuple_mul (F.args_tuple_mul_2 _ _) (tuple_mul1 l its.toArray n dd sl t) ⟨ho, .ref l, H, I, rfl, q1 rfl⟩
  · exact op_repT pins s σ H (.ref l) (.int k) v u Q I rx ry ⟨l, k, xs, rfl, rfl, hT, ne, by omega, k2, l2, q2 e⟩
theorem rep_any {K : PySem.W.Frag} {l : Addr} {k : Int} {xs : List V} {H : Hp} {Q : VK} (h : H l = some (.tup xs)) (ne : xs ≠ []) (k1 : 1 ≤ k) (k2 : k ≤ 1000) (l2 : xs.length ≤ 1000) (q : ∀ c H', Same H H' → H' c = some (.tup (List.replicate k.toNat xs).flatten) → Q (.ref c) H') : rRepA K (.ref l) (.int k) H Q :=
  ⟨l, k, xs, rfl, rfl, SqT.of h, ne, k1, k2, l2, fun e => q l H (Same.refl H) (by
    subst e
    rw [h]
    simp), fun _ p n => q p _ (Same.new (Same.refl H) n) upd_same⟩
end NA
namespace NA
theorem take_get2 {α : Type} {l : List α} {i : Nat} {x : α} (h : l[i]? = some x) : l.take (i + 1) = l.take i ++ [x] := by
  rw [List.take_add_one, h]
  rfl
/-! ### sums and multiples of contents, deeds put together -/
def mulI (ns : List Int) (c : Int) : List Int := ns.map fun n => n * c
theorem mulI_getD (ns : List Int) (c : Int) (i : Nat) : (mulI ns c).getD i 0 = ns.getD i 0 * c := by
  unfold mulI
  rw [List.getD_eq_getElem?_getD, List.getD_eq_getElem?_getD, List.getElem?_map]
  cases ns[i]? with
  | none => show (0 : Int) = 0 * c; rw [Int.zero_mul]
  | some x => rfl
theorem mulI_len (ns : List Int) (c : Int) : (mulI ns c).length = ns.length := List.length_map ..
theorem add_mulI {ns : List Int} {d : Nat × Nat × Int} {c : Int} (hi : d.2.1 < ns.length) : addI (mulI ns c) d = mulI (addI ns d) c := by
  refine ext_getD (by rw [addI_len, mulI_len, mulI_len, addI_len]) fun k hk => ?_
  rw [addI_getD (by rw [mulI_len]; exact hi), mulI_getD, mulI_getD, mulI_getD, mulI_getD, addI_getD hi]
  by_cases e : d.2.1 = k
  · rw [if_pos e, if_pos e, Int.add_mul, Int.mul_assoc]
  · rw [if_neg e, if_neg e]
theorem far_mul {l : List (Nat × Nat × Int)} {c : Int} : ∀ {ns : List Int}, (∀ d ∈ l, d.2.1 < ns.length) → farI l (mulI ns c) = mulI (farI l ns) c := by
  induction l with
  | nil => exact fun _ => rfl
  | cons d l ih =>
    intro ns hl
    show farI l (addI (mulI ns c) d) = mulI (farI l (addI ns d)) c
    rw [add_mulI (hl d List.mem_cons_self)]
    exact ih fun x hx => by rw [addI_len]; exact hl x (List.mem_cons_of_mem _ hx)
theorem cg_sum {ss ns ms ks ls : List Int} (a : Cg ss ns ks) (b : Cg ss ms ls) : Cg ss (sumI ns ms) (sumI ks ls) := by
  refine ⟨sumI_len a.l1 b.l1, sumI_len a.l2 b.l2, fun i s e => ?_⟩
  rw [sumI_getD (by rw [a.l1, b.l1]), sumI_getD (by rw [a.l2, b.l2])]
  have := Int.dvd_add (a.alike i s e) (b.alike i s e)
  rwa [show ∀ x y z u : Int, x - y + (z - u) = x + z - (y + u) from fun x y z u => by omega] at this
theorem cg_mul {ss ns ms : List Int} (a : Cg ss ns ms) (c : Int) : Cg ss (mulI ns c) (mulI ms c) := by
  refine ⟨by rw [mulI_len, a.l1], by rw [mulI_len, a.l2], fun i s e => ?_⟩
  rw [mulI_getD, mulI_getD, ← Int.sub_mul]
  exact Int.dvd_trans (a.alike i s e) (Int.dvd_mul_right _ _)
/-- of a sum the sum -/
theorem runP_sum {ss : List Int} (ok : ∀ s ∈ ss, SizeOk s) {l : List (Nat × Nat × Int)} (hl : ∀ d ∈ l, DIn ss d) {a b : List Int} (ha : COk ss a) (hb : COk ss b) : runP ss l (remI (sumI a b) ss) = remI (sumI (runP ss l a) (runP ss l b)) ss := by
  have ls := sumI_len ha.len hb.len
  rw [runP_eq ok hl (rem_cok ok ls) (cg_rem ls)]
  unfold runI
  rw [far_sum (by rw [ha.len, hb.len]) fun d hd => by rw [ha.len]; exact (hl d hd).li]
  exact (cg_sum (runP_cg hl (Cg.refl ha.len)) (runP_cg hl (Cg.refl hb.len))).symm.rem
/-- of a multiple the multiple -/
theorem runP_mul {ss : List Int} (ok : ∀ s ∈ ss, SizeOk s) {l : List (Nat × Nat × Int)} (hl : ∀ d ∈ l, DIn ss d) {a : List Int} (ha : COk ss a) (c : Int) : runP ss l (remI (mulI a c) ss) = remI (mulI (runP ss l a) c) ss := by
  have ls : (mulI a c).length = ss.length := by rw [mulI_len, ha.len]
  rw [runP_eq ok hl (rem_cok ok ls) (cg_rem ls)]
  unfold runI
  rw [far_mul fun d hd => by rw [ha.len]; exact (hl d hd).li]
  exact (cg_mul (runP_cg hl (Cg.refl ha.len)) c).symm.rem
/-- of noughts noughts -/
theorem runP_zero {ss : List Int} (ok : ∀ s ∈ ss, SizeOk s) {l : List (Nat × Nat × Int)} (hl : ∀ d ∈ l, DIn ss d) : runP ss l (List.replicate ss.length 0) = List.replicate ss.length 0 := by
  have z : COk ss (List.replicate ss.length 0) := ⟨List.length_replicate .., fun i h s e1 e2 => by
    have li := (List.getElem?_eq_some_iff.mp e2).1
    rw [List.getElem?_replicate, if_pos li] at e1
    cases e1
    obtain ⟨m, rfl, m2, _⟩ := (ok s (List.mem_of_getElem? e2)).nat
    omega⟩
  have e : remI (mulI (List.replicate ss.length 0) 0) ss = List.replicate ss.length 0 := by
    have : mulI (List.replicate ss.length 0) 0 = List.replicate ss.length 0 := by
      unfold mulI
      rw [List.map_replicate]
      rfl
    rw [this]
    exact rem_of z
  have h := runP_mul ok hl z 0
  rw [e] at h
  rw [h]
  refine ext_getD ?_ fun i hi => ?_
  · rw [remI_length (by rw [mulI_len, (runP_cok ok z).len]), List.length_replicate]
  · rw [remI_length (by rw [mulI_len, (runP_cok ok z).len])] at hi
    obtain ⟨s, es⟩ := get_some hi
    rw [remI_getD (by rw [mulI_len, (runP_cok ok z).len]) es, mulI_getD, Int.mul_zero, Int.zero_emod, List.getD_eq_getElem?_getD, List.getElem?_replicate, if_pos hi]
    rfl
/-- only the rest of the factor counts -/
theorem done_more {ss hs : List Int} {j i : Nat} {c k s : Int} (h : DIn ss (j, i, c)) (ch : COk ss hs) (es : ss[i]? = some s) : doneI ss hs (j, i, c + k * s) = doneI ss hs (j, i, c) := by
  unfold doneI
  refine Cg.rem ⟨by rw [addI_len, ch.len], by rw [addI_len, ch.len], fun t r e => ?_⟩
  rw [addI_getD (by rw [ch.len]; exact h.li), addI_getD (by rw [ch.len]; exact h.li)]
  by_cases z : i = t
  · subst z
    rw [es] at e
    cases e
    rw [if_pos rfl, if_pos rfl]
    refine ⟨k * hs.getD j 0, ?_⟩
    show hs.getD i 0 + (c + k * s) * hs.getD j 0 - (hs.getD i 0 + c * hs.getD j 0) = s * (k * hs.getD j 0)
    rw [Int.add_mul, show s * (k * hs.getD j 0) = k * s * hs.getD j 0 by rw [Int.mul_comm k s, Int.mul_assoc]]
    omega
  · rw [if_neg z, if_neg z, Int.sub_self]
    exact Int.dvd_zero _
/-- two deeds on one wire do what one with the sum does -/
theorem run_two {ss hs : List Int} (ok : ∀ s ∈ ss, SizeOk s) {j i : Nat} {c e : Int} (h1 : DIn ss (j, i, c)) (h2 : DIn ss (j, i, e)) (ch : COk ss hs) : runP ss [(j, i, c), (j, i, e)] hs = doneI ss hs (j, i, c + e) := by
  rw [runP_eq ok (fun d hd => by
    rcases List.mem_cons.mp hd with z | hd
    · rw [z]; exact h1
    · rw [List.mem_singleton.mp hd]; exact h2) ch (Cg.refl ch.len)]
  unfold runI doneI
  congr 1
  show addI (addI hs (j, i, c)) (j, i, e) = _
  have li : i < hs.length := by rw [ch.len]; exact h1.li
  refine ext_getD (by rw [addI_len, addI_len, addI_len]) fun k hk => ?_
  rw [addI_getD (by rw [addI_len]; exact li), addI_getD li, addI_getD li, addI_getD li, addI_getD li]
  have ne : i ≠ j := Ne.symm h1.ne
  by_cases z : i = k
  · rw [if_pos z, if_pos rfl, if_neg ne, if_pos z]
    show hs.getD i 0 + c * hs.getD j 0 + e * hs.getD j 0 = hs.getD i 0 + (c + e) * hs.getD j 0
    rw [Int.add_mul]
    omega
  · rw [if_neg z, if_neg z, if_neg z]
/-- deeds neither of which takes where the other gives change places -/
theorem run_swap {ss hs : List Int} (ok : ∀ s ∈ ss, SizeOk s) {d e : Nat × Nat × Int} (h1 : DIn ss d) (h2 : DIn ss e) (n1 : e.2.1 ≠ d.1) (n2 : e.1 ≠ d.2.1) (ch : COk ss hs) : runP ss [d, e] hs = runP ss [e, d] hs := by
  have two : ∀ {a b : Nat × Nat × Int}, DIn ss a → DIn ss b → ∀ x ∈ [a, b], DIn ss x := fun ha hb x hx => by
    rcases List.mem_cons.mp hx with z | hx
    · rw [z]; exact ha
    · rw [List.mem_singleton.mp hx]; exact hb
  rw [runP_eq ok (two h1 h2) ch (Cg.refl ch.len), runP_eq ok (two h2 h1) ch (Cg.refl ch.len)]
  unfold runI
  congr 1
  show addI (addI hs d) e = addI (addI hs e) d
  have l1 : d.2.1 < hs.length := by rw [ch.len]; exact h1.li
  have l2 : e.2.1 < hs.length := by rw [ch.len]; exact h2.li
  refine ext_getD (by rw [addI_len, addI_len, addI_len, addI_len]) fun k hk => ?_
  rw [addI_getD (by rw [addI_len]; exact l2), addI_getD (ns := addI hs e) (by rw [addI_len]; exact l1), addI_getD l1, addI_getD l1, addI_getD l1, addI_getD l2, addI_getD l2, addI_getD l2]
  rw [if_neg (c := d.2.1 = e.1) (Ne.symm n2), if_neg (c := e.2.1 = d.1) n1]
  by_cases a : d.2.1 = k <;> by_cases b : e.2.1 = k
  · have z : d.2.1 = e.2.1 := a.trans b.symm
    rw [if_pos b, if_pos a, if_pos z, if_pos z.symm, z]
    omega
  · have z : ¬ d.2.1 = e.2.1 := fun q => b (q ▸ a)
    rw [if_neg b, if_pos a, if_pos a, if_neg (fun q => z q.symm)]
  · have z : ¬ d.2.1 = e.2.1 := fun q => a (q ▸ b)
    rw [if_pos b, if_neg z, if_neg a, if_pos b]
  · rw [if_neg b, if_neg a, if_neg a, if_neg b]
end NA
namespace NA
/-! ### good tables, powers -/
structure GT (ss : List Int) (t : List (List Int)) : Prop where
  sq : Sq ss.length t
  low : Low ss t
  hit : Hit ss t
theorem TOk.gt {ss : List Int} {t : List (List Int)} (h : TOk ss t) : GT ss t := ⟨h.sq, h.lowE, h.hit⟩
theorem GT.still {ss : List Int} (ok : ∀ s ∈ ss, SizeOk s) : GT ss (stillI ss.length) := (TOk.still ok).gt
theorem GT.both {ss : List Int} {one other : List (List Int)} (ok : ∀ s ∈ ss, SizeOk s) (a : GT ss one) (b : GT ss other) : GT ss (bothI ss one other) := ⟨both_sq b.sq, both_low ok a.sq b.sq, both_hit a.sq b.sq a.hit b.hit⟩
theorem GT.deed {ss : List Int} (ok : ∀ s ∈ ss, SizeOk s) {d : Nat × Nat × Int} (h : DIn ss d) : GT ss (deedI ss d) := by
  refine ⟨deed_sq h, fun i j s hs hj => ?_, deed_hit h⟩
  rw [deed_en h hs hj]
  obtain ⟨m, rfl, m2, _⟩ := (ok s (List.mem_of_getElem? hs)).nat
  split
  · exact ⟨Int.emod_nonneg _ (by omega), Int.emod_lt_of_pos _ (by omega)⟩
  · split <;> omega
theorem GT.led {ss : List Int} {t : List (List Int)} {hs : List Int} (ok : ∀ s ∈ ss, SizeOk s) (h : GT ss t) (c : COk ss hs) : COk ss (ledI ss t hs) := by
  refine ⟨led_len h.sq, fun i x s ex es => ?_⟩
  have := led_getD h.sq c.len es
  rw [List.getD_eq_getElem?_getD, ex] at this
  obtain ⟨m, rfl, m2, _⟩ := (ok s (List.mem_of_getElem? es)).nat
  have e : x = (sumF ss.length fun j => en t i j * hs.getD j 0) % (m : Int) := this
  rw [e]
  exact ⟨Int.emod_nonneg _ (by omega), Int.emod_lt_of_pos _ (by omega)⟩
theorem GT.sh {ss : List Int} {t : List (List Int)} (ok : ∀ s ∈ ss, SizeOk s) (h : GT ss t) : TSh ss.length t := by
  refine ⟨h.sq.len, h.sq.row, fun r hr n hn => ?_⟩
  obtain ⟨i, hi, rfl⟩ := List.getElem_of_mem hr
  obtain ⟨j, hj, rfl⟩ := List.getElem_of_mem hn
  have li : i < ss.length := by rw [← h.sq.len]; exact hi
  have lj : j < ss.length := by rw [← h.sq.row _ (List.getElem_mem hi)]; exact hj
  obtain ⟨s, es⟩ := get_some li
  have e : en t i j = t[i][j] := by
    rw [en_of (List.getElem?_eq_getElem hi), List.getD_eq_getElem?_getD, List.getElem?_eq_getElem hj]
    rfl
  obtain ⟨a, b⟩ := h.low i j s es lj
  obtain ⟨m, rfl, _, m30⟩ := (ok s (List.mem_of_getElem? es)).nat
  rw [e] at a b
  exact Nat.lt_of_le_of_lt (show t[i][j].natAbs ≤ 10 ^ 30 by omega) (by decide)
def powI (ss : List Int) (t : List (List Int)) : Nat → List (List Int)
  | 0 => stillI ss.length
  | k + 1 => bothI ss (powI ss t k) t
section
variable {ss : List Int} {t : List (List Int)}
theorem powI_gt (ok : ∀ s ∈ ss, SizeOk s) (h : GT ss t) : ∀ k, GT ss (powI ss t k)
  | 0 => GT.still ok
  | k + 1 => GT.both ok (powI_gt ok h k) h
theorem powI_add (ok : ∀ s ∈ ss, SizeOk s) (h : GT ss t) (a : Nat) : ∀ b, bothI ss (powI ss t a) (powI ss t b) = powI ss t (a + b)
  | 0 => both_still (powI_gt ok h a).sq (powI_gt ok h a).low
  | b + 1 => by
    show bothI ss (powI ss t a) (bothI ss (powI ss t b) t) = bothI ss (powI ss t (a + b)) t
    rw [← both_assoc (powI_gt ok h a).sq (powI_gt ok h b).sq h.sq h.hit, powI_add ok h a b]
theorem powI_one (ok : ∀ s ∈ ss, SizeOk s) (h : GT ss t) : powI ss t 1 = t := still_both h.sq h.low
theorem powI_mul (ok : ∀ s ∈ ss, SizeOk s) (h : GT ss t) (k : Nat) : ∀ m, powI ss (powI ss t k) m = powI ss t (k * m)
  | 0 => by rw [Nat.mul_zero]; rfl
  | m + 1 => by
    show bothI ss (powI ss (powI ss t k) m) (powI ss t k) = _
    rw [powI_mul ok h k m, powI_add ok h, Nat.mul_succ]
theorem powI_two (ok : ∀ s ∈ ss, SizeOk s) (h : GT ss t) (m : Nat) : powI ss (bothI ss t t) m = powI ss t (2 * m) := by
  have e : bothI ss t t = powI ss t 2 := by
    show bothI ss t t = bothI ss (powI ss t 1) t
    rw [powI_one ok h]
  rw [e, powI_mul ok h]
theorem powI_succ' (ok : ∀ s ∈ ss, SizeOk s) (h : GT ss t) (k : Nat) : bothI ss t (powI ss t k) = powI ss t (k + 1) := by
  have := powI_add ok h 1 k
  rw [powI_one ok h] at this
  rw [this, Nat.add_comm]
theorem led_pow (ok : ∀ s ∈ ss, SizeOk s) (h : GT ss t) (k : Nat) {hs : List Int} (c : COk ss hs) : ledI ss (powI ss t (k + 1)) hs = ledI ss t (ledI ss (powI ss t k) hs) := led_both (powI_gt ok h k).sq h.sq h.hit c.len
/-- one deed more in front of the table -/
theorem tabI_gt (ok : ∀ s ∈ ss, SizeOk s) {l : List (Nat × Nat × Int)} (hl : ∀ d ∈ l, DIn ss d) : GT ss (tabI ss l) := by
  unfold tabI
  have : ∀ (l : List (Nat × Nat × Int)), (∀ d ∈ l, DIn ss d) → ∀ t, GT ss t → GT ss (l.foldl (fun t d => bothI ss t (deedI ss d)) t) := by
    intro l
    induction l with
    | nil => exact fun _ t h => h
    | cons d l ih => exact fun hl t h => ih (fun x hx => hl x (List.mem_cons_of_mem _ hx)) _ (GT.both ok h (GT.deed ok (hl d List.mem_cons_self)))
  exact this l hl _ (GT.still ok)
theorem tab_from2 (ok : ∀ s ∈ ss, SizeOk s) : ∀ {l : List (Nat × Nat × Int)}, (∀ d ∈ l, DIn ss d) → ∀ {t : List (List Int)}, GT ss t → l.foldl (fun t d => bothI ss t (deedI ss d)) t = bothI ss t (tabI ss l)
  | [], _, t, h => (both_still h.sq h.low).symm
  | d :: l, hl, t, h => by
    have dd := GT.deed ok (hl d List.mem_cons_self)
    have hl' : ∀ x ∈ l, DIn ss x := fun x hx => hl x (List.mem_cons_of_mem _ hx)
    have gt := tabI_gt ok hl'
    show l.foldl (fun t d => bothI ss t (deedI ss d)) (bothI ss t (deedI ss d)) = bothI ss t (l.foldl (fun t d => bothI ss t (deedI ss d)) (bothI ss (stillI ss.length) (deedI ss d)))
    rw [tab_from2 ok hl' (GT.both ok h dd), tab_from2 ok hl' (GT.both ok (GT.still ok) dd), still_both dd.sq dd.low, both_assoc h.sq dd.sq gt.sq gt.hit]
/-- the table of two programs one behind the other -/
theorem tab_app (ok : ∀ s ∈ ss, SizeOk s) {l m : List (Nat × Nat × Int)} (hl : ∀ d ∈ l, DIn ss d) (hm : ∀ d ∈ m, DIn ss d) : tabI ss (l ++ m) = bothI ss (tabI ss l) (tabI ss m) := by
  have e : tabI ss (l ++ m) = m.foldl (fun t d => bothI ss t (deedI ss d)) (tabI ss l) := List.foldl_append
  rw [e, tab_from2 ok hm (tabI_gt ok hl)]
end
end NA
namespace NA
open PySem PySem.Spec PyProof.Rows L2
/-! ### a deed's rows -/
def rowI (s c : Int) (r1 r2 : List Int) : List Int := List.zipWith (fun item mate => (item + c * mate) % s) r1 r2
def madeI (ss : List Int) (t : List (List Int)) (d : Nat × Nat × Int) : List (List Int) := t.set d.2.1 (rowI (ss.getD d.2.1 1) d.2.2 (t.getD d.2.1 []) (t.getD d.1 []))
theorem rowI_len {s c : Int} {r1 r2 : List Int} {n : Nat} (a : r1.length = n) (b : r2.length = n) : (rowI s c r1 r2).length = n := by
  unfold rowI
  rw [List.length_zipWith]
  omega
theorem made_both {ss : List Int} {t : List (List Int)} {d : Nat × Nat × Int} (ok : ∀ s ∈ ss, SizeOk s) (h : GT ss t) (dd : DIn ss d) : madeI ss t d = bothI ss t (deedI ss d) := by
  obtain ⟨ri, eri, lri⟩ := h.sq.get dd.li
  obtain ⟨rj, erj, lrj⟩ := h.sq.get dd.lj
  have gi : t.getD d.2.1 [] = ri := by rw [List.getD_eq_getElem?_getD, eri]; rfl
  have gj : t.getD d.1 [] = rj := by rw [List.getD_eq_getElem?_getD, erj]; rfl
  have sq : Sq ss.length (madeI ss t d) := by
    unfold madeI
    refine ⟨by rw [List.length_set, h.sq.len], fun r hr => ?_⟩
    rcases List.mem_or_eq_of_mem_set hr with m | m
    · exact h.sq.row r m
    · rw [m, gi, gj]
      exact rowI_len lri lrj
  refine sq_ext sq (both_sq (deed_sq dd)) fun a k ha hk => ?_
  obtain ⟨s, es⟩ := get_some ha
  rw [both_en h.sq (deed_sq dd) es hk]
  by_cases e : d.2.1 = a
  · subst e
    have gs : ss.getD d.2.1 1 = s := by rw [List.getD_eq_getElem?_getD, es]; rfl
    have em : (madeI ss t d)[d.2.1]? = some (rowI s d.2.2 ri rj) := by
      unfold madeI
      rw [gi, gj, gs, List.getElem?_set_self (by rw [h.sq.len]; exact ha)]
    have ek : (rowI s d.2.2 ri rj).getD k 0 = (en t d.2.1 k + d.2.2 * en t d.1 k) % s := by
      unfold rowI
      rw [List.getD_eq_getElem?_getD, List.getElem?_zipWith, List.getElem?_eq_getElem (by omega), List.getElem?_eq_getElem (by omega), en_of eri, en_of erj, List.getD_eq_getElem?_getD, List.getD_eq_getElem?_getD, List.getElem?_eq_getElem (by omega), List.getElem?_eq_getElem (by omega)]
      rfl
    rw [en_of em, ek]
    have f : ∀ l, l < ss.length → en (deedI ss d) d.2.1 l * en t l k = (if d.2.1 = l then 1 else 0) * en t l k + (if d.1 = l then 1 else 0) * (d.2.2 % s * en t l k) := fun l hl => by
      rw [deed_en dd es hl]
      by_cases z : l = d.1
      · subst z
        rw [if_pos ⟨rfl, rfl⟩, if_neg (Ne.symm dd.ne), if_pos rfl]
        omega
      · rw [if_neg (fun q => z q.2), if_neg (c := d.1 = l) (Ne.symm z)]
        omega
    rw [sumF_congr f, sumF_add, sumF_one _ _ (fun l => en t l k) dd.li, sumF_one _ _ (fun l => d.2.2 % s * en t l k) dd.lj]
    refine mod_congr ?_
    rw [show ∀ x y z : Int, x + y - (x + z) = y - z from fun x y z => by omega, ← Int.sub_mul]
    exact Int.dvd_trans (dvd_sub_comm (mod_sub _ _)) (Int.dvd_mul_right _ _)
  · obtain ⟨ra, era, _⟩ := h.sq.get ha
    have em : (madeI ss t d)[a]? = some ra := by
      unfold madeI
      rw [List.getElem?_set_ne e, era]
    rw [en_of em, ← en_of era, sumF_congr (G := fun l => (if a = l then 1 else 0) * en t l k) fun l hl => by rw [deed_en dd es hl, if_neg (fun q => e q.1.symm)], sumF_one _ _ _ ha]
    obtain ⟨x, y⟩ := h.low a k s es hk
    exact (Int.emod_eq_of_lt x y).symm
/-- rows of which one is told anew -/
theorem Rws.swap {p q R g : Addr} {H : Hp} {rs : List Addr} {t : List (List Int)} {r : List Int} {i : Nat} (h : Rws p q R H rs t) (hi : i < rs.length) (hg : H g = some (.lst (r.map V.int))) (n1 : g ∉ rs) (n2 : g ≠ R ∧ g ≠ p ∧ g ≠ q) : Rws p q R (upd H R (.lst ((rs.map V.ref).set i (.ref g)))) (rs.set i g) (t.set i r) := by
  refine ⟨by rw [upd_same, List.map_set], by rw [List.length_set, List.length_set]; exact h.len, fun j b eb => ?_, ?_, fun b hb => ?_⟩
  · by_cases e : i = j
    · subst e
      rw [List.getElem?_set_self hi] at eb
      cases eb
      exact ⟨r, by rw [List.getElem?_set_self (by rw [← h.len]; exact hi)], by rw [upd_ne n2.1]; exact hg⟩
    · rw [List.getElem?_set_ne e] at eb
      obtain ⟨r', a, c⟩ := h.row j b eb
      exact ⟨r', by rw [List.getElem?_set_ne e]; exact a, by rw [upd_ne (h.off b (List.mem_of_getElem? eb)).1]; exact c⟩
  · refine List.pairwise_iff_getElem.mpr fun a b ha hb lt => ?_
    rw [List.length_set] at ha hb
    rw [List.getElem_set, List.getElem_set]
    by_cases e1 : i = a <;> by_cases e2 : i = b
    · omega
    · rw [if_pos e1, if_neg e2]
      exact fun z => n1 (z ▸ List.getElem_mem _)
    · rw [if_neg e1, if_pos e2]
      exact fun z => n1 (z ▸ List.getElem_mem _)
    · rw [if_neg e1, if_neg e2]
      exact List.pairwise_iff_getElem.mp h.nd a b ha hb lt
  · rcases List.mem_or_eq_of_mem_set hb with m | m
    · exact h.off b m
    · rw [m]
      exact n2
def spMade : Sp := fun vs H Q _ => ∃ (x y : V) (ss : List Int) (l : List (Nat × Nat × Int)), vs = [x, y] ∧ Im H x (sD ss) ∧ Im H y (pD l) ∧ (∀ s ∈ ss, SizeOk s) ∧ ss.length ≤ 100 ∧ (∀ d ∈ l, DIn ss d) ∧ (∀ d ∈ l, d.2.2.natAbs ≤ 10 ^ 60) ∧
  ∀ (u : V) (H' : Hp), Im H' u (tD (tabI ss l)) → Same H H' → Q u H'
theorem tabI_next {ss : List Int} {l : List (Nat × Nat × Int)} {i : Nat} {d : Nat × Nat × Int} (h : l[i]? = some d) : tabI ss (l.take (i + 1)) = bothI ss (tabI ss (l.take i)) (deedI ss d) := by
  unfold tabI
  rw [List.take_add_one, h, List.foldl_append]
  rfl
end NA
namespace NA
/-! ### programs backward, as tables -/
section
variable {ss : List Int}
theorem deed_back (ok : ∀ s ∈ ss, SizeOk s) {d : Nat × Nat × Int} (h : DIn ss d) : bothI ss (deedI ss d) (deedI ss (d.1, d.2.1, -d.2.2)) = stillI ss.length := by
  have gd := GT.deed ok h
  have hn := h.neg
  refine sq_ext (both_sq (deed_sq hn)) (still_sq _) fun a k ha hk => ?_
  obtain ⟨s, es⟩ := get_some ha
  obtain ⟨m, hm, m2, _⟩ := (ok s (List.mem_of_getElem? es)).nat
  rw [both_en gd.sq (deed_sq hn) es hk, still_en ha hk]
  by_cases e : a = d.2.1
  · subst e
    obtain ⟨r, er⟩ := get_some h.lj
    have f : ∀ l, l < ss.length → en (deedI ss (d.1, d.2.1, -d.2.2)) d.2.1 l * en (deedI ss d) l k = (if d.2.1 = l then 1 else 0) * en (deedI ss d) l k + (if d.1 = l then 1 else 0) * (-d.2.2 % s * en (deedI ss d) l k) := fun l hl => by
      rw [deed_en hn es hl]
      by_cases z : l = d.1
      · subst z
        rw [if_pos ⟨rfl, rfl⟩, if_neg (Ne.symm h.ne), if_pos rfl]
        dsimp only
        omega
      · rw [if_neg (fun q => z q.2), if_neg (c := d.1 = l) (Ne.symm z)]
        omega
    rw [sumF_congr f, sumF_add, sumF_one _ _ (fun l => en (deedI ss d) l k) h.li, sumF_one _ _ (fun l => -d.2.2 % s * en (deedI ss d) l k) h.lj, deed_en h es hk, deed_en h er hk, if_neg (c := d.1 = d.2.1 ∧ k = d.1) (fun q => h.ne q.1)]
    by_cases z : k = d.1
    · subst z
      rw [if_pos ⟨rfl, rfl⟩, if_pos rfl, if_neg (Ne.symm h.ne), Int.mul_one]
      refine Int.emod_eq_zero_of_dvd ?_
      have a := Int.dvd_add (mod_sub d.2.2 s) (mod_sub (-d.2.2) s)
      rwa [show ∀ x y z : Int, x - y + (z - -y) = x + z from fun x y z => by omega] at a
    · rw [if_neg (c := d.2.1 = d.2.1 ∧ k = d.1) (fun q => z q.2), if_neg (c := d.1 = k) (Ne.symm z), Int.mul_zero, Int.add_zero]
      split
      · exact Int.emod_eq_of_lt (by omega) (by omega)
      · exact Int.zero_emod _
  · rw [sumF_congr (G := fun l => (if a = l then 1 else 0) * en (deedI ss d) l k) fun l hl => by rw [deed_en hn es hl, if_neg (fun q => e q.1)], sumF_one _ _ _ ha, deed_en h es hk, if_neg (fun q => e q.1)]
    split
    · exact Int.emod_eq_of_lt (by omega) (by omega)
    · exact Int.zero_emod _
theorem tab_one (ok : ∀ s ∈ ss, SizeOk s) {d : Nat × Nat × Int} (h : DIn ss d) : tabI ss [d] = deedI ss d := still_both (GT.deed ok h).sq (GT.deed ok h).low
theorem backI_cons (d : Nat × Nat × Int) (l : List (Nat × Nat × Int)) : backI (d :: l) = backI l ++ [(d.1, d.2.1, -d.2.2)] := by
  unfold backI
  rw [List.map_cons, List.reverse_cons]
/-- a program, then itself backward, does nothing -/
theorem tab_back (ok : ∀ s ∈ ss, SizeOk s) : ∀ {l : List (Nat × Nat × Int)}, (∀ d ∈ l, DIn ss d) → bothI ss (tabI ss l) (tabI ss (backI l)) = stillI ss.length
  | [], _ => both_still (GT.still ok).sq (GT.still ok).low
  | d :: l, hl => by
    have dd := hl d List.mem_cons_self
    have hl' : ∀ x ∈ l, DIn ss x := fun x hx => hl x (List.mem_cons_of_mem _ hx)
    have g1 := GT.deed ok dd
    have g1' := GT.deed ok dd.neg
    have g2 := tabI_gt ok hl'
    have g3 := tabI_gt ok (back_din hl')
    have e1 : tabI ss (d :: l) = bothI ss (deedI ss d) (tabI ss l) := by
      rw [show d :: l = [d] ++ l from rfl, tab_app ok (fun x hx => by rw [List.mem_singleton.mp hx]; exact dd) hl', tab_one ok dd]
    have e2 : tabI ss (backI (d :: l)) = bothI ss (tabI ss (backI l)) (deedI ss (d.1, d.2.1, -d.2.2)) := by
      rw [backI_cons, tab_app ok (back_din hl') (fun x hx => by rw [List.mem_singleton.mp hx]; exact dd.neg), tab_one ok dd.neg]
    rw [e1, e2, both_assoc g1.sq g2.sq (GT.both ok g3 g1').sq (GT.both ok g3 g1').hit, ← both_assoc g2.sq g3.sq g1'.sq g1'.hit, tab_back ok hl', still_both g1'.sq g1'.low]
    exact deed_back ok dd
theorem back_back (l : List (Nat × Nat × Int)) : backI (backI l) = l := by
  unfold backI
  rw [List.map_reverse, List.reverse_reverse, List.map_map]
  refine (List.map_congr_left (g := id) fun d _ => ?_).trans (List.map_id l)
  show (d.1, d.2.1, - -d.2.2) = d
  rw [Int.neg_neg]
theorem back_tab (ok : ∀ s ∈ ss, SizeOk s) {l : List (Nat × Nat × Int)} (hl : ∀ d ∈ l, DIn ss d) : bothI ss (tabI ss (backI l)) (tabI ss l) = stillI ss.length := by
  have := tab_back ok (back_din hl)
  rwa [back_back] at this
end
end NA
namespace NA
open PySem PySem.Spec PyProof.Rows L2
/-! ### a deed as often as the size -/
section
variable {ss : List Int}
theorem deed_add (ok : ∀ s ∈ ss, SizeOk s) {j i : Nat} {c e : Int} (h : DIn ss (j, i, c)) (g : DIn ss (j, i, e)) : bothI ss (deedI ss (j, i, c)) (deedI ss (j, i, e)) = deedI ss (j, i, c + e) := by
  have gd := GT.deed ok h
  have hs : DIn ss (j, i, c + e) := ⟨h.lj, h.li, h.ne, fun a b ha hb => by
    show b ∣ (c + e) * a
    rw [Int.add_mul]
    exact Int.dvd_add (h.hit a b ha hb) (g.hit a b ha hb)⟩
  have ne : j ≠ i := h.ne
  refine sq_ext (both_sq (deed_sq g)) (deed_sq hs) fun a k ha hk => ?_
  obtain ⟨s, es⟩ := get_some ha
  obtain ⟨m, hm, m2, _⟩ := (ok s (List.mem_of_getElem? es)).nat
  rw [both_en gd.sq (deed_sq g) es hk, deed_en hs es hk]
  by_cases z : a = i
  · subst z
    obtain ⟨r, er⟩ := get_some h.lj
    have f : ∀ l, l < ss.length → en (deedI ss (j, a, e)) a l * en (deedI ss (j, a, c)) l k = (if a = l then 1 else 0) * en (deedI ss (j, a, c)) l k + (if j = l then 1 else 0) * (e % s * en (deedI ss (j, a, c)) l k) := fun l hl => by
      rw [deed_en g es hl]
      dsimp only
      by_cases y : l = j
      · subst y
        rw [if_pos ⟨rfl, rfl⟩, if_neg (Ne.symm ne), if_pos rfl]
        omega
      · rw [if_neg (fun q => y q.2), if_neg (c := j = l) (Ne.symm y)]
        omega
    rw [sumF_congr f, sumF_add, sumF_one _ _ (fun l => en (deedI ss (j, a, c)) l k) h.li, sumF_one _ _ (fun l => e % s * en (deedI ss (j, a, c)) l k) h.lj, deed_en h es hk, deed_en h er hk]
    dsimp only
    rw [if_neg (c := j = a ∧ k = j) (fun q => ne q.1)]
    by_cases y : k = j
    · subst y
      rw [if_pos ⟨rfl, rfl⟩, if_pos rfl, if_pos ⟨rfl, rfl⟩, Int.mul_one]
      refine mod_congr ?_
      have a := Int.dvd_add (mod_sub c s) (mod_sub e s)
      rwa [show ∀ x y z u : Int, x - y + (z - u) = x + z - (y + u) from fun x y z u => by omega] at a
    · rw [if_neg (c := a = a ∧ k = j) (fun q => y q.2), if_neg (c := j = k) (Ne.symm y), if_neg (c := a = a ∧ k = j) (fun q => y q.2), Int.mul_zero, Int.add_zero]
      split
      · exact Int.emod_eq_of_lt (by omega) (by omega)
      · exact Int.zero_emod _
  · rw [sumF_congr (G := fun l => (if a = l then 1 else 0) * en (deedI ss (j, i, c)) l k) fun l hl => by rw [deed_en g es hl, if_neg (fun q => z q.1)], sumF_one _ _ _ ha, deed_en h es hk]
    dsimp only
    rw [if_neg (c := a = i ∧ k = j) (fun q => z q.1), if_neg (c := a = i ∧ k = j) (fun q => z q.1)]
    split
    · exact Int.emod_eq_of_lt (by omega) (by omega)
    · exact Int.zero_emod _
theorem deed_null {j i : Nat} {c : Int} (h : DIn ss (j, i, c)) (n : ∀ s, ss[i]? = some s → s ∣ c) : deedI ss (j, i, c) = stillI ss.length := by
  refine sq_ext (deed_sq h) (still_sq _) fun a k ha hk => ?_
  obtain ⟨s, es⟩ := get_some ha
  rw [deed_en h es hk, still_en ha hk]
  by_cases e : a = i ∧ k = j
  · rw [if_pos e]
    obtain ⟨rfl, rfl⟩ := e
    have ne : k ≠ a := h.ne
    rw [if_neg (Ne.symm ne)]
    exact Int.emod_eq_zero_of_dvd (n s es)
  · rw [if_neg e]
theorem din_mul {j i : Nat} {c : Int} (h : DIn ss (j, i, c)) (k : Int) : DIn ss (j, i, k * c) := ⟨h.lj, h.li, h.ne, fun a b ha hb => by
  show b ∣ k * c * a
  rw [Int.mul_assoc]
  exact Int.dvd_trans (h.hit a b ha hb) (Int.dvd_mul_left _ _)⟩
theorem tab_often (ok : ∀ s ∈ ss, SizeOk s) {j i : Nat} {c : Int} (h : DIn ss (j, i, c)) : ∀ n : Nat, tabI ss (List.replicate n (j, i, c)) = deedI ss (j, i, (n : Int) * c)
  | 0 => by
    rw [deed_null (din_mul h _) fun s _ => by
      show s ∣ ((0 : Nat) : Int) * c
      rw [Int.natCast_zero, Int.zero_mul]
      exact Int.dvd_zero _]
    rfl
  | n + 1 => by
    rw [List.replicate_succ', tab_app ok (fun d hd => by rw [List.eq_of_mem_replicate hd]; exact h) (fun d hd => by rw [List.mem_singleton.mp hd]; exact h), tab_often ok h n, tab_one ok h, deed_add ok (din_mul h _) h]
    congr 3
    rw [Int.natCast_add, Int.add_mul]
    omega
theorem tab_size (ok : ∀ s ∈ ss, SizeOk s) {j i n : Nat} {c : Int} (h : DIn ss (j, i, c)) (es : ss[i]? = some (n : Int)) : tabI ss (List.replicate n (j, i, c)) = stillI ss.length := by
  rw [tab_often ok h]
  refine deed_null (din_mul h _) fun s hs => ?_
  rw [es] at hs
  cases hs
  exact Int.dvd_mul_right _ _
end
end NA
namespace NA
open PySem PySem.Spec PyProof.Rows L2
/-! ### the program's functions: small facts, levels -/
theorem Cal.up {P : Program} {w : World} {K : PySem.W.Frag} {mg : Str → Option Value} {base : Heap} {x : Str} {k j : Nat} {sp : Sp} (h : k ≤ j) (c : Cal P w K mg base k x sp) : Cal P w K mg base j x sp := by
  obtain ⟨a, fd, ps, F, r⟩ := c.ex
  exact ⟨a, fd, ps, ⟨F.len, fun A outer s H args us vs Q E hr he hb hv h' => F.run A outer s H args us vs Q E (hr.mono h) he hb hv h'⟩, r⟩
theorem CalK.up {P : Program} {w : World} {K : PySem.W.Frag} {mg : Str → Option Value} {base : Heap} {x : Str} {k j : Nat} {sp : Sp} {ks : List Str} {gV : List V → List V → List V} (h : k ≤ j) (c : CalK P w K mg base k x sp ks gV) : CalK P w K mg base j x sp ks gV := by
  obtain ⟨a, fd, ps, g, F, r⟩ := c.ex
  exact ⟨a, fd, ps, g, ⟨F.len, fun A outer s H args us vs Q E hr he hb hv h' => F.run A outer s H args us vs Q E (hr.mono h) he hb hv h'⟩, r⟩
theorem doneI_set {ss hs : List Int} (ok : ∀ s ∈ ss, SizeOk s) (h : COk ss hs) {d : Nat × Nat × Int} {s : Int} (e : ss[d.2.1]? = some s) : doneI ss hs d = hs.set d.2.1 ((hs.getD d.2.1 0 + d.2.2 * hs.getD d.1 0) % s) := by
  have li := (List.getElem?_eq_some_iff.mp e).1
  have l1 : (addI hs d).length = ss.length := by rw [addI_len, h.len]
  unfold doneI
  refine ext_getD (by rw [remI_length l1, List.length_set, h.len]) fun i hi => ?_
  rw [remI_length l1] at hi
  obtain ⟨t, et⟩ := get_some hi
  rw [remI_getD l1 et, addI_getD (by rw [h.len]; exact li), getD_set (by rw [h.len]; exact li)]
  by_cases z : d.2.1 = i
  · subst z
    rw [if_pos rfl, if_pos rfl]
    rw [e] at et
    cases et
    rfl
  · rw [if_neg z, if_neg z]
    obtain ⟨x, ex⟩ := get_some (show i < hs.length by rw [h.len]; exact hi)
    obtain ⟨a, b⟩ := h.low i x t ex et
    rw [List.getD_eq_getElem?_getD, ex]
    exact Int.emod_eq_of_lt a b
theorem runP_next {ss : List Int} {l : List (Nat × Nat × Int)} {hs : List Int} {i : Nat} {d : Nat × Nat × Int} (h : l[i]? = some d) : runP ss (l.take (i + 1)) hs = doneI ss (runP ss (l.take i) hs) d := by
  unfold runP
  rw [List.take_add_one, h, List.foldl_append]
  rfl
theorem COk.most {ss hs : List Int} (ok : ∀ s ∈ ss, SizeOk s) (h : COk ss hs) (i : Nat) : (hs.getD i 0).natAbs < 2 ^ 110 := by
  rw [List.getD_eq_getElem?_getD]
  cases e : hs[i]? with
  | none => exact Nat.pow_pos (by decide)
  | some x =>
    have li := (List.getElem?_eq_some_iff.mp e).1
    obtain ⟨s, es⟩ := get_some (show i < ss.length by rw [← h.len]; exact li)
    obtain ⟨a, b⟩ := h.low i x s e es
    obtain ⟨m, rfl, _, d⟩ := (ok s (List.mem_of_getElem? es)).nat
    exact Nat.lt_of_le_of_lt (show x.natAbs ≤ 10 ^ 30 by omega) (by decide)
end NA
namespace NA
open PySem
open Sem (wp)
abbrev ZObj (f0 : Value) (b : Bool) (TI TO : Addr) : Obj := { cls := .type "zip", dict := none, data := .fields #[f0, .bool b, .bool false, .ref TI, .ref TO], slots := #[] }
abbrev IsTupN (h : Heap) (T : Addr) (vs : List Value) : Prop := h.get? T = some { cls := .type "tuple", data := .seq vs.toArray }
def Srcs (h : Heap) (B : Addr) (ts : List (Addr × Array Value)) (i m : Nat) : Prop := ∀ (k : Nat) (t : Addr) (its : Array Value), ts[k]? = some (t, its) → t < B ∧ h.IsTupleIter (B + k) t (if k < m then i + 1 else i) ∧ h.IsTuple t its
abbrev itRefs (B : Addr) (n : Nat) : List Value := (List.range n).map fun k => Value.ref (B + k)
def colV (ts : List (Addr × Array Value)) (i : Nat) : List Value := ts.map fun t => t.2.getD i .none
section
variable {prog : Program} {w : World} {A : Around} {E : Value → Shared → Prop} {s : Shared}
theorem wpAny_loadAlive {a : Addr} {Q : Option Obj → Shared → Prop} (h : Q (s.heap.get? a) s) : wpAny (model prog w) A (loadIfAlive a) Q E s := fun Γ p hΓ => by
  unfold loadIfAlive
  rw [Sem.wp_loadIfAlive]
  exact (wpAny_pure h) Γ p hΓ
theorem srcs_get {h : Heap} {B : Addr} {ts : List (Addr × Array Value)} {i m k : Nat} (S : Srcs h B ts i m) (hk : k < ts.length) : ∃ t its, ts[k]? = some (t, its) ∧ t < B ∧ h.IsTupleIter (B + k) t (if k < m then i + 1 else i) ∧ h.IsTuple t its :=
  ⟨ts[k].1, ts[k].2, by rw [List.getElem?_eq_getElem hk], S k _ _ (by rw [List.getElem?_eq_getElem hk])⟩
theorem drop_refs {B n m : Nat} {x : Value} {rest : List Value} (h : x :: rest = (itRefs B n).drop m) : m < n ∧ x = .ref (B + m) ∧ rest = (itRefs B n).drop (m + 1) := by
  have l : m < n := Nat.lt_of_not_le fun z => by
    rw [List.drop_eq_nil_of_le (by simp [itRefs]; exact z)] at h
    cases h
  rw [List.drop_eq_getElem_cons (by simp [itRefs]; exact l)] at h
  cases h
  exact ⟨l, by simp [itRefs], rfl⟩
theorem srcs_step {h h' : Heap} {B : Addr} {ts : List (Addr × Array Value)} {i m : Nat} {t : Addr} {its : Array Value} (S : Srcs h B ts i m) (e : ts[m]? = some (t, its)) (hi : h'.IsTupleIter (B + m) t (i + 1)) (hs : Heap.SameBut (B + m) h h') : Srcs h' B ts i (m + 1) := fun k t' its' e' => by
  obtain ⟨a, b, c⟩ := S k t' its' e'
  have lt : t' ≠ B + m := Nat.ne_of_lt (Nat.lt_of_lt_of_le a (Nat.le_add_right B m))
  refine ⟨a, ?_, c.extBut hs.extBut lt⟩
  by_cases q : k = m
  · subst q
    rw [e] at e'
    cases e'
    rw [if_pos (Nat.lt_succ_self k)]
    exact hi
  · have b' := b.extBut hs.extBut (fun z => q (Nat.add_left_cancel z))
    by_cases z : k < m
    · rw [if_pos z] at b'
      rw [if_pos (by omega)]
      exact b'
    · rw [if_neg z] at b'
      rw [if_neg (by omega)]
      exact b'
theorem srcs_all {h : Heap} {B : Addr} {ts : List (Addr × Array Value)} {i : Nat} (S : Srcs h B ts i ts.length) : Srcs h B ts (i + 1) 0 := fun k t its e => by
  obtain ⟨a, b, c⟩ := S k t its e
  rw [if_pos (List.getElem?_eq_some_iff.mp e).1] at b
  exact ⟨a, by rw [if_neg (Nat.not_lt_zero k)]; exact b, c⟩
theorem srcs_keep {h h' : Heap} {B : Addr} {ts : List (Addr × Array Value)} {i m : Nat} (S : Srcs h B ts i m) (hk : ∀ c o, c < B + ts.length → h.get? c = some o → h'.get? c = some o) : Srcs h' B ts i m := fun k t its e => by
  obtain ⟨a, b, c⟩ := S k t its e
  have lk := (List.getElem?_eq_some_iff.mp e).1
  exact ⟨a, b.at fun o q => hk _ _ (Nat.add_lt_add_left lk B) q, c.at fun o q => hk _ _ (Nat.lt_of_lt_of_le a (Nat.le_add_right B _)) q⟩
theorem colV_take {ts : List (Addr × Array Value)} {i m : Nat} {t : Addr} {its : Array Value} {x : Value} (e : ts[m]? = some (t, its)) (hx : its[i]? = some x) : (colV ts i).take (m + 1) = (colV ts i).take m ++ [x] := by
  unfold colV
  rw [List.take_add_one, List.getElem?_map, e]
  simp [Array.getD, hx]
  obtain ⟨l, g⟩ := Array.getElem?_eq_some_iff.mp hx
  simp [l, g]
theorem zipN_slow {B z TI TO a : Addr} {b : Bool} {ts : List (Addr × Array Value)} {i n : Nat} {Q : Value → Shared → Prop}
    (hz : s.heap.get? z = some (ZObj (rawInt a) b TI TO)) (hTI : IsTupN s.heap TI (itRefs B ts.length)) (ha : ∃ o, s.heap.get? a = some o) (S : Srcs s.heap B ts i 0) (hi : i < n) (hn : ∀ t ∈ ts, t.2.size = n)
    (hlen : ts.length ≤ sizeLine) (ne : ts ≠ []) (hzB : B + ts.length ≤ z) (hTB : B + ts.length ≤ TI) (zT : TI ≠ z)
    (hQ : ∀ h', h'.get? z = some (ZObj (rawInt a) true TI TO) → Srcs h' B ts (i + 1) 0 → IsTupN h' s.heap.objs.size (colV ts i) → h'.objs.size = s.heap.objs.size + 1 →
      (∀ c o, c ≠ z → (c < B ∨ B + ts.length ≤ c) → s.heap.get? c = some o → h'.get? c = some o) → Q (.ref s.heap.objs.size) { s with heap := h' }) :
    wpAny (model prog w) A (Builtin.«zip.__next__» ⟨[.ref z], []⟩) (fun fin s' => ∃ v, fin = .done (.ret v) ∧ Q v s') E s := by
  show wpAny _ _ (field (.ref z) 2 >>= _) _ _ _
  refine wpAny_bind (wpAny_field hz rfl (x := .bool false) rfl ?_)
  show wpAny _ _ (field (.ref z) 3 >>= _) _ _ _
  refine wpAny_bind (wpAny_field hz rfl (x := .ref TI) rfl ?_)
  refine wpAny_bind (wpAny_seqItems hTI rfl ?_)
  dsimp only
  have hne : (itRefs B ts.length).toArray.isEmpty = false := by
    cases ts with
    | nil => exact absurd rfl ne
    | cons x xs => simp [itRefs]
  rw [if_neg (by rw [hne]; exact Bool.false_ne_true)]
  have free : wpAny (model prog w) A (Builtin.SmallTypes.ownedTupleIsFree (.ref z)) (fun r s' => r = false ∧ ∃ h1, s' = { s with heap := h1 } ∧ h1.get? z = some (ZObj (rawInt a) true TI TO) ∧ Heap.SameBut z s.heap h1) E s := by
    unfold Builtin.SmallTypes.ownedTupleIsFree
    refine wpAny_bind (wpAny_field hz rfl (x := rawInt a) rfl ?_)
    unfold rawInt
    dsimp only
    refine wpAny_bind (wpAny_loadAlive ?_)
    obtain ⟨oa, hoa⟩ := ha
    rw [Int.toNat_natCast, hoa]
    simp only [Option.isNone_some, Bool.false_eq_true, if_false]
    refine wpAny_bind (wpAny_field hz rfl (x := .bool b) rfl ?_)
    cases b with
    | true => exact wpAny_pure ⟨rfl, s.heap, rfl, hz, Heap.SameBut.refl ..⟩
    | false =>
      rw [if_pos (by decide)]
      refine wpAny_bind (wpAny_setField_rec hz (by simp) fun h1 hz1 hs1 => wpAny_pure ⟨rfl, h1, rfl, hz1, hs1⟩)
  refine wpAny_bind (wpAny_mono free (fun r s' hr => ?_) fun _ _ h => h)
  obtain ⟨rfl, h1, rfl, hz1, hs1⟩ := hr
  rw [if_neg Bool.false_ne_true]
  have S1 : Srcs h1 B ts i 0 := srcs_keep S fun c o hc q => hs1.extBut _ _ (fun e => by subst e; exact absurd hzB (Nat.not_le_of_lt hc)) q
  refine wpAny_bind (MeetsSeq2.wpAny_forIn_array _ (fun rest b s' => b.1 = none ∧ ∃ m h2, s' = { s with heap := h2 } ∧ rest = (itRefs B ts.length).drop m ∧ m ≤ ts.length ∧ b.2.toList = (colV ts i).take m ∧ Srcs h2 B ts i m ∧ h2.objs.size = h1.objs.size ∧
    ∀ c o, (c < B ∨ B + ts.length ≤ c) → h1.get? c = some o → h2.get? c = some o) _ (fun x rest b s' hI => ?_) (fun b s' hI => ?_) _ _ ⟨rfl, 0, h1, rfl, rfl, Nat.zero_le _, rfl, S1, rfl, fun _ _ _ q => q⟩)
  · obtain ⟨b1, m, h2, rfl, er, lm, eb, S2, z2, k2⟩ := hI
    obtain ⟨l, rfl, rfl⟩ := drop_refs er
    obtain ⟨t, its, et, a1, a2, a3⟩ := srcs_get S2 l
    rw [if_neg (Nat.lt_irrefl m)] at a2
    have hsz : its.size = n := hn _ (List.mem_of_getElem? et)
    have hx : its[i]? = some its[i] := Array.getElem?_eq_getElem (by omega)
    refine wpAny_bind (wpAny_holding ?_)
    show wpAny _ _ (Builtin.SmallTypes.nextOf (.ref (B + m)) >>= _) _ _ _
    refine wpAny_bind (wpAny_nextOf_tuple_item a2 a3 hx fun h3 i3 s3 => wpAny_pure ?_)
    refine wpAny_pure ⟨rfl, m + 1, h3, rfl, rfl, l, ?_, srcs_step S2 et i3 s3, s3.1.trans z2, fun c o hc q => s3.extBut _ _ (fun e => ?_) (k2 c o hc q)⟩
    · rw [Array.toList_push, eb, colV_take et hx]
    · subst e
      rcases hc with hc | hc
      · exact absurd hc (Nat.not_lt_of_le (Nat.le_add_right B m))
      · exact absurd l (Nat.not_lt_of_le (Nat.le_of_add_le_add_left hc))
  · obtain ⟨b1, m, h2, rfl, er, lm, eb, S2, z2, k2⟩ := hI
    have em : m = ts.length := by
      have := congrArg List.length er
      rw [List.length_drop, List.length_nil] at this
      simp [itRefs] at this
      omega
    subst em
    rw [b1]
    dsimp only
    refine wpAny_bind (wpAny_newTuple ?_ ?_)
    · have hz2 := k2 z _ (.inr hzB) hz1
      have sz : h2.objs.size = s.heap.objs.size := z2.trans hs1.1
      refine wpAny_pure ⟨_, rfl, ?_⟩
      show Q (.ref h2.objs.size) _
      rw [sz]
      refine hQ _ (Heap.get?_push_of_some _ hz2) (srcs_keep (srcs_all S2) fun c o _ q => Heap.get?_push_of_some _ q) ?_ (by rw [Heap.size_push, sz]) fun c o cz hc q => Heap.get?_push_of_some _ (k2 c o hc (hs1.extBut _ _ cz q))
      have e : b.snd.toList = colV ts i := by rw [eb, List.take_of_length_le (by unfold colV; rw [List.length_map]; exact Nat.le_refl _)]
      rw [← sz]
      show (Heap.push h2 _).get? _ = _
      rw [e]
      exact Heap.get?_push_size _ rfl
    · rw [eb]
      have : ts.length ≤ sizeLine := hlen
      unfold colV
      rw [List.length_take, List.length_map]
      omega
theorem drop_zip {B n m : Nat} {x : Value × Nat} {rest : List (Value × Nat)} (h : x :: rest = ((itRefs B n).zipIdx).drop m) : m < n ∧ x = (.ref (B + m), m) ∧ rest = ((itRefs B n).zipIdx).drop (m + 1) := by
  have l : m < n := Nat.lt_of_not_le fun z => by
    rw [List.drop_eq_nil_of_le (by simp [itRefs]; exact z)] at h
    cases h
  rw [List.drop_eq_getElem_cons (by simp [itRefs]; exact l)] at h
  cases h
  exact ⟨l, by simp [itRefs], rfl⟩
theorem zipN_first {B z TI TO : Addr} {ts : List (Addr × Array Value)} {i n : Nat} {os : List Value} {Q : Value → Shared → Prop}
    (hz : s.heap.get? z = some (ZObj .none false TI TO)) (hTI : IsTupN s.heap TI (itRefs B ts.length)) (hTO : IsTupN s.heap TO os) (los : os.length = ts.length) (S : Srcs s.heap B ts i 0) (hi : i < n) (hn : ∀ t ∈ ts, t.2.size = n)
    (hlen : ts.length ≤ sizeLine) (ne : ts ≠ []) (hzB : B + ts.length ≤ z) (hTB : B + ts.length ≤ TI) (hOB : B + ts.length ≤ TO) (zT : TI ≠ z) (zO : TO ≠ z) (TO' : TI ≠ TO)
    (hQ : ∀ h', h'.get? z = some (ZObj (rawInt s.heap.objs.size) false TI TO) → Srcs h' B ts (i + 1) 0 → IsTupN h' s.heap.objs.size (colV ts i) → h'.objs.size = s.heap.objs.size + 1 →
      (∀ c o, c ≠ z → c ≠ TO → (c < B ∨ B + ts.length ≤ c) → s.heap.get? c = some o → h'.get? c = some o) → Q (.ref s.heap.objs.size) { s with heap := h' }) :
    wpAny (model prog w) A (Builtin.«zip.__next__» ⟨[.ref z], []⟩) (fun fin s' => ∃ v, fin = .done (.ret v) ∧ Q v s') E s := by
  show wpAny _ _ (field (.ref z) 2 >>= _) _ _ _
  refine wpAny_bind (wpAny_field hz rfl (x := .bool false) rfl ?_)
  show wpAny _ _ (field (.ref z) 3 >>= _) _ _ _
  refine wpAny_bind (wpAny_field hz rfl (x := .ref TI) rfl ?_)
  refine wpAny_bind (wpAny_seqItems hTI rfl ?_)
  dsimp only
  have hne : (itRefs B ts.length).toArray.isEmpty = false := by
    cases ts with
    | nil => exact absurd rfl ne
    | cons x xs => simp [itRefs]
  rw [if_neg (by rw [hne]; exact Bool.false_ne_true)]
  refine wpAny_bind ?_
  unfold Builtin.SmallTypes.ownedTupleIsFree
  refine wpAny_bind (wpAny_field hz rfl (x := .none) rfl (wpAny_pure ?_))
  simp only [if_true]
  refine wpAny_bind (wpAny_rule ?_)
  refine wpAny_bind (wpAny_field hz rfl (x := .ref TO) rfl ?_)
  refine wpAny_bind (wpAny_setField_rec hz (by simp) fun h1 hz1 hs1 => ?_)
  replace hz1 : h1.get? z = some (ZObj .ellipsis false TI TO) := hz1
  replace hs1 : Heap.SameBut z s.heap h1 := hs1
  have S1 : Srcs h1 B ts i 0 := srcs_keep S fun c o hc q => hs1.extBut _ _ (fun e => by subst e; exact absurd hzB (Nat.not_le_of_lt hc)) q
  have hO1 : IsTupN h1 TO os := hs1.extBut _ _ zO hTO
  refine wpAny_bind (wpAny_forIn_list _ (fun rest b s' => b.1 = none ∧ ∃ m h2 vs, s' = { s with heap := h2 } ∧ rest = ((itRefs B ts.length).zipIdx).drop m ∧ m ≤ ts.length ∧ IsTupN h2 TO vs ∧ vs.length = ts.length ∧ vs.take m = (colV ts i).take m ∧ Srcs h2 B ts i m ∧ h2.objs.size = h1.objs.size ∧
    ∀ c o, c ≠ TO → (c < B ∨ B + ts.length ≤ c) → h1.get? c = some o → h2.get? c = some o) _ (fun x rest b s' hI => ?_) (fun b s' hI => ?_) _ _ ⟨rfl, 0, h1, os, rfl, rfl, Nat.zero_le _, hO1, los, rfl, S1, rfl, fun _ _ _ _ q => q⟩)
  · obtain ⟨b1, m, h2, vs, rfl, er, lm, hO2, lv, ev, S2, z2, k2⟩ := hI
    obtain ⟨l, rfl, rfl⟩ := drop_zip er
    obtain ⟨t, its, et, a1, a2, a3⟩ := srcs_get S2 l
    rw [if_neg (Nat.lt_irrefl m)] at a2
    have hsz : its.size = n := hn _ (List.mem_of_getElem? et)
    have hx : its[i]? = some its[i] := Array.getElem?_eq_getElem (by omega)
    have nO : TO ≠ B + m := fun e => by subst e; exact absurd l (Nat.not_lt_of_le (Nat.le_of_add_le_add_left hOB))
    dsimp only
    refine wpAny_bind (wpAny_onRaise ?_)
    show wpAny _ _ (Builtin.SmallTypes.nextOf (.ref (B + m)) >>= _) _ _ _
    refine wpAny_bind (wpAny_nextOf_tuple_item a2 a3 hx fun h3 i3 s3 => wpAny_pure ?_)
    replace s3 : Heap.SameBut (B + m) h2 h3 := s3
    have hO3 : IsTupN h3 TO vs := s3.extBut _ _ nO hO2
    dsimp only
    refine wpAny_bind (wpAny_seqItems (s := { s with heap := h3 }) hO3 rfl ?_)
    dsimp only
    refine wpAny_bind (wpAny_updateSeq (s := { s with heap := h3 }) hO3 rfl ?_)
    have hO4 := Heap.get?_update_self (Obj.mapSeq (·.setIfInBounds m its[i])) hO3 rfl
    have s4 : Heap.SameBut TO h3 (h3.update TO (Obj.mapSeq (·.setIfInBounds m its[i]))) := Heap.SameBut.update ..
    refine wpAny_bind (wpAny_letGo (wpAny_pure ⟨rfl, m + 1, _, vs.set m its[i], rfl, rfl, l, ?_, by rw [List.length_set, lv], ?_, ?_, s4.1.trans (s3.1.trans z2), fun c o cO hc q => s4.extBut _ _ cO (s3.extBut _ _ (fun e => ?_) (k2 c o cO hc q))⟩))
    · refine hO4.trans ?_
      simp [Obj.mapSeq]
    · have hm : m < vs.length := by omega
      rw [List.take_succ_eq_append_getElem (by rw [List.length_set]; exact hm), List.take_set_of_le (Nat.le_refl m), ev, colV_take et hx, List.getElem_set_self]
    · refine srcs_keep (srcs_step S2 et i3 s3) fun c o hc q => s4.extBut _ _ (fun e => ?_) q
      subst e
      exact absurd hOB (Nat.not_le_of_lt hc)
    · subst e
      rcases hc with hc | hc
      · exact absurd hc (Nat.not_lt_of_le (Nat.le_add_right B m))
      · exact absurd l (Nat.not_lt_of_le (Nat.le_of_add_le_add_left hc))
  · obtain ⟨b1, m, h2, vs, rfl, er, lm, hO2, lv, ev, S2, z2, k2⟩ := hI
    have em : m = ts.length := by
      have := congrArg List.length er
      rw [List.length_drop, List.length_nil] at this
      simp [itRefs] at this
      omega
    subst em
    have evs : vs = colV ts i := by
      rw [List.take_of_length_le (by omega), List.take_of_length_le (by unfold colV; rw [List.length_map]; exact Nat.le_refl _)] at ev
      exact ev
    subst evs
    rw [b1]
    dsimp only
    refine wpAny_bind (wpAny_seqItems (s := { s with heap := h2 }) hO2 rfl ?_)
    dsimp only
    have hz2 := k2 z _ (Ne.symm zO) (.inr hzB) hz1
    have sz : h2.objs.size = s.heap.objs.size := z2.trans hs1.1
    refine wpAny_bind (wpAny_newTuple ?_ ?_)
    · show wpAny _ _ (Builtin.SmallTypes.ownedTupleHandOut (.ref z) (.ref h2.objs.size) >>= _) _ _ _
      refine wpAny_bind ?_
      unfold Builtin.SmallTypes.ownedTupleHandOut
      have hz3 : (h2.push { cls := .type "tuple", data := .seq (colV ts i).toArray }).get? z = some (ZObj .ellipsis false TI TO) := Heap.get?_push_of_some _ hz2
      refine wpAny_bind (wpAny_setField_rec (s := { s with heap := h2.push { cls := .type "tuple", data := .seq (colV ts i).toArray } }) hz3 (by simp) fun h4 hz4 hs4 => ?_)
      replace hz4 : h4.get? z = some (ZObj (rawInt h2.objs.size) false TI TO) := hz4
      replace hs4 : Heap.SameBut z (h2.push { cls := .type "tuple", data := .seq (colV ts i).toArray }) h4 := hs4
      refine wpAny_setField_rec (s := { s with heap := h4 }) hz4 (by simp) fun h5 hz5 hs5 => ?_
      replace hz5 : h5.get? z = some (ZObj (rawInt h2.objs.size) false TI TO) := hz5
      replace hs5 : Heap.SameBut z h4 h5 := hs5
      have lz : z < h2.objs.size := Heap.lt_size hz2
      have up : ∀ c o, c ≠ z → h2.get? c = some o → h5.get? c = some o := fun c o c1 e => hs5.extBut _ _ c1 (hs4.extBut _ _ c1 (Heap.get?_push_of_some _ e))
      have hT5 : IsTupN h5 h2.objs.size (colV ts i) := hs5.extBut _ _ (Nat.ne_of_gt lz) (hs4.extBut _ _ (Nat.ne_of_gt lz) (Heap.get?_push_size _ rfl))
      have s5 : h5.objs.size = h2.objs.size + 1 := by rw [hs5.1, hs4.1, Heap.size_push]
      rw [sz] at hz5 hT5 s5
      refine wpAny_pure ⟨_, rfl, ?_⟩
      show Q (.ref h2.objs.size) _
      rw [sz]
      exact hQ h5 hz5 (srcs_keep (srcs_all S2) fun c o hc q => up c o (fun e => by subst e; exact absurd hzB (Nat.not_le_of_lt hc)) q) hT5 s5 fun c o cz cO hc q => up c o cz (k2 c o cO hc (hs1.extBut _ _ cz q))
    · have : ts.length ≤ sizeLine := hlen
      unfold colV
      simp
      omega
theorem zipN_end {B z TI TO a : Addr} {b : Bool} {ts : List (Addr × Array Value)} {n : Nat} {Q : Fin → Shared → Prop} (hh : A.handled = none)
    (hz : s.heap.get? z = some (ZObj (rawInt a) b TI TO)) (hTI : IsTupN s.heap TI (itRefs B ts.length)) (ha : ∃ o, s.heap.get? a = some o) (S : Srcs s.heap B ts n 0) (hn : ∀ t ∈ ts, t.2.size = n)
    (ne : ts ≠ []) (hzB : B + ts.length ≤ z)
    (hE : ∀ h' e, (∀ c o, c ≠ z → (c < B ∨ B + ts.length ≤ c) → s.heap.get? c = some o → h'.get? c = some o) → (∃ o, h'.get? e = some o ∧ o.cls = .type "StopIteration") → E (.ref e) { s with heap := h' }) :
    wpAny (model prog w) A (Builtin.«zip.__next__» ⟨[.ref z], []⟩) Q E s := by
  show wpAny _ _ (field (.ref z) 2 >>= _) _ _ _
  refine wpAny_bind (wpAny_field hz rfl (x := .bool false) rfl ?_)
  show wpAny _ _ (field (.ref z) 3 >>= _) _ _ _
  refine wpAny_bind (wpAny_field hz rfl (x := .ref TI) rfl ?_)
  refine wpAny_bind (wpAny_seqItems hTI rfl ?_)
  dsimp only
  obtain ⟨src, ts', rfl⟩ := List.exists_cons_of_ne_nil ne
  have hne : (itRefs B (src :: ts').length).toArray.isEmpty = false := by simp [itRefs]
  rw [if_neg (by rw [hne]; exact Bool.false_ne_true)]
  have free : wpAny (model prog w) A (Builtin.SmallTypes.ownedTupleIsFree (.ref z)) (fun r s' => r = false ∧ ∃ h1, s' = { s with heap := h1 } ∧ h1.get? z = some (ZObj (rawInt a) true TI TO) ∧ Heap.SameBut z s.heap h1) E s := by
    unfold Builtin.SmallTypes.ownedTupleIsFree
    refine wpAny_bind (wpAny_field hz rfl (x := rawInt a) rfl ?_)
    unfold rawInt
    dsimp only
    refine wpAny_bind (wpAny_loadAlive ?_)
    obtain ⟨oa, hoa⟩ := ha
    rw [Int.toNat_natCast, hoa]
    simp only [Option.isNone_some, Bool.false_eq_true, if_false]
    refine wpAny_bind (wpAny_field hz rfl (x := .bool b) rfl ?_)
    cases b with
    | true => exact wpAny_pure ⟨rfl, s.heap, rfl, hz, Heap.SameBut.refl ..⟩
    | false =>
      rw [if_pos (by decide)]
      refine wpAny_bind (wpAny_setField_rec hz (by simp) fun h1 hz1 hs1 => wpAny_pure ⟨rfl, h1, rfl, hz1, hs1⟩)
  refine wpAny_bind (wpAny_mono free (fun r s' hr => ?_) fun _ _ h => h)
  obtain ⟨rfl, h1, rfl, hz1, hs1⟩ := hr
  rw [if_neg Bool.false_ne_true]
  have S1 : Srcs h1 B (src :: ts') n 0 := srcs_keep S fun c o hc q => hs1.extBut _ _ (fun e => by subst e; exact absurd hzB (Nat.not_le_of_lt hc)) q
  obtain ⟨a1, a2, a3⟩ := S1 0 src.1 src.2 rfl
  rw [if_neg (Nat.lt_irrefl 0)] at a2
  refine wpAny_bind ?_
  rw [← Array.forIn_toList, List.toList_toArray, show itRefs B (src :: ts').length = .ref (B + 0) :: (itRefs B (src :: ts').length).drop 1 from by simp [itRefs, List.range_succ_eq_map], List.forIn_cons]
  refine wpAny_bind (wpAny_bind (wpAny_holding ?_))
  show wpAny _ _ (Builtin.SmallTypes.nextOf (.ref (B + 0)) >>= _) _ _ _
  refine wpAny_bind (wpAny_nextOf_tuple_end (s := { s with heap := h1 }) hh a2 a3 ?_ fun h2 e k2 he => ?_)
  · exact Array.getElem?_eq_none (by rw [hn src List.mem_cons_self]; exact Nat.le_refl _)
  · refine hE h2 e (fun c o cz hc q => k2 _ _ (fun z => ?_) (hs1.extBut _ _ cz q)) he
    rw [z] at hc
    rcases hc with hc | hc
    · exact absurd hc (Nat.not_lt_of_le (Nat.le_add_right B 0))
    · exact absurd hc (Nat.not_le_of_lt (Nat.add_lt_add_left (by rw [List.length_cons]; exact Nat.succ_pos _) B))
end
end NA
namespace NA
open PySem PySem.Spec PyProof.Rows L2
theorem F_zip_no_len : typeLookup (.type "zip") "__len__" = pure none := by rw [typeLookup_type, builtinLookup_eq_fast]; kernel_rfl
theorem F_zip_no_hint : typeLookup (.type "zip") "__length_hint__" = pure none := by rw [typeLookup_type, builtinLookup_eq_fast]; kernel_rfl
theorem typeCall_zipN (us : List Value) : checkTypeCall "zip" ⟨us, []⟩ = pure () := by kernel_rfl
theorem newCall_zip1 (a : Value) : checkBuiltinCall "zip.__new__" ⟨[.type "zip", a], []⟩ = pure () := by kernel_rfl
theorem newCall_zip3 (a b c : Value) : checkBuiltinCall "zip.__new__" ⟨[.type "zip", a, b, c], []⟩ = pure () := by kernel_rfl
theorem newCall_zip4 (a b c d : Value) : checkBuiltinCall "zip.__new__" ⟨[.type "zip", a, b, c, d], []⟩ = pure () := by kernel_rfl
theorem newCall_zip5 (a b c d e : Value) : checkBuiltinCall "zip.__new__" ⟨[.type "zip", a, b, c, d, e], []⟩ = pure () := by kernel_rfl
theorem newCall_zip6 (a b c d e f : Value) : checkBuiltinCall "zip.__new__" ⟨[.type "zip", a, b, c, d, e, f], []⟩ = pure () := by kernel_rfl
theorem newCall_zipN : ∀ us : List Value, us ≠ [] → us.length ≤ 6 → checkBuiltinCall "zip.__new__" ⟨.type "zip" :: us, []⟩ = pure ()
  | [], h, _ => absurd rfl h
  | [a], _, _ => newCall_zip1 a
  | [a, b], _, _ => F.newCall_zip_2 a b
  | [a, b, c], _, _ => newCall_zip3 a b c
  | [a, b, c, d], _, _ => newCall_zip4 a b c d
  | [a, b, c, d, e], _, _ => newCall_zip5 a b c d e
  | [a, b, c, d, e, f], _, _ => newCall_zip6 a b c d e f
  | _ :: _ :: _ :: _ :: _ :: _ :: _ :: _, _, h => by simp at h
theorem args_init_N (obj : Value) (us : List Value) : argsOk "object.__init__" ⟨obj :: us, []⟩ := by
  unfold argsOk; rw [signature?_of (id := "object.__init__") (n := ['_', '_', 't', 'i', 'n', 'i', '_', '_']) (o := ['t', 'c', 'e', 'j', 'b', 'o']) (by kernel_rfl) F.owner_object]; kernel_rfl
end NA
namespace NA
open PySem PySem.Spec PyProof.Rows L2
/-- as many new iterators, one behind the other -/
def pushIts (h : Heap) : List Addr → Heap
  | [] => h
  | t :: ts => pushIts (h.push { cls := .type "tuple_iterator", data := .fields #[.ref t, .int 0 0] }) ts
theorem pushIts_size : ∀ (ts : List Addr) (h : Heap), (pushIts h ts).objs.size = h.objs.size + ts.length
  | [], _ => rfl
  | t :: ts, h => by
    show (pushIts (h.push _) ts).objs.size = _
    rw [pushIts_size ts, Heap.size_push, List.length_cons]
    exact Nat.add_right_comm _ _ _
theorem pushIts_keep : ∀ (ts : List Addr) (h : Heap) (b : Addr) (o : Obj), h.get? b = some o → (pushIts h ts).get? b = some o
  | [], _, _, _, e => e
  | t :: ts, h, b, o, e => pushIts_keep ts _ b o (Heap.get?_push_of_some _ e)
theorem pushIts_at : ∀ (ts : List Addr) (h : Heap) (k : Nat) (t : Addr), ts[k]? = some t → (pushIts h ts).IsTupleIter (h.objs.size + k) t 0
  | [], _, _, _, e => by simp at e
  | t :: ts, h, 0, t', e => by
    cases Option.some.inj e
    exact ⟨_, pushIts_keep ts _ _ _ (Heap.get?_push_size h rfl), rfl, rfl⟩
  | t :: ts, h, k + 1, t', e => by
    have q := pushIts_at ts (h.push { cls := .type "tuple_iterator", data := .fields #[.ref t, .int 0 0] }) k t' (by simpa using e)
    rw [Heap.size_push] at q
    rwa [show h.objs.size + (k + 1) = h.objs.size + 1 + k from (by omega : h.objs.size + (k + 1) = h.objs.size + 1 + k)]
section
variable {prog : Program} {w : World} {A : Around} {E : Value → Shared → Prop} {s : Shared}
theorem iterAll_tuples {ts : List (Addr × Array Value)} {Q : List Value → Shared → Prop} (ht : ∀ t ∈ ts, s.heap.IsTuple t.1 t.2) (hQ : Q (itRefs s.heap.objs.size ts.length) { s with heap := pushIts s.heap (ts.map (·.1)) }) :
    wpAny (model prog w) A (Builtin.SmallTypes.iterAll (ts.map fun t => .ref t.1)) Q E s := by
  unfold Builtin.SmallTypes.iterAll
  refine wpAny_bind (wpAny_forIn_list _ (fun rest b s' => ∃ m, m ≤ ts.length ∧ rest = (ts.drop m).map (fun t => Value.ref t.1) ∧ b.toList = itRefs s.heap.objs.size m ∧ s' = { s with heap := pushIts s.heap ((ts.take m).map (·.1)) }) _ (fun x rest b s' hI => ?_) (fun b s' hI => ?_) _ _ ⟨0, Nat.zero_le _, rfl, rfl, rfl⟩)
  · obtain ⟨m, lm, er, eb, rfl⟩ := hI
    have l : m < ts.length := Nat.lt_of_not_le fun z => by
      rw [List.drop_eq_nil_of_le z] at er
      cases er
    rw [List.drop_eq_getElem_cons l, List.map_cons] at er
    cases er
    have hm : ts[m]? = some ts[m] := List.getElem?_eq_getElem l
    obtain ⟨o, ho, r⟩ := ht _ (List.getElem_mem l)
    refine wpAny_bind (wpAny_holding (wpAny_pyIter_tuple (s := { s with heap := pushIts s.heap ((ts.take m).map (·.1)) }) ⟨o, pushIts_keep _ _ _ _ ho, r⟩ (wpAny_pure ⟨m + 1, l, rfl, ?_, ?_⟩)))
    · show (b.push _).toList = _
      rw [Array.toList_push, eb, pushIts_size, List.length_map, List.length_take, Nat.min_eq_left lm]
      simp [itRefs, List.range_succ]
    · show (⟨Heap.push (pushIts s.heap _) _, _, _, _, _⟩ : Shared) = _
      have e : ∀ (l : List Addr) (h : Heap) (t : Addr), (pushIts h l).push { cls := .type "tuple_iterator", data := .fields #[.ref t, .int 0 0] } = pushIts h (l ++ [t]) := by
        intro l
        induction l with
        | nil => intro h t; rfl
        | cons y l ih => intro h t; exact ih _ t
      rw [e, List.take_add_one, hm, List.map_append]
      rfl
  · obtain ⟨m, lm, er, eb, rfl⟩ := hI
    have em : m = ts.length := by
      have := congrArg List.length er
      rw [List.length_map, List.length_drop, List.length_nil] at this
      omega
    subst em
    rw [List.take_length]
    show wpAny _ _ (pure b.toList) _ _ _
    rw [eb]
    exact wpAny_pure hQ
theorem newClass_zip (us : List Value) : Builtin.SmallTypes.newClass "zip" ⟨.type "zip" :: us, []⟩ = pure (.type "zip", us) := by
  unfold Builtin.SmallTypes.newClass
  simp only [isType, sub_zip, pure_bind, Bool.not_true, Bool.false_eq_true, if_false]
/-- the heap behind zip(*ts) -/
def zipHp (h : Heap) (ts : List (Addr × Array Value)) : Heap :=
  (((pushIts h (ts.map (·.1))).push { cls := .type "tuple", data := .seq (itRefs h.objs.size ts.length).toArray }).push { cls := .type "tuple", data := .seq (List.replicate ts.length Value.none).toArray }).push
    { cls := .type "zip", data := .fields #[.none, .bool false, .bool false, .ref (h.objs.size + ts.length), .ref (h.objs.size + ts.length + 1)] }
theorem zip_new_N (ts : List (Addr × Array Value)) (l6 : ts.length ≤ 6) : Meets (Builtin.«zip.__new__» ⟨.type "zip" :: ts.map (fun t => Value.ref t.1), []⟩)
    (fun _ R s => (∀ t ∈ ts, s.heap.IsTuple t.1 t.2) ∧ R (.ok (.ret (.ref (s.heap.objs.size + ts.length + 2)))) { s with heap := zipHp s.heap ts }) :=
  .of_wp fun prog w A R s h => by
    obtain ⟨ht, h⟩ := h
    unfold Builtin.«zip.__new__»
    refine wpAny_bind (wpAny_of_eq (newClass_zip _) ?_)
    dsimp only
    rw [if_neg (by decide)]
    refine wpAny_bind (iterAll_tuples ht ?_)
    have z0 : (pushIts s.heap (ts.map (·.1))).objs.size = s.heap.objs.size + ts.length := by rw [pushIts_size, List.length_map]
    refine wpAny_bind (wpAny_newTuple ?_ (by simp [itRefs]; exact Nat.le_trans l6 (by decide)))
    rw [show (itRefs s.heap.objs.size ts.length).map (fun _ => Value.none) = List.replicate ts.length Value.none from by rw [List.map_map]; exact List.ext_getElem (by simp) (by simp)]
    refine wpAny_bind (wpAny_newTuple ?_ (by simp; exact Nat.le_trans l6 (by decide)))
    show wpAny _ _ (newObj (.type "zip") (.fields #[.none, .bool false, .bool false, _, _]) >>= _) _ _ _
    refine wpAny_bind (wpAny_newObj_type ?_)
    refine wpAny_pure ⟨_, rfl, ?_⟩
    have z1 : ((pushIts s.heap (ts.map (·.1))).push { cls := .type "tuple", data := .seq (itRefs s.heap.objs.size ts.length).toArray }).objs.size = s.heap.objs.size + ts.length + 1 := by rw [Heap.size_push, z0]
    have z2 : (((pushIts s.heap (ts.map (·.1))).push { cls := .type "tuple", data := .seq (itRefs s.heap.objs.size ts.length).toArray }).push { cls := .type "tuple", data := .seq (List.replicate ts.length Value.none).toArray }).objs.size = s.heap.objs.size + ts.length + 2 := by rw [Heap.size_push, z1]
    rw [z2, z1, z0]
    exact h
theorem call_zipN {ts : List (Addr × Array Value)} {Q : Value → Shared → Prop} (ne : ts ≠ []) (l6 : ts.length ≤ 6) (ht : ∀ t ∈ ts, s.heap.IsTuple t.1 t.2)
    (h : ∀ h', h'.get? (s.heap.objs.size + ts.length + 2) = some (ZObj .none false (s.heap.objs.size + ts.length) (s.heap.objs.size + ts.length + 1)) → IsTupN h' (s.heap.objs.size + ts.length) (itRefs s.heap.objs.size ts.length) → IsTupN h' (s.heap.objs.size + ts.length + 1) (List.replicate ts.length Value.none) →
      Srcs h' s.heap.objs.size ts 0 0 → h'.objs.size = s.heap.objs.size + ts.length + 3 → (∀ c o, s.heap.get? c = some o → h'.get? c = some o) → Q (.ref (s.heap.objs.size + ts.length + 2)) { s with heap := h' }) :
    wpAny (model prog w) A (call (.type "zip") (ts.map fun t => Value.ref t.1)) Q E s := by
  refine callType_new F.called_zip (by decide) (typeCall_zipN _) (newCall_zipN _ (by simpa using ne) (by rw [List.length_map]; exact l6)) (fun obj => args_init_N obj _) F.entry_zip_new (zip_new_N ts l6) ⟨ht, ?_⟩
  have z0 : (pushIts s.heap (ts.map (·.1))).objs.size = s.heap.objs.size + ts.length := by rw [pushIts_size, List.length_map]
  have z1 : ((pushIts s.heap (ts.map (·.1))).push { cls := .type "tuple", data := .seq (itRefs s.heap.objs.size ts.length).toArray }).objs.size = s.heap.objs.size + ts.length + 1 := by rw [Heap.size_push, z0]
  have z2 : (((pushIts s.heap (ts.map (·.1))).push { cls := .type "tuple", data := .seq (itRefs s.heap.objs.size ts.length).toArray }).push { cls := .type "tuple", data := .seq (List.replicate ts.length Value.none).toArray }).objs.size = s.heap.objs.size + ts.length + 2 := by rw [Heap.size_push, z1]
  have g1 : IsTupN (zipHp s.heap ts) (s.heap.objs.size + ts.length) (itRefs s.heap.objs.size ts.length) := by
    have z := Heap.get?_push_size (pushIts s.heap (ts.map (·.1))) (o := { cls := .type "tuple", data := .seq (itRefs s.heap.objs.size ts.length).toArray }) rfl
    rw [z0] at z
    exact Heap.get?_push_of_some _ (Heap.get?_push_of_some _ z)
  have g2 : IsTupN (zipHp s.heap ts) (s.heap.objs.size + ts.length + 1) (List.replicate ts.length Value.none) := by
    have z := Heap.get?_push_size ((pushIts s.heap (ts.map (·.1))).push { cls := .type "tuple", data := .seq (itRefs s.heap.objs.size ts.length).toArray }) (o := { cls := .type "tuple", data := .seq (List.replicate ts.length Value.none).toArray }) rfl
    rw [z1] at z
    exact Heap.get?_push_of_some _ z
  have g3 : (zipHp s.heap ts).get? (s.heap.objs.size + ts.length + 2) = some (ZObj .none false (s.heap.objs.size + ts.length) (s.heap.objs.size + ts.length + 1)) := by
    have z := Heap.get?_push_size (((pushIts s.heap (ts.map (·.1))).push { cls := .type "tuple", data := .seq (itRefs s.heap.objs.size ts.length).toArray }).push { cls := .type "tuple", data := .seq (List.replicate ts.length Value.none).toArray }) (o := { cls := .type "zip", data := .fields #[.none, .bool false, .bool false, .ref (s.heap.objs.size + ts.length), .ref (s.heap.objs.size + ts.length + 1)] }) rfl
    rw [z2] at z
    exact z
  have kp : ∀ c o, (pushIts s.heap (ts.map (·.1))).get? c = some o → (zipHp s.heap ts).get? c = some o := fun c o e => Heap.get?_push_of_some _ (Heap.get?_push_of_some _ (Heap.get?_push_of_some _ e))
  show _ ∧ _
  refine ⟨⟨_, g3, rfl⟩, h _ g3 g1 g2 (fun k t its e => ?_) (by unfold zipHp; rw [Heap.size_push, z2]) fun c o e => kp c o (pushIts_keep _ _ _ _ e)⟩
  obtain ⟨o, ho, r⟩ := ht _ (List.mem_of_getElem? e)
  rw [if_neg (Nat.not_lt_zero k)]
  exact ⟨Heap.lt_size ho, (pushIts_at (ts.map (·.1)) s.heap k t (by rw [List.getElem?_map, e]; rfl)).at fun o q => kp _ o q, ⟨o, kp _ _ (pushIts_keep _ _ _ _ ho), r⟩⟩
/-- a turn of a zip, whatever turn it is -/
structure ZSt (h : Heap) (B : Addr) (ts : List (Addr × Array Value)) (i : Nat) : Prop where
  z : (i = 0 ∧ h.get? (B + ts.length + 2) = some (ZObj .none false (B + ts.length) (B + ts.length + 1)) ∧ ∃ os, os.length = ts.length ∧ IsTupN h (B + ts.length + 1) os) ∨ ∃ (a : Addr) (b : Bool), B + ts.length + 2 < a ∧ (∃ o, h.get? a = some o) ∧ h.get? (B + ts.length + 2) = some (ZObj (rawInt ((a : Nat) : Int)) b (B + ts.length) (B + ts.length + 1))
  ti : IsTupN h (B + ts.length) (itRefs B ts.length)
  src : Srcs h B ts i 0
theorem ZSt.typeIs {B : Addr} {ts : List (Addr × Array Value)} {i : Nat} (Z : ZSt s.heap B ts i) : s.TypeIs (.ref (B + ts.length + 2)) "zip" := by
  rcases Z.z with ⟨_, e, _⟩ | ⟨a, b, _, _, e⟩
  · exact ⟨_, e, rfl⟩
  · exact ⟨_, e, rfl⟩
theorem ZSt.keep {h h' : Heap} {B : Addr} {ts : List (Addr × Array Value)} {i : Nat} (Z : ZSt h B ts i) (k : ∀ c o, h.get? c = some o → h'.get? c = some o) : ZSt h' B ts i := by
  refine ⟨?_, k _ _ Z.ti, srcs_keep Z.src fun c o _ q => k c o q⟩
  rcases Z.z with ⟨e0, e, os, lo, e2⟩ | ⟨a, b, ab, ⟨o, ho⟩, e⟩
  · exact .inl ⟨e0, k _ _ e, os, lo, k _ _ e2⟩
  · exact .inr ⟨a, b, ab, ⟨o, k _ _ ho⟩, k _ _ e⟩
theorem ZSt.next {B : Addr} {ts : List (Addr × Array Value)} {i n : Nat} {Q : Option Value → Shared → Prop} (Z : ZSt s.heap B ts i) (hi : i < n) (hn : ∀ t ∈ ts, t.2.size = n) (l6 : ts.length ≤ 6) (ne : ts ≠ [])
    (hQ : ∀ h', ZSt h' B ts (i + 1) → IsTupN h' s.heap.objs.size (colV ts i) → h'.objs.size = s.heap.objs.size + 1 → (∀ c o, (c < B ∨ B + ts.length + 2 < c) → s.heap.get? c = some o → h'.get? c = some o) → Q (some (.ref s.heap.objs.size)) { s with heap := h' }) :
    wpAny (model prog w) A (pyNext (.ref (B + ts.length + 2))) Q E s := by
  have hT := Z.typeIs
  have l7 : ts.length ≤ sizeLine := Nat.le_trans l6 (by decide)
  have c1 : B + ts.length ≤ B + ts.length + 2 := Nat.le_add_right _ _
  have c2 : B + ts.length ≤ B + ts.length + 1 := Nat.le_add_right _ _
  have n1 : B + ts.length ≠ B + ts.length + 2 := Nat.ne_of_lt (Nat.lt_add_of_pos_right (by decide))
  have n2 : B + ts.length + 1 ≠ B + ts.length + 2 := Nat.ne_of_lt (Nat.lt_succ_self _)
  have n3 : B + ts.length ≠ B + ts.length + 1 := Nat.ne_of_lt (Nat.lt_succ_self _)
  have lz : B + ts.length + 2 < s.heap.objs.size := by
    obtain ⟨o, e, _⟩ := hT
    exact Heap.lt_size e
  have off : ∀ c, (c < B ∨ B + ts.length + 2 < c) → c ≠ B + ts.length + 2 ∧ c ≠ B + ts.length + 1 ∧ (c < B ∨ B + ts.length ≤ c) := fun c hc => by
    rcases hc with hc | hc
    · have a : c < B + ts.length := Nat.lt_of_lt_of_le hc (Nat.le_add_right B ts.length)
      exact ⟨Nat.ne_of_lt (Nat.lt_of_lt_of_le a c1), Nat.ne_of_lt (Nat.lt_of_lt_of_le a c2), .inl hc⟩
    · exact ⟨Nat.ne_of_gt hc, Nat.ne_of_gt (Nat.lt_trans (Nat.lt_succ_self _) hc), .inr (Nat.le_of_lt (Nat.lt_of_le_of_lt c1 hc))⟩
  unfold pyNext
  refine wpAny_bind (wpAny_attempt (wpAny_callSpecial?_slot (name := Str.ofString "__next__") hT F.slot_zip_next (wpAny_call_entry F.slot_zip_next hT F.entry_zip_next ?_ (F.args_zip_next_1 _))))
  rcases Z.z with ⟨e0, e, os, lo, e2⟩ | ⟨a, b, ab, ha, e⟩
  · subst e0
    refine zipN_first e Z.ti e2 lo Z.src hi hn l7 ne c1 (Nat.le_refl _) c2 n1 n2 n3 fun h' q1 q2 q3 q4 q5 => wpAny_pure (hQ h' ⟨.inr ⟨_, _, lz, ⟨_, q3⟩, q1⟩, q5 _ _ n1 n3 (.inr (Nat.le_refl _)) Z.ti, q2⟩ q3 q4 fun c o hc q => ?_)
    obtain ⟨d1, d2, d3⟩ := off c hc
    exact q5 c o d1 d2 d3 q
  · refine zipN_slow e Z.ti ha Z.src hi hn l7 ne c1 (Nat.le_refl _) n1 fun h' q1 q2 q3 q4 q5 => wpAny_pure (hQ h' ⟨.inr ⟨a, true, ab, ?_, q1⟩, q5 _ _ n1 (.inr (Nat.le_refl _)) Z.ti, q2⟩ q3 q4 fun c o hc q => ?_)
    · obtain ⟨o, ho⟩ := ha
      obtain ⟨d1, d2, d3⟩ := off a (.inr ab)
      exact ⟨o, q5 _ _ d1 d3 ho⟩
    · obtain ⟨d1, d2, d3⟩ := off c hc
      exact q5 c o d1 d3 q
theorem ZSt.stop {B : Addr} {ts : List (Addr × Array Value)} {n : Nat} {Q : Option Value → Shared → Prop} (hh : A.handled = none) (Z : ZSt s.heap B ts n) (n0 : n ≠ 0) (hn : ∀ t ∈ ts, t.2.size = n) (ne : ts ≠ [])
    (hQ : ∀ h', (∀ c o, (c < B ∨ B + ts.length + 2 < c) → s.heap.get? c = some o → h'.get? c = some o) → Q none { s with heap := h' }) :
    wpAny (model prog w) A (pyNext (.ref (B + ts.length + 2))) Q E s := by
  have hT := Z.typeIs
  unfold pyNext
  refine wpAny_bind (wpAny_attempt (wpAny_callSpecial?_slot (name := Str.ofString "__next__") hT F.slot_zip_next (wpAny_call_entry F.slot_zip_next hT F.entry_zip_next ?_ (F.args_zip_next_1 _))))
  rcases Z.z with ⟨e0, _⟩ | ⟨a, b, ab, ha, e⟩
  · exact absurd e0 n0
  · refine zipN_end hh e Z.ti ha Z.src hn ne (Nat.le_add_right _ _) fun h' x k hx => ?_
    obtain ⟨o, ho, hc⟩ := hx
    refine wpAny_bind (wpAny_isInstance (T := "StopIteration") (b := true) ⟨o, ho, hc⟩ isSubtype_stop ?_)
    refine wpAny_pure (hQ _ fun c o hc q => k c o ?_ ?_ q)
    · rcases hc with hc | hc
      · exact Nat.ne_of_lt (Nat.lt_of_lt_of_le hc (Nat.le_trans (Nat.le_add_right _ _) (Nat.le_add_right _ _)))
      · exact Nat.ne_of_gt hc
    · exact hc.elim .inl fun hc => .inr (Nat.le_of_lt (Nat.lt_of_le_of_lt (Nat.le_add_right _ _) hc))
/-- the refs of what is made, one behind the other -/
abbrev madeRefs (L : Addr) (n : Nat) : List Value := (List.range n).map fun k => Value.ref (L + 1 + k)
theorem codeAny_extendZ {R : Result → Shared → Prop} {B L : Addr} {ts : List (Addr × Array Value)} {n : Nat} (hh : A.handled = none) (n0 : n ≠ 0) (n9 : n ≤ 1000) (hn : ∀ t ∈ ts, t.2.size = n) (l6 : ts.length ≤ 6) (ne : ts ≠ []) (hL : B + ts.length + 2 < L) (res : Value) :
    ∀ (k i : Nat) (s : Shared), n - i = k → i ≤ n → ZSt s.heap B ts i → s.heap.objs.size = L + 1 + i → (∃ c, s.heap.get? L = some { cls := .type "list", dict := none, data := .seq (madeRefs L i).toArray c, slots := #[] }) →
      (∀ j, j < i → IsTupN s.heap (L + 1 + j) (colV ts j)) →
      (∀ h' c', h'.get? L = some { cls := .type "list", dict := none, data := .seq (madeRefs L n).toArray c', slots := #[] } → (∀ j, j < n → IsTupN h' (L + 1 + j) (colV ts j)) → (∀ b o, b < B → s.heap.get? b = some o → h'.get? b = some o) → R (.ok (.ret res)) { s with heap := h' }) →
      codeAny (model prog w) A (.builtin "list.extend.loop" ⟨[.ref L, .ref (B + ts.length + 2), res], []⟩) R s := by
  have bL : ∀ b, b < B → b ≠ L := fun b hb => Nat.ne_of_lt (Nat.lt_trans (Nat.lt_of_lt_of_le hb (Nat.le_trans (Nat.le_add_right B ts.length) (Nat.le_add_right _ 2))) hL)
  intro k
  induction k with
  | zero =>
    intro i s hk hi Z hsz ⟨c, hS⟩ hm hR
    have hin : i = n := by omega
    subst hin
    refine codeAny_builtin F.entry_extend_loop ?_
    rw [Around.under_plainId F.plain_extend_loop _]
    show wpAny _ A.in1 (pyNext (.ref (B + ts.length + 2)) >>= _) _ _ s
    refine wpAny_bind (Z.stop (A := A.in1) hh n0 hn ne fun h' kp => ?_)
    exact wpAny_pure (hR h' c (kp _ _ (.inr hL) hS) (fun j hj => kp _ _ (.inr (Nat.lt_trans hL (Nat.lt_of_lt_of_le (Nat.lt_succ_self L) (Nat.le_add_right _ _)))) (hm j hj)) fun b o hb q => kp b o (.inl hb) q)
  | succ k ih =>
    intro i s hk hi Z hsz ⟨c, hS⟩ hm hR
    have hlt : i < n := by omega
    refine codeAny_builtin F.entry_extend_loop ?_
    rw [Around.under_plainId F.plain_extend_loop _]
    show wpAny _ A.in1 (pyNext (.ref (B + ts.length + 2)) >>= _) _ _ s
    refine wpAny_bind (Z.next (A := A.in1) hlt hn l6 ne fun h1 Z1 q2 q3 kp => ?_)
    have hS1 := kp _ _ (.inr hL) hS
    have len : (madeRefs L i).length = i := by simp [madeRefs]
    show wpAny _ A.in1 (updateSeq L (·.push (.ref s.heap.objs.size)) >>= _) _ _ _
    refine wpAny_bind ?_
    have oth : ∀ b o, b ≠ L → h1.get? b = some o → (h1.update L (Obj.mapSeq (·.push (.ref s.heap.objs.size)))).get? b = some o := fun b o hb e => (Heap.get?_update_other _ _ (Ne.symm hb)).trans e
    have hS5 := (Heap.get?_update_self (Obj.mapSeq (·.push (.ref s.heap.objs.size))) hS1 rfl).trans (congrArg some (show Obj.mapSeq (·.push (.ref s.heap.objs.size)) { cls := .type "list", dict := none, data := .seq (madeRefs L i).toArray c, slots := #[] } = { cls := .type "list", dict := none, data := .seq ((madeRefs L i).toArray.push (.ref s.heap.objs.size)) _, slots := #[] } from rfl))
    have zL : ∀ j, L + 1 + j ≠ L := fun j => Nat.ne_of_gt (Nat.lt_of_lt_of_le (Nat.lt_succ_self L) (Nat.le_add_right _ _))
    refine wpAny_updateSeq (s := { s with heap := h1 }) hS1 rfl (wpAny_pure ⟨plainId_quiet F.plain_extend_loop _, ih (i + 1) { s with heap := h1.update L (Obj.mapSeq (·.push (.ref s.heap.objs.size))) } (by omega) hlt ?_ ?_ ?_ ?_ fun h2 c' e1 e2 e3 => ?_⟩) (by rw [List.size_toArray, len]; exact Nat.le_trans (Nat.le_of_lt hlt) (Nat.le_trans n9 (by decide))) (by show ((madeRefs L i).toArray.push _).size ≤ sizeLine + 1; rw [Array.size_push, List.size_toArray, len]; exact Nat.succ_le_succ (Nat.le_trans (Nat.le_of_lt hlt) (Nat.le_trans n9 (by decide))))
    · refine ⟨?_, oth _ _ ?_ Z1.ti, srcs_keep Z1.src fun c o hc q => oth c o ?_ q⟩
      · rcases Z1.z with ⟨e0, _⟩ | ⟨a, b, ab, ⟨o, ho⟩, e⟩
        · exact absurd e0 (Nat.succ_ne_zero i)
        · refine .inr ⟨a, b, ab, ?_, oth _ _ (Nat.ne_of_lt hL) e⟩
          by_cases z : a = L
          · subst z
            exact ⟨_, Heap.get?_update_self _ hS1 rfl⟩
          · exact ⟨o, oth _ _ z ho⟩
      · exact Nat.ne_of_lt (Nat.lt_of_le_of_lt (Nat.le_add_right _ 2) hL)
      · exact Nat.ne_of_lt (Nat.lt_trans (Nat.lt_of_lt_of_le hc (Nat.le_add_right _ 2)) hL)
    · show (h1.update _ _).objs.size = _
      rw [(Heap.SameBut.update ..).1, q3, hsz]
      exact Nat.add_assoc _ _ _
    · have e : (madeRefs L (i + 1)).toArray = (madeRefs L i).toArray.push (.ref s.heap.objs.size) := by
        rw [hsz]
        simp [madeRefs, List.range_succ]
      rw [e]
      exact ⟨_, hS5⟩
    · intro j hj
      by_cases e : j = i
      · subst e
        have := q2
        rw [hsz] at this
        exact oth _ _ (zL j) this
      · exact oth _ _ (zL j) (kp _ _ (.inr (Nat.lt_trans hL (Nat.lt_of_lt_of_le (Nat.lt_succ_self L) (Nat.le_add_right _ _)))) (hm j (by omega)))
    · exact hR h2 c' e1 e2 fun b o hb q => e3 b o hb (oth b o (bL b hb) (kp b o (.inl hb) q))
/-- list(z), z a zip that was just made -/
theorem call_listZ {B : Addr} {ts : List (Addr × Array Value)} {n : Nat} {Q : Value → Shared → Prop} (hh : A.handled = none) (n0 : n ≠ 0) (n9 : n ≤ 1000) (hn : ∀ t ∈ ts, t.2.size = n) (l6 : ts.length ≤ 6) (ne : ts ≠ []) (Z : ZSt s.heap B ts 0) (hsz : s.heap.objs.size = B + ts.length + 3)
    (hQ : ∀ h' c, h'.get? (B + ts.length + 3) = some { cls := .type "list", dict := none, data := .seq (madeRefs (B + ts.length + 3) n).toArray c, slots := #[] } → (∀ j, j < n → IsTupN h' (B + ts.length + 3 + 1 + j) (colV ts j)) → (∀ b o, b < B → s.heap.get? b = some o → h'.get? b = some o) → Q (.ref (B + ts.length + 3)) { s with heap := h' }) :
    wpAny (model prog w) A (call (.type "list") [.ref (B + ts.length + 2)]) Q E s := by
  refine callType_codes (Q₁ := fun obj s₁ => obj = .ref s.heap.objs.size ∧ s₁ = { s with heap := s.heap.push { cls := .type "list", data := .seq #[] } }) F.called_list (F.typeCall_list_1 _) F.entry_list_init
    (code_list_new _ ⟨rfl, rfl⟩) fun obj s₁ h₁ => ?_
  obtain ⟨rfl, rfl⟩ := h₁
  have hS : (s.heap.push { cls := .type "list", data := .seq #[] }).get? s.heap.objs.size = some { cls := .type "list", data := .seq #[] } := Heap.get?_push_size _ rfl
  refine ⟨⟨_, hS, rfl⟩, F.args_list_init_2 _ _, ?_⟩
  have hSa : s.heap.objs.size ≠ B + ts.length + 2 := by rw [hsz]; exact Nat.ne_of_gt (Nat.lt_succ_self _)
  show wpAny _ A.in1.in1 (do let old ← Builtin.List.listItems (.ref s.heap.objs.size); Builtin.List.listUpdate (.ref s.heap.objs.size) (fun _ => #[]); letGo old.toList.reverse; Builtin.List.listExtendWith (.ref s.heap.objs.size) (.ref (B + ts.length + 2)) .none) _ _ _
  refine wpAny_bind ?_
  unfold Builtin.List.listItems
  refine wpAny_bind (wpAny_seqItems hS rfl (wpAny_pure ?_))
  show wpAny _ A.in1.in1 (updateSeq s.heap.objs.size (fun _ => #[]) >>= fun _ => letGo (#[] : Array Value).toList.reverse >>= fun _ => Builtin.List.listExtendWith (.ref s.heap.objs.size) (.ref (B + ts.length + 2)) .none) _ _ _
  refine wpAny_bind (wpAny_updateSeq hS rfl ?_)
  have hS2 := Heap.get?_update_self (Obj.mapSeq (fun _ => (#[] : Array Value))) hS rfl
  refine wpAny_bind (wpAny_letGo ?_)
  unfold Builtin.List.listExtendWith
  have up : ∀ (h : Heap) (f : Obj → Obj), (∀ b o, s.heap.get? b = some o → h.get? b = some o) → ∀ b o, s.heap.get? b = some o → (h.update s.heap.objs.size f).get? b = some o := fun h f q b o e =>
    (Heap.get?_update_other _ _ (Ne.symm (Nat.ne_of_lt (Heap.lt_size e)))).trans (q b o e)
  have k1 : ∀ b o, s.heap.get? b = some o → (s.heap.push { cls := .type "list", data := .seq #[] }).get? b = some o := fun b o e => Heap.get?_push_of_some _ e
  have k2 := up _ (Obj.mapSeq (fun _ => (#[] : Array Value))) k1
  refine wpAny_bind (wpAny_typeOf (ZSt.typeIs (s := { s with heap := _ }) (Z.keep k2)) ?_)
  have h1 : Builtin.List.listSameRef (.ref s.heap.objs.size) (.ref (B + ts.length + 2)) = false := by simp [Builtin.List.listSameRef, hSa]
  have h2 : (Value.type "zip" == Value.type "list") = false := by decide
  have h3 : (Value.type "zip" == Value.type "tuple") = false := by decide
  simp only [h1, h2, h3, Bool.or_false, Bool.false_eq_true, if_false]
  have zobj := (Z.keep k2).z
  have goIter : ∀ {Q' : Value → Shared → Prop} {E' : Value → Shared → Prop} {A' : Around} {h : Heap}, ZSt h B ts 0 → Q' (.ref (B + ts.length + 2)) { s with heap := h } → wpAny (model prog w) A' (pyIter (.ref (B + ts.length + 2))) Q' E' { s with heap := h } := fun {Q' E' A' h} z q => by
    have hT : (({ s with heap := h } : Shared)).TypeIs (.ref (B + ts.length + 2)) "zip" := ZSt.typeIs (s := { s with heap := h }) z
    refine wpAny_pyIter_slot hT F.slot_zip_iter (wpAny_call_entry F.slot_zip_iter hT F.entry_zip_iter ?_ (F.args_zip_iter_1 _))
    show wpAny _ _ (ret (.ref (B + ts.length + 2))) _ _ _
    exact wpAny_pure ⟨_, rfl, "zip", _, hT, F.slot_zip_next.lookup, q⟩
  refine wpAny_bind (goIter (Z.keep k2) ?_)
  refine wpAny_bind (wpAny_holding ?_)
  unfold Builtin.List.listLengthHint
  refine wpAny_bind (wpAny_specialOf (ZSt.typeIs (s := { s with heap := _ }) (Z.keep k2)) F_zip_no_len ?_)
  show wpAny _ A.in1.in1 (specialOf (Value.ref (B + ts.length + 2)) (Str.ofString "__length_hint__") >>= _) _ _ _
  refine wpAny_bind (wpAny_specialOf (ZSt.typeIs (s := { s with heap := _ }) (Z.keep k2)) F_zip_no_hint ?_)
  refine wpAny_pure ?_
  show wpAny _ A.in1.in1 (rule "list.extend.makes-room" >>= fun _ => Builtin.List.listTouch (.ref s.heap.objs.size) >>= fun _ =>
    again (.builtin "list.extend.loop" ⟨[.ref s.heap.objs.size, .ref (B + ts.length + 2), .none], []⟩)) _ _ _
  refine wpAny_bind (wpAny_rule ?_)
  refine wpAny_bind ?_
  show wpAny _ A.in1.in1 (updateSeq s.heap.objs.size (·.push .none) >>= fun _ => updateSeq s.heap.objs.size (·.pop)) _ _ _
  refine wpAny_bind (wpAny_updateSeq hS2 rfl ?_)
  have hS3 := Heap.get?_update_self (Obj.mapSeq (·.push Value.none)) hS2 rfl
  refine wpAny_updateSeq (hz := by seq_fits) hS3 rfl ?_
  have hS4 := Heap.get?_update_self (Obj.mapSeq (·.pop)) hS3 rfl
  have k4 := up _ (Obj.mapSeq (·.pop)) (up _ (Obj.mapSeq (·.push Value.none)) k2)
  refine wpAny_pure ⟨plainId_quiet F.plain_extend_loop _, ?_⟩
  refine codeAny_extendZ (A := A.in1) (L := s.heap.objs.size) hh n0 n9 hn l6 ne (by rw [hsz]; exact Nat.lt_succ_self _) _ n 0 _ rfl (Nat.zero_le _) (Z.keep k4) ?_ ⟨_, hS4⟩ (fun j hj => absurd hj (Nat.not_lt_zero j)) fun h' c' e1 e2 e3 => ⟨rfl, ?_⟩
  · show (Heap.update (Heap.update (Heap.update (Heap.push s.heap _) _ _) _ _) _ _).objs.size = _
    rw [(Heap.SameBut.update ..).1, (Heap.SameBut.update ..).1, (Heap.SameBut.update ..).1, Heap.size_push]
  · rw [hsz] at e1 e2 ⊢
    exact hQ h' c' e1 e2 fun b o hb q => e3 b o hb (k4 b o q)
end
end NA
namespace NA
open PySem PySem.Spec PyProof.Rows L2
/-! ### list(zip(*t)), t a tuple of tuples of one length -/
theorem Inv.many {X : Cx} {pins : List (Addr × Obj)} {σ : L2.St} {H : Hp} {s : Shared} {h' : Heap} {tk : Nat} (I : Inv X pins σ H s) (N : Addr → Option HO)
    (hk : ∀ b o, s.heap.get? b = some o → h'.get? b = some o) (hN : ∀ b u, N b = some u → s.heap.objs.size ≤ b) (new : ∀ (H' : Hp) b u, N b = some u → ObjOk X.prog X.w H' h' b u) :
    Inv X pins σ (fun b => (N b).or (H b)) { s with heap := h', toks := tk } := by
  have low : ∀ b o, s.heap.get? b = some o → N b = none := fun b o e => by
    cases z : N b with
    | none => rfl
    | some u => exact absurd (Heap.lt_size e) (Nat.not_lt.mpr (hN b u z))
  have fr : ∀ b u, N b = some u → H b = none := fun b u z => I.hok.fresh (hN b u z)
  have kp : ∀ b u, H b = some u → ((N b).or (H b)) = some u := fun b u e => by
    cases z : N b with
    | none => exact e
    | some v => rw [fr b v z] at e; cases e
  refine I.call' (ch := []) rfl ⟨fun b o q _ _ _ => hk b o q, fun b o q _ _ _ => ⟨o.slots, hk b o q⟩, fun b o q n _ => ?_, fun b o q _ => ⟨o, hk b o q⟩, fun b xs q => kp b _ q, fun b o u q => kp b _ q, fun b ps q => ⟨#[], by rw [kp b _ q]; simp⟩⟩ (fun b u q => ?_) I.bare fun b z => by simp at z
  · show (N b).or (H b) = none
    rw [low b o q]
    exact n
  · cases z : N b with
    | none =>
      have q' : H b = some u := by
        have : (N b).or (H b) = some u := q
        rw [z] at this
        exact this
      exact (I.hok b u q').stay (fun d v _ y => hk d v y) (fun d y => kp d _ y) fun d xs y => kp d _ y
    | some v =>
      have q' : (N b).or (H b) = some u := q
      rw [z] at q'
      cases q'
      exact new _ b _ z
/-- the column j of rows -/
def colOf (rows : List (Addr × List V)) (j : Nat) : List V := rows.map fun r => r.2.getD j .non
def tLZ (K : PySem.W.Frag) (te : TE) : TE := fun σ H Q => te σ H fun y H1 => ∃ (a : Addr) (rows : List (Addr × List V)) (n : Nat), y = .ref a ∧ SqT K H1 a (rows.map fun r => V.ref r.1) ∧ (∀ r ∈ rows, SqT K H1 r.1 r.2 ∧ r.2.length = n) ∧ n ≠ 0 ∧ n ≤ 1000 ∧ rows ≠ [] ∧ rows.length ≤ 6 ∧
  ∀ (as : List Addr) (l : Addr) (H2 : Hp), as.length = n → Same H1 H2 → H1 l = none → (∀ b ∈ as, H1 b = none) → H2 l = some (.lst (as.map V.ref)) → (∀ (j : Nat) (b : Addr), as[j]? = some b → H2 b = some (.tup (colOf rows j))) → Q (.ref l) H2
theorem rows_src {X : Cx} {pins : List (Addr × Obj)} {σ : L2.St} {H : Hp} {s : Shared} {n : Nat} (I : Inv X pins σ H s) : ∀ (rows : List (Addr × List V)), (∀ r ∈ rows, SqT X.K H r.1 r.2 ∧ r.2.length = n) →
    ∃ ts : List (Addr × Array Value), ts.map (·.1) = rows.map (·.1) ∧ (∀ t ∈ ts, s.heap.IsTuple t.1 t.2 ∧ t.2.size = n) ∧ ∀ (j : Nat), j < n → Vals (colOf rows j) (colV ts j)
  | [], _ => ⟨[], rfl, (fun t h => absurd h List.not_mem_nil), fun j _ => .nil⟩
  | r :: rows, h => by
    obtain ⟨ts, e1, e2, e3⟩ := rows_src I rows fun x hx => h x (List.mem_cons_of_mem _ hx)
    obtain ⟨sq, ln⟩ := h r List.mem_cons_self
    obtain ⟨its, rv, o⟩ := src_of (k := .t) I sq
    have lv := rv.length
    refine ⟨(r.1, its.toArray) :: ts, by rw [List.map_cons, List.map_cons, e1], fun t ht => ?_, fun j hj => ?_⟩
    · rcases List.mem_cons.mp ht with e | ht
      · rw [e]
        exact ⟨o, by show its.toArray.size = n; rw [List.size_toArray]; omega⟩
      · exact e2 t ht
    · refine .cons ?_ (e3 j hj)
      have hj' : r.2[j]? = some r.2[j] := List.getElem?_eq_getElem (by omega)
      obtain ⟨u, hu, ru⟩ := rv.get hj'
      show RelV (r.2.getD j .non) (its.toArray.getD j .none)
      have a1 : r.2.getD j .non = r.2[j] := by rw [List.getD_eq_getElem?_getD, hj']; rfl
      obtain ⟨l, g⟩ := List.getElem?_eq_some_iff.mp hu
      have a2 : its.toArray.getD j .none = u := by simp [Array.getD, l, g]
      rw [a1, a2]
      exact ru
theorem vals_refs_eq : ∀ {as : List Addr} {us : List Value}, Vals (as.map V.ref) us → us = as.map Value.ref
  | [], _, h => by cases h; rfl
  | a :: as, _, h => by
    cases h with
    | cons r t =>
      have e : _ = Value.ref a := r
      rw [e, vals_refs_eq t]
      rfl
theorem pe_listZipS {X : Cx} (K : PySem.W.Frag) (hK : X.K = K) {e : Expr} {te : TE} {p p2 p3 sp pos : Pos} (hc : X.calm = true) (hg : Gl X "list") (hm : X.mg "list" = none) (hg2 : Gl X "zip") (hm2 : X.mg "zip" = none) (he : PE X e te)
    (hs : starEach [.Call (.Name "zip" p2) [.Starred e sp] [] p3] X.env = (false, eval (.Call (.Name "zip" p2) [.Starred e sp] [] p3) X.env) :: starEach [] X.env := by rfl)
    (hst : starEach [.Starred e sp] X.env = [(true, eval e X.env)] := by rfl) :
    PE X (.Call (.Name "list" p) [.Call (.Name "zip" p2) [.Starred e sp] [] p3] [] pos) (tLZ K te) := by
  subst hK
  refine ⟨fun pins s σ H Q I h => ?_⟩
  refine wpAny_Call_Name_kw (ld_blt I hg hm (show bootBuiltins "list" = some (.type "list") by decide +kernel) ?_)
  refine PyProof.Rows.callWith_type1 ?_ hs rfl
  rw [hs]
  show wpAny _ _ (spliced ((false, eval (.Call (.Name "zip" p2) [.Starred e sp] [] p3) X.env) :: backTo pos (starEach [] X.env))) _ _ s
  refine Calls.spliced_cons ?_
  refine wpAny_Call_Name_kw (ld_blt I hg2 hm2 boot_zip ?_)
  rw [hst]
  refine PySem.W.ks_call (P := fun _ => True) rfl (fun h _ => ⟨.machine, .inr (.inl rfl), PySem.W.Looks.of_pure rfl⟩) (PySem.W.ks_lone (thn (he.run pins s σ H _ I h) fun v s1 ⟨y, H1, I1, ry, a, rows, n, ey, hx, hr, n0, n9, ne, l6, q⟩ => ?_))
  subst ey
  obtain rfl : v = Value.ref a := ry
  refine StX.star_any I1 (.inl hx) fun us s2 I2 rv => ⟨trivial, ?_⟩
  obtain ⟨ts, t1, t2, t3⟩ := rows_src I2 rows hr
  have eus : us = ts.map fun t => Value.ref t.1 := by
    have : rows.map (fun r => V.ref r.1) = (rows.map (·.1)).map V.ref := by rw [List.map_map]; rfl
    rw [this] at rv
    rw [vals_refs_eq rv, ← t1, List.map_map]
    rfl
  have lts : ts.length = rows.length := by
    have := congrArg List.length t1
    rwa [List.length_map, List.length_map] at this
  have nets : ts ≠ [] := fun z => by
    rw [z] at lts
    exact ne (List.eq_nil_of_length_eq_zero lts.symm)
  subst eus
  refine call_zipN nets (by omega) (fun t ht => (t2 t ht).1) fun h1 z1 z2 z3 z4 z5 kp => ?_
  refine Calls.spliced_nil ?_
  have Z : ZSt h1 s2.heap.objs.size ts 0 := ⟨.inl ⟨rfl, z1, _, List.length_replicate .., z3⟩, z2, z4⟩
  refine call_listZ (s := { s2 with heap := h1 }) (I.ok.hd hc) n0 n9 (fun t ht => (t2 t ht).2) (by omega) nets Z z5 fun h2 c e1 e2 e3 => ?_
  have kp2 : ∀ b o, s2.heap.get? b = some o → h2.get? b = some o := fun b o e => e3 b o (Heap.lt_size e) (kp b o e)
  generalize hL : s2.heap.objs.size + ts.length + 3 = L at *
  have lL : s2.heap.objs.size ≤ L := by rw [← hL]; exact Nat.le_trans (Nat.le_add_right _ _) (Nat.le_add_right _ _)
  -- what is new
  have hN : ∃ N : Addr → Option HO, N L = some (.lst ((List.range n).map fun k => V.ref (L + 1 + k))) ∧ (∀ j, j < n → N (L + 1 + j) = some (.tup (colOf rows j))) ∧ ∀ b u, N b = some u → (b = L ∧ u = .lst ((List.range n).map fun k => V.ref (L + 1 + k))) ∨ ∃ j, j < n ∧ b = L + 1 + j ∧ u = .tup (colOf rows j) := by
    refine ⟨fun b => if b = L then some (.lst ((List.range n).map fun k => V.ref (L + 1 + k))) else if L < b ∧ b < L + 1 + n then some (.tup (colOf rows (b - L - 1))) else none, if_pos rfl, fun j hj => ?_, fun b u hb => ?_⟩
    · have a1 : L + 1 + j ≠ L := Nat.ne_of_gt (Nat.lt_of_lt_of_le (Nat.lt_succ_self L) (Nat.le_add_right _ _))
      have a2 : L < L + 1 + j := Nat.lt_of_lt_of_le (Nat.lt_succ_self L) (Nat.le_add_right _ _)
      have a3 : L + 1 + j < L + 1 + n := Nat.add_lt_add_left hj _
      have a4 : L + 1 + j - L - 1 = j := by rw [Nat.sub_sub, Nat.add_sub_cancel_left]
      simp only [if_neg a1, if_pos (And.intro a2 a3), a4]
    · dsimp only at hb
      by_cases b1 : b = L
      · rw [if_pos b1] at hb
        exact .inl ⟨b1, (Option.some.inj hb).symm⟩
      · rw [if_neg b1] at hb
        by_cases b2 : L < b ∧ b < L + 1 + n
        · rw [if_pos b2] at hb
          refine .inr ⟨b - L - 1, ?_, ?_, (Option.some.inj hb).symm⟩
          · rw [Nat.sub_sub]
            exact Nat.sub_lt_left_of_lt_add b2.1 b2.2
          · rw [Nat.sub_sub, Nat.add_sub_cancel' b2.1]
        · rw [if_neg b2] at hb
          cases hb
  obtain ⟨N, N1, N2, N3⟩ := hN
  have lowN : ∀ b u, N b = some u → s2.heap.objs.size ≤ b := fun b u z => by
    rcases N3 b u z with ⟨rfl, _⟩ | ⟨j, _, rfl, _⟩
    · exact lL
    · exact Nat.le_trans lL (Nat.le_trans (Nat.le_succ L) (Nat.le_add_right _ _))
  have J := Inv.many (tk := s2.toks) I2 N kp2 lowN (fun H' b u z => by
    rcases N3 b u z with ⟨eb, rfl⟩ | ⟨j, hj, rfl, rfl⟩
    · rw [eb]
      refine ⟨by rw [List.length_map, List.length_range]; exact Nat.le_trans n9 (by decide), madeRefs L n, c, ?_, ?_⟩
      · have : ∀ m, Vals ((List.range m).map fun k => V.ref (L + 1 + k)) ((List.range m).map fun k => Value.ref (L + 1 + k)) := fun m => by
          have := LiI.vals_refs ((List.range m).map fun k => L + 1 + k)
          rw [List.map_map, List.map_map] at this
          exact this
        exact this n
      · exact e1
    · have lc : (colOf rows j).length ≤ sizeLine := by
        unfold colOf
        rw [List.length_map]
        exact Nat.le_trans l6 (by decide)
      exact ⟨lc, colV ts j, t3 j hj, ⟨_, e2 j hj, rfl, _, rfl⟩⟩)
  have fr : ∀ b u, N b = some u → H1 b = none := fun b u z => I2.hok.fresh (lowN b u z)
  refine ⟨.ref L, _, J, rfl, ?_⟩
  have q' := q ((List.range n).map fun k => L + 1 + k) L (fun b => (N b).or (H1 b)) (by rw [List.length_map, List.length_range]) (fun b u e => by
    show (N b).or (H1 b) = some u
    cases z : N b with
    | none => exact e
    | some v => rw [fr b v z] at e; cases e) (fr L _ N1) (fun b hb => by
      obtain ⟨j, hj, rfl⟩ := List.mem_map.mp hb
      exact fr _ _ (N2 j (List.mem_range.mp hj))) (by
      show (N L).or (H1 L) = _
      rw [N1, List.map_map]
      rfl) (fun j b hb => by
      rw [List.getElem?_map] at hb
      have lj : j < n := Nat.lt_of_not_le fun z => by
        rw [List.getElem?_eq_none (by rw [List.length_range]; exact z)] at hb
        cases hb
      rw [List.getElem?_eq_getElem (by rw [List.length_range]; exact lj), List.getElem_range] at hb
      cases hb
      show (N (L + 1 + j)).or _ = _
      rw [N2 j lj]
      rfl)
  exact q'
end NA
namespace NA
open PySem PySem.Spec PyProof.Rows L2
/-! ### a range kept in a name -/
theorem cr_rangeV1 {X : Cx} : CallR X (.type "range") (fun vs H Q => ∃ j, vs = [V.int j] ∧ ∀ p, H p = none → Q (.ref p) (upd H p (.rng 0 j))) := by
  intro pins s σ H vs us Q I r h
  obtain ⟨j, rfl, q⟩ := h
  obtain ⟨u, rfl, rv⟩ := r.one
  obtain ⟨t, rfl⟩ := (show ∃ t, u = Value.int j t from rv)
  refine call_range_1 ⟨.ref s.heap.objs.size, upd H s.heap.objs.size (.rng 0 j), I.laid (t' := s.toks + 1 + 1) (fun b o e => Heap.get?_push_of_some _ e) (Nat.le_refl _) ?_, rfl, q _ (I.hok.fresh (Nat.le_refl _))⟩
  exact ⟨s.toks, t, s.toks + 1, Heap.get?_push_size _ rfl⟩
def iRngV (te : TE) : TI := fun σ H R => te σ H fun v H1 => ∃ (a : Addr) (lo hi : Int), v = .ref a ∧ H1 a = some (.rng lo hi) ∧ (-(2 ^ 62) ≤ lo ∧ lo < 2 ^ 62 ∧ -(2 ^ 62) ≤ hi ∧ hi < 2 ^ 62) ∧ R (Itr lo (hi - lo).toNat) H1
theorem pi_rngVK {X : Cx} (K : PySem.W.Frag) (hK : X.K = K) {tg e : Expr} {te : TE} (he : PE X e te) : PI X tg e (iRngV te) := by
  refine ⟨fun pins s σ H R I h => ?_⟩
  refine thn (he.run pins s σ H _ I h) fun v s1 ⟨x, H1, I1, r1, q1⟩ => ?_
  obtain ⟨a, lo, hi, e, ha, ⟨b1, b2, b3, b4⟩, q⟩ := q1
  subst e
  cases r1
  obtain ⟨t, u, v, hr⟩ := I1.hok a _ ha
  refine wpAny_pyIter_range (show IsRange s1.heap a lo hi 1 t u v from hr) (small_one b1 b2 b3 b4) ?_
  refine ⟨s1.heap.objs.size, [s1.heap.objs.size], _, _, H1, rfl, I1.kept (t' := s1.toks) fun b o e => Heap.get?_push_of_some _ e, turn_range _ lo (hi - lo).toNat, ?_, fun b hb => ?_, q⟩
  · have e1 : lo + ((0 : Nat) : Int) * 1 = lo := by simp
    have e2 : (((hi - lo).toNat : Nat) : Int) - ((0 : Nat) : Int) = Builtin.Range.rangeSize lo hi 1 := by rw [rangeSize_one]; split <;> omega
    show IsRangeIter _ _ (lo + ((0 : Nat) : Int) * 1) ((((hi - lo).toNat : Nat) : Int) - ((0 : Nat) : Int)) 1
    rw [e1, e2]
    exact Heap.get?_push_size _ rfl
  · have e : b = s1.heap.objs.size := by simpa using hb
    subst e
    exact I1.fpOk (Nat.le_refl _) (I1.hok.fresh (Nat.le_refl _))
end NA
namespace NA
open PySem PySem.Spec PyProof.Rows L2
/-! ### max of a tuple of ints -/
section
variable {prog : Program} {w : World} {A : Around} {E : Value → Shared → Prop} {s : Shared} {l : Addr}
theorem max_intTup {xs : Array (Int × Tok)} {Q : Value → Shared → Prop} (hh : A.handled = none) (hl : s.heap.IsTuple l (intItems xs)) (hne : 0 < xs.size)
    (h : ∀ v h' tk, (intItems xs)[argBest (fun i j => decide (numAt xs i > numAt xs j)) (xs.size - 1)]? = some v → (∀ b o, s.heap.get? b = some o → h'.get? b = some o) → Q v { s with heap := h', toks := tk }) :
    wpAny (model prog w) A (call (.builtin "max") [.ref l]) Q E s := by
  have hlt : l < s.heap.objs.size := by obtain ⟨_, e, _⟩ := hl; exact Heap.lt_size e
  refine call_max_walk (wpAny_pyIter_tuple hl ?_)
  refine ⟨_, [_, l], [_], _, _, _, _, rfl, Walks.tuple (A := A.in1) hh _ l (Nat.ne_of_lt hlt) (intItems xs), ⟨⟨_, Heap.get?_push_size _ rfl, rfl, rfl⟩, hl.push _⟩, fun b hb => ?_, by simpa [intItems] using hne, CmpOf.ints_gt (numAt xs) (fun _ _ => intItems_at), fun v h' tk hP hk => ?_⟩
  · show b < (s.heap.push _).objs.size
    rw [Heap.size_push]
    rcases List.mem_cons.mp hb with rfl | hb
    · exact Nat.lt_succ_self _
    · rw [List.mem_singleton.mp hb]
      exact Nat.lt_succ_of_lt hlt
  · refine h v h' tk (by simpa [intItems] using hP) fun b o e => hk b o (fun hm => ?_) (Heap.get?_push_of_some _ e)
    rw [List.mem_singleton.mp hm] at e
    exact absurd (Heap.lt_size e) (Nat.lt_irrefl _)
theorem max_rawT {its : List Value} {ns : List Int} {Q : Value → Shared → Prop} (hh : A.handled = none) (hl : s.heap.IsTuple l its.toArray) (hi : IntsAre its ns) (hne : 0 < ns.length)
    (h : ∀ h' tk M t', (∀ b o, s.heap.get? b = some o → h'.get? b = some o) → M ∈ ns → (∀ a, a ∈ ns → a ≤ M) → Q (.int M t') { s with heap := h', toks := tk }) : wpAny (model prog w) A (call (.builtin "max") [.ref l]) Q E s := by
  obtain ⟨xs, e⟩ := hi.allInts.items
  have hn : numsOf (intItems xs).toList = ns := by rw [← e]; exact hi.numsOf
  rw [nums_intItems] at hn
  subst hn
  rw [e] at hl
  have hsz : 0 < xs.size := by simpa using hne
  refine max_intTup hh hl hsz fun v h' tk hv hk => ?_
  obtain ⟨t, rfl⟩ := intItems_at hv
  obtain ⟨h1, h2⟩ := argBest_gt (numAt xs) (xs.size - 1)
  refine h h' tk _ t hk ?_ fun a ha => ?_
  · rw [numAt_eq]; exact PySem.getD_mem (by rw [List.length_map, Array.length_toList]; omega)
  · obtain ⟨j, hj, rfl⟩ := mem_getD ha
    rw [List.length_map, Array.length_toList] at hj
    rw [← numAt_eq]; exact h2 j (by omega)
end
def rMaxT (K : PySem.W.Frag) : List V → Hp → VK → Prop := fun vs H Q => ∃ (a : Addr) (ns : List Int), vs = [V.ref a] ∧ SqT K H a (ns.map V.int) ∧ 0 < ns.length ∧ ∀ m, m ∈ ns → (∀ y, y ∈ ns → y ≤ m) → Q (.int m) H
theorem cr_maxTK {X : Cx} (K : PySem.W.Frag) (hK : X.K = K) (hc : X.calm = true) : CallR X (.builtin "max") (rMaxT K) := by
  subst hK
  intro pins s σ H vs us Q I r h
  obtain ⟨a, ns, rfl, hs, hne, q⟩ := h
  obtain ⟨its, rv, hl⟩ := src_of (k := .t) I hs
  rw [Vals.ref1 r]
  exact max_rawT (I.ok.hd hc) hl rv.ints hne fun h' tk m t' hk h1 h2 => ⟨.int _, H, I.kept hk, ⟨_, rfl⟩, q m h1 h2⟩
end NA
namespace NA
open PySem PySem.Spec PyProof.Rows L2
/-! ### all contents of a small machine -/
def exI (s : Int) (found : List (List Int)) : List (List Int) := found.flatMap fun h => (List.range s.toNat).map fun i : Nat => h ++ [(i : Int)]
def everyI (ss : List Int) : List (List Int) := ss.foldl (fun found s => exI s found) [[]]
def prodN (ss : List Int) : Nat := ss.foldl (fun a s => a * s.toNat) 1
theorem every_next {ss : List Int} {i : Nat} {s : Int} (h : ss[i]? = some s) : everyI (ss.take (i + 1)) = exI s (everyI (ss.take i)) := by
  unfold everyI
  rw [List.take_add_one, h, List.foldl_append]
  rfl
theorem prod_next {ss : List Int} {i : Nat} {s : Int} (h : ss[i]? = some s) : prodN (ss.take (i + 1)) = prodN (ss.take i) * s.toNat := by
  unfold prodN
  rw [List.take_add_one, h, List.foldl_append]
  rfl
theorem prod_snoc (ss : List Int) (s : Int) : prodN (ss ++ [s]) = prodN ss * s.toNat := by
  unfold prodN
  rw [List.foldl_append]
  rfl
theorem ex_len (s : Int) (f : List (List Int)) : (exI s f).length = f.length * s.toNat := by
  unfold exI
  rw [List.length_flatMap]
  have : ∀ l : List (List Int), (l.map fun h => ((List.range s.toNat).map fun i : Nat => h ++ [(i : Int)]).length).sum = l.length * s.toNat := by
    intro l
    induction l with
    | nil => rw [List.map_nil, List.length_nil, Nat.zero_mul]; rfl
    | cons h l ih =>
      rw [List.map_cons, List.sum_cons, ih, List.length_map, List.length_range, List.length_cons, Nat.succ_mul, Nat.add_comm]
  exact this f
structure EvOk (ss : List Int) (f : List (List Int)) : Prop where
  cok : ∀ h ∈ f, COk ss h
  nd : f.Nodup
  len : f.length = prodN ss
theorem every_ok (ss : List Int) (ok : ∀ s ∈ ss, SizeOk s) : ∀ i, i ≤ ss.length → EvOk (ss.take i) (everyI (ss.take i)) := by
  intro i
  induction i with
  | zero =>
    intro _
    refine ⟨fun h hh => ?_, List.pairwise_singleton _ _, rfl⟩
    rw [List.take_zero] at hh ⊢
    rw [List.mem_singleton.mp hh]
    exact ⟨rfl, fun i h s e _ => by simp at e⟩
  | succ i ih =>
    intro hi
    have e := ih (by omega)
    obtain ⟨s, hs⟩ := get_some (ss := ss) (show i < ss.length by omega)
    rw [every_next hs]
    refine ⟨fun h hh => ?_, ?_, by rw [ex_len, e.len, prod_next hs]⟩
    · obtain ⟨g, hg, hx⟩ := List.mem_flatMap.mp hh
      obtain ⟨x, hx', rfl⟩ := List.mem_map.mp hx
      have cg := e.cok g hg
      have lx := List.mem_range.mp hx'
      have lt : (ss.take i).length = i := by rw [List.length_take]; omega
      refine ⟨by rw [List.length_append, cg.len, lt, List.length_take, List.length_singleton]; omega, fun k y t hy ht => ?_⟩
      by_cases z : k < i
      · rw [List.getElem?_append_left (by rw [cg.len, lt]; exact z)] at hy
        refine cg.low k y t hy ?_
        rw [List.getElem?_take_of_lt z]
        rwa [List.getElem?_take_of_lt (by omega)] at ht
      · have lk : k < i + 1 := by
          have := (List.getElem?_eq_some_iff.mp ht).1
          rw [List.length_take] at this
          omega
        have ek : k = i := by omega
        subst ek
        rw [List.getElem?_append_right (by rw [cg.len, lt]; exact Nat.le_refl _), cg.len, lt, Nat.sub_self] at hy
        cases Option.some.inj hy
        rw [List.getElem?_take_of_lt (by omega), hs] at ht
        cases Option.some.inj ht
        omega
    · unfold exI
      refine List.pairwise_flatMap.mpr ⟨fun h _ => ?_, ?_⟩
      · rw [List.pairwise_map]
        refine List.Pairwise.imp (fun {a b} (z : a < b) q => ?_) List.pairwise_lt_range
        have q' := List.append_cancel_left q
        have q'' : (a : Int) = b := List.head_eq_of_cons_eq q'
        omega
      · refine List.Pairwise.imp_of_mem (fun {a b} ha hb z x hx y hy q => z ?_) e.nd
        obtain ⟨i1, _, rfl⟩ := List.mem_map.mp hx
        obtain ⟨i2, _, rfl⟩ := List.mem_map.mp hy
        exact (List.append_inj q (by rw [(e.cok a ha).len, (e.cok b hb).len])).1
theorem every_full (ss : List Int) (ok : ∀ s ∈ ss, SizeOk s) : EvOk ss (everyI ss) := by
  have := every_ok ss ok ss.length (Nat.le_refl _)
  rwa [List.take_length] at this
theorem prod_pos {ss : List Int} (ok : ∀ s ∈ ss, SizeOk s) : ∀ i, i ≤ ss.length → 0 < prodN (ss.take i) := by
  intro i
  induction i with
  | zero => intro _; exact Nat.one_pos
  | succ i ih =>
    intro hi
    obtain ⟨s, hs⟩ := get_some (ss := ss) (show i < ss.length by omega)
    rw [prod_next hs]
    obtain ⟨m, rfl, m2, _⟩ := (ok s (List.mem_of_getElem? hs)).nat
    exact Nat.mul_pos (ih (by omega)) (by omega)
theorem prod_le {ss : List Int} (ok : ∀ s ∈ ss, SizeOk s) : ∀ k i, i + k ≤ ss.length → prodN (ss.take i) ≤ prodN (ss.take (i + k)) := by
  intro k
  induction k with
  | zero => intro i _; exact Nat.le_refl _
  | succ k ih =>
    intro i hi
    obtain ⟨s, hs⟩ := get_some (ss := ss) (show i + k < ss.length by omega)
    rw [show i + (k + 1) = i + k + 1 by omega, prod_next hs]
    obtain ⟨m, rfl, m2, _⟩ := (ok s (List.mem_of_getElem? hs)).nat
    exact Nat.le_trans (ih i (by omega)) (Nat.le_mul_of_pos_right _ (by omega))
def spEvery : Sp := fun vs H Q _ => ∃ (x : V) (ss : List Int), vs = [x] ∧ Im H x (sD ss) ∧ (∀ s ∈ ss, SizeOk s) ∧ prodN ss ≤ 1000 ∧
  ∀ (a : Addr) (us : List V) (H' : Hp), H a = none → H' a = some (.lst us) → ImAll H' us ((everyI ss).map sD) → Same H H' → Q (.ref a) H'
def spSmall : Sp := fun vs H Q _ => ∃ (p q : Addr) (m : Nat), vs = [.ref p, .int (m : Int)] ∧ Pt H p q ∧ 2 ≤ m ∧ m ≤ 1000 ∧
  ∀ (v : V) (ss : List Int) (ws : List (Nat × Nat)) (H' : Hp), Im H' v (mD ss ws) → MOk ss ws → prodN ss ≤ m → Pt H' p q → Kp p q H H' → Q v H'
theorem pow_prod {ss : List Int} (ok : ∀ s ∈ ss, SizeOk s) : ∀ k, k ≤ ss.length → 2 ^ k ≤ prodN (ss.take k) := by
  intro k
  induction k with
  | zero => intro _; exact Nat.le_refl _
  | succ k ih =>
    intro hk
    obtain ⟨s', hs'⟩ := get_some (ss := ss) (show k < ss.length by omega)
    rw [prod_next hs', Nat.pow_succ]
    obtain ⟨m', rfl, m2', _⟩ := (ok s' (List.mem_of_getElem? hs')).nat
    exact Nat.mul_le_mul (ih (by omega)) (by omega)
theorem op_catAK {X : Cx} (K : PySem.W.Frag) (hK : X.K = K) : OpR X (binaryOp .Add) (rCatA K) := hK ▸ op_catA
end NA
namespace NA
open PySem PySem.Spec PyProof.Rows L2
/-! ### unlike tables have unlike texts -/
abbrev sg (t : Str) : List Nat := t.cps.toList
theorem sg_app (a b : Str) : sg (a ++ b) = sg a ++ sg b := by
  show (a.cps ++ b.cps).toList = _
  rw [Array.toList_append]
def dig (c : Nat) : Bool := decide (48 ≤ c ∧ c ≤ 57)
def runsGo : List Nat → List Nat → List (List Nat)
  | cur, [] => if cur = [] then [] else [cur.reverse]
  | cur, c :: cs => if dig c = true then runsGo (c :: cur) cs else (if cur = [] then [] else [cur.reverse]) ++ runsGo [] cs
theorem runs_dig : ∀ (d cur rest : List Nat), (∀ c ∈ d, dig c = true) → runsGo cur (d ++ rest) = runsGo (d.reverse ++ cur) rest
  | [], _, _, _ => rfl
  | c :: d, cur, rest, h => by
    show runsGo cur (c :: (d ++ rest)) = _
    rw [runsGo, if_pos (h c List.mem_cons_self), runs_dig d _ _ fun x hx => h x (List.mem_cons_of_mem _ hx), List.reverse_cons, List.append_assoc]
    rfl
theorem runs_no {c : Nat} (h : dig c = false) (rest : List Nat) : runsGo [] (c :: rest) = runsGo [] rest := by
  rw [runsGo, if_neg (by rw [h]; decide), if_pos rfl, List.nil_append]
/-- whatever sign but a digit follows: these runs of digits, then what is behind -/
def Gives (t : Str) (e : List (List Nat)) : Prop := ∀ (c : Nat) (rest : List Nat), dig c = false → runsGo [] (sg t ++ c :: rest) = e ++ runsGo [] rest
theorem gives_int {n : Int} (h : 0 ≤ n) : Gives (PyData.int n).shown [sg (PyData.int n).shown] := by
  intro c rest hc
  have dg : ∀ x ∈ sg (PyData.int n).shown, dig x = true := fun x hx => by
    obtain ⟨m, rfl⟩ : ∃ m : Nat, n = (m : Int) := ⟨n.toNat, by omega⟩
    rw [PyData.shown_int] at hx
    have e : (toString (m : Int) : String) = Nat.repr m := rfl
    rw [e] at hx
    have hx' : x ∈ (Str.ofString (Nat.repr m)).cps.toList := hx
    rw [signs_ofString] at hx'
    obtain ⟨ch, hch, rfl⟩ := List.mem_map.mp hx'
    rw [Nat.toList_repr] at hch
    have := digit_range (Nat.isDigit_of_mem_toDigits (by decide) (by decide) hch)
    exact decide_eq_true this
  have ne : sg (PyData.int n).shown ≠ [] := fun z => by
    obtain ⟨m, rfl⟩ : ∃ m : Nat, n = (m : Int) := ⟨n.toNat, by omega⟩
    rw [PyData.shown_int] at z
    have z' : (Str.ofString (Nat.repr m)).cps.toList = [] := z
    rw [signs_ofString, Nat.toList_repr, List.map_eq_nil_iff] at z'
    exact Nat.toDigits_ne_nil z'
  rw [runs_dig _ _ _ dg, List.append_nil, runsGo, if_neg (by rw [hc]; decide), if_neg (fun z => ne (List.reverse_eq_nil_iff.mp z)), List.reverse_reverse]
theorem gives_join : ∀ (ts : List Str) (es : List (List (List Nat))), ts ≠ [] → Paired (fun t e => Gives t e) ts es → Gives (Str.join ", " ts) es.flatten
  | [t], [e], _, h => by
    cases h with
    | cons a b =>
      intro c rest hc
      have := a c rest hc
      rw [show Str.join ", " [t] = t from rfl, this]
      simp
  | t :: t2 :: ts, e :: e2 :: es, _, h => by
    cases h with
    | cons a b =>
      intro c rest hc
      have ih := gives_join (t2 :: ts) (e2 :: es) (List.cons_ne_nil _ _) b c rest hc
      have j : Str.join ", " (t :: t2 :: ts) = t ++ ", " ++ Str.join ", " (t2 :: ts) := rfl
      have cm : sg (", " : Str) = [44, 32] := by decide
      rw [j, sg_app, sg_app, cm, List.append_assoc, List.append_assoc]
      show runsGo [] (sg t ++ (44 :: (32 :: (sg (Str.join ", " (t2 :: ts)) ++ c :: rest)))) = _
      rw [a 44 _ (by decide), runs_no (by decide), ih]
      simp [List.append_assoc]
  | [], _, h, _ => absurd rfl h
  | [_], [], _, h => by cases h
  | [_], _ :: _ :: _, _, h => by cases h with | cons a b => cases b
  | _ :: _ :: _, [], _, h => by cases h
  | _ :: _ :: _, [_], _, h => by cases h with | cons a b => cases b
theorem gives_tuple {ts : List Str} {es : List (List (List Nat))} (ne : ts ≠ []) (h : Paired (fun t e => Gives t e) ts es) : Gives (tupleText ts) es.flatten := by
  intro c rest hc
  have j := gives_join ts es ne h
  have p : sg ("(" : Str) = [40] := by decide
  unfold tupleText
  rw [sg_app, sg_app, p, List.append_assoc, List.append_assoc]
  show runsGo [] (40 :: (sg (Str.join ", " ts) ++ (sg _ ++ c :: rest))) = _
  rw [runs_no (by decide)]
  by_cases l : (ts.length == 1) = true
  · rw [if_pos l]
    have q : sg ((",)" : String) : Str) = [44, 41] := by decide
    rw [q]
    show runsGo [] (sg (Str.join ", " ts) ++ 44 :: (41 :: (c :: rest))) = _
    rw [j 44 _ (by decide), runs_no (by decide), runs_no hc]
  · rw [if_neg l]
    have q : sg ((")" : String) : Str) = [41] := by decide
    rw [q]
    show runsGo [] (sg (Str.join ", " ts) ++ 41 :: (c :: rest)) = _
    rw [j 41 _ (by decide), runs_no hc]
def rowSg (r : List Int) : List (List Nat) := r.map fun n => sg (PyData.int n).shown
theorem shownAll_map {α : Type} (f : α → PyData) : ∀ l : List α, PyData.shownAll (l.map f) = l.map fun x => (f x).shown
  | [] => rfl
  | x :: l => by
    rw [List.map_cons, List.map_cons, ← shownAll_map f l]
    rfl
theorem gives_row {r : List Int} (ne : r ≠ []) (h : ∀ n ∈ r, 0 ≤ n) : Gives (sD r).shown (rowSg r) := by
  have p : Paired (fun t e => Gives t e) (r.map fun n => (PyData.int n).shown) (r.map fun n => [sg (PyData.int n).shown]) := by
    clear ne
    induction r with
    | nil => exact .nil
    | cons n r ih => exact .cons (gives_int (h n List.mem_cons_self)) (ih fun x hx => h x (List.mem_cons_of_mem _ hx))
  have g := gives_tuple (by simpa using ne) p
  have e1 : (sD r).shown = tupleText (r.map fun n => (PyData.int n).shown) := by
    unfold sD
    rw [← shownAll_map PyData.int]
    simp only [PyData.shown]
  have e2 : ∀ l : List Int, (l.map fun n => [sg (PyData.int n).shown]).flatten = rowSg l := by
    intro l
    induction l with
    | nil => rfl
    | cons n l ih =>
      rw [List.map_cons, List.flatten_cons, ih]
      rfl
  rw [e1, ← e2]
  exact g
theorem gives_tab {t : List (List Int)} (ne : t ≠ []) (h : ∀ r ∈ t, r ≠ [] ∧ ∀ n ∈ r, 0 ≤ n) : Gives (tD t).shown (t.map rowSg).flatten := by
  have p : Paired (fun t e => Gives t e) (t.map fun r => (sD r).shown) (t.map rowSg) := by
    clear ne
    induction t with
    | nil => exact .nil
    | cons r t ih =>
      obtain ⟨a, b⟩ := h r List.mem_cons_self
      exact .cons (gives_row a b) (ih fun x hx => h x (List.mem_cons_of_mem _ hx))
  have g := gives_tuple (by simpa using ne) p
  have e1 : (tD t).shown = tupleText (t.map fun r => (sD r).shown) := by
    unfold tD
    rw [← shownAll_map sD]
    simp only [PyData.shown]
  rw [e1]
  exact g
theorem sg_int_inj {a b : Int} (ha : 0 ≤ a) (hb : 0 ≤ b) (h : sg (PyData.int a).shown = sg (PyData.int b).shown) : a = b := by
  obtain ⟨m, rfl⟩ : ∃ m : Nat, a = (m : Int) := ⟨a.toNat, by omega⟩
  obtain ⟨k, rfl⟩ : ∃ m : Nat, b = (m : Int) := ⟨b.toNat, by omega⟩
  rw [PyData.shown_int, PyData.shown_int] at h
  have h' : (Str.ofString (Nat.repr m)).cps.toList = (Str.ofString (Nat.repr k)).cps.toList := h
  rw [signs_ofString, signs_ofString] at h'
  have inj : ∀ {x y : List Char}, x.map Char.toNat = y.map Char.toNat → x = y := by
    intro x
    induction x with
    | nil => intro y e; cases y with | nil => rfl | cons _ _ => cases e
    | cons c x ih =>
      intro y e
      cases y with
      | nil => cases e
      | cons d y =>
        rw [List.map_cons, List.map_cons, List.cons.injEq] at e
        rw [ih e.2, Char.ext (UInt32.toNat_inj.mp e.1)]
  have e := inj h'
  have : Nat.repr m = Nat.repr k := String.ext e
  rw [Nat.repr_injective this]
theorem rowSg_inj {r q : List Int} (hr : ∀ n ∈ r, 0 ≤ n) (hq : ∀ n ∈ q, 0 ≤ n) (h : rowSg r = rowSg q) : r = q := by
  induction r generalizing q with
  | nil => cases q with | nil => rfl | cons _ _ => cases h
  | cons n r ih =>
    cases q with
    | nil => cases h
    | cons m q =>
      have h' : sg (PyData.int n).shown :: rowSg r = sg (PyData.int m).shown :: rowSg q := h
      rw [List.cons.injEq] at h'
      rw [sg_int_inj (hr n List.mem_cons_self) (hq m List.mem_cons_self) h'.1, ih (fun x hx => hr x (List.mem_cons_of_mem _ hx)) (fun x hx => hq x (List.mem_cons_of_mem _ hx)) h'.2]
theorem tab_inj {t u : List (List Int)} {n : Nat} (n0 : 0 < n) (lt : t.length = n) (lu : u.length = n) (ht : ∀ r ∈ t, r.length = n ∧ ∀ x ∈ r, 0 ≤ x) (hu : ∀ r ∈ u, r.length = n ∧ ∀ x ∈ r, 0 ≤ x) (h : (tD t).shown = (tD u).shown) : t = u := by
  have nr : ∀ {v : List (List Int)}, (∀ r ∈ v, r.length = n ∧ ∀ x ∈ r, 0 ≤ x) → ∀ r ∈ v, r ≠ [] ∧ ∀ x ∈ r, 0 ≤ x := fun hv r hr => ⟨List.length_pos_iff.mp (by rw [(hv r hr).1]; exact n0), (hv r hr).2⟩
  have g1 := gives_tab (List.length_pos_iff.mp (by omega)) (nr ht) 32 [] (by decide)
  have g2 := gives_tab (List.length_pos_iff.mp (by omega)) (nr hu) 32 [] (by decide)
  rw [h, g2] at g1
  have e := List.append_cancel_right g1
  clear g1 g2 h
  have : ∀ (t u : List (List Int)), t.length = u.length → (∀ r ∈ t, r.length = n ∧ ∀ x ∈ r, 0 ≤ x) → (∀ r ∈ u, r.length = n ∧ ∀ x ∈ r, 0 ≤ x) → (u.map rowSg).flatten = (t.map rowSg).flatten → t = u := by
    intro t
    induction t with
    | nil => intro u l _ _ _; exact (List.eq_nil_of_length_eq_zero l.symm).symm
    | cons r t ih =>
      intro u l a b c
      cases u with
      | nil => cases l
      | cons q u =>
        rw [List.map_cons, List.map_cons, List.flatten_cons, List.flatten_cons] at c
        have ra := a r List.mem_cons_self
        have qa := b q List.mem_cons_self
        obtain ⟨c1, c2⟩ := List.append_inj c (by unfold rowSg; rw [List.length_map, List.length_map, ra.1, qa.1])
        rw [rowSg_inj qa.2 ra.2 c1, ih u (by simpa using l) (fun x hx => a x (List.mem_cons_of_mem _ hx)) (fun x hx => b x (List.mem_cons_of_mem _ hx)) c2]
  exact this t u (by omega) ht hu e
end NA
namespace NA
open PySem PySem.Spec PyProof.Rows L2

/-! ### repr of a machine beside a value that may be an empty dict -/
mutual
def flatT : PyData → Bool
  | .int _ => true
  | .tuple xs => flatTAll xs
  | _ => false
def flatTAll : List PyData → Bool
  | [] => true
  | x :: xs => flatT x && flatTAll xs
end
mutual
theorem reads_flat {h : Heap} : ∀ (d : PyData) {v : Value} {as : List Addr}, Reads h v d as → flatT d = true → as = []
  | .int _, _, _, r, _ => by cases r; rfl
  | .tuple xs, _, _, r, f => by
    cases r with
    | tuple _ _ _ ra => exact readsAll_flat xs ra (by simpa [flatT] using f)
  | .none, _, _, _, f => by simp [flatT] at f
  | .bool _, _, _, _, f => by simp [flatT] at f
  | .str _, _, _, _, f => by simp [flatT] at f
  | .list _, _, _, _, f => by simp [flatT] at f
  | .dict _, _, _, _, f => by simp [flatT] at f
theorem readsAll_flat {h : Heap} : ∀ (ds : List PyData) {vs : List Value} {as : List Addr}, ReadsAll h vs ds as → flatTAll ds = true → as = []
  | [], _, _, r, _ => by cases r; rfl
  | d :: ds, _, _, r, f => by
    simp only [flatTAll, Bool.and_eq_true] at f
    cases r with
    | cons a b => rw [reads_flat d a f.1, readsAll_flat ds b f.2]; rfl
end
theorem flat_ints : ∀ ns : List Int, flatTAll (ns.map PyData.int) = true
  | [] => rfl
  | _ :: ns => by simp only [List.map_cons, flatTAll, flatT, flat_ints ns, Bool.and_self]
theorem flat_wires : ∀ ws : List (Nat × Nat), flatTAll (ws.map wD) = true
  | [] => rfl
  | _ :: ws => by simp only [List.map_cons, flatTAll, flatT, wD, flat_wires ws, Bool.and_self]
theorem flat_mach (ss : List Int) (ws : List (Nat × Nat)) : flatT (mD ss ws) = true := by
  simp only [mD, sD, flatT, flatTAll, flat_wires, Bool.and_true, Bool.and_eq_true]
  exact flat_ints ss
section
variable {X : Cx} {es : List Expr} {t : TA} {pos : Pos}
def tLstN (t : TA) : TE := fun σ H Q => t σ H fun xs H1 => xs.length ≤ sizeLine ∧ ∀ p, H1 p = none → p ≠ sysModules → Q (.ref p) (upd H1 p (.lst xs))
theorem pe_lstN (h : PA X es t) : PE X (.List es pos) (tLstN t) := by
  refine ⟨fun pins s σ H Q I hq => ?_⟩
  refine wpAny_List_spliced (thn (h.run pos pins s σ H _ I hq) fun us s1 ⟨xs, H1, I1, r, z, q⟩ => ⟨by rw [← r.length]; exact z, ?_⟩)
  have hf : H1 s1.heap.objs.size = none := I1.hok.fresh (Nat.le_refl _)
  refine ⟨.ref s1.heap.objs.size, upd H1 s1.heap.objs.size (.lst xs), I1.laid (t' := s1.toks) (fun b u e => Heap.get?_push_of_some _ e) (Nat.le_refl _) ?_, rfl, q _ hf (Nat.ne_of_gt I1.big)⟩
  exact ⟨z, us, 0, r, Heap.get?_push_size _ rfl⟩
/-- the machine, and the value -/
def rReprN : List V → Hp → VK → Prop := fun xs H Q => ∃ (l : Addr) (x y : V) (d e : PyData), xs = [.ref l] ∧ l ≠ sysModules ∧ H l = some (.lst [x, y]) ∧ Dg An H x d ∧ flatT d = true ∧ Dv An H y e ∧ (Sh (.list [d, e]) ∨ (e = .dict [] ∧ Sh d ∧ cost d ≤ 4000000 ∧ d.depth ≤ 50)) ∧ Q (.str (PyData.list [d, e]).shown) H
theorem call_reprN {k : Nat} (hg : Bare X.A) (hr : Room k X.A) : CallR X (.builtin "repr") rReprN := by
  intro pins s σ H xs us Q I r h
  obtain ⟨l, x, y, d, e, rfl, nl, hl, hx, fl, hy, sh, q⟩ := h
  rcases hy with hy | ⟨a, rfl, h2, rfl⟩
  · rcases sh with sh | ⟨rfl, _⟩
    · exact call_reprD hg hr pins s σ H [.ref l] us Q I r ⟨.ref l, _, rfl, .lst (SqL.of hl) (.cons (Dg.toDp d x hx) (.cons (Dg.toDp e y hy) .nil)), sh, q⟩
    · cases hy
  · obtain ⟨u, rfl, ru⟩ := r.one
    cases (show u = Value.ref l from ru)
    have sh' : Sh d ∧ cost d ≤ 4000000 ∧ d.depth ≤ 50 := by
      rcases sh with sh | ⟨_, sh⟩
      · have := sh.ok
        simp [okD, okAll] at this
      · exact sh
    obtain ⟨sd, cd, dd⟩ := sh'
    have ok : ObjOk X.prog X.w H s.heap a (.dK []) := I.hok a _ h2
    obtain ⟨_, ns, vs, kv, o, es, ep, g1, g2, g3, g4, g5⟩ := ok
    have hu := hr.un
    have vs0 : vs = [] := by cases kv; rfl
    subst vs0
    have es0 : es.toList = [] := by
      have z := g5.1
      cases h : es.toList with
      | nil => rfl
      | cons x l =>
        rw [h] at z
        cases z
    have rd : Reads s.heap (.ref a) (.dict []) (a :: [] ++ []) := .dict g1 g2.1 g3 (by rw [es0]; exact .nil) (by rw [es0]; exact .nil)
    have nsm : sysModules ≠ a := fun z => by
      rw [z, beq_self_eq_true] at ns
      cases ns
    obtain ⟨its, rv, ⟨o2, n, ho, hc, _, hd⟩, _⟩ := I.list (SqL.of hl)
    obtain ⟨ux, uy, hits, rx, ry⟩ : ∃ ux uy, its = [ux, uy] ∧ RelV x ux ∧ RelV (.ref a) uy := by
      cases rv with
      | cons r1 r2 =>
        cases r2 with
        | cons r3 r4 =>
          cases r4
          exact ⟨_, _, rfl, r1, r3⟩
    subst hits
    cases (show uy = Value.ref a from ry)
    obtain ⟨as, rdx⟩ := Dp.reads I d x ux (Dg.toDp d x hx) rx
    have as0 := reads_flat d rdx fl
    subst as0
    have rl : Reads s.heap (.ref l) (.list [d, .dict []]) (l :: ([] ++ ((a :: [] ++ []) ++ []))) := .list ho hc hd (.cons rdx (.cons rd .nil))
    obtain ⟨f1, f2, f3⟩ := okD_facts d sd.ok
    have len := listText_len_le (PyData.shownAll [d, .dict []])
    refine repr_of_reads' rl (by simp [PyData.showable, PyData.showableAll, f1, PyData.showableKv]) (fun _ => ?_) hg ?_ (fun _ _ z => z) (fun h' u tk hk => ⟨.str _, H, I.kept (t' := tk) hk, ⟨_, rfl⟩, q⟩) ?_
    · intro hm
      simp at hm
      rcases hm with z | z
      · exact nl z.symm
      · exact nsm z
    · simp only [PyData.depth, PyData.depthAll, PyData.depthKv]
      omega
    · have e2 : (PyData.shown (.dict [])).length ≤ 10 := by decide +kernel
      have sz : 16000000 ≤ sizeLine := by decide
      simp only [PyData.shown]
      simp only [PyData.shownAll, List.map_cons, List.map_nil, List.sum_cons, List.sum_nil, List.length_cons, List.length_nil] at len ⊢
      omega
def rNotInE (K : PySem.W.Frag) : R2 := fun x y H Q => ∃ d xs, Dp K H x d ∧ Dp K H y (.tuple xs) ∧ SeqAt.shaped (.tuple xs) = true ∧ SeqAt.shaped d = true ∧ (∀ z ∈ xs, SeqAt.noMix z d = true) ∧ Q (.bl (!decide (countIn d xs ≠ 0))) H
theorem op_notInE (K : PySem.W.Frag) (hK : X.K = K) (hu : X.A.units + 65 < cLine) : OpR X (compareOp .NotIn) (rNotInE K) := by
  subst hK
  intro pins s σ H x y v u Q I rx ry h
  obtain ⟨d, xs, h1, h2, h3, h4, h5, q⟩ := h
  obtain ⟨as, r1⟩ := Dp.reads I d x v h1 rx
  obtain ⟨bs, r2⟩ := Dp.reads I _ y u h2 ry
  exact notIn_tuple_dataH r2 r1 h3 h4 hu h5 ⟨.bl _, H, I, rfl, q⟩
theorem room65K {k : Nat} {A : Around} (hr : Room k A) : A.units + 65 < cLine := by
  have := hr.un
  omega
end
end NA
set_option maxHeartbeats 4000000
namespace NA
open PySem PySem.Spec PyProof.Rows L2
/-! ### a tuple times 1 is the tuple -/
theorem tuple_mulOne (l : Addr) (items : Array Value) (n : Nat) (dd : Option Addr) (sl : Array (Option Value)) (u : Tok) :
    Meets (Builtin.«tuple.__mul__» ⟨[.ref l, .int 1 u], []⟩) (fun _ R s => s.heap.get? l = some { cls := .type "tuple", dict := dd, data := .seq items n, slots := sl } ∧
      R (.ok (.ret (Value.ref l))) s) :=
  .of_wp fun prog w A R s h => by
    obtain ⟨hp, g, d, tk, os⟩ := s
    obtain ⟨hl, h⟩ := h
    have f1 := AutoSeq1.idx_int
    wp_walk using wpAny_loadPart' hl
    exact ⟨_, rfl, h⟩
def rRepN (K : PySem.W.Frag) : R2 := fun x y H Q => ∃ l k xs, x = .ref l ∧ y = .int k ∧ SqT K H l xs ∧ H l = some (.tup xs) ∧ xs ≠ [] ∧ 1 ≤ k ∧ k ≤ 1000 ∧ xs.length ≤ 1000 ∧ ∀ p H', Same H H' → H' p = some (.tup (List.replicate k.toNat xs).flatten) → Q (.ref p) H'
theorem op_repN {X : Cx} (K : PySem.W.Frag) (hK : X.K = K) : OpR X (binaryOp .Mult) (rRepN K) := by
  subst hK
  intro pins s σ H x y v u Q I rx ry h
  obtain ⟨l, k, xs, rfl, rfl, hT, hT2, hne, h1, h2, hz, q⟩ := h
  by_cases k1 : k = 1
  · subst k1
    cases rx
    obtain ⟨t, rfl⟩ := ry
    obtain ⟨its, r, ⟨⟨cls, dd, data, sl⟩, ho, hc, n, hd⟩, hs⟩ := I.tuple hT
    simp only at hc hd
    subst hc hd
    refine wpAny_binaryOp_repeat_ref (T := "tuple") (U := "int") (by decide) ⟨_, ho, rfl⟩ (fun s' => typeIs_int s' 1 t) noFill_tuple_mul F.fills_int_mul F.slot_int_rmul repeat_tuple F.slot_int_index.lookup
      (call_meets F.slot_int_rmul (typeIs_int s 1 t) F.entry_int_rmul (F.args_int_rmul_2 _ _) (int_rmul_tuple 1 t l its.toArray n dd sl)
        ⟨ho, rfl, ⟨_, ho, rfl⟩, call_meets F.slot_tuple_mul ⟨_, ho, rfl⟩ F.entry_tuple_mul (F.args_tuple_mul_2 _ _) (tuple_mulOne l its.toArray n dd sl t) ⟨ho, ?_⟩⟩)
    refine ⟨.ref l, H, I, rfl, q l H (Same.refl H) ?_⟩
    rw [hT2, show (1 : Int).toNat = 1 from rfl, List.replicate_one, List.flatten_cons, List.flatten_nil, List.append_nil]
  · exact op_repT pins s σ H _ _ v u Q I rx ry ⟨l, k, xs, rfl, rfl, hT, hne, by omega, h2, hz, fun p np => q p _ (Same.new (Same.refl H) np) upd_same⟩
end NA
namespace NA
open PySem PySem.Spec PyProof.Rows L2

/-! ### data with lists and empty dicts at any depth; N: where lists may stand -/
mutual
inductive De (N : Addr → Prop) (H : Hp) : V → PyData → Prop
  | non : De N H .non .none
  | bl (b : Bool) : De N H (.bl b) (.bool b)
  | int (i : Int) : De N H (.int i) (.int i)
  | str (x : Str) : De N H (.str x) (.str x)
  | lst {a : Addr} {xs : List V} {ds : List PyData} (n : N a) (h : H a = some (.lst xs)) (t : DeAll N H xs ds) : De N H (.ref a) (.list ds)
  | tup {a : Addr} {xs : List V} {ds : List PyData} (h : H a = some (.tup xs)) (t : DeAll N H xs ds) : De N H (.ref a) (.tuple ds)
  | dic {a : Addr} (h : H a = some (.dK [])) : De N H (.ref a) (.dict [])
inductive DeAll (N : Addr → Prop) (H : Hp) : List V → List PyData → Prop
  | nil : DeAll N H [] []
  | cons {v : V} {vs : List V} {d : PyData} {ds : List PyData} (h : De N H v d) (t : DeAll N H vs ds) : DeAll N H (v :: vs) (d :: ds)
end
mutual
theorem De.wider {N M : Addr → Prop} {H J : Hp} (ks : Ks N H J) (wd : ∀ a, N a → M a) {v : V} : ∀ {d : PyData}, De N H v d → De M J v d
  | _, .non => .non
  | _, .bl b => .bl b
  | _, .int i => .int i
  | _, .str x => .str x
  | _, .lst n h t => .lst (wd _ n) (ks.lst _ _ n h) (DeAll.wider ks wd t)
  | _, .tup h t => .tup (ks.tup _ _ h) (DeAll.wider ks wd t)
  | _, .dic h => .dic (ks.dic _ _ h)
theorem DeAll.wider {N M : Addr → Prop} {H J : Hp} (ks : Ks N H J) (wd : ∀ a, N a → M a) {vs : List V} : ∀ {ds : List PyData}, DeAll N H vs ds → DeAll M J vs ds
  | _, .nil => .nil
  | _, .cons h t => .cons (De.wider ks wd h) (DeAll.wider ks wd t)
end
theorem De.k {N : Addr → Prop} {H J : Hp} {v : V} {d : PyData} (h : De N H v d) (ks : Ks N H J) : De N J v d := h.wider ks fun _ n => n
theorem DeAll.k {N : Addr → Prop} {H J : Hp} {v : List V} {d : List PyData} (h : DeAll N H v d) (ks : Ks N H J) : DeAll N J v d := h.wider ks fun _ n => n
theorem De.s {N : Addr → Prop} {H J : Hp} {v : V} {d : PyData} (h : De N H v d) (e : Same H J) : De N J v d := h.k (Ks.same e)
theorem DeAll.s {N : Addr → Prop} {H J : Hp} {v : List V} {d : List PyData} (h : DeAll N H v d) (e : Same H J) : DeAll N J v d := h.k (Ks.same e)
mutual
theorem De.of_dg {N : Addr → Prop} {H : Hp} {v : V} : ∀ {d : PyData}, Dg N H v d → De N H v d
  | _, .non => .non
  | _, .bl b => .bl b
  | _, .int i => .int i
  | _, .str x => .str x
  | _, .lst n h t => .lst n h (DeAll.of_dg t)
  | _, .tup h t => .tup h (DeAll.of_dg t)
theorem DeAll.of_dg {N : Addr → Prop} {H : Hp} {vs : List V} : ∀ {ds : List PyData}, DgAll N H vs ds → DeAll N H vs ds
  | _, .nil => .nil
  | _, .cons h t => .cons (De.of_dg h) (DeAll.of_dg t)
end
theorem De.of_im {N : Addr → Prop} {H : Hp} {v : V} {d : PyData} (h : Im H v d) : De N H v d := .of_dg h.dg
theorem DeAll.length {N : Addr → Prop} {H : Hp} {vs : List V} {ds : List PyData} (h : DeAll N H vs ds) : vs.length = ds.length := by
  induction vs generalizing ds with
  | nil => cases h; rfl
  | cons v vs ih =>
    cases h with
    | cons _ t => rw [List.length_cons, List.length_cons, ih t]
theorem DeAll.get {N : Addr → Prop} {H : Hp} {vs : List V} {ds : List PyData} {i : Nat} {v : V} (h : DeAll N H vs ds) (e : vs[i]? = some v) : ∃ d, ds[i]? = some d ∧ De N H v d := by
  induction vs generalizing ds i with
  | nil => simp at e
  | cons w vs ih =>
    cases h with
    | cons g t =>
      cases i with
      | zero =>
        simp at e
        subst e
        exact ⟨_, rfl, g⟩
      | succ i =>
        obtain ⟨d, q1, q2⟩ := ih t (by simpa using e)
        exact ⟨d, by simpa using q1, q2⟩
theorem DeAll.idx {N : Addr → Prop} {H : Hp} {vs : List V} {ds : List PyData} {i : Nat} {d : PyData} (h : DeAll N H vs ds) (e : ds[i]? = some d) : ∃ v, vs[i]? = some v ∧ De N H v d := by
  have lt := (List.getElem?_eq_some_iff.mp e).1
  obtain ⟨d', q1, q2⟩ := h.get (i := i) (List.getElem?_eq_getElem (by rw [h.length]; exact lt))
  rw [e] at q1
  cases q1
  exact ⟨_, List.getElem?_eq_getElem _, q2⟩
theorem DeAll.append {N : Addr → Prop} {H : Hp} {vs ws : List V} {ds es : List PyData} (h : DeAll N H vs ds) (g : DeAll N H ws es) : DeAll N H (vs ++ ws) (ds ++ es) := by
  induction vs generalizing ds with
  | nil => cases h; exact g
  | cons v vs ih =>
    cases h with
    | cons a t => exact .cons a (ih t)
theorem DeAll.take {N : Addr → Prop} {H : Hp} {vs : List V} {ds : List PyData} (h : DeAll N H vs ds) (n : Nat) : DeAll N H (vs.take n) (ds.take n) := by
  induction vs generalizing ds n with
  | nil => cases h; simpa using DeAll.nil
  | cons v vs ih =>
    cases h with
    | cons a t =>
      cases n with
      | zero => exact .nil
      | succ n => exact .cons a (ih t n)
theorem DeAll.drop {N : Addr → Prop} {H : Hp} {vs : List V} {ds : List PyData} (h : DeAll N H vs ds) (n : Nat) : DeAll N H (vs.drop n) (ds.drop n) := by
  induction vs generalizing ds n with
  | nil => cases h; simpa using DeAll.nil
  | cons v vs ih =>
    cases h with
    | cons a t =>
      cases n with
      | zero => exact .cons a t
      | succ n => exact ih t n
theorem De.ty {N : Addr → Prop} {K : PySem.W.Frag} {H : Hp} {v : V} {d : PyData} (h : De N H v d) : TyX K H v (.type (tyD d)) := by
  cases h with
  | non => exact .base .non
  | bl b => exact .base (.bl b)
  | int i => exact .base (.int i)
  | str x => exact .base (.str x)
  | lst _ h _ => exact .base (.lst h)
  | tup h _ => exact .base (.tup h)
  | dic h => exact .base (.dK h)
theorem De.tuple {N : Addr → Prop} {H : Hp} {v : V} {d : PyData} (h : De N H v d) (e : isT d = true) : ∃ a xs ds, v = .ref a ∧ d = .tuple ds ∧ H a = some (.tup xs) ∧ DeAll N H xs ds := by
  cases h with
  | tup a b => exact ⟨_, _, _, rfl, rfl, a, b⟩
  | _ => cases e
theorem De.int_of {N : Addr → Prop} {H : Hp} {v : V} {d : PyData} (h : De N H v d) (e : isI d = true) : ∃ i, v = .int i ∧ d = .int i := by
  cases h with
  | int i => exact ⟨i, rfl, rfl⟩
  | _ => cases e
/-! ### read, shown -/
theorem reads_dic {X : Cx} {pins : List (Addr × Obj)} {σ : L2.St} {H : Hp} {s : Shared} (I : Inv X pins σ H s) {a : Addr} (h : H a = some (.dK [])) : Reads s.heap (.ref a) (.dict []) (a :: ([] ++ [])) ∧ sysModules ≠ a := by
  obtain ⟨_, ns, vs, kv, o, es, ep, g1, g2, g3, g4, g5⟩ := (show ObjOk X.prog X.w H s.heap a (.dK []) from I.hok a _ h)
  cases kv
  have z := g5.1
  have e0 : es.toList = [] := by
    generalize es.toList = l at z
    cases l with
    | nil => rfl
    | cons _ _ => cases z
  exact ⟨.dict g1 g2.1 g3 (by rw [e0]; exact .nil) (by rw [e0]; exact .nil), fun q => by simp [q] at ns⟩
mutual
theorem De.reads {X : Cx} {pins : List (Addr × Obj)} {σ : L2.St} {H : Hp} {s : Shared} {N : Addr → Prop} (I : Inv X pins σ H s) (ns : ∀ a, N a → a ≠ sysModules) {v : V} {u : Value} : ∀ {d : PyData}, De N H v d → RelV v u → ∃ as, Reads s.heap u d as ∧ sysModules ∉ as
  | _, .non, r => by
    cases r
    exact ⟨_, .none, by simp⟩
  | _, .bl b, r => by
    cases r
    exact ⟨_, .bool b, by simp⟩
  | _, .int i, r => by
    obtain ⟨t, rfl⟩ := r
    exact ⟨_, .int i t, by simp⟩
  | _, .str x, r => by
    obtain ⟨t, rfl⟩ := r
    exact ⟨_, .str x t, by simp⟩
  | _, .dic h, r => by
    cases r
    obtain ⟨q1, q2⟩ := reads_dic I h
    exact ⟨_, q1, by simpa using q2⟩
  | _, .tup h t, r => by
    cases r
    obtain ⟨its, rv, ⟨o, ho, hc, n, hd⟩, _⟩ := I.tuple (SqT.of h)
    obtain ⟨as, q1, q2⟩ := DeAll.reads I ns t rv
    exact ⟨as, .tuple ho hc hd q1, q2⟩
  | _, .lst n h t, r => by
    cases r
    obtain ⟨its, rv, ⟨o, m, ho, hc, _, hd⟩, _⟩ := I.list (SqL.of h)
    obtain ⟨as, q1, q2⟩ := DeAll.reads I ns t rv
    refine ⟨_, .list ho hc hd q1, fun z => ?_⟩
    rcases List.mem_cons.mp z with z | z
    · exact ns _ n z.symm
    · exact q2 z
theorem DeAll.reads {X : Cx} {pins : List (Addr × Obj)} {σ : L2.St} {H : Hp} {s : Shared} {N : Addr → Prop} (I : Inv X pins σ H s) (ns : ∀ a, N a → a ≠ sysModules) {vs : List V} {us : List Value} : ∀ {ds : List PyData}, DeAll N H vs ds → Vals vs us → ∃ as, ReadsAll s.heap us ds as ∧ sysModules ∉ as
  | _, .nil, r => by
    cases r
    exact ⟨_, .nil, by simp⟩
  | _, .cons h t, r => by
    cases r with
    | cons r1 r2 =>
      obtain ⟨as, q1, q2⟩ := De.reads I ns h r1
      obtain ⟨bs, q3, q4⟩ := DeAll.reads I ns t r2
      refine ⟨_, .cons q1 q3, fun z => ?_⟩
      rcases List.mem_append.mp z with z | z
      · exact q2 z
      · exact q4 z
end
/-! ### how long what is shown may be -/
mutual
def okE : PyData → Bool
  | .none => true
  | .bool _ => true
  | .int i => decide (i.natAbs.log2 < 1920)
  | .str x => strSmall x
  | .list xs => okEAll xs
  | .tuple xs => okEAll xs
  | .dict kvs => kvs.isEmpty
def okEAll : List PyData → Bool
  | [] => true
  | x :: xs => okE x && okEAll xs
def wtE : PyData → Nat
  | .none => 4
  | .bool _ => 5
  | .int _ => 1921
  | .str x => 10 * x.length + 2
  | .list xs => wtEAll xs + 3
  | .tuple xs => wtEAll xs + 3
  | .dict _ => 2
def wtEAll : List PyData → Nat
  | [] => 0
  | x :: xs => wtE x + 2 + wtEAll xs
end
mutual
theorem okE_facts : ∀ d : PyData, okE d = true → d.showable = true ∧ d.shown.length ≤ wtE d
  | .none, _ => ⟨rfl, by decide +kernel⟩
  | .bool true, _ => ⟨rfl, by decide +kernel⟩
  | .bool false, _ => ⟨rfl, by decide +kernel⟩
  | .int i, h => by
    have z := okD_facts (.int i) (by simpa [okE, okD] using h)
    exact ⟨z.1, by simpa only [NA.cost, wtE] using z.2.2⟩
  | .str x, h => by
    have z := okD_facts (.str x) (by simpa [okE, okD] using h)
    exact ⟨z.1, by simpa only [NA.cost, wtE] using z.2.2⟩
  | .list xs, h => by
    obtain ⟨a, c⟩ := okEAll_facts xs (by simpa [okE] using h)
    have := listText_len_le (PyData.shownAll xs)
    refine ⟨by simpa [PyData.showable] using a, ?_⟩
    simp only [PyData.shown, wtE]
    omega
  | .tuple xs, h => by
    obtain ⟨a, c⟩ := okEAll_facts xs (by simpa [okE] using h)
    have := tupleText_len_le (PyData.shownAll xs)
    refine ⟨by simpa [PyData.showable] using a, ?_⟩
    simp only [PyData.shown, wtE]
    omega
  | .dict [], _ => ⟨by simp [PyData.showable, PyData.showableKv], by decide +kernel⟩
  | .dict (_ :: _), h => by simp [okE] at h
theorem okEAll_facts : ∀ xs : List PyData, okEAll xs = true → PyData.showableAll xs = true ∧ ((PyData.shownAll xs).map (·.length)).sum + 2 * (PyData.shownAll xs).length ≤ wtEAll xs
  | [], _ => ⟨rfl, Nat.le_refl _⟩
  | x :: xs, h => by
    simp only [okEAll, Bool.and_eq_true] at h
    obtain ⟨a, b⟩ := okE_facts x h.1
    obtain ⟨c, e⟩ := okEAll_facts xs h.2
    refine ⟨by simp only [PyData.showableAll, a, c, Bool.and_self], ?_⟩
    simp only [PyData.shownAll, wtEAll, List.map_cons, List.sum_cons, List.length_cons]
    omega
end
structure ShE (d : PyData) : Prop where
  ok : okE d = true
  wt : wtE d ≤ 16000000
  depth : d.depth ≤ 60
/-- in a scale: how heavy, how deep -/
def okEG (c dp : Nat) (d : PyData) : Bool := okE d && decide (wtE d ≤ c) && decide (d.depth ≤ dp)
theorem okEG_iff {c dp : Nat} {d : PyData} : okEG c dp d = true ↔ okE d = true ∧ wtE d ≤ c ∧ d.depth ≤ dp := by
  unfold okEG
  simp only [Bool.and_eq_true, decide_eq_true_eq, and_assoc]
theorem okEG_mono {c dp c' dp' : Nat} {d : PyData} (h : okEG c dp d = true) (a : c ≤ c') (b : dp ≤ dp') : okEG c' dp' d = true := by
  obtain ⟨x, y, z⟩ := okEG_iff.mp h
  exact okEG_iff.mpr ⟨x, by omega, by omega⟩
theorem okEG_all {c dp : Nat} {l : List PyData} (h : ∀ x ∈ l, okEG c dp x = true) : okEAll l = true ∧ wtEAll l ≤ (c + 2) * l.length ∧ PyData.depthAll l ≤ dp := by
  induction l with
  | nil => exact ⟨rfl, Nat.le_refl _, Nat.zero_le _⟩
  | cons x l ih =>
    obtain ⟨a, b, e⟩ := ih fun y hy => h y (List.mem_cons_of_mem _ hy)
    obtain ⟨a1, b1, e1⟩ := okEG_iff.mp (h x List.mem_cons_self)
    refine ⟨by simp only [okEAll, a, a1, Bool.and_self], ?_, ?_⟩
    · simp only [wtEAll, List.length_cons, Nat.mul_succ]
      omega
    · simp only [PyData.depthAll]
      omega
theorem okEG_tup {c dp c' dp' : Nat} {l : List PyData} (h : ∀ x ∈ l, okEG c dp x = true) (a : (c + 2) * l.length + 3 ≤ c') (b : dp + 1 ≤ dp') : okEG c' dp' (.tuple l) = true := by
  obtain ⟨h1, h2, h3⟩ := okEG_all h
  refine okEG_iff.mpr ⟨by simpa only [okE] using h1, ?_, ?_⟩
  · simp only [wtE]
    omega
  · simp only [PyData.depth]
    omega
theorem okEG_lst {c dp c' dp' : Nat} {l : List PyData} (h : ∀ x ∈ l, okEG c dp x = true) (a : (c + 2) * l.length + 3 ≤ c') (b : dp + 1 ≤ dp') : okEG c' dp' (.list l) = true := by
  obtain ⟨h1, h2, h3⟩ := okEG_all h
  refine okEG_iff.mpr ⟨by simpa only [okE] using h1, ?_, ?_⟩
  · simp only [wtE]
    omega
  · simp only [PyData.depth]
    omega
theorem okEG_sh {c dp : Nat} {d : PyData} (h : okEG c dp d = true) (a : c ≤ 16000000) (b : dp ≤ 60) : ShE d := by
  obtain ⟨h1, h2, h3⟩ := okEG_iff.mp h
  exact ⟨h1, by omega, by omega⟩
theorem okEG_int {n : Int} (h : n.natAbs ≤ 10 ^ 62) : okEG 1921 0 (.int n) = true := okEG_iff.mpr ⟨by simp only [okE]; exact decide_eq_true (small_log (Nat.lt_of_le_of_lt h (by decide))), by simp only [wtE]; decide, by simp only [PyData.depth]; decide⟩
/-- what is neither in the pot nor sys.modules -/
def Nq (p q : Addr) : Addr → Prop := fun a => a ≠ p ∧ a ≠ q ∧ a ≠ sysModules
theorem Ks.kq {p q : Addr} {H H' : Hp} (e : Kp p q H H') (P : Pt H p q) : Ks (Nq p q) H H' := by
  have z := Ks.kp e P
  exact ⟨z.tup, fun b xs n h => z.lst b xs ⟨n.1, n.2.1⟩ h, z.dic⟩
/-- repr of a list that was just made -/
def rReprE : List V → Hp → VK → Prop := fun xs H Q => ∃ (l : Addr) (vs : List V) (ds : List PyData) (N : Addr → Prop), xs = [.ref l] ∧ l ≠ sysModules ∧ H l = some (.lst vs) ∧ DeAll N H vs ds ∧ (∀ a, N a → a ≠ sysModules) ∧ ShE (.list ds) ∧ Q (.str (PyData.list ds).shown) H
theorem call_reprE {X : Cx} {k : Nat} (hg : Bare X.A) (hr : Room k X.A) : CallR X (.builtin "repr") rReprE := by
  intro pins s σ H xs us Q I r h
  obtain ⟨l, vs, ds, N, rfl, nl, hl, hd, ns, sh, q⟩ := h
  obtain ⟨u, rfl, ru⟩ := r.one
  cases (show u = Value.ref l from ru)
  obtain ⟨its, rv, ⟨o, n, ho, hc, _, hdt⟩, _⟩ := I.list (SqL.of hl)
  obtain ⟨as, q1, q2⟩ := DeAll.reads I ns hd rv
  obtain ⟨f1, f2⟩ := okE_facts _ sh.ok
  have hu := hr.un
  have dp := sh.depth
  refine repr_of_reads' (.list ho hc hdt q1) f1 (fun _ z => ?_) hg (by omega) (fun _ _ z => z) (fun h' u tk hk => ⟨.str _, H, I.kept (t' := tk) hk, ⟨_, rfl⟩, q⟩) (Nat.le_trans f2 (Nat.le_trans sh.wt (by decide)))
  rcases List.mem_cons.mp z with z | z
  · exact nl z.symm
  · exact q2 z
end NA
set_option maxHeartbeats 4000000
namespace NA
open PySem PySem.Spec PyProof.Rows L2

/-! ### {(a, b): v for target in iter}: a dict whose keys are tuples -/
theorem dictSetT {X : Cx} {pins : List (Addr × Obj)} {σ : L2.St} {H : Hp} {s : Shared} {E : Value → Shared → Prop} {D b : Addr} {kvs : List (List Key × V)} {k : List Key} {v : V} {u r : Value} {Q : Unit → Shared → Prop} (hu : X.A.units + 1 < cLine) (I : Inv X pins σ H s)
    (eD : H D = some (.dT kvs)) (eb : H b = some (.tup (k.map kV))) (small : kvs.length < sizeLine) (ru : RelV (.ref b) u) (rr : RelV v r) (done : ∀ s', Inv X pins σ (upd H D (.dT (putK kvs k v))) s' → Q () s') :
    wpAny (model X.prog X.w) X.A (dictSet D u r) Q E s := by
  cases (show u = Value.ref b from ru)
  obtain ⟨z, ns, xs, rel, dd⟩ := dt_of I.hok eD
  refine wpAny_dictSet_heap (hsz := by rw [← Paired.length rel]; exact z) (show X.A.units < cLine by omega) (key_of I.hok eb) dd fun h2 d2 sb => done _ ?_
  obtain ⟨o, es, ep, q1, q2, q3, q4, _, q5⟩ := d2
  have longer := length_putK kvs k v
  refine d_write I (by rw [eD]; trivial) sb ⟨o, q1⟩ ⟨by omega, ns, _, (rel.put k eb rr).keeps fun c ys ec => ?_, o, es, ep, q1, q2, q3, q4, q5⟩
  exact (upd_ne (ne_of ec eD (by intro w; cases w))).trans ec
/-- how such a dict is read -/
def tDcT (wi : TI) (g : TG) (tt : TT) (tk tv : TE) (vs : List Nat) : TE := fun σ H Q => wi σ H fun J H1 => ∀ D, H1 D = none → ∃ W : Nat → Nat → Hp → Prop, (∃ m, W 0 m (upd H1 D (.dT []))) ∧ ∀ i m H2, W i m H2 →
  (J.stop i H2 ∧ Q (.ref D) H2) ∨ (J.go i H2 ∧ ∃ Nx : Hp → Prop, (∀ H', Nx H' → ∃ m', m' < m ∧ W (i + 1) m' H') ∧ ∀ x H', J.yld i H2 x H' → g x (wipe σ vs) H' fun σ2 H3 => wipe σ2 vs = wipe σ vs ∧ tt σ2 H3 fun c H4 =>
    if c = true then tk σ2 H4 fun y H5 => tv σ2 H5 fun z H6 => ∃ (kvs : List (List Key × V)) (k : List Key) (b : Addr), y = .ref b ∧ H6 b = some (.tup (k.map kV)) ∧ H6 D = some (.dT kvs) ∧ kvs.length < sizeLine ∧ Nx (upd H6 D (.dT (putK kvs k z))) else Nx H4)
section
variable {X : Cx} {kx vx tg iter : Expr} {ifs : List Expr} {scope : Scope} {own : List (Str × Nat)} {pos : Pos} {wi : TI} {g : TG} {tt : TT} {tk tv : TE}
theorem pe_dcT (calm : X.calm = true) (nd : X.N.Nodup) (pi : PI X tg iter wi) (bk : BlkOk X.N X.env.scope scope own) (hu : X.A.units + 1 < cLine)
    (G : ∀ (s0 : Shared) (H0 : Hp) (C0 : Addr) (c0 : List (Str × Addr)) (p0 : List Addr), PG (X.blk s0 H0 scope (compEnvC scope c0 C0 X.env) p0) tg g)
    (U : ∀ (s0 : Shared) (H0 : Hp) (C0 : Addr) (c0 : List (Str × Addr)) (p0 : List Addr), PTs (X.blk s0 H0 scope (compEnvC scope c0 C0 X.env) p0) ifs tt)
    (A1 : ∀ (s0 : Shared) (H0 : Hp) (C0 : Addr) (c0 : List (Str × Addr)) (p0 : List Addr), PE (X.blk s0 H0 scope (compEnvC scope c0 C0 X.env) p0) kx tk)
    (A2 : ∀ (s0 : Shared) (H0 : Hp) (C0 : Addr) (c0 : List (Str × Addr)) (p0 : List Addr), PE (X.blk s0 H0 scope (compEnvC scope c0 C0 X.env) p0) vx tv)
    (plain : ∀ x, foldedSetIterable iter X.env x = pure x := by intro _; rfl) : PE X (.DictComp kx vx [⟨tg, iter, ifs, 0⟩] scope pos) (tDcT wi g tt tk tv (own.map (·.2))) := by
  refine ⟨fun pins s σ H Q I h => ?_⟩
  rw [arm_eval_DictComp]
  have cap : ∀ y ∈ scope.names, y.2 = .free → ∃ c, X.env.cells.lookup y.1 = some c := fun y m e => (bk.free y m e).elim (fun z => I.ok.has _ (.inl z)) (fun z => I.ok.has _ (.inr z))
  refine wpAny_comprehension_free (use := none) rfl plain (closure_ok cap) bk.kind (fun y m e => by rw [bk.uniq y m, e]) (thn (pi.run pins s σ H _ I h) fun _ s1 r1 => thn r1 fun _ s2 r2 => ?_)
  obtain ⟨ia, fp, tn, J, H2, rfl, I2, T, begun, fr, q⟩ := r2
  refine wpAny_newObj_type (newEnv_comp ?_)
  obtain ⟨W, ⟨m0, w0⟩, turn⟩ := q s2.heap.objs.size (I2.hok.fresh (Nat.le_refl _))
  have low : ∀ b ∈ fp, b < s2.heap.objs.size := fun b m => (T.obj _ _ begun b m).elim fun o z => Heap.lt_size z.1
  have J3 : Inv X pins σ (upd H2 s2.heap.objs.size (.dT [])) { s2 with heap := s2.heap.push { cls := .type "dict", data := .dict #[] } } :=
    I2.laid (t' := s2.toks) (fun _ _ z => Heap.get?_push_of_some _ z) (Nat.le_refl _) (dt_empty s2.heap I2.big)
  have own3 : ∀ b ∈ fp, FpOk X pins (upd H2 s2.heap.objs.size (.dT [])) b ∧ b < (s2.heap.push { cls := .type "dict", data := .dict #[] }).objs.size := fun b m =>
    ⟨⟨(upd_ne (Nat.ne_of_lt (low b m))).trans (fr b m).1, (fr b m).2⟩, by rw [Heap.size_push]; exact Nat.lt_succ_of_lt (low b m)⟩
  have begun3 : tn 0 (s2.heap.push { cls := .type "dict", data := .dict #[] }) := T.keep _ _ _ begun fun _ _ _ z => Heap.get?_push_of_some _ z
  generalize s2.heap.objs.size = D at w0 turn J3 own3 ⊢
  obtain ⟨s3, e3⟩ : ∃ x : Shared, x = { s2 with heap := s2.heap.push { cls := .type "dict", data := .dict #[] } } := ⟨_, rfl⟩
  have hp3 : s3.heap = s2.heap.push { cls := .type "dict", data := .dict #[] } := by rw [e3]
  rw [← e3] at J3
  rw [← hp3] at own3 begun3
  generalize upd H2 D (.dT []) = H3 at w0 J3 own3
  have B := block_start J3 bk nd own3
  have gP := G s3 H3 s3.heap.objs.size (cellsFrom (s3.heap.objs.size + 1) scope.names (cloFrom X.env.cells scope.names [])) fp
  have gU := U s3 H3 s3.heap.objs.size (cellsFrom (s3.heap.objs.size + 1) scope.names (cloFrom X.env.cells scope.names [])) fp
  have gK := A1 s3 H3 s3.heap.objs.size (cellsFrom (s3.heap.objs.size + 1) scope.names (cloFrom X.env.cells scope.names [])) fp
  have gV := A2 s3 H3 s3.heap.objs.size (cellsFrom (s3.heap.objs.size + 1) scope.names (cloFrom X.env.cells scope.names [])) fp
  rw [← e3]
  change codeAny _ _ (.compStart _ 0 (.ref ia) (.ref D) (compEnvC scope (cellsFrom (s3.heap.objs.size + 1) scope.names (cloFrom X.env.cells scope.names [])) s3.heap.objs.size X.env)) (compPost _ _ _ none _ (.ref D) s3.heap.objs.size) _
  obtain ⟨ce, ec⟩ : ∃ x : Env, x = compEnvC scope (cellsFrom (s3.heap.objs.size + 1) scope.names (cloFrom X.env.cells scope.names [])) s3.heap.objs.size X.env := ⟨_, rfl⟩
  have at3 : ce.locals = s3.heap.objs.size := by rw [ec]; rfl
  rw [← ec] at B gP gU gK gV ⊢
  have begun4 : tn 0 (pushCells (s3.heap.push { cls := .type "dict", data := .dict #[] }) scope.names) := T.keep _ _ _ begun3 fun _ _ _ z => pushCells_keeps _ _ _ _ (Heap.get?_push_of_some _ z)
  have bare3 : ∀ b ∈ fp, H3 b = none := fun b m => (own3 b m).1.1
  obtain ⟨s4, e4⟩ : ∃ x : Shared, x = { s3 with heap := pushCells (s3.heap.push { cls := .type "dict", data := .dict #[] }) scope.names } := ⟨_, rfl⟩
  have hp4 : s4.heap = pushCells (s3.heap.push { cls := .type "dict", data := .dict #[] }) scope.names := by rw [e4]
  rw [← e4] at B ⊢
  rw [← hp4] at begun4
  -- what the iterator owns, seen from the block
  have seen : ∀ {τ : L2.St} {K' : Hp} {z : Shared}, Inv (X.blk s3 H3 scope ce fp) [] τ K' z → (∀ b ∈ fp, K' b = none) → ∀ b ∈ fp, FpOk (X.blk s3 H3 scope ce fp) [] K' b := fun {τ K' z} i' n' b m =>
    ⟨n' b m, (i'.ok.exf b m).1, i'.ok.exfs b m, .inl m, fun x c e => (i'.ok.exf b m).2 x c e, fun w hw => absurd (show w ∈ ([] : List (Addr × Obj)) ++ [] from hw) (by simp)⟩
  have loop : codeAny (model X.prog X.w) X.A (.compLoop (.DictComp kx vx [⟨tg, iter, ifs, 0⟩] scope pos) 0 (.ref ia) (.ref D) ce) (compPost (model X.prog X.w) X.A X.xe none (EP X pins σ Q) (.ref D) s3.heap.objs.size) s4 := by
    refine compLoop_anyD (fun n z => ∃ i K', Inv (X.blk s3 H3 scope ce fp) [] (wipe σ (own.map (·.2))) K' z ∧ tn i z.heap ∧ (∀ b ∈ fp, K' b = none) ∧ W i n K') (fun n s5 hs5 => ?_) m0 ⟨0, H3, B, begun4, bare3, w0⟩
    obtain ⟨i, K5, I5, n5, bare5, w5⟩ := hs5
    rcases turn i n K5 w5 with ⟨halt, done⟩ | ⟨go, Nx, drop, body⟩
    · refine thnF (T.done (X.blk s3 H3 scope ce fp) rfl rfl rfl calm i [] s5 _ K5 (fun _ _ => False) I5 (seen I5 bare5) n5 halt) fun r s6 ⟨er, I6⟩ => ?_
      subst er
      have I7 : Inv X pins σ K5 s6 := J3.call' (ch := fp) I6.os I6.base I6.hok I6.bare fun b m => let z := (own3 b m).1.2; ⟨z.2.2.1, z.1, z.2.2.2.1, z.2.2.2.2⟩
      have open3 : K5 s3.heap.objs.size = none := at3 ▸ (show K5 ce.locals = none from I6.free)
      obtain ⟨m, names, _⟩ := I6.loc
      have names' : s6.heap.Ns s3.heap.objs.size m := at3 ▸ (show s6.heap.Ns ce.locals m from names)
      obtain ⟨p0, p1, p2, p3, p4, p5⟩ := J3.fpOk (H' := K5) (Nat.le_refl _) open3
      exact ⟨m, names', fun h8 sb => ⟨.ref D, K5, I7.turned (t' := s6.toks) (fun b o ne z => (sb.2 b ne).trans z) p0 p1 p3 p4 p5, rfl, done⟩⟩
    · refine thnF (T.item (X.blk s3 H3 scope ce fp) rfl rfl rfl calm i [] s5 _ K5 (fun _ _ => False) I5 (seen I5 bare5) n5 go) fun r s6 ⟨u, er, next⟩ => ?_
      subst er
      refine thnF next fun _ s7 ⟨x, K7, I7, rx, hy, n7, bare7⟩ => ?_
      refine thnF (gP.run _ s7 _ K7 x u _ (I7.pinned (seen I7 bare7) (T.obj _ _ n7)) rx (body x K7 hy)) fun _ s8 ⟨σ8, K8, I8, same8, test⟩ => ?_
      refine thnF (gU.run _ s8 σ8 K8 _ I8 test) fun c s9 ⟨K9, I9, rest⟩ => ?_
      have closing : ∀ {z : Shared} {K' : Hp}, Inv (X.blk s3 H3 scope ce fp) ([] ++ pinsAt fp s7.heap) σ8 K' z → Nx K' → ∃ m, m < n ∧ ∃ i K', Inv (X.blk s3 H3 scope ce fp) [] (wipe σ (own.map (·.2))) K' z ∧ tn i z.heap ∧ (∀ b ∈ fp, K' b = none) ∧ W i m K' := fun {z K'} i' nx => by
        obtain ⟨m, less, w'⟩ := drop K' nx
        have stay : ∀ b ∈ fp, ∀ o, s7.heap.get? b = some o → z.heap.get? b = some o ∧ K' b = none := fun b mb o eo => by
          have y := i'.pin (b, o) (List.mem_append_right _ (List.mem_append_right _ (mem_pinsAt mb eo)))
          exact ⟨y.1, y.2.1⟩
        refine ⟨m, less, i + 1, K', (i'.unpinned (pins := [])).weak (by rw [← same8, wipe_length]) (fun j v ej => ?_), T.keep _ _ _ n7 fun b mb o eo => (stay b mb o eo).1, fun b mb => ?_, w'⟩
        · exact (wipe_some (same8 ▸ ej)).1
        · exact (T.obj _ _ n7 b mb).elim fun o y => (stay b mb o y.1).2
      cases c with
      | false =>
        rw [if_neg (by decide)] at rest ⊢
        exact closing I9 rest
      | true =>
        rw [if_pos rfl] at rest ⊢
        refine thnF (gK.run _ s9 σ8 K9 _ I9 rest) fun _ s10 ⟨y1, K10, I10, r10, vals⟩ => ?_
        refine thnF (gV.run _ s10 σ8 K10 _ I10 vals) fun _ s11 ⟨y2, K11, I11, r11, kvs, k, b, ey, eb, eD, room, nx⟩ => ?_
        subst ey
        exact dictSetT (X := X.blk s3 H3 scope ce fp) hu I11 eD eb room r10 r11 fun s12 I12 => closing I12 nx
  exact codeAny_compStart_dict loop (T.self X.A 0 _ _ _ begun4 loop)
/-- over a tuple that stays -/
theorem dcT_tup {K : PySem.W.Frag} {a D : Addr} {xs : List V} {vs : List Nat} {σ : L2.St} {H1 : Hp} {Qd : Hp → Prop} (Pv : Nat → Hp → Prop) (first : Pv 0 (upd H1 D (.dT []))) (there : ∀ i H, i ≤ xs.length → Pv i H → SqT K H a xs)
    (each : ∀ i x H, xs[i]? = some x → Pv i H → g x (wipe σ vs) H fun σ2 H3 => wipe σ2 vs = wipe σ vs ∧ tt σ2 H3 fun c H4 => if c = true then tk σ2 H4 fun y H5 => tv σ2 H5 fun z H6 =>
      ∃ (kvs : List (List Key × V)) (k : List Key) (b : Addr), y = .ref b ∧ H6 b = some (.tup (k.map kV)) ∧ H6 D = some (.dT kvs) ∧ kvs.length < sizeLine ∧ Pv (i + 1) (upd H6 D (.dT (putK kvs k z))) else Pv (i + 1) H4) (last : ∀ H, Pv xs.length H → Qd H) :
    ∃ W : Nat → Nat → Hp → Prop, (∃ m, W 0 m (upd H1 D (.dT []))) ∧ ∀ i m H2, W i m H2 → ((Itt K a).stop i H2 ∧ Qd H2) ∨ ((Itt K a).go i H2 ∧ ∃ Nx : Hp → Prop, (∀ H', Nx H' → ∃ m', m' < m ∧ W (i + 1) m' H') ∧ ∀ x H', (Itt K a).yld i H2 x H' →
      g x (wipe σ vs) H' fun σ2 H3 => wipe σ2 vs = wipe σ vs ∧ tt σ2 H3 fun c H4 => if c = true then tk σ2 H4 fun y H5 => tv σ2 H5 fun z H6 =>
        ∃ (kvs : List (List Key × V)) (k : List Key) (b : Addr), y = .ref b ∧ H6 b = some (.tup (k.map kV)) ∧ H6 D = some (.dT kvs) ∧ kvs.length < sizeLine ∧ Nx (upd H6 D (.dT (putK kvs k z))) else Nx H4) := by
  refine ⟨fun i m H => m + i = xs.length ∧ Pv i H, ⟨xs.length, rfl, first⟩, fun i m H2 ⟨mi, p⟩ => ?_⟩
  have sq := there i H2 (by omega) p
  match m, mi with
  | 0, mi =>
    have e : i = xs.length := by omega
    subst e
    exact .inl ⟨⟨xs, sq, Nat.le_refl _⟩, last H2 p⟩
  | m + 1, mi =>
    have lt : i < xs.length := by omega
    refine .inr ⟨⟨xs, xs[i], sq, List.getElem?_eq_getElem lt⟩, Pv (i + 1), fun H' p' => ⟨m, Nat.lt_succ_self m, by omega, p'⟩, fun x H' hy => ?_⟩
    obtain ⟨e, y⟩ := hy
    subst e
    exact each i x _ (y xs sq) p
end
end NA
set_option maxHeartbeats 4000000
namespace NA
open PySem PySem.Spec PyProof.Rows L2
/-! ### a tuple times 0; list(..) is no sys.modules -/
theorem tuple_mulNought (l : Addr) (items : Array Value) (n : Nat) (dd : Option Addr) (sl : Array (Option Value)) (u : Tok) (ne : items.isEmpty = false) :
    Meets (Builtin.«tuple.__mul__» ⟨[.ref l, .int 0 u], []⟩) (fun _ R s => s.heap.get? l = some { cls := .type "tuple", dict := dd, data := .seq items n, slots := sl } ∧
      R (.ok (.ret (Value.ref s.heap.objs.size))) { s with heap := s.heap.push { cls := Value.type "tuple", data := Data.seq #[] }, toks := s.toks }) :=
  .of_wp fun prog w A R s h => by
    obtain ⟨hp, g, d, tk, os⟩ := s
    obtain ⟨hl, h⟩ := h
    have f1 := AutoSeq1.idx_int
    wp_walk using wpAny_loadPart' hl
    exact ⟨_, rfl, h⟩
def rRepZ (K : PySem.W.Frag) : R2 := fun x y H Q => ∃ l k xs, x = .ref l ∧ y = .int k ∧ SqT K H l xs ∧ H l = some (.tup xs) ∧ xs ≠ [] ∧ 0 ≤ k ∧ k ≤ 1000 ∧ xs.length ≤ 1000 ∧ ∀ p H', Same H H' → H' p = some (.tup (List.replicate k.toNat xs).flatten) → Q (.ref p) H'
theorem op_repZ {X : Cx} (K : PySem.W.Frag) (hK : X.K = K) : OpR X (binaryOp .Mult) (rRepZ K) := by
  intro pins s σ H x y v u Q I rx ry h
  obtain ⟨l, k, xs, rfl, rfl, hT, hT2, hne, h1, h2, hz, q⟩ := h
  by_cases k1 : k = 0
  · subst k1
    cases rx
    obtain ⟨t, rfl⟩ := ry
    obtain ⟨its, r, ⟨⟨cls, dd, data, sl⟩, ho, hc, n, hd⟩, hs⟩ := I.tuple (hK ▸ hT)
    simp only at hc hd
    subst hc hd
    have some1 : its.toArray.isEmpty = false := by
      cases its with
      | nil => exact absurd (List.eq_nil_of_length_eq_zero r.length) hne
      | cons _ _ => rfl
    refine wpAny_binaryOp_repeat_ref (T := "tuple") (U := "int") (by decide) ⟨_, ho, rfl⟩ (fun s' => typeIs_int s' 0 t) noFill_tuple_mul F.fills_int_mul F.slot_int_rmul repeat_tuple F.slot_int_index.lookup
      (call_meets F.slot_int_rmul (typeIs_int s 0 t) F.entry_int_rmul (F.args_int_rmul_2 _ _) (int_rmul_tuple 0 t l its.toArray n dd sl)
        ⟨ho, rfl, ⟨_, ho, rfl⟩, call_meets F.slot_tuple_mul ⟨_, ho, rfl⟩ F.entry_tuple_mul (F.args_tuple_mul_2 _ _) (tuple_mulNought l its.toArray n dd sl t some1) ⟨ho, ?_⟩⟩)
    have fr : H s.heap.objs.size = none := I.hok.fresh (Nat.le_refl _)
    refine ⟨.ref s.heap.objs.size, _, I.laid (t' := s.toks) (o := .tup []) (fun b ob w => Heap.get?_push_of_some _ w) (Nat.le_refl _) ⟨Nat.zero_le _, [], .nil, IsTup.new _ _⟩, rfl, q _ _ (Same.new (Same.refl H) fr) ?_⟩
    rw [upd_same]
    rfl
  · exact op_repN K hK pins s σ H _ _ v u Q I rx ry ⟨l, k, xs, rfl, rfl, hT, hT2, hne, by omega, h2, hz, q⟩
theorem call_listN {X : Cx} (K : PySem.W.Frag) (hK : X.K = K) : CallR X (.type "list") (fun xs H Q => ∃ p ys, xs = [.ref p] ∧ SqT K H p ys ∧ ∀ l, H l = none → l ≠ sysModules → Q (.ref l) (upd H l (.lst ys))) := by
  subst hK
  intro pins s σ H xs us Q I r h
  obtain ⟨p, ys, rfl, hq, q⟩ := h
  obtain ⟨u, rfl, rx⟩ := r.one
  cases (show u = Value.ref p from rx)
  obtain ⟨its, rv, ⟨o, ho, hc, n, hd⟩, hz⟩ := I.tuple hq
  have same := rv.length
  exact call_list_seq p (.inr rfl) ho hc hd (fun h2 c2 kp e => ⟨.ref s.heap.objs.size, _, I.laid (t' := s.toks) kp (Nat.le_refl _) (show ObjOk X.prog X.w _ h2 _ (.lst ys) from ⟨hz, its, c2, rv, e⟩), rfl, q _ (I.hok.fresh (Nat.le_refl _)) (Nat.ne_of_gt I.big)⟩) (by rw [List.size_toArray]; omega)
end NA
set_option maxHeartbeats 4000000
namespace NA
open PySem PySem.Spec PyProof.Rows L2
/-! ### a text times a number from 2 on -/
def repS (a : Str) (n : Nat) : Str := ⟨(List.replicate n a.cps).foldl (· ++ ·) #[]⟩
theorem foldl_size (cs : Array Nat) : ∀ (n : Nat) (b : Array Nat), ((List.replicate n cs).foldl (· ++ ·) b).size = b.size + n * cs.size
  | 0, b => by simp
  | n + 1, b => by
    rw [List.replicate_succ, List.foldl_cons, foldl_size cs n, Array.size_append, Nat.succ_mul]
    omega
theorem repS_len (a : Str) (n : Nat) : (repS a n).length = n * a.length := by
  have := foldl_size a.cps n #[]
  show ((List.replicate n a.cps).foldl (· ++ ·) #[]).size = n * a.cps.size
  simpa using this
def rRepS : R2 := fun x y H Q => ∃ a k, x = .str a ∧ y = .int k ∧ 2 ≤ k ∧ k ≤ 2000 ∧ 0 < a.length ∧ a.length ≤ 100 ∧ Q (.str (repS a k.toNat)) H
theorem op_repS {X : Cx} : OpR X (binaryOp .Mult) rRepS := by
  intro pins s σ H x y v u Q I rx ry h
  obtain ⟨a, k, rfl, rfl, k2, k3, a1, a2, q⟩ := h
  obtain ⟨t, rfl⟩ := rx
  obtain ⟨t', rfl⟩ := ry
  have ln : a.length * k.toNat ≤ 100 * 2000 := Nat.mul_le_mul a2 (by omega)
  refine PySem.P.mul_str (by rw [decide_eq_false (by omega), decide_eq_false (by omega)]; rfl) (fun _ _ z => ?_) (fun _ _ => ?_) ?_
  · have m1 : (a.length : Int) * k ≤ 100 * 2000 := Int.mul_le_mul (by omega) k3 (by omega) (by decide)
    have := (Int.le_ediv_iff_mul_le (a := (a.length : Int)) (b := 2 ^ 63 - 1) (c := k) (by omega)).mpr (by omega)
    omega
  · show decide (_ > sizeLine) = false
    exact decide_eq_false (Nat.not_lt.mpr (Nat.le_trans ln (by decide)))
  · have e1 : ((k == 1) || (a.length == 0)) = false := by
      rw [beq_eq_false_iff_ne.mpr (by omega), beq_eq_false_iff_ne.mpr (by omega)]
      rfl
    rw [if_neg (by omega), e1, if_neg Bool.false_ne_true]
    refine ⟨?_, .str (repS a k.toNat), H, I.tok _, ⟨_, rfl⟩, q⟩
    show (repS a k.toNat).length ≤ sizeLine
    rw [repS_len, Nat.mul_comm]
    exact Nat.le_trans ln (by decide)
end NA
namespace NA
open PySem PySem.Spec PyProof.Rows L2
/-! ## determinants -/
abbrev Mx := Nat → Nat → Int
def alt (i : Nat) : Int := if i % 2 = 0 then 1 else -1
def mnr (A : Mx) (i : Nat) : Mx := fun r c => A (if r < i then r else r + 1) (c + 1)
def det : Nat → Mx → Int
  | 0, _ => 1
  | n + 1, A => sumF (n + 1) fun i => alt i * A i 0 * det n (mnr A i)
theorem alt_succ (i : Nat) : alt (i + 1) = -alt i := by
  unfold alt
  by_cases h : i % 2 = 0
  · rw [if_pos h, if_neg (by omega)]
  · rw [if_neg h, if_pos (by omega)]
    rfl
theorem det_congr : ∀ {n : Nat} {A B : Mx}, (∀ i j, i < n → j < n → A i j = B i j) → det n A = det n B
  | 0, _, _, _ => rfl
  | n + 1, A, B, h => by
    unfold det
    refine sumF_congr fun i hi => ?_
    rw [h i 0 hi (by omega), det_congr (n := n) (A := mnr A i) (B := mnr B i) fun r c hr hc => ?_]
    unfold mnr
    exact h _ _ (by split <;> omega) (by omega)
def setR (A : Mx) (r : Nat) (u : Nat → Int) : Mx := fun i j => if i = r then u j else A i j
theorem setR_self (A : Mx) (r : Nat) : setR A r (A r) = A := by
  funext i j
  unfold setR
  by_cases h : i = r
  · rw [if_pos h, h]
  · rw [if_neg h]
theorem setR_at (A : Mx) (r : Nat) (u : Nat → Int) : setR A r u r = u := by
  funext j
  unfold setR
  rw [if_pos rfl]
theorem setR_off (A : Mx) {r i : Nat} (u : Nat → Int) (h : i ≠ r) : setR A r u i = A i := by
  funext j
  unfold setR
  rw [if_neg h]
theorem setR_comm (A : Mx) {r s : Nat} (u v : Nat → Int) (h : r ≠ s) : setR (setR A r u) s v = setR (setR A s v) r u := by
  funext i j
  unfold setR
  by_cases h1 : i = s
  · rw [if_pos h1, if_neg (by omega), if_pos h1]
  · rw [if_neg h1]
    by_cases h2 : i = r
    · rw [if_pos h2, if_pos h2]
    · rw [if_neg h2, if_neg h2, if_neg h1]
theorem setR_twice (A : Mx) (r : Nat) (u v : Nat → Int) : setR (setR A r u) r v = setR A r v := by
  funext i j
  unfold setR
  by_cases h1 : i = r
  · rw [if_pos h1, if_pos h1]
  · rw [if_neg h1, if_neg h1, if_neg h1]
theorem mnr_same (A : Mx) (i : Nat) (u : Nat → Int) : mnr (setR A i u) i = mnr A i := by
  funext r c
  unfold mnr setR
  rw [if_neg (by split <;> omega)]
theorem mnr_set (A : Mx) {i r : Nat} (u : Nat → Int) (h : i ≠ r) : mnr (setR A r u) i = setR (mnr A i) (if r < i then r else r - 1) (fun c => u (c + 1)) := by
  funext k c
  unfold mnr setR
  dsimp only
  have q : ((if k < i then k else k + 1) = r) ↔ (k = if r < i then r else r - 1) := by
    by_cases h1 : k < i
    · rw [if_pos h1]
      by_cases h2 : r < i
      · rw [if_pos h2]
      · rw [if_neg h2]
        omega
    · rw [if_neg h1]
      by_cases h2 : r < i
      · rw [if_pos h2]
        omega
      · rw [if_neg h2]
        omega
  by_cases e : (if k < i then k else k + 1) = r
  · rw [if_pos e, if_pos (q.mp e)]
  · rw [if_neg e, if_neg (fun z => e (q.mpr z))]
theorem det_lin : ∀ {n : Nat} (A : Mx) {r : Nat} (u v : Nat → Int) (a b : Int), r < n → det n (setR A r fun j => a * u j + b * v j) = a * det n (setR A r u) + b * det n (setR A r v)
  | 0, _, _, _, _, _, _, h => absurd h (Nat.not_lt_zero _)
  | n + 1, A, r, u, v, a, b, h => by
    unfold det
    rw [← sumF_mul, ← sumF_mul, ← sumF_add]
    refine sumF_congr fun i hi => ?_
    by_cases e : i = r
    · subst e
      rw [mnr_same, mnr_same, mnr_same, setR_at, setR_at, setR_at]
      generalize det n (mnr A i) = d
      show alt i * (a * u 0 + b * v 0) * d = a * (alt i * u 0 * d) + b * (alt i * v 0 * d)
      rw [Int.mul_add, Int.add_mul]
      congr 1
      · rw [← Int.mul_assoc, Int.mul_comm (alt i) a, Int.mul_assoc a (alt i) (u 0), Int.mul_assoc]
      · rw [← Int.mul_assoc, Int.mul_comm (alt i) b, Int.mul_assoc b (alt i) (v 0), Int.mul_assoc]
    · rw [mnr_set A _ e, mnr_set A _ e, mnr_set A _ e, setR_off A _ e, setR_off A _ e, setR_off A _ e]
      have lt : (if r < i then r else r - 1) < n := by split <;> omega
      rw [det_lin (n := n) (mnr A i) (fun c => u (c + 1)) (fun c => v (c + 1)) a b lt]
      generalize det n (setR (mnr A i) _ fun c => u (c + 1)) = x
      generalize det n (setR (mnr A i) _ fun c => v (c + 1)) = y
      generalize alt i * A i 0 = z
      rw [Int.mul_add, ← Int.mul_assoc, ← Int.mul_assoc, ← Int.mul_assoc, ← Int.mul_assoc, Int.mul_comm z a, Int.mul_comm z b]
theorem sumF_only : ∀ {n r : Nat} {F : Nat → Int}, r < n → (∀ k, k < n → k ≠ r → F k = 0) → sumF n F = F r
  | 0, _, _, h, _ => absurd h (Nat.not_lt_zero _)
  | n + 1, r, F, h, z => by
    unfold sumF
    cases r with
    | zero =>
      have e : (sumF n fun k => F (k + 1)) = sumF n fun _ => 0 := sumF_congr fun k hk => z (k + 1) (by omega) (by omega)
      rw [e, sumF_zero, Int.add_zero]
    | succ r =>
      rw [z 0 (by omega) (by omega), Int.zero_add]
      exact sumF_only (n := n) (r := r) (F := fun k => F (k + 1)) (by omega) fun k hk ne => z (k + 1) (by omega) (by omega)
theorem sumF_two {n r s : Nat} {F : Nat → Int} (hr : r < n) (hs : s < n) (ne : r ≠ s) (z : ∀ k, k < n → k ≠ r → k ≠ s → F k = 0) : sumF n F = F r + F s := by
  have e : sumF n F = sumF n fun k => (if k = r then F k else 0) + (if k = r then 0 else F k) := sumF_congr fun k hk => by
    by_cases h : k = r
    · rw [if_pos h, if_pos h, Int.add_zero]
    · rw [if_neg h, if_neg h, Int.zero_add]
  rw [e, sumF_add, sumF_only (r := r) hr (fun k _ h => if_neg h), sumF_only (r := s) hs (fun k hk h => ?_), if_pos rfl, if_neg (Ne.symm ne)]
  by_cases h2 : k = r
  · exact if_pos h2
  · rw [if_neg h2]
    exact z k hk h2 h
theorem det_adj : ∀ {n : Nat} {A : Mx} {r : Nat}, r + 1 < n → A r = A (r + 1) → det n A = 0
  | 0, _, _, h, _ => absurd h (Nat.not_lt_zero _)
  | n + 1, A, r, h, e => by
    unfold det
    rw [sumF_two (r := r) (s := r + 1) (by omega) (by omega) (by omega) fun i hi n1 n2 => ?_]
    · have m : mnr A r = mnr A (r + 1) := by
        funext k c
        unfold mnr
        by_cases h1 : k < r
        · rw [if_pos h1, if_pos (by omega)]
        · by_cases h2 : k = r
          · subst h2
            rw [if_neg (by omega), if_pos (by omega), e]
          · rw [if_neg h1, if_neg (by omega)]
      rw [m, ← e, alt_succ, Int.neg_mul, Int.neg_mul]
      omega
    · have z : det n (mnr A i) = 0 := by
        by_cases h1 : i < r
        · refine det_adj (n := n) (r := r - 1) (by omega) ?_
          funext c
          unfold mnr
          rw [if_neg (by omega), if_neg (by omega), show r - 1 + 1 = r by omega, e]
        · refine det_adj (n := n) (r := r) (by omega) ?_
          funext c
          unfold mnr
          rw [if_pos (by omega), if_pos (by omega), e]
      rw [z, Int.mul_zero]
theorem lin11 {n : Nat} (A : Mx) {r : Nat} (u v : Nat → Int) (h : r < n) : det n (setR A r fun j => u j + v j) = det n (setR A r u) + det n (setR A r v) := by
  have z := det_lin A u v 1 1 h
  rw [Int.one_mul, Int.one_mul] at z
  rw [← z]
  congr 2
  funext j
  rw [Int.one_mul, Int.one_mul]
/-- where two rows that are alike make nothing, their exchange makes the opposite -/
theorem det_swap_of {n : Nat} {A : Mx} {r s : Nat} (hr : r < n) (hs : s < n) (ne : r ≠ s) (z : ∀ B : Mx, B r = B s → det n B = 0) : det n (setR (setR A r (A s)) s (A r)) = -det n A := by
  have f : ∀ u : Nat → Int, det n (setR (setR A r u) s u) = 0 := fun u => z _ (by rw [setR_at, setR_off _ _ ne, setR_at])
  have q := f fun j => A r j + A s j
  rw [lin11 (setR A r fun j => A r j + A s j) (A r) (A s) hs, setR_comm A _ _ ne, setR_comm A _ _ ne, lin11 (setR A s (A r)) (A r) (A s) hr, lin11 (setR A s (A s)) (A r) (A s) hr] at q
  rw [← setR_comm A _ _ ne, ← setR_comm A _ _ ne, ← setR_comm A _ _ ne, ← setR_comm A _ _ ne, f, f, setR_self, setR_self] at q
  omega
theorem det_eq_rows {n : Nat} : ∀ (k : Nat) {A : Mx} {r : Nat}, r + k + 1 < n → A r = A (r + k + 1) → det n A = 0
  | 0, A, r, h, e => det_adj h e
  | k + 1, A, r, h, e => by
    have sw := det_swap_of (n := n) (A := A) (r := r + k + 1) (s := r + k + 2) (by omega) (by omega) (by omega) fun B hB => det_adj (by omega) hB
    have z := det_eq_rows (n := n) k (A := setR (setR A (r + k + 1) (A (r + k + 2))) (r + k + 2) (A (r + k + 1))) (r := r) (by omega) (by
      rw [setR_off _ _ (by omega), setR_off _ _ (by omega), setR_off _ _ (by omega), setR_at]
      exact e)
    rw [z] at sw
    omega
theorem det_same {n : Nat} {A : Mx} {r s : Nat} (hr : r < n) (hs : s < n) (ne : r ≠ s) (e : A r = A s) : det n A = 0 := by
  by_cases h : r < s
  · exact det_eq_rows (s - r - 1) (r := r) (by omega) (by rw [show r + (s - r - 1) + 1 = s by omega]; exact e)
  · exact det_eq_rows (r - s - 1) (r := s) (by omega) (by rw [show s + (r - s - 1) + 1 = r by omega]; exact e.symm)
theorem det_swap {n : Nat} {A : Mx} {r s : Nat} (hr : r < n) (hs : s < n) (ne : r ≠ s) : det n (setR (setR A r (A s)) s (A r)) = -det n A := det_swap_of hr hs ne fun B hB => det_same hr hs ne hB
/-- a row times a, and x times another one -/
theorem det_row {n : Nat} {A : Mx} {r s : Nat} (hr : r < n) (hs : s < n) (ne : r ≠ s) (a x : Int) : det n (setR A r fun j => a * A r j + x * A s j) = a * det n A := by
  rw [det_lin A (A r) (A s) a x hr, setR_self, det_same (A := setR A r (A s)) hr hs ne (by rw [setR_at, setR_off _ _ (Ne.symm ne)]), Int.mul_zero, Int.add_zero]
theorem det_first {n : Nat} {A : Mx} (z : ∀ i, i < n → A (i + 1) 0 = 0) : det (n + 1) A = A 0 0 * det n fun r c => A (r + 1) (c + 1) := by
  show (sumF (n + 1) fun i => alt i * A i 0 * det n (mnr A i)) = _
  rw [sumF_only (r := 0) (by omega) fun k hk h => ?_]
  · show alt 0 * A 0 0 * det n (mnr A 0) = _
    rw [show alt 0 = 1 from rfl, Int.one_mul]
    rfl
  · rw [show k = (k - 1) + 1 by omega, z (k - 1) (by omega), Int.mul_zero, Int.zero_mul]
/-! ### condensation -/
def cnd (A : Mx) : Mx := fun r c => A 0 0 * A (r + 1) (c + 1) - A (r + 1) 0 * A 0 (c + 1)
def half (t : Nat) (A : Mx) : Mx := fun i j => if 1 ≤ i ∧ i ≤ t then A 0 0 * A i j - A i 0 * A 0 j else A i j
theorem half_det {m : Nat} (A : Mx) : ∀ t, t ≤ m → det (m + 1) (half t A) = A 0 0 ^ t * det (m + 1) A
  | 0, _ => by
    rw [Int.pow_zero, Int.one_mul]
    refine det_congr fun i j _ _ => ?_
    unfold half
    rw [if_neg (by omega)]
  | t + 1, h => by
    have ih := half_det (m := m) A t (by omega)
    have e : half (t + 1) A = setR (half t A) (t + 1) fun j => A 0 0 * half t A (t + 1) j + (-A (t + 1) 0) * half t A 0 j := by
      funext i j
      have g1 : half t A (t + 1) j = A (t + 1) j := by
        unfold half
        rw [if_neg (by omega)]
      have g0 : half t A 0 j = A 0 j := by
        unfold half
        rw [if_neg (by omega)]
      by_cases h1 : i = t + 1
      · subst h1
        rw [setR_at, g1, g0, Int.neg_mul]
        unfold half
        rw [if_pos (by omega)]
        omega
      · rw [setR_off _ _ h1]
        unfold half
        by_cases h2 : 1 ≤ i ∧ i ≤ t
        · rw [if_pos (by omega), if_pos h2]
        · rw [if_neg (by omega), if_neg h2]
    rw [e, det_row (by omega) (by omega) (by omega), ih, Int.pow_succ, ← Int.mul_assoc, Int.mul_comm (A 0 0) (A 0 0 ^ t)]
theorem chio {m : Nat} (A : Mx) : A 0 0 * det m (cnd A) = A 0 0 ^ m * det (m + 1) A := by
  rw [← half_det A m (Nat.le_refl m), det_first (A := half m A) fun i hi => ?_]
  · have e0 : half m A 0 0 = A 0 0 := by
      unfold half
      rw [if_neg (by omega)]
    rw [e0]
    congr 1
    refine det_congr fun r c hr _ => ?_
    unfold half cnd
    rw [if_pos (by omega)]
  · unfold half
    rw [if_pos (by omega), Int.mul_comm]
    omega
def brd (A : Mx) (k i j : Nat) : Mx := fun r c => A (if r < k then r else i) (if c < k then c else j)
theorem cnd_brd (A : Mx) (k i j : Nat) : cnd (brd A (k + 1) (i + 1) (j + 1)) = brd (cnd A) k i j := by
  funext r c
  unfold cnd brd
  have z0 : ∀ x : Nat, (if 0 < k + 1 then 0 else x) = 0 := fun x => if_pos (by omega)
  rw [z0, z0]
  have e1 : (if r + 1 < k + 1 then r + 1 else i + 1) = (if r < k then r else i) + 1 := by
    by_cases h : r < k
    · rw [if_pos h, if_pos (by omega)]
    · rw [if_neg h, if_neg (by omega)]
  have e2 : (if c + 1 < k + 1 then c + 1 else j + 1) = (if c < k then c else j) + 1 := by
    by_cases h : c < k
    · rw [if_pos h, if_pos (by omega)]
    · rw [if_neg h, if_neg (by omega)]
  rw [e1, e2]
theorem brd_00 (A : Mx) (k i j : Nat) : brd A (k + 1) i j 0 0 = A 0 0 := by
  unfold brd
  rw [if_pos (show 0 < k + 1 by omega), if_pos (show 0 < k + 1 by omega)]
theorem brd_own (A : Mx) (k : Nat) : det (k + 1) (brd A k k k) = det (k + 1) A := det_congr fun i j hi hj => by
  unfold brd
  have e1 : (if i < k then i else k) = i := by split <;> omega
  have e2 : (if j < k then j else k) = j := by split <;> omega
  rw [e1, e2]
theorem det1 (A : Mx) : det 1 A = A 0 0 := by
  simp [det, sumF, alt]
theorem det2 (A : Mx) : det 2 A = A 0 0 * A 1 1 - A 1 0 * A 0 1 := by
  simp [det, sumF, alt, mnr, Int.neg_mul]
  omega
theorem pow_ne {a : Int} (h : a ≠ 0) (n : Nat) : a ^ n ≠ 0 := by
  induction n with
  | zero => simp
  | succ n ih =>
    rw [Int.pow_succ]
    exact Int.mul_ne_zero ih h
theorem dodgson : ∀ (k : Nat) (A : Mx) (i j : Nat), (∀ m, 1 ≤ m → m ≤ k → det m A ≠ 0) →
    det k A * det (k + 2) (brd A (k + 1) (i + k) (j + k)) = det (k + 1) A * det (k + 1) (brd A k (i + k) (j + k)) - det (k + 1) (brd A k (i + k) k) * det (k + 1) (brd A k k (j + k))
  | 0, A, i, j, _ => by
    rw [det1, det1, det1, det1, det2]
    simp [brd, det]
  | k + 1, A, i, j, nz => by
    have a0 : A 0 0 ≠ 0 := by
      have z := nz 1 (Nat.le_refl 1) (by omega)
      rw [det1] at z
      exact z
    have ch := fun (M : Mx) (m : Nat) => chio (m := m) M
    have nzC : ∀ m, 1 ≤ m → m ≤ k → det m (cnd A) ≠ 0 := fun m h1 h2 e => by
      have z := chio (m := m) A
      rw [e, Int.mul_zero] at z
      exact Int.mul_ne_zero (pow_ne a0 m) (nz (m + 1) (by omega) (by omega)) z.symm
    have ih := dodgson k (cnd A) i j nzC
    have f0 := chio (m := k) A
    have f1 := chio (m := k + 2) (brd A (k + 2) (i + k + 1) (j + k + 1))
    have f2 := chio (m := k + 1) A
    have f3 := chio (m := k + 1) (brd A (k + 1) (i + k + 1) (j + k + 1))
    have f4 := chio (m := k + 1) (brd A (k + 1) (i + k + 1) (k + 1))
    have f5 := chio (m := k + 1) (brd A (k + 1) (k + 1) (j + k + 1))
    rw [cnd_brd, brd_00] at f1 f3 f4 f5
    rw [show i + (k + 1) = i + k + 1 by omega, show j + (k + 1) = j + k + 1 by omega]
    generalize A 0 0 = a at *
    generalize det k (cnd A) = dC at *
    generalize det (k + 2) (brd (cnd A) (k + 1) (i + k) (j + k)) = XC at *
    generalize det (k + 1) (cnd A) = pC at *
    generalize det (k + 1) (brd (cnd A) k (i + k) (j + k)) = qC at *
    generalize det (k + 1) (brd (cnd A) k (i + k) k) = rC at *
    generalize det (k + 1) (brd (cnd A) k k (j + k)) = tC at *
    generalize det (k + 1) A = d at *
    generalize det (k + 2 + 1) (brd A (k + 2) (i + k + 1) (j + k + 1)) = X at *
    generalize det (k + 1 + 1) A = p at *
    generalize det (k + 1 + 1) (brd A (k + 1) (i + k + 1) (j + k + 1)) = q at *
    generalize det (k + 1 + 1) (brd A (k + 1) (i + k + 1) (k + 1)) = r at *
    generalize det (k + 1 + 1) (brd A (k + 1) (k + 1) (j + k + 1)) = t at *
    have e : (a * dC) * (a * XC) = (a * pC) * (a * qC) - (a * rC) * (a * tC) := by
      have s : ∀ x y : Int, (a * x) * (a * y) = (a * a) * (x * y) := fun x y => by
        rw [Int.mul_assoc, ← Int.mul_assoc x, Int.mul_comm x a, Int.mul_assoc a x, ← Int.mul_assoc]
      rw [s, s, s, ih, Int.mul_sub]
    rw [f0, f1, f2, f3, f4, f5] at e
    have s2 : ∀ (m n : Nat) (x y : Int), (a ^ m * x) * (a ^ n * y) = a ^ (m + n) * (x * y) := fun m n x y => by
      rw [Int.pow_add, Int.mul_assoc, ← Int.mul_assoc x, Int.mul_comm x, Int.mul_assoc (a ^ n), ← Int.mul_assoc]
    rw [s2, s2, s2, show k + (k + 2) = k + 1 + (k + 1) by omega, ← Int.mul_sub] at e
    exact Int.eq_of_mul_eq_mul_left (pow_ne a0 _) e
theorem det_null : ∀ (k : Nat) (A : Mx) {n : Nat}, k < n → (∀ m, 1 ≤ m → m ≤ k → det m A ≠ 0) → (∀ i, i + k < n → det (k + 1) (brd A k (i + k) k) = 0) → det n A = 0
  | 0, A, 0, h, _, _ => absurd h (Nat.not_lt_zero _)
  | 0, A, n + 1, _, _, z => by
    unfold det
    have e : (sumF (n + 1) fun i => alt i * A i 0 * det n (mnr A i)) = sumF (n + 1) fun _ => 0 := sumF_congr fun i hi => by
      have z' := z i (by omega)
      rw [det1] at z'
      have z2 : A i 0 = 0 := by simpa [brd] using z'
      rw [z2, Int.mul_zero, Int.zero_mul]
    rw [e, sumF_zero]
  | k + 1, A, 0, h, _, _ => absurd h (Nat.not_lt_zero _)
  | k + 1, A, n + 1, h, nz, z => by
    have a0 : A 0 0 ≠ 0 := by
      have z := nz 1 (Nat.le_refl 1) (by omega)
      rw [det1] at z
      exact z
    have nzC : ∀ m, 1 ≤ m → m ≤ k → det m (cnd A) ≠ 0 := fun m h1 h2 e => by
      have z := chio (m := m) A
      rw [e, Int.mul_zero] at z
      exact Int.mul_ne_zero (pow_ne a0 m) (nz (m + 1) (by omega) (by omega)) z.symm
    have c := det_null k (cnd A) (n := n) (by omega) nzC fun i hi => by
      have f := chio (m := k + 1) (brd A (k + 1) (i + k + 1) (k + 1))
      rw [cnd_brd, brd_00, show i + k + 1 = i + (k + 1) by omega, z i (by omega), Int.mul_zero] at f
      exact (Int.mul_eq_zero.mp f).resolve_left a0
    have f := chio (m := n) A
    rw [c, Int.mul_zero] at f
    exact (Int.mul_eq_zero.mp f.symm).resolve_left (pow_ne a0 _)
end NA
namespace NA
open PySem PySem.Spec PyProof.Rows L2
/-! ## determinants modulo a prime -/
structure Prm (p : Int) : Prop where
  two : 2 ≤ p
  dvd : ∀ a b : Int, p ∣ a * b → p ∣ a ∨ p ∣ b
theorem Prm.of {p : Nat} (h : p ∈ PRn) : Prm (p : Int) := by
  refine ⟨by have := PRn_two h; omega, fun a b d => ?_⟩
  have d' : p ∣ a.natAbs * b.natAbs := by
    rw [← Int.natAbs_mul]
    have z := Int.natAbs_dvd_natAbs.mpr d
    rwa [Int.natAbs_natCast] at z
  have f : ∀ x : Int, p ∣ x.natAbs → (p : Int) ∣ x := fun x e => Int.natAbs_dvd_natAbs.mp (by rwa [Int.natAbs_natCast])
  rcases PRn_euclid h d' with e | e
  · exact .inl (f _ e)
  · exact .inr (f _ e)
theorem Prm.one {p : Int} (h : Prm p) : ¬ p ∣ 1 := fun d => by
  have := Int.le_of_dvd (by decide) d
  have := h.two
  omega
theorem Prm.pow {p : Int} (h : Prm p) {a : Int} (na : ¬ p ∣ a) : ∀ n : Nat, ¬ p ∣ a ^ n
  | 0 => by
    rw [Int.pow_zero]
    exact h.one
  | n + 1 => fun d => by
    rw [Int.pow_succ] at d
    rcases h.dvd _ _ d with e | e
    · exact h.pow na n e
    · exact na e
def rowS (n : Nat) (A : Mx) (i : Nat) (v : Nat → Int) : Int := sumF n fun j => A i j * v j
def Inj (p : Int) (n : Nat) (A : Mx) : Prop := ∀ v : Nat → Int, (∀ i, i < n → p ∣ rowS n A i v) → ∀ j, j < n → p ∣ v j
def swp (A : Mx) (r s : Nat) : Mx := setR (setR A r (A s)) s (A r)
theorem swp_r (A : Mx) (r s : Nat) : swp A r s r = A s := by
  unfold swp
  by_cases h : r = s
  · subst h
    rw [setR_at]
  · rw [setR_off _ _ h, setR_at]
theorem swp_s (A : Mx) (r s : Nat) : swp A r s s = A r := setR_at _ _ _
theorem swp_off (A : Mx) {r s i : Nat} (h1 : i ≠ r) (h2 : i ≠ s) : swp A r s i = A i := by
  unfold swp
  rw [setR_off _ _ h2, setR_off _ _ h1]
theorem swp_row (n : Nat) (A : Mx) (r s i : Nat) (v : Nat → Int) : rowS n (swp A r s) i v = rowS n A (if i = r then s else if i = s then r else i) v := by
  unfold rowS
  by_cases h1 : i = r
  · subst h1
    rw [if_pos rfl, swp_r]
  · rw [if_neg h1]
    by_cases h2 : i = s
    · subst h2
      rw [if_pos rfl, swp_s]
    · rw [if_neg h2, swp_off A h1 h2]
theorem inj_swp {p : Int} {n : Nat} {A : Mx} {r s : Nat} (hr : r < n) (hs : s < n) (h : Inj p n A) : Inj p n (swp A r s) := fun v hv j hj => by
  refine h v (fun i hi => ?_) j hj
  have z := hv (if i = r then s else if i = s then r else i) (by split <;> (try split) <;> omega)
  rw [swp_row] at z
  have e : (if (if i = r then s else if i = s then r else i) = r then s else if (if i = r then s else if i = s then r else i) = s then r else (if i = r then s else if i = s then r else i)) = i := by
    by_cases h1 : i = r
    · rw [if_pos h1]
      by_cases h2 : s = r
      · rw [if_pos h2]
        omega
      · rw [if_neg h2, if_pos rfl]
        omega
    · rw [if_neg h1]
      by_cases h2 : i = s
      · rw [if_pos h2, if_pos rfl]
        omega
      · rw [if_neg h2, if_neg h1, if_neg h2]
  rw [e] at z
  exact z
theorem det_swp {n : Nat} {A : Mx} {r s : Nat} (hr : r < n) (hs : s < n) : det n (swp A r s) = det n A ∨ det n (swp A r s) = -det n A := by
  by_cases h : r = s
  · subst h
    refine .inl (congrArg (det n) ?_)
    unfold swp
    rw [setR_self, setR_self]
  · exact .inr (det_swap hr hs h)
theorem rowS_succ (n : Nat) (A : Mx) (i : Nat) (v : Nat → Int) : rowS (n + 1) A i v = A i 0 * v 0 + sumF n fun j => A i (j + 1) * v (j + 1) := rfl
theorem rowS_cnd (n : Nat) (A : Mx) (r : Nat) (w : Nat → Int) : rowS n (cnd A) r w = A 0 0 * (sumF n fun j => A (r + 1) (j + 1) * w j) - A (r + 1) 0 * (sumF n fun j => A 0 (j + 1) * w j) := by
  unfold rowS
  rw [← sumF_mul, ← sumF_mul]
  have e : (sumF n fun k => A 0 0 * (A (r + 1) (k + 1) * w k)) = (sumF n fun j => cnd A r j * w j) + sumF n fun k => A (r + 1) 0 * (A 0 (k + 1) * w k) := by
    rw [← sumF_add]
    refine sumF_congr fun k _ => ?_
    unfold cnd
    rw [Int.sub_mul, Int.mul_assoc, Int.mul_assoc]
    omega
  omega
theorem inj_det {p : Int} (hp : Prm p) : ∀ {n : Nat} {A : Mx}, Inj p n A → ¬ p ∣ det n A
  | 0, _, _ => hp.one
  | n + 1, A, h => by
    obtain ⟨i, hi, na⟩ : ∃ i, i < n + 1 ∧ ¬ p ∣ A i 0 := by
      refine Classical.byContradiction fun z => ?_
      have all : ∀ i, i < n + 1 → p ∣ A i 0 := fun i hi => Classical.byContradiction fun q => z ⟨i, hi, q⟩
      have d := h (fun j => if j = 0 then 1 else 0) (fun i hi => by
        rw [rowS_succ]
        have e : (sumF n fun j => A i (j + 1) * (if j + 1 = 0 then (1 : Int) else 0)) = sumF n fun _ => 0 := sumF_congr fun j _ => by rw [if_neg (by omega), Int.mul_zero]
        rw [e, sumF_zero, if_pos rfl, Int.mul_one, Int.add_zero]
        exact all i hi) 0 (by omega)
      rw [if_pos rfl] at d
      exact hp.one d
    have hB := inj_swp (r := 0) (s := i) (by omega) hi h
    have dB := det_swp (n := n + 1) (A := A) (r := 0) (s := i) (by omega) hi
    have aB : swp A 0 i 0 0 = A i 0 := by rw [swp_r]
    generalize swp A 0 i = B at *
    rw [← aB] at na
    have nB : ¬ p ∣ det (n + 1) B := by
      intro d
      have c := chio (m := n) B
      have q : p ∣ B 0 0 * det n (cnd B) := by
        rw [c]
        exact Int.dvd_trans d (Int.dvd_mul_left _ _)
      have q2 := (hp.dvd _ _ q).resolve_left na
      refine inj_det hp (n := n) (A := cnd B) (fun w hw j hj => ?_) q2
      have z := hB (fun k => match k with | 0 => -(sumF n fun j => B 0 (j + 1) * w j) | k + 1 => B 0 0 * w k) (fun i hi => ?_) (j + 1) (by omega)
      · exact (hp.dvd _ _ z).resolve_left na
      · rw [rowS_succ]
        have e : ∀ i, (sumF n fun j => B i (j + 1) * (B 0 0 * w j)) = B 0 0 * sumF n fun j => B i (j + 1) * w j := fun i => by
          rw [← sumF_mul]
          refine sumF_congr fun k _ => ?_
          rw [← Int.mul_assoc, Int.mul_comm (B i (k + 1)), Int.mul_assoc]
        show p ∣ B i 0 * -(sumF n fun j => B 0 (j + 1) * w j) + sumF n fun j => B i (j + 1) * (B 0 0 * w j)
        rw [e]
        cases i with
        | zero =>
          rw [Int.mul_neg, Int.add_comm, ← Int.sub_eq_add_neg, Int.sub_self]
          exact Int.dvd_zero p
        | succ i =>
          have z := hw i (by omega)
          rw [rowS_cnd] at z
          rw [Int.mul_neg, Int.add_comm, ← Int.sub_eq_add_neg]
          exact z
    rcases dB with e | e
    · rw [e] at nB
      exact nB
    · rw [e] at nB
      exact fun d => nB (Int.dvd_neg.mpr d)
theorem det_inj {p : Int} (hp : Prm p) : ∀ {n : Nat} {A : Mx}, ¬ p ∣ det n A → Inj p n A
  | 0, _, _ => fun v hv j hj => absurd hj (Nat.not_lt_zero _)
  | n + 1, A, h => by
    obtain ⟨i, hi, na⟩ : ∃ i, i < n + 1 ∧ ¬ p ∣ A i 0 := by
      refine Classical.byContradiction fun z => h ?_
      have all : ∀ i, i < n + 1 → p ∣ A i 0 := fun i hi => Classical.byContradiction fun q => z ⟨i, hi, q⟩
      exact sumF_dvd fun i hi => Int.dvd_trans (Int.dvd_trans (all i hi) (Int.dvd_mul_left _ _)) (Int.dvd_mul_right _ _)
    have dB := det_swp (n := n + 1) (A := A) (r := 0) (s := i) (by omega) hi
    have aB : swp A 0 i 0 0 = A i 0 := by rw [swp_r]
    have back : Inj p (n + 1) (swp A 0 i) → Inj p (n + 1) A := fun q v hv => q v fun k hk => by
      rw [swp_row]
      exact hv _ (by split <;> (try split) <;> omega)
    apply back
    generalize swp A 0 i = B at *
    rw [← aB] at na
    have nB : ¬ p ∣ det (n + 1) B := by
      rcases dB with e | e
      · rw [e]
        exact h
      · rw [e]
        exact fun d => h (Int.dvd_neg.mp d)
    have c := chio (m := n) B
    have nC : ¬ p ∣ det n (cnd B) := fun d => by
      have q : p ∣ B 0 0 ^ n * det (n + 1) B := by
        rw [← c]
        exact Int.dvd_trans d (Int.dvd_mul_left _ _)
      rcases hp.dvd _ _ q with q | q
      · exact hp.pow na n q
      · exact nB q
    have iC := det_inj hp (n := n) nC
    intro v hv
    have w := iC (fun k => v (k + 1)) fun r hr => by
      rw [rowS_cnd]
      have e0 := hv 0 (by omega)
      have e1 := hv (r + 1) (by omega)
      rw [rowS_succ] at e0 e1
      generalize (sumF n fun j => B 0 (j + 1) * v (j + 1)) = x at *
      generalize (sumF n fun j => B (r + 1) (j + 1) * v (j + 1)) = y at *
      have e : B 0 0 * y - B (r + 1) 0 * x = B 0 0 * (B (r + 1) 0 * v 0 + y) - B (r + 1) 0 * (B 0 0 * v 0 + x) := by
        rw [Int.mul_add, Int.mul_add, ← Int.mul_assoc, ← Int.mul_assoc, Int.mul_comm (B 0 0) (B (r + 1) 0)]
        omega
      rw [e]
      exact Int.dvd_sub (Int.dvd_trans e1 (Int.dvd_mul_left _ _)) (Int.dvd_trans e0 (Int.dvd_mul_left _ _))
    have e0 := hv 0 (by omega)
    rw [rowS_succ] at e0
    have x0 : p ∣ sumF n fun j => B 0 (j + 1) * v (j + 1) := sumF_dvd fun j hj => Int.dvd_trans (w j hj) (Int.dvd_mul_left _ _)
    have v0 : p ∣ v 0 := by
      have q := Int.dvd_sub e0 x0
      rw [Int.add_sub_cancel] at q
      exact (hp.dvd _ _ q).resolve_left na
    intro j hj
    cases j with
    | zero => exact v0
    | succ j => exact w j (by omega)
/-! how great they are -/
def bnd (B : Nat) : Nat → Nat
  | 0 => 1
  | n + 1 => (n + 1) * B * bnd B n
theorem sumF_abs {B : Nat} : ∀ {n : Nat} {F : Nat → Int}, (∀ k, k < n → (F k).natAbs ≤ B) → (sumF n F).natAbs ≤ n * B
  | 0, _, _ => by simp [sumF]
  | n + 1, F, h => by
    have a := h 0 (by omega)
    have b := sumF_abs (n := n) (F := fun k => F (k + 1)) fun k hk => h (k + 1) (by omega)
    show (F 0 + sumF n fun k => F (k + 1)).natAbs ≤ _
    have c := Int.natAbs_add_le (F 0) (sumF n fun k => F (k + 1))
    rw [Nat.succ_mul]
    omega
theorem det_bound {B : Nat} : ∀ {n : Nat} {A : Mx}, (∀ i j, i < n → j < n → (A i j).natAbs ≤ B) → (det n A).natAbs ≤ bnd B n
  | 0, _, _ => Nat.le_refl 1
  | n + 1, A, h => by
    show (sumF (n + 1) fun i => alt i * A i 0 * det n (mnr A i)).natAbs ≤ (n + 1) * B * bnd B n
    rw [Nat.mul_assoc]
    refine sumF_abs fun k hk => ?_
    have ih := det_bound (n := n) (A := mnr A k) fun r c hr hc => h _ _ (by split <;> omega) (by omega)
    rw [Int.natAbs_mul, Int.natAbs_mul]
    have s : (alt k).natAbs = 1 := by
      unfold alt
      split <;> rfl
    rw [s, Nat.one_mul]
    exact Nat.mul_le_mul (h k 0 hk (by omega)) ih
end NA
namespace NA
open PySem PySem.Spec PyProof.Rows L2
/-! ### // of great numbers, the divisor not 0 -/
def CDivZ (_ j : Int) : Prop := j ≠ 0 ∧ j.natAbs.log2 < 9000
theorem op_fdivZ {X : Cx} : OpR X (binaryOp .FloorDiv) (rI CDivZ fun i j => .int (i.fdiv j)) := opI fun i j _ _ _ _ _ hc q => floordiv_int hc.1 q (.inl (PyProof.noPylong_of_log2 hc.2))
theorem iop_mulW {X : Cx} : OpR X (inplaceOp .Mult) (rI CMulW fun i j => .int (i * j)) := opI fun _ _ _ _ _ _ _ hc q => imul_int q hc.ok
theorem div_z {i j : Int} {b : Nat} (h : j ≠ 0) (hb : j.natAbs < 2 ^ b) (h0 : 0 < b) (h9 : b ≤ 9000) : CDivZ i j := ⟨h, Nat.lt_of_lt_of_le (PySem.Flt.log2_lt_of h0 hb) h9⟩
theorem fdiv_mul {a b : Int} (h : a ≠ 0) : (a * b).fdiv a = b := by
  rw [Int.mul_comm]
  exact Int.mul_fdiv_cancel b h
end NA
namespace NA
open PySem PySem.Spec PyProof.Rows L2
/-! ### lists of lists of numbers -/
structure Rc (m c : Nat) (t : List (List Int)) : Prop where
  len : t.length = m
  row : ∀ r ∈ t, r.length = c
theorem Sq.rc {n : Nat} {t : List (List Int)} (h : Sq n t) : Rc n n t := ⟨h.len, h.row⟩
theorem Rc.sq {n : Nat} {t : List (List Int)} (h : Rc n n t) : Sq n t := ⟨h.len, h.row⟩
theorem Rc.get {m c : Nat} {t : List (List Int)} (h : Rc m c t) {i : Nat} (hi : i < m) : ∃ r, t[i]? = some r ∧ r.length = c := by
  have lt : i < t.length := by rw [h.len]; exact hi
  exact ⟨_, List.getElem?_eq_getElem lt, h.row _ (List.getElem_mem lt)⟩
theorem Rc.set {m c : Nat} {t : List (List Int)} (h : Rc m c t) (i : Nat) {r : List Int} (hr : r.length = c) : Rc m c (t.set i r) :=
  ⟨by rw [List.length_set]; exact h.len, fun x hx => by
    rcases List.mem_or_eq_of_mem_set hx with e | e
    · exact h.row x e
    · rw [e]
      exact hr⟩
theorem en_q (t : List (List Int)) (i j : Nat) : en t i j = ((t[i]?).getD []).getD j 0 := by
  show (t.getD i []).getD j 0 = _
  rw [show t.getD i [] = (t[i]?).getD [] from List.getD_eq_getElem?_getD ..]
theorem en_set {t : List (List Int)} {i j k : Nat} {r : List Int} (hi : i < t.length) : en (t.set i r) k j = if k = i then r.getD j 0 else en t k j := by
  rw [en_q, en_q]
  by_cases e : k = i
  · subst e
    rw [if_pos rfl, List.getElem?_set_self hi]
    rfl
  · rw [if_neg e, List.getElem?_set_ne (Ne.symm e)]
theorem getD_setI {r : List Int} {i j : Nat} {x : Int} (hi : i < r.length) : (r.set i x).getD j 0 = if j = i then x else r.getD j 0 := by
  by_cases e : j = i
  · subst e
    rw [if_pos rfl, List.getD_eq_getElem?_getD, List.getElem?_set_self hi]
    rfl
  · rw [if_neg e, List.getD_eq_getElem?_getD, List.getElem?_set_ne (Ne.symm e), ← List.getD_eq_getElem?_getD]
theorem rc_ext {m c : Nat} {t u : List (List Int)} (a : Rc m c t) (b : Rc m c u) (e : ∀ i j, i < m → j < c → en t i j = en u i j) : t = u := by
  refine List.ext_getElem? fun i => ?_
  by_cases h : i < m
  · obtain ⟨r, er, lr⟩ := a.get h
    obtain ⟨s, es, ls⟩ := b.get h
    rw [er, es]
    congr 1
    refine List.ext_getElem? fun j => ?_
    by_cases hj : j < c
    · have z := e i j h hj
      rw [en_of er, en_of es, List.getD_eq_getElem?_getD, List.getD_eq_getElem?_getD] at z
      rw [List.getElem?_eq_getElem (by omega), List.getElem?_eq_getElem (by omega)] at z ⊢
      exact congrArg some z
    · rw [List.getElem?_eq_none (by omega), List.getElem?_eq_none (by omega)]
  · rw [List.getElem?_eq_none (by rw [a.len]; omega), List.getElem?_eq_none (by rw [b.len]; omega)]
structure Ll (R : Addr) (H : Hp) (rs : List Addr) (t : List (List Int)) : Prop where
  top : H R = some (.lst (rs.map V.ref))
  len : rs.length = t.length
  row : ∀ (i : Nat) (a : Addr), rs[i]? = some a → ∃ r, t[i]? = some r ∧ H a = some (.lst (r.map V.int))
structure Rw (R : Addr) (H : Hp) (rs : List Addr) (t : List (List Int)) : Prop extends Ll R H rs t where
  nd : rs.Nodup
  off : ∀ a ∈ rs, a ≠ R
theorem Ll.same {R : Addr} {H H' : Hp} {rs : List Addr} {t : List (List Int)} (h : Ll R H rs t) (k : Same H H') : Ll R H' rs t :=
  ⟨k _ _ h.top, h.len, fun i a e => by
    obtain ⟨r, h1, h2⟩ := h.row i a e
    exact ⟨r, h1, k _ _ h2⟩⟩
theorem Rw.same {R : Addr} {H H' : Hp} {rs : List Addr} {t : List (List Int)} (h : Rw R H rs t) (k : Same H H') : Rw R H' rs t := ⟨h.toLl.same k, h.nd, h.off⟩
theorem Ll.at {R : Addr} {H : Hp} {rs : List Addr} {t : List (List Int)} (h : Ll R H rs t) {i : Nat} {r : List Int} (e : t[i]? = some r) : ∃ a, rs[i]? = some a ∧ (rs.map V.ref)[i]? = some (.ref a) ∧ H a = some (.lst (r.map V.int)) := by
  have lt := (List.getElem?_eq_some_iff.mp e).1
  have l2 : i < rs.length := by rw [h.len]; exact lt
  obtain ⟨r', h1, h2⟩ := h.row i _ (List.getElem?_eq_getElem l2)
  rw [e] at h1
  cases h1
  refine ⟨_, List.getElem?_eq_getElem l2, ?_, h2⟩
  rw [List.getElem?_map, List.getElem?_eq_getElem l2]
  rfl
theorem Rw.set {R : Addr} {H : Hp} {rs : List Addr} {t : List (List Int)} (h : Rw R H rs t) {i : Nat} {a : Addr} (e : rs[i]? = some a) (r : List Int) : Rw R (upd H a (.lst (r.map V.int))) rs (t.set i r) := by
  have o := h.off a (List.mem_of_getElem? e)
  refine ⟨⟨?_, by rw [List.length_set]; exact h.len, fun j b eb => ?_⟩, h.nd, h.off⟩
  · rw [upd_ne (Ne.symm o)]
    exact h.top
  · have li : i < t.length := by rw [← h.len]; exact (List.getElem?_eq_some_iff.mp e).1
    by_cases ij : i = j
    · subst ij
      rw [e] at eb
      cases eb
      exact ⟨r, by rw [List.getElem?_set_self li], upd_same⟩
    · obtain ⟨r', h1, h2⟩ := h.row j b eb
      refine ⟨r', by rw [List.getElem?_set_ne ij]; exact h1, ?_⟩
      have nb : b ≠ a := fun z => by
        subst z
        obtain ⟨l1, g1⟩ := List.getElem?_eq_some_iff.mp e
        obtain ⟨l2, g2⟩ := List.getElem?_eq_some_iff.mp eb
        rcases Nat.lt_or_gt_of_ne ij with lt | lt
        · exact (List.pairwise_iff_getElem.mp h.nd i j l1 l2 lt) (g1.trans g2.symm)
        · exact (List.pairwise_iff_getElem.mp h.nd j i l2 l1 lt) (g2.trans g1.symm)
      rw [upd_ne nb]
      exact h2
theorem Rw.put {R a : Addr} {H : Hp} {rs : List Addr} {t : List (List Int)} {r : List Int} (h : Rw R H rs t) (ha : H a = some (.lst (r.map V.int))) (n1 : a ∉ rs) (n2 : a ≠ R) : Rw R (upd H R (.lst (rs.map V.ref ++ [.ref a]))) (rs ++ [a]) (t ++ [r]) := by
  refine ⟨⟨by rw [upd_same, List.map_append]; rfl, by rw [List.length_append, List.length_append, h.len]; rfl, fun i b eb => ?_⟩, ?_, fun b hb => ?_⟩
  · by_cases e : i < rs.length
    · rw [List.getElem?_append_left e] at eb
      obtain ⟨r', h1, h2⟩ := h.row i b eb
      have o := h.off b (List.mem_of_getElem? eb)
      exact ⟨r', by rw [List.getElem?_append_left (by rw [← h.len]; exact e)]; exact h1, by rw [upd_ne o]; exact h2⟩
    · rw [List.getElem?_append_right (by omega)] at eb
      have z : i - rs.length = 0 := by
        have := (List.getElem?_eq_some_iff.mp eb).1
        rw [List.length_singleton] at this
        omega
      rw [z] at eb
      cases eb
      refine ⟨r, by rw [List.getElem?_append_right (by have := h.len; omega), ← h.len, z]; rfl, by rw [upd_ne n2]; exact ha⟩
  · refine List.nodup_append.mpr ⟨h.nd, List.pairwise_singleton _ a, fun x hx y hy e => ?_⟩
    rw [List.mem_singleton.mp hy] at e
    exact n1 (e ▸ hx)
  · rcases List.mem_append.mp hb with hb | hb
    · exact h.off b hb
    · rw [List.mem_singleton.mp hb]
      exact n2
/-- a new list in a row's place -/
theorem Rw.swap {R g : Addr} {H : Hp} {rs : List Addr} {t : List (List Int)} {r : List Int} {i : Nat} (h : Rw R H rs t) (hi : i < rs.length) (hg : H g = some (.lst (r.map V.int))) (n1 : g ∉ rs) (n2 : g ≠ R) : Rw R (upd H R (.lst ((rs.map V.ref).set i (.ref g)))) (rs.set i g) (t.set i r) := by
  refine ⟨⟨by rw [upd_same, List.map_set], by rw [List.length_set, List.length_set]; exact h.len, fun j b eb => ?_⟩, ?_, fun b hb => ?_⟩
  · by_cases e : i = j
    · subst e
      rw [List.getElem?_set_self hi] at eb
      cases eb
      exact ⟨r, by rw [List.getElem?_set_self (by rw [← h.len]; exact hi)], by rw [upd_ne n2]; exact hg⟩
    · rw [List.getElem?_set_ne e] at eb
      obtain ⟨r', a, c⟩ := h.row j b eb
      exact ⟨r', by rw [List.getElem?_set_ne e]; exact a, by rw [upd_ne (h.off b (List.mem_of_getElem? eb))]; exact c⟩
  · refine List.pairwise_iff_getElem.mpr fun a b ha hb lt => ?_
    rw [List.length_set] at ha hb
    rw [List.getElem_set, List.getElem_set]
    by_cases e1 : i = a <;> by_cases e2 : i = b
    · omega
    · rw [if_pos e1, if_neg e2]
      exact fun z => n1 (z ▸ List.getElem_mem _)
    · rw [if_neg e1, if_pos e2]
      exact fun z => n1 (z ▸ List.getElem_mem _)
    · rw [if_neg e1, if_neg e2]
      exact List.pairwise_iff_getElem.mp h.nd a b ha hb lt
  · rcases List.mem_or_eq_of_mem_set hb with m | m
    · exact h.off b m
    · rw [m]
      exact n2
def swL {α : Type} (l : List α) (i j : Nat) (x y : α) : List α := (l.set i y).set j x
theorem swL_get {α : Type} {l : List α} {i j k : Nat} {x y : α} (hi : l[i]? = some x) (hj : l[j]? = some y) : (swL l i j x y)[k]? = if k = j then some x else if k = i then some y else l[k]? := by
  have li := (List.getElem?_eq_some_iff.mp hi).1
  have lj := (List.getElem?_eq_some_iff.mp hj).1
  unfold swL
  by_cases e1 : k = j
  · subst e1
    rw [if_pos rfl, List.getElem?_set_self (by rw [List.length_set]; exact lj)]
  · rw [if_neg e1, List.getElem?_set_ne (Ne.symm e1)]
    by_cases e2 : k = i
    · subst e2
      rw [if_pos rfl, List.getElem?_set_self li]
    · rw [if_neg e2, List.getElem?_set_ne (Ne.symm e2)]
/-- two rows change places -/
theorem Rw.turn {R a b : Addr} {H : Hp} {rs : List Addr} {t : List (List Int)} {x y : List Int} {i j : Nat} (h : Rw R H rs t) (ha : rs[i]? = some a) (hb : rs[j]? = some b) (hx : t[i]? = some x) (hy : t[j]? = some y) : Rw R (upd H R (.lst (swL (rs.map V.ref) i j (.ref a) (.ref b)))) (swL rs i j a b) (swL t i j x y) := by
  have gl := fun k => swL_get (k := k) ha hb
  have gt := fun k => swL_get (k := k) hx hy
  have mem : ∀ c ∈ swL rs i j a b, c ∈ rs := fun c hc => by
    unfold swL at hc
    rcases List.mem_or_eq_of_mem_set hc with m | m
    · rcases List.mem_or_eq_of_mem_set m with m | m
      · exact m
      · rw [m]
        exact List.mem_of_getElem? hb
    · rw [m]
      exact List.mem_of_getElem? ha
  refine ⟨⟨by rw [upd_same]; unfold swL; rw [List.map_set, List.map_set], by unfold swL; rw [List.length_set, List.length_set, List.length_set, List.length_set]; exact h.len, fun k c ec => ?_⟩, ?_, fun c hc => h.off c (mem c hc)⟩
  · have nc := h.off c (mem c (List.mem_of_getElem? ec))
    rw [gl] at ec
    rw [gt]
    by_cases e1 : k = j
    · rw [if_pos e1] at ec ⊢
      cases ec
      obtain ⟨r, q1, q2⟩ := h.row i a ha
      rw [hx] at q1
      cases q1
      exact ⟨_, rfl, by rw [upd_ne nc]; exact q2⟩
    · rw [if_neg e1] at ec ⊢
      by_cases e2 : k = i
      · rw [if_pos e2] at ec ⊢
        cases ec
        obtain ⟨r, q1, q2⟩ := h.row j b hb
        rw [hy] at q1
        cases q1
        exact ⟨_, rfl, by rw [upd_ne nc]; exact q2⟩
      · rw [if_neg e2] at ec ⊢
        obtain ⟨r, q1, q2⟩ := h.row k c ec
        exact ⟨r, q1, by rw [upd_ne nc]; exact q2⟩
  · have inj : ∀ m k : Nat, m < rs.length → k < rs.length → rs[m]? = rs[k]? → m = k := fun m k hm hk e => by
      rw [List.getElem?_eq_getElem hm, List.getElem?_eq_getElem hk] at e
      have e' := Option.some.inj e
      rcases Nat.lt_trichotomy m k with lt | eq | lt
      · exact absurd e' (List.pairwise_iff_getElem.mp h.nd m k hm hk lt)
      · exact eq
      · exact absurd e'.symm (List.pairwise_iff_getElem.mp h.nd k m hk hm lt)
    have li := (List.getElem?_eq_some_iff.mp ha).1
    have lj := (List.getElem?_eq_some_iff.mp hb).1
    refine List.pairwise_iff_getElem.mpr fun m k hm hk lt => ?_
    intro e
    have hm' : m < rs.length := by
      unfold swL at hm
      rw [List.length_set, List.length_set] at hm
      exact hm
    have hk' : k < rs.length := by
      unfold swL at hk
      rw [List.length_set, List.length_set] at hk
      exact hk
    have e' : (swL rs i j a b)[m]? = (swL rs i j a b)[k]? := by
      rw [List.getElem?_eq_getElem hm, List.getElem?_eq_getElem hk, e]
    rw [gl, gl, ← ha, ← hb] at e'
    have f : ∀ c : Nat, (if c = j then rs[i]? else if c = i then rs[j]? else rs[c]?) = rs[if c = j then i else if c = i then j else c]? := fun c => by
      split
      · rfl
      · split <;> rfl
    rw [f, f] at e'
    have q := inj _ _ (by split <;> (try split) <;> omega) (by split <;> (try split) <;> omega) e'
    revert q
    split <;> (try split) <;> (try split) <;> (try split) <;> omega
theorem en_swL {t : List (List Int)} {i j k l : Nat} {x y : List Int} (hx : t[i]? = some x) (hy : t[j]? = some y) : en (swL t i j x y) k l = en t (if k = j then i else if k = i then j else k) l := by
  rw [en_q, en_q, swL_get hx hy, ← hx, ← hy]
  split
  · rfl
  · split <;> rfl
theorem Rc.swL {m c : Nat} {t : List (List Int)} {i j : Nat} {x y : List Int} (h : Rc m c t) (hx : t[i]? = some x) (hy : t[j]? = some y) : Rc m c (swL t i j x y) :=
  (h.set i (h.row y (List.mem_of_getElem? hy))).set j (h.row x (List.mem_of_getElem? hx))
/-! ### what stands while a determinant is made -/
structure Bar (n k B : Nat) (A0 : Mx) (t : List (List Int)) (sgn last : Int) (A : Mx) : Prop where
  sq : Sq n t
  dA : det n A = sgn * det n A0
  s1 : sgn = 1 ∨ sgn = -1
  nz : ∀ m, 1 ≤ m → m ≤ k → det m A ≠ 0
  la : last = det k A
  ent : ∀ i j, k ≤ i → i < n → k ≤ j → j < n → en t i j = det (k + 1) (brd A k i j)
  bA : ∀ i j, i < n → j < n → (A i j).natAbs ≤ B
theorem Bar.start {n B : Nat} {t : List (List Int)} (h : Sq n t) (b : ∀ i j, i < n → j < n → (en t i j).natAbs ≤ B) : Bar n 0 B (en t) t 1 1 (en t) :=
  ⟨h, by rw [Int.one_mul], .inl rfl, fun m h1 h2 => absurd h1 (by omega), rfl, fun i j _ _ _ _ => by rw [det1]; simp [brd], b⟩
section
variable {n k B : Nat} {A0 A : Mx} {t : List (List Int)} {sgn last : Int}
theorem Bar.none (h : Bar n k B A0 t sgn last A) (hk : k < n) (z : ∀ i, k ≤ i → i < n → en t i k = 0) : det n A0 = 0 := by
  have e := det_null k A hk h.nz fun i hi => by
    rw [← h.ent (i + k) k (by omega) hi (Nat.le_refl k) hk]
    exact z _ (by omega) hi
  rw [h.dA] at e
  rcases h.s1 with s | s
  · rw [s, Int.one_mul] at e
    exact e
  · rw [s] at e
    omega
theorem Bar.turn (h : Bar n k B A0 t sgn last A) {a : Nat} {x y : List Int} (ha : k < a) (an : a < n) (hx : t[k]? = some x) (hy : t[a]? = some y) : Bar n k B A0 (swL t k a x y) (-sgn) last (swp A k a) := by
  have lead : ∀ m, m ≤ k → det m (swp A k a) = det m A := fun m hm => det_congr fun i j hi _ => by rw [swp_off A (by omega) (by omega)]
  refine ⟨(h.sq.rc.swL hx hy).sq, ?_, ?_, fun m h1 h2 => by rw [lead m h2]; exact h.nz m h1 h2, by rw [lead k (Nat.le_refl k)]; exact h.la, fun i j h1 h2 h3 h4 => ?_, fun i j hi hj => ?_⟩
  · rw [show det n (swp A k a) = -det n A from det_swap (by omega) an (by omega), h.dA, Int.neg_mul]
  · rcases h.s1 with s | s
    · exact .inr (by rw [s])
    · exact .inl (by rw [s]; rfl)
  · rw [en_swL hx hy, h.ent _ j (by split <;> (try split) <;> omega) (by split <;> (try split) <;> omega) h3 h4]
    congr 1
    funext r c
    unfold brd
    by_cases hr : r < k
    · rw [if_pos hr, if_pos hr, swp_off A (by omega) (by omega)]
    · rw [if_neg hr, if_neg hr]
      by_cases e1 : i = a
      · subst e1
        rw [if_pos rfl, swp_s]
      · rw [if_neg e1]
        by_cases e2 : i = k
        · subst e2
          rw [if_pos rfl, swp_r]
        · rw [if_neg e2, swp_off A e2 e1]
  · by_cases e1 : i = k
    · subst e1
      rw [swp_r]
      exact h.bA a j an hj
    · by_cases e2 : i = a
      · subst e2
        rw [swp_s]
        exact h.bA k j (by omega) hj
      · rw [swp_off A e1 e2]
        exact h.bA i j hi hj
theorem Bar.last_ne (h : Bar n k B A0 t sgn last A) : last ≠ 0 := by
  rw [h.la]
  cases k with
  | zero => exact Int.one_ne_zero
  | succ k => exact h.nz (k + 1) (by omega) (Nat.le_refl _)
theorem brd_bound {A : Mx} {n B k i j : Nat} (b : ∀ i j, i < n → j < n → (A i j).natAbs ≤ B) (hk : k < n) (hi : i < n) (hj : j < n) : (det (k + 1) (brd A k i j)).natAbs ≤ bnd B (k + 1) :=
  det_bound fun r c hr hc => by
    unfold brd
    exact b _ _ (by split <;> omega) (by split <;> omega)
theorem Bar.next (h : Bar n k B A0 t sgn last A) (hk : k < n) (ne : en t k k ≠ 0) {u : List (List Int)} (hu : Sq n u) (he : ∀ i j, k < i → i < n → k < j → j < n → en u i j = (en t k k * en t i j - en t i k * en t k j).fdiv last) : Bar n (k + 1) B A0 u sgn (en t k k) A := by
  have own : en t k k = det (k + 1) A := by rw [h.ent k k (Nat.le_refl k) hk (Nat.le_refl k) hk, brd_own]
  refine ⟨hu, h.dA, h.s1, fun m h1 h2 => ?_, own, fun i j h1 h2 h3 h4 => ?_, h.bA⟩
  · by_cases e : m = k + 1
    · rw [e, ← own]
      exact ne
    · exact h.nz m h1 (by omega)
  · have d := dodgson k A (i - k) (j - k) h.nz
    rw [show i - k + k = i by omega, show j - k + k = j by omega] at d
    rw [he i j (by omega) h2 (by omega) h4, own, h.ent i j (by omega) h2 (by omega) h4, h.ent i k (by omega) h2 (Nat.le_refl k) hk, h.ent k j (Nat.le_refl k) hk (by omega) h4, ← d, ← h.la, fdiv_mul h.last_ne]
theorem Bar.fin (h : Bar n n B A0 t sgn last A) : sgn * last = det n A0 := by
  rw [h.la, h.dA]
  rcases h.s1 with s | s
  · rw [s, Int.one_mul, Int.one_mul]
  · rw [s, Int.neg_mul, Int.one_mul, Int.neg_mul, Int.one_mul, Int.neg_neg]
end
end NA
namespace NA
open PySem PySem.Spec PyProof.Rows L2
/-! ## rows brought to units modulo a prime -/
structure GJ (n k : Nat) (p : Int) (B : Mx) (t : List (List Int)) : Prop where
  rc : Rc n (n + n) t
  low : ∀ i c, i < n → c < n + n → 0 ≤ en t i c ∧ en t i c < p
  rel : ∀ i j, i < n → j < n → p ∣ en t i (n + j) - sumF n fun x => en t i x * B x j
  unit : ∀ i c, i < n → c < k → en t i c = if i = c then 1 else 0
  inj : Inj p n (en t)
theorem alike_mod {p a b c : Int} (h : p ∣ a - b) : p ∣ c * a - c * b := by
  rw [← Int.mul_sub]
  exact Int.dvd_trans h (Int.dvd_mul_left _ _)
theorem dvd_add_left' {p a b : Int} (h : p ∣ a) (g : p ∣ b) : p ∣ a + b := Int.dvd_add h g
theorem emod_alike (a p : Int) : p ∣ a % p - a := mod_sub a p
/-- a row taken a times, and another one b times -/
theorem GJ.op {n k : Nat} {p : Int} {B : Mx} {t : List (List Int)} (hp : Prm p) (h : GJ n k p B t) {i q : Nat} (hi : i < n) (hq : q < n) {a b : Int} (na : ¬ p ∣ a) (ne : q = i → b = 0) {r : List Int} (lr : r.length = n + n) (hr : ∀ c, c < n + n → r.getD c 0 = (a * en t i c + b * en t q c) % p)
    (un : ∀ c, c < k → (a * en t i c + b * en t q c) % p = if i = c then 1 else 0) : GJ n k p B (t.set i r) := by
  have p0 : 0 < p := by have := hp.two; omega
  have lt : i < t.length := by rw [h.rc.len]; exact hi
  have e : ∀ i' c, c < n + n → en (t.set i r) i' c = if i' = i then (a * en t i c + b * en t q c) % p else en t i' c := fun i' c hc => by
    rw [en_set lt]
    by_cases z : i' = i
    · rw [if_pos z, if_pos z, hr c hc]
    · rw [if_neg z, if_neg z]
  refine ⟨h.rc.set i lr, fun i' c hi' hc => ?_, fun i' j hi' hj => ?_, fun i' c hi' hc => ?_, fun v hv => ?_⟩
  · rw [e i' c hc]
    by_cases z : i' = i
    · rw [if_pos z]
      exact ⟨Int.emod_nonneg _ (by omega), Int.emod_lt_of_pos _ p0⟩
    · rw [if_neg z]
      exact h.low i' c hi' hc
  · rw [e i' _ (by omega)]
    by_cases z : i' = i
    · subst z
      rw [if_pos rfl]
      have e2 : (sumF n fun x => en (t.set i' r) i' x * B x j) = sumF n fun x => ((a * en t i' x + b * en t q x) % p) * B x j := sumF_congr fun x hx => by rw [e i' x (by omega), if_pos rfl]
      rw [e2]
      have s1 := h.rel i' j hi' hj
      have s2 := h.rel q j hq hj
      have s3 : p ∣ (sumF n fun x => ((a * en t i' x + b * en t q x) % p) * B x j) - sumF n fun x => (a * en t i' x + b * en t q x) * B x j := sumF_alike fun x _ => by
        rw [← Int.sub_mul]
        exact Int.dvd_trans (mod_sub _ _) (Int.dvd_mul_right _ _)
      have s4 : (sumF n fun x => (a * en t i' x + b * en t q x) * B x j) = a * (sumF n fun x => en t i' x * B x j) + b * sumF n fun x => en t q x * B x j := by
        rw [← sumF_mul, ← sumF_mul, ← sumF_add]
        exact sumF_congr fun x _ => by rw [Int.add_mul, Int.mul_assoc, Int.mul_assoc]
      rw [s4] at s3
      have s5 := mod_sub (a * en t i' (n + j) + b * en t q (n + j)) p
      have s6 := alike_mod (c := a) s1
      have s7 := alike_mod (c := b) s2
      generalize (a * en t i' (n + j) + b * en t q (n + j)) % p = x1 at *
      generalize (sumF n fun x => ((a * en t i' x + b * en t q x) % p) * B x j) = x2 at *
      generalize a * en t i' (n + j) = y1 at *
      generalize b * en t q (n + j) = y2 at *
      generalize (a * sumF n fun x => en t i' x * B x j) = z1 at *
      generalize (b * sumF n fun x => en t q x * B x j) = z2 at *
      have f : x1 - x2 = (x1 - (y1 + y2)) + ((y1 - z1) + (y2 - z2)) - (x2 - (z1 + z2)) := by omega
      rw [f]
      exact Int.dvd_sub (Int.dvd_add s5 (Int.dvd_add s6 s7)) s3
    · rw [if_neg z]
      have e2 : (sumF n fun x => en (t.set i r) i' x * B x j) = sumF n fun x => en t i' x * B x j := sumF_congr fun x hx => by rw [e i' x (by omega), if_neg z]
      rw [e2]
      exact h.rel i' j hi' hj
  · by_cases hcn : c < n + n
    · rw [e i' c hcn]
      by_cases z : i' = i
      · subst z
        rw [if_pos rfl]
        exact un c hc
      · rw [if_neg z]
        exact h.unit i' c hi' hc
    · have z1 := h.unit i' c hi' hc
      by_cases z : i' = i
      · subst z
        rw [en_set lt, if_pos rfl]
        have z2 : r.getD c 0 = 0 := by rw [List.getD_eq_getElem?_getD, List.getElem?_eq_none (by omega)]; rfl
        rw [z2, if_neg (by omega)]
      · rw [en_set lt, if_neg z]
        exact z1
  · have rowq : p ∣ rowS n (en t) q v := by
      by_cases z : q = i
      · by_cases hz : b = 0
        · have w := hv i hi
          unfold rowS at w ⊢
          rw [sumF_congr (G := fun x => ((a * en t i x + b * en t q x) % p) * v x) fun x hx => by rw [e i x (by omega), if_pos rfl]] at w
          have s3 : p ∣ (sumF n fun x => ((a * en t i x + b * en t q x) % p) * v x) - sumF n fun x => (a * en t i x + b * en t q x) * v x := sumF_alike fun x _ => by
            rw [← Int.sub_mul]
            exact Int.dvd_trans (mod_sub _ _) (Int.dvd_mul_right _ _)
          have s4 : (sumF n fun x => (a * en t i x + b * en t q x) * v x) = a * sumF n fun x => en t i x * v x := by
            rw [← sumF_mul]
            exact sumF_congr fun x _ => by rw [hz, Int.zero_mul, Int.add_zero, Int.mul_assoc]
          rw [s4] at s3
          have s5 := Int.dvd_sub w s3
          rw [Int.sub_sub_self] at s5
          rw [z]
          exact (hp.dvd _ _ s5).resolve_left na
        · exact absurd (ne z) hz
      · have w := hv q hq
        unfold rowS at w ⊢
        rw [sumF_congr (G := fun x => en t q x * v x) fun x hx => by rw [e q x (by omega), if_neg z]] at w
        exact w
    refine h.inj v fun i' hi' => ?_
    by_cases z : i' = i
    · subst z
      have w := hv i' hi'
      unfold rowS at w rowq ⊢
      rw [sumF_congr (G := fun x => ((a * en t i' x + b * en t q x) % p) * v x) fun x hx => by rw [e i' x (by omega), if_pos rfl]] at w
      have s3 : p ∣ (sumF n fun x => ((a * en t i' x + b * en t q x) % p) * v x) - sumF n fun x => (a * en t i' x + b * en t q x) * v x := sumF_alike fun x _ => by
        rw [← Int.sub_mul]
        exact Int.dvd_trans (mod_sub _ _) (Int.dvd_mul_right _ _)
      have s4 : (sumF n fun x => (a * en t i' x + b * en t q x) * v x) = a * (sumF n fun x => en t i' x * v x) + b * sumF n fun x => en t q x * v x := by
        rw [← sumF_mul, ← sumF_mul, ← sumF_add]
        exact sumF_congr fun x _ => by rw [Int.add_mul, Int.mul_assoc, Int.mul_assoc]
      rw [s4] at s3
      have s5 := Int.dvd_sub w s3
      rw [Int.sub_sub_self] at s5
      have s6 := Int.dvd_sub s5 (Int.dvd_trans rowq (Int.dvd_mul_left b _))
      rw [Int.add_sub_cancel] at s6
      exact (hp.dvd _ _ s6).resolve_left na
    · have w := hv i' hi'
      unfold rowS at w ⊢
      rw [sumF_congr (G := fun x => en t i' x * v x) fun x hx => by rw [e i' x (by omega), if_neg z]] at w
      exact w
theorem GJ.pivot {n k : Nat} {p : Int} {B : Mx} {t : List (List Int)} (hp : Prm p) (h : GJ n k p B t) (hk : k < n) : ∃ i, k ≤ i ∧ i < n ∧ en t i k ≠ 0 := by
  refine Classical.byContradiction fun z => ?_
  have al : ∀ i, k ≤ i → i < n → en t i k = 0 := fun i h1 h2 => Classical.byContradiction fun q => z ⟨i, h1, h2, q⟩
  have d := h.inj (fun x => (if k = x then 1 else 0) - if x < k then en t x k else 0) (fun i hi => ?_) k hk
  · rw [if_pos rfl, if_neg (by omega), Int.sub_zero] at d
    exact hp.one d
  · unfold rowS
    have e : (sumF n fun j => en t i j * ((if k = j then 1 else 0) - if j < k then en t j k else 0)) = (sumF n fun j => (if k = j then 1 else 0) * en t i j) - sumF n fun j => (if i = j then 1 else 0) * (if j < k then en t j k else 0) := by
      have g : ∀ F G : Nat → Int, sumF n F - sumF n G = sumF n fun j => F j - G j := fun F G => by
        have q : (fun k => G k + (F k - G k)) = F := by
          funext k
          omega
        have q2 := sumF_add n G fun j => F j - G j
        rw [q] at q2
        omega
      rw [g]
      refine sumF_congr fun j hj => ?_
      rw [Int.mul_sub, Int.mul_comm (en t i j) (if k = j then 1 else 0)]
      congr 1
      by_cases q : j < k
      · rw [if_pos q, h.unit i j hi q]
      · rw [if_neg q, Int.mul_zero, Int.mul_zero]
    rw [e, sumF_one n k (fun j => en t i j) hk, sumF_one n i (fun j => if j < k then en t j k else 0) hi]
    by_cases q : i < k
    · rw [if_pos q, Int.sub_self]
      exact Int.dvd_zero p
    · rw [if_neg q, al i (by omega) hi]
      exact Int.dvd_zero p
theorem GJ.turn {n k : Nat} {p : Int} {B : Mx} {t : List (List Int)} (h : GJ n k p B t) {a : Nat} {x y : List Int} (hk : k < n) (ka : k ≤ a) (an : a < n) (hx : t[k]? = some x) (hy : t[a]? = some y) : GJ n k p B (swL t k a x y) := by
  have e := fun i c => en_swL (k := i) (l := c) hx hy
  refine ⟨h.rc.swL hx hy, fun i c hi hc => ?_, fun i j hi hj => ?_, fun i c hi hc => ?_, fun v hv => ?_⟩
  · rw [e]
    exact h.low _ c (by split <;> (try split) <;> omega) hc
  · rw [e, sumF_congr (G := fun x => en t (if i = a then k else if i = k then a else i) x * B x j) fun x hx' => by rw [e]]
    exact h.rel _ j (by split <;> (try split) <;> omega) hj
  · rw [e, h.unit _ c (by split <;> (try split) <;> omega) hc]
    by_cases q1 : i = a
    · subst q1
      rw [if_pos rfl, if_neg (by omega), if_neg (by omega)]
    · rw [if_neg q1]
      by_cases q2 : i = k
      · subst q2
        rw [if_pos rfl, if_neg (by omega), if_neg (by omega)]
      · rw [if_neg q2]
  · refine h.inj v fun i hi => ?_
    have w := hv (if i = a then k else if i = k then a else i) (by split <;> (try split) <;> omega)
    unfold rowS at w ⊢
    rw [sumF_congr (G := fun x => en t i x * v x) fun x hx' => by
      rw [e]
      congr 2
      by_cases q1 : i = a
      · rw [if_pos q1]
        by_cases q2 : k = a
        · rw [if_pos q2]
          omega
        · rw [if_neg q2, if_pos rfl]
          omega
      · rw [if_neg q1]
        by_cases q2 : i = k
        · rw [if_pos q2, if_pos rfl]
          omega
        · rw [if_neg q2, if_neg q1, if_neg q2]] at w
    exact w
theorem GJ.next {n k : Nat} {p : Int} {B : Mx} {t : List (List Int)} (h : GJ n k p B t) (u : ∀ i, i < n → en t i k = if i = k then 1 else 0) : GJ n (k + 1) p B t :=
  ⟨h.rc, h.low, h.rel, fun i c hi hc => by
    by_cases e : c = k
    · rw [e]
      exact u i hi
    · exact h.unit i c hi (by omega), h.inj⟩
theorem GJ.fin {n : Nat} {p : Int} {B : Mx} {t : List (List Int)} (h : GJ n n p B t) {i j : Nat} (hi : i < n) (hj : j < n) : p ∣ en t i (n + j) - B i j := by
  have r := h.rel i j hi hj
  rw [sumF_congr (G := fun x => (if i = x then 1 else 0) * B x j) fun x hx => by rw [h.unit i x hi hx], sumF_one n i (fun x => B x j) hi] at r
  exact r
theorem GJ.start {n : Nat} {p : Int} {B M : Mx} {t : List (List Int)} (hp : Prm p) (rc : Rc n (n + n) t) (e1 : ∀ i j, i < n → j < n → en t i j = M i j % p) (e2 : ∀ i j, i < n → j < n → en t i (n + j) = if j = i then 1 else 0) (inv : ∀ i j, i < n → j < n → p ∣ (if i = j then 1 else 0) - sumF n fun x => M i x * B x j) (inj : Inj p n M) : GJ n 0 p B t := by
  have p0 : 0 < p := by have := hp.two; omega
  refine ⟨rc, fun i c hi hc => ?_, fun i j hi hj => ?_, fun i c _ hc => absurd hc (Nat.not_lt_zero _), fun v hv => inj v fun i hi => ?_⟩
  · by_cases q : c < n
    · rw [e1 i c hi q]
      exact ⟨Int.emod_nonneg _ (by omega), Int.emod_lt_of_pos _ p0⟩
    · have z := e2 i (c - n) hi (by omega)
      rw [show n + (c - n) = c by omega] at z
      rw [z]
      have := hp.two
      split <;> omega
  · rw [e2 i j hi hj]
    have s := inv i j hi hj
    have s3 : p ∣ (sumF n fun x => en t i x * B x j) - sumF n fun x => M i x * B x j := sumF_alike fun x hx => by
      rw [e1 i x hi hx, ← Int.sub_mul]
      exact Int.dvd_trans (mod_sub _ _) (Int.dvd_mul_right _ _)
    have e3 : (if j = i then (1 : Int) else 0) = if i = j then 1 else 0 := by
      by_cases q : i = j
      · rw [if_pos q, if_pos q.symm]
      · rw [if_neg q, if_neg (Ne.symm q)]
    rw [e3]
    generalize (if i = j then (1 : Int) else 0) = d at *
    have f := Int.dvd_sub s s3
    have g : ∀ x y z : Int, x - y - (z - y) = x - z := fun x y z => by omega
    rw [g] at f
    exact f
  · have w := hv i hi
    unfold rowS at w ⊢
    have s3 : p ∣ (sumF n fun x => en t i x * v x) - sumF n fun x => M i x * v x := sumF_alike fun x hx => by
      rw [e1 i x hi hx, ← Int.sub_mul]
      exact Int.dvd_trans (mod_sub _ _) (Int.dvd_mul_right _ _)
    have f := Int.dvd_sub w s3
    rw [Int.sub_sub_self] at f
    exact f
end NA
namespace NA
open PySem PySem.Spec PyProof.Rows L2
/-! ## what is led back, by Newton's steps -/
theorem PRn_nodup : PRn.Nodup := by decide
theorem made_cop {p s a : Nat} (hp : p ∈ PRn) : ∀ l : List Nat, (∀ q ∈ l, q ∈ PRn) → p ∉ l → Nat.Coprime (p ^ a) (made l 1 s)
  | [], _, _ => by simp [made]
  | q :: l, h, n => by
    have e : made (q :: l) 1 s = q ^ val q s * made l 1 s := by
      show made l (1 * q ^ val q s) s = _
      rw [made_acc, Nat.one_mul]
    rw [e]
    refine Nat.Coprime.mul_right ?_ (made_cop hp l (fun x hx => h x (List.mem_cons_of_mem _ hx)) fun m => n (List.mem_cons_of_mem _ m))
    exact Nat.Coprime.pow _ _ (PRn_ne hp (h q List.mem_cons_self) fun z => n (by rw [z]; exact List.mem_cons_self))
theorem made_dvd {s x : Nat} : ∀ l : List Nat, (∀ q ∈ l, q ∈ PRn) → l.Nodup → (∀ p ∈ l, p ^ val p s ∣ x) → made l 1 s ∣ x
  | [], _, _, _ => by simp [made]
  | q :: l, h, nd, d => by
    have e : made (q :: l) 1 s = q ^ val q s * made l 1 s := by
      show made l (1 * q ^ val q s) s = _
      rw [made_acc, Nat.one_mul]
    rw [e]
    obtain ⟨n1, n2⟩ := List.nodup_cons.mp nd
    exact Nat.Coprime.mul_dvd_of_dvd_of_dvd (made_cop (h q List.mem_cons_self) l (fun x hx => h x (List.mem_cons_of_mem _ hx)) n1) (d q List.mem_cons_self) (made_dvd l (fun x hx => h x (List.mem_cons_of_mem _ hx)) n2 fun p hp => d p (List.mem_cons_of_mem _ hp))
theorem smo_dvd {s x : Nat} (h : Smo s) (d : ∀ p ∈ PRn, p ^ val p s ∣ x) : s ∣ x := by
  have z := made_dvd (s := s) (x := x) PRn (fun _ h => h) PRn_nodup d
  rw [made_smo h] at z
  exact z
def ev (ss : List Int) (p i : Nat) : Nat := val p (ss.getD i 0).toNat
/-- p as often as told, an integer -/
def ppw (p k : Nat) : Int := ((p ^ k : Nat) : Int)
theorem ppw_le {p a b : Nat} (h : a ≤ b) : ppw p a ∣ ppw p b := Int.natCast_dvd_natCast.mpr (Nat.pow_dvd_pow p h)
theorem ppw_add (p a b : Nat) : ppw p (a + b) = ppw p a * ppw p b := by
  unfold ppw
  rw [Nat.pow_add, Int.natCast_mul]
theorem ppw_zero (p : Nat) : ppw p 0 = 1 := rfl
theorem ppw_one (p : Nat) : ppw p 1 = p := by
  unfold ppw
  rw [Nat.pow_one]
theorem ppw_mul {p a b c : Nat} {x y : Int} (h : ppw p a ∣ x) (g : ppw p b ∣ y) (le : c ≤ a + b) : ppw p c ∣ x * y := by
  refine Int.dvd_trans (ppw_le le) ?_
  rw [ppw_add]
  exact Int.mul_dvd_mul h g
theorem natAbs_dvd' {a : Nat} {x : Int} (h : (a : Int) ∣ x) : a ∣ x.natAbs := by
  have z := Int.natAbs_dvd_natAbs.mpr h
  rwa [Int.natAbs_natCast] at z
theorem dvd_natAbs' {a : Nat} {x : Int} (h : a ∣ x.natAbs) : (a : Int) ∣ x := Int.natAbs_dvd_natAbs.mp (by rwa [Int.natAbs_natCast])
section
variable {ss : List Int} (ok : ∀ s ∈ ss, SizeOk s)
include ok
theorem sizeN {i : Nat} (h : i < ss.length) : ∃ y : Nat, ss[i]? = some (y : Int) ∧ ss.getD i 0 = (y : Int) ∧ 2 ≤ y ∧ y ≤ 10 ^ 30 ∧ Smo y := by
  obtain ⟨m, e, a, b, c⟩ := ok _ (List.getElem_mem h)
  refine ⟨m, by rw [List.getElem?_eq_getElem h, e], ?_, a, b, c⟩
  rw [List.getD_eq_getElem?_getD, List.getElem?_eq_getElem h, ← e]
  rfl
theorem dvd_size {p i : Nat} (hp : p ∈ PRn) (hi : i < ss.length) : ppw p (ev ss p i) ∣ ss.getD i 0 := by
  obtain ⟨y, e1, e2, y2, _⟩ := sizeN ok hi
  unfold ev ppw
  rw [e2, Int.toNat_natCast]
  exact Int.natCast_dvd_natCast.mpr ((pow_dvd_val (PRn_two hp) _ _ (by omega)).mpr (Nat.le_refl _))
theorem size_dvd {i : Nat} {x : Int} (hi : i < ss.length) (h : ∀ p ∈ PRn, ppw p (ev ss p i) ∣ x) : ss.getD i 0 ∣ x := by
  obtain ⟨y, e1, e2, y2, y3, sm⟩ := sizeN ok hi
  rw [e2]
  refine dvd_natAbs' (smo_dvd sm fun p hp => ?_)
  have z := h p hp
  unfold ev ppw at z
  rw [e2, Int.toNat_natCast] at z
  exact natAbs_dvd' z
theorem ev_lt {p i : Nat} (hp : p ∈ PRn) (hi : i < ss.length) : ev ss p i ≤ 99 := by
  obtain ⟨y, e1, e2, y2, y3, sm⟩ := sizeN ok hi
  unfold ev
  rw [e2, Int.toNat_natCast]
  refine Nat.le_of_not_lt fun h => ?_
  have d := (pow_dvd_val (PRn_two hp) (val p y) y (by omega)).mpr (Nat.le_refl _)
  have l1 := Nat.le_of_dvd (by omega) d
  have l2 : 2 ^ 100 ≤ p ^ val p y := Nat.le_trans (Nat.pow_le_pow_right (by decide) h) (Nat.pow_le_pow_left (PRn_two hp) _)
  have l3 : (10 ^ 30 : Nat) < 2 ^ 100 := by decide
  omega
theorem hit_pow {t : List (List Int)} (h : Hit ss t) {p i j : Nat} (hp : p ∈ PRn) (hi : i < ss.length) (hj : j < ss.length) : ppw p (ev ss p i - ev ss p j) ∣ en t i j := by
  obtain ⟨y, e1, e2, y2, y3, _⟩ := sizeN ok hi
  obtain ⟨x, f1, f2, x2, x3, _⟩ := sizeN ok hj
  have d := h i j _ _ e1 f1
  have d' : y ∣ (en t i j).natAbs * x := by
    have z := natAbs_dvd' d
    rwa [Int.natAbs_mul, Int.natAbs_natCast] at z
  have s := (stp_iff (a := x) (b := y) (by omega) _).mp d'
  have v := stp_val (a := x) (b := y) (by omega) (by omega) hp
  have q := (pow_dvd_val (PRn_two hp) (val p y - val p x) (stp x y) (stp_pos (by omega))).mpr (by rw [v]; exact Nat.le_refl _)
  unfold ev ppw
  rw [e2, f2, Int.toNat_natCast, Int.toNat_natCast]
  exact dvd_natAbs' (Nat.dvd_trans q s)
end
def flr (L a b : Nat) : Nat := (L + a + 1 - b) / 2
def Nil (ss : List Int) (p L : Nat) (N : Mx) : Prop := ∀ i j, i < ss.length → j < ss.length → ppw p (min (flr L (ev ss p i) (ev ss p j)) (ev ss p i)) ∣ N i j
theorem flr_add {L M a b c : Nat} : flr (L + M) a c ≤ flr L a b + flr M b c := by
  unfold flr
  omega
theorem Nil.mul {ss : List Int} {p L M : Nat} {N N' : Mx} (h : Nil ss p L N) (g : Nil ss p M N') (hit : ∀ i j, i < ss.length → j < ss.length → ppw p (ev ss p i - ev ss p j) ∣ N i j) : Nil ss p (L + M) fun i j => sumF ss.length fun k => N i k * N' k j := fun i j hi hj => by
  refine sumF_dvd fun k hk => ?_
  have a := h i k hi hk
  have b := g k j hk hj
  by_cases q : ev ss p k ≤ flr M (ev ss p k) (ev ss p j)
  · rw [Nat.min_eq_right q] at b
    exact ppw_mul (hit i k hi hk) b (by omega)
  · rw [Nat.min_eq_left (by omega)] at b
    have f := flr_add (L := L) (M := M) (a := ev ss p i) (b := ev ss p k) (c := ev ss p j)
    exact ppw_mul a b (by omega)
def dl (i j : Nat) : Int := if i = j then 1 else 0
/-- what is left -/
def lft (t : List (List Int)) : Mx := fun i j => dl i j - en t i j
section
variable {ss : List Int} (ok : ∀ s ∈ ss, SizeOk s)
include ok
theorem lft_hit {t : List (List Int)} (h : Hit ss t) {p i j : Nat} (hp : p ∈ PRn) (hi : i < ss.length) (hj : j < ss.length) : ppw p (ev ss p i - ev ss p j) ∣ lft t i j := by
  refine Int.dvd_sub ?_ (hit_pow ok h hp hi hj)
  unfold dl
  by_cases e : i = j
  · rw [if_pos e, e, Nat.sub_self, ppw_zero]
    exact Int.dvd_refl 1
  · rw [if_neg e]
    exact Int.dvd_zero _
theorem getD_of_some {i : Nat} {s : Int} (h : ss[i]? = some s) : ss.getD i 0 = s := by
  rw [List.getD_eq_getElem?_getD, h]
  rfl
/-- the twice of still less a table -/
def twl (ss : List Int) (t : List (List Int)) : List (List Int) := (List.range ss.length).map fun i => (List.range ss.length).map fun j => (2 * dl i j - en t i j) % ss.getD i 0
omit ok in
theorem twl_sq (t : List (List Int)) : Sq ss.length (twl ss t) := ⟨by unfold twl; rw [List.length_map, List.length_range], fun r hr => by
  unfold twl at hr
  obtain ⟨i, _, rfl⟩ := List.mem_map.mp hr
  rw [List.length_map, List.length_range]⟩
omit ok in
theorem twl_en (t : List (List Int)) {i j : Nat} (hi : i < ss.length) (hj : j < ss.length) : en (twl ss t) i j = (2 * dl i j - en t i j) % ss.getD i 0 := by
  have e : (twl ss t)[i]? = some ((List.range ss.length).map fun j => (2 * dl i j - en t i j) % ss.getD i 0) := by
    unfold twl
    rw [List.getElem?_map, List.getElem?_eq_getElem (by rw [List.length_range]; exact hi), List.getElem_range]
    rfl
  rw [en_of e, List.getD_eq_getElem?_getD, List.getElem?_map, List.getElem?_eq_getElem (by rw [List.length_range]; exact hj), List.getElem_range]
  rfl
theorem twl_gt {t : List (List Int)} (h : GT ss t) : GT ss (twl ss t) := by
  refine ⟨twl_sq t, fun i j s hs hj => ?_, fun i j s r hs hr => ?_⟩
  · have hi := (List.getElem?_eq_some_iff.mp hs).1
    obtain ⟨y, e1, e2, y2, _⟩ := sizeN ok hi
    rw [twl_en t hi hj, getD_of_some ok hs]
    rw [hs] at e1
    cases e1
    exact ⟨Int.emod_nonneg _ (by omega), Int.emod_lt_of_pos _ (by omega)⟩
  · have hi := (List.getElem?_eq_some_iff.mp hs).1
    have hj := (List.getElem?_eq_some_iff.mp hr).1
    rw [twl_en t hi hj, getD_of_some ok hs]
    have d1 := h.hit i j s r hs hr
    have d2 := still_hit ss i j s r hs hr
    rw [still_en hi hj] at d2
    have m : s ∣ ((2 * dl i j - en t i j) % s - (2 * dl i j - en t i j)) * r := Int.dvd_trans (mod_sub _ _) (Int.dvd_mul_right _ _)
    have d3 : s ∣ (2 * dl i j - en t i j) * r := by
      rw [Int.sub_mul, Int.mul_assoc]
      exact Int.dvd_sub (Int.dvd_trans d2 (Int.dvd_mul_left _ _)) d1
    have z := Int.dvd_add m d3
    rw [← Int.add_mul, Int.sub_add_cancel] at z
    exact z
theorem lft_next {t : List (List Int)} (h : GT ss t) {i j : Nat} (hi : i < ss.length) (hj : j < ss.length) : ss.getD i 0 ∣ lft (bothI ss (twl ss t) t) i j - sumF ss.length fun k => lft t i k * lft t k j := by
  obtain ⟨y, e1, e2, y2, _⟩ := sizeN ok hi
  have b := both_en (twl_sq (ss := ss) t) h.sq e1 hj
  rw [e2]
  unfold lft
  rw [b]
  have s1 : (y : Int) ∣ (sumF ss.length fun k => en t i k * en (twl ss t) k j) - sumF ss.length fun k => en t i k * (2 * dl k j - en t k j) := by
    refine sumF_alike fun k hk => ?_
    obtain ⟨x, f1, f2, x2, _⟩ := sizeN ok hk
    rw [twl_en t hk hj, f2, ← Int.mul_sub]
    obtain ⟨q, hq⟩ := mod_sub (2 * dl k j - en t k j) (x : Int)
    rw [hq, ← Int.mul_assoc]
    exact Int.dvd_trans (h.hit i k _ _ e1 f1) (Int.dvd_mul_right _ _)
  have s2 : (sumF ss.length fun k => en t i k * (2 * dl k j - en t k j)) = 2 * en t i j - sumF ss.length fun k => en t i k * en t k j := by
    have g : ∀ F G : Nat → Int, (sumF ss.length fun k => F k - G k) = sumF ss.length F - sumF ss.length G := fun F G => by
      have q2 := sumF_add ss.length G fun k => F k - G k
      have q : (fun k => G k + (F k - G k)) = F := by
        funext k
        omega
      rw [q] at q2
      omega
    have e : (sumF ss.length fun k => en t i k * (2 * dl k j - en t k j)) = sumF ss.length fun k => (if j = k then 1 else 0) * (2 * en t i k) - en t i k * en t k j := sumF_congr fun k _ => by
      rw [Int.mul_sub]
      congr 1
      unfold dl
      by_cases q : k = j
      · rw [if_pos q, if_pos q.symm]
        omega
      · rw [if_neg q, if_neg (Ne.symm q)]
        omega
    rw [e, g, sumF_one _ j (fun k => 2 * en t i k) hj]
  have s3 : (sumF ss.length fun k => (dl i k - en t i k) * (dl k j - en t k j)) = dl i j - 2 * en t i j + sumF ss.length fun k => en t i k * en t k j := by
    have e : (sumF ss.length fun k => (dl i k - en t i k) * (dl k j - en t k j)) = sumF ss.length fun k => ((if i = k then 1 else 0) * (dl k j - en t k j) + (if j = k then 1 else 0) * (-en t i k)) + en t i k * en t k j := sumF_congr fun k _ => by
      have z : dl k j = if j = k then 1 else 0 := by
        unfold dl
        by_cases q : k = j
        · rw [if_pos q, if_pos q.symm]
        · rw [if_neg q, if_neg (Ne.symm q)]
      rw [Int.sub_mul, Int.mul_sub (en t i k), z]
      unfold dl
      generalize en t i k = x
      generalize en t k j = u
      generalize x * u = xu
      by_cases q : j = k
      · rw [if_pos q]
        omega
      · rw [if_neg q]
        omega
    rw [e, sumF_add, sumF_add, sumF_one _ i (fun k => dl k j - en t k j) hi, sumF_one _ j (fun k => -en t i k) hj]
    omega
  rw [s3]
  rw [s2] at s1
  have m := mod_sub (sumF ss.length fun k => en t i k * en (twl ss t) k j) (y : Int)
  generalize (sumF ss.length fun k => en t i k * en (twl ss t) k j) = a at *
  generalize (sumF ss.length fun k => en t i k * en t k j) = c at *
  have f : dl i j - a % (y : Int) - (dl i j - 2 * en t i j + c) = -((a % (y : Int) - a) + (a - (2 * en t i j - c))) := by omega
  rw [f]
  exact Int.dvd_neg.mpr (Int.dvd_add m s1)
theorem nil_next {t : List (List Int)} (h : GT ss t) {p L : Nat} (hp : p ∈ PRn) (n : Nil ss p L (lft t)) : Nil ss p (2 * L) (lft (bothI ss (twl ss t) t)) := fun i j hi hj => by
  have m := (n.mul n fun i j hi hj => lft_hit ok h.hit hp hi hj) i j hi hj
  have e := lft_next ok h hi hj
  have d : ppw p (min (flr (2 * L) (ev ss p i) (ev ss p j)) (ev ss p i)) ∣ ss.getD i 0 := Int.dvd_trans (ppw_le (Nat.min_le_right _ _)) (dvd_size ok hp hi)
  rw [show L + L = 2 * L by omega] at m
  have z := Int.dvd_add (Int.dvd_trans d e) m
  rw [Int.sub_add_cancel] at z
  exact z
theorem nil_still {t : List (List Int)} (h : GT ss t) {L : Nat} (hL : 200 ≤ L) (n : ∀ p ∈ PRn, Nil ss p L (lft t)) : t = stillI ss.length := by
  refine sq_ext h.sq (still_sq _) fun i j hi hj => ?_
  rw [still_en hi hj]
  obtain ⟨y, e1, e2, y2, _⟩ := sizeN ok hi
  have d := size_dvd ok hi fun p hp => by
    have z := n p hp i j hi hj
    have l1 := ev_lt ok hp hi
    have l2 := ev_lt ok hp hj
    rw [Nat.min_eq_right (by unfold flr; omega)] at z
    exact z
  rw [e2] at d
  obtain ⟨a, b⟩ := h.low i j _ e1 hj
  unfold lft dl at d
  by_cases q : i = j
  · rw [if_pos q] at d ⊢
    obtain ⟨c, hc⟩ := d
    have c0 : c = 0 := by
      rcases Int.lt_trichotomy c 0 with q | q | q
      · have : (y : Int) * c ≤ (y : Int) * (-1) := Int.mul_le_mul_of_nonneg_left (by omega) (by omega)
        omega
      · exact q
      · have : (y : Int) * 1 ≤ (y : Int) * c := Int.mul_le_mul_of_nonneg_left (by omega) (by omega)
        omega
    rw [c0, Int.mul_zero] at hc
    omega
  · rw [if_neg q] at d ⊢
    obtain ⟨c, hc⟩ := d
    have c0 : c = 0 := by
      rcases Int.lt_trichotomy c 0 with q | q | q
      · have : (y : Int) * c ≤ (y : Int) * (-1) := Int.mul_le_mul_of_nonneg_left (by omega) (by omega)
        omega
      · exact q
      · have : (y : Int) * 1 ≤ (y : Int) * c := Int.mul_le_mul_of_nonneg_left (by omega) (by omega)
        omega
    rw [c0, Int.mul_zero] at hc
    omega
/-- nearly what leads back: alike for each prime, layer by layer -/
def Near (ss : List Int) (v x : List (List Int)) : Prop := ∀ p ∈ PRn, ∀ i j, i < ss.length → j < ss.length → 0 < ev ss p i → if ev ss p i = ev ss p j then (p : Int) ∣ en x i j - en v i j else ppw p (ev ss p i) ∣ en x i j
theorem near_nil {t v x : List (List Int)} (ht : GT ss t) (hv : GT ss v) (hx : GT ss x) (e : bothI ss v t = stillI ss.length) (n : Near ss v x) {p : Nat} (hp : p ∈ PRn) : Nil ss p 1 (lft (bothI ss x t)) := fun i j hi hj => by
  have gb := GT.both ok hx ht
  have hh := lft_hit ok gb.hit hp hi hj
  by_cases q1 : ev ss p j < ev ss p i
  · exact Int.dvd_trans (ppw_le (by unfold flr; omega)) hh
  by_cases q2 : ev ss p i < ev ss p j
  · rw [show min (flr 1 (ev ss p i) (ev ss p j)) (ev ss p i) = 0 by unfold flr; omega, ppw_zero]
    exact Int.one_dvd _
  have q3 : ev ss p i = ev ss p j := by omega
  by_cases q4 : ev ss p i = 0
  · rw [q4, Nat.min_zero, ppw_zero]
    exact Int.one_dvd _
  rw [show min (flr 1 (ev ss p i) (ev ss p j)) (ev ss p i) = 1 by unfold flr; omega, ppw_one]
  obtain ⟨y, e1, e2, y2, _⟩ := sizeN ok hi
  have ps : (p : Int) ∣ (y : Int) := by
    have z := dvd_size ok hp hi
    rw [e2] at z
    have z2 := ppw_le (p := p) (show 1 ≤ ev ss p i by omega)
    rw [ppw_one] at z2
    exact Int.dvd_trans z2 z
  have b1 := both_en hx.sq ht.sq e1 hj
  have b2 := both_en hv.sq ht.sq e1 hj
  rw [e, still_en hi hj] at b2
  unfold lft dl
  rw [b1, b2]
  have d1 := Int.dvd_trans ps (mod_sub (sumF ss.length fun k => en t i k * en x k j) (y : Int))
  have d2 := Int.dvd_trans ps (mod_sub (sumF ss.length fun k => en t i k * en v k j) (y : Int))
  have d3 : (p : Int) ∣ (sumF ss.length fun k => en t i k * en x k j) - sumF ss.length fun k => en t i k * en v k j := sumF_alike fun k hk => by
    by_cases c1 : ev ss p k < ev ss p i
    · have z := hit_pow ok ht.hit hp hi hk
      have z2 := ppw_le (p := p) (show 1 ≤ ev ss p i - ev ss p k by omega)
      rw [ppw_one] at z2
      rw [← Int.mul_sub]
      exact Int.dvd_trans (Int.dvd_trans z2 z) (Int.dvd_mul_right _ _)
    · have nk := n p hp k j hk hj (by omega)
      by_cases c2 : ev ss p k = ev ss p j
      · rw [if_pos c2] at nk
        rw [← Int.mul_sub]
        exact Int.dvd_trans nk (Int.dvd_mul_left _ _)
      · rw [if_neg c2] at nk
        have z := hit_pow ok hv.hit hp hk hj
        have z2 := ppw_le (p := p) (show 1 ≤ ev ss p k - ev ss p j by omega)
        have z3 := ppw_le (p := p) (show 1 ≤ ev ss p k by omega)
        rw [ppw_one] at z2 z3
        rw [← Int.mul_sub]
        exact Int.dvd_trans (Int.dvd_sub (Int.dvd_trans z3 nk) (Int.dvd_trans z2 z)) (Int.dvd_mul_left _ _)
  generalize (sumF ss.length fun k => en t i k * en x k j) = a at *
  generalize (sumF ss.length fun k => en t i k * en v k j) = c at *
  have f : c % (y : Int) - a % (y : Int) = ((c % (y : Int) - c) - (a % (y : Int) - a)) - (a - c) := by omega
  rw [f]
  exact Int.dvd_sub (Int.dvd_sub d2 d1) d3
theorem led_back {t v x : List (List Int)} (ht : GT ss t) (hv : GT ss v) (hx : GT ss x) (e : bothI ss t v = stillI ss.length) (f : bothI ss x t = stillI ss.length) : x = v := by
  have a := both_assoc hx.sq ht.sq hv.sq hv.hit
  rw [f, e, still_both hv.sq hv.low, both_still hx.sq hx.low] at a
  exact a.symm
theorem newton {t x : List (List Int)} (ht : GT ss t) (hx : GT ss x) : bothI ss (bothI ss (twl ss (bothI ss x t)) x) t = bothI ss (twl ss (bothI ss x t)) (bothI ss x t) :=
  both_assoc (twl_sq _) hx.sq ht.sq ht.hit
end
end NA
namespace NA
open PySem PySem.Spec PyProof.Rows L2
/-! ## layers; inverses -/
def sumL : List Nat → (Nat → Int) → Int
  | [], _ => 0
  | k :: l, F => F k + sumL l F
theorem sumL_map (g : Nat → Nat) (F : Nat → Int) : ∀ l : List Nat, sumL (l.map g) F = sumL l fun k => F (g k)
  | [] => rfl
  | k :: l => by
    rw [List.map_cons]
    unfold sumL
    rw [sumL_map g F l]
theorem sumF_list : ∀ (n : Nat) (F : Nat → Int), sumF n F = sumL (List.range n) F
  | 0, _ => rfl
  | n + 1, F => by
    rw [List.range_succ_eq_map]
    unfold sumF sumL
    rw [sumL_map, sumF_list n]
theorem sumL_at : ∀ (l : List Nat) (F : Nat → Int), sumL l F = sumF l.length fun x => F (l.getD x 0)
  | [], _ => rfl
  | k :: l, F => by
    unfold sumL
    rw [sumL_at l F]
    rfl
theorem sumL_filter {p : Int} (f : Nat → Bool) (F : Nat → Int) : ∀ l : List Nat, (∀ k ∈ l, f k = false → p ∣ F k) → p ∣ sumL l F - sumL (l.filter f) F
  | [], _ => by
    simp [sumL]
  | k :: l, h => by
    have ih := sumL_filter f F l fun x hx => h x (List.mem_cons_of_mem _ hx)
    rw [List.filter_cons]
    cases e : f k with
    | true =>
      rw [if_pos rfl]
      unfold sumL
      rw [show F k + sumL l F - (F k + sumL (l.filter f) F) = sumL l F - sumL (l.filter f) F by omega]
      exact ih
    | false =>
      rw [if_neg Bool.false_ne_true]
      show p ∣ F k + sumL l F - sumL (l.filter f) F
      rw [show F k + sumL l F - sumL (l.filter f) F = F k + (sumL l F - sumL (l.filter f) F) by omega]
      exact Int.dvd_add (h k List.mem_cons_self e) ih
def blk (t : List (List Int)) (I : List Nat) : Mx := fun r c => en t (I.getD r 0) (I.getD c 0)
def layer (ss : List Int) (p e : Nat) : List Nat := (List.range ss.length).filter fun i => decide (ev ss p i = e)
theorem layer_mem {ss : List Int} {p e i : Nat} : i ∈ layer ss p e ↔ i < ss.length ∧ ev ss p i = e := by
  unfold layer
  rw [List.mem_filter, List.mem_range, decide_eq_true_eq]
theorem layer_nodup (ss : List Int) (p e : Nat) : (layer ss p e).Nodup := List.Nodup.sublist (List.filter_sublist) List.nodup_range
theorem getD_mem {l : List Nat} {r : Nat} (h : r < l.length) : l.getD r 0 ∈ l := by
  rw [List.getD_eq_getElem?_getD, List.getElem?_eq_getElem h]
  exact List.getElem_mem h
theorem getD_inj {l : List Nat} (nd : l.Nodup) {r c : Nat} (hr : r < l.length) (hc : c < l.length) (e : l.getD r 0 = l.getD c 0) : r = c := by
  rw [List.getD_eq_getElem?_getD, List.getD_eq_getElem?_getD, List.getElem?_eq_getElem hr, List.getElem?_eq_getElem hc] at e
  have e' : l[r] = l[c] := e
  rcases Nat.lt_trichotomy r c with q | q | q
  · exact absurd e' (List.pairwise_iff_getElem.mp nd r c hr hc q)
  · exact q
  · exact absurd e'.symm (List.pairwise_iff_getElem.mp nd c r hc hr q)
theorem layer_inv {ss : List Int} (ok : ∀ s ∈ ss, SizeOk s) {one other : List (List Int)} (h1 : GT ss one) (h2 : GT ss other) (e : bothI ss one other = stillI ss.length) {p E : Nat} (hp : p ∈ PRn) (hE : 0 < E) {r c : Nat} (hr : r < (layer ss p E).length) (hc : c < (layer ss p E).length) :
    (p : Int) ∣ (if r = c then 1 else 0) - sumF (layer ss p E).length fun x => blk other (layer ss p E) r x * blk one (layer ss p E) x c := by
  obtain ⟨i1, i2⟩ := layer_mem.mp (getD_mem hr)
  obtain ⟨j1, j2⟩ := layer_mem.mp (getD_mem hc)
  have dd : (if r = c then (1 : Int) else 0) = if (layer ss p E).getD r 0 = (layer ss p E).getD c 0 then 1 else 0 := by
    by_cases q : r = c
    · rw [if_pos q, if_pos (by rw [q])]
    · rw [if_neg q, if_neg fun z => q (getD_inj (layer_nodup ss p E) hr hc z)]
  rw [dd]
  unfold blk
  generalize (layer ss p E).getD r 0 = i at *
  generalize (layer ss p E).getD c 0 = j at *
  obtain ⟨y, e1, e2, y2, _⟩ := sizeN ok i1
  have ps : (p : Int) ∣ (y : Int) := by
    have z := dvd_size ok hp i1
    rw [e2, i2] at z
    have z2 := ppw_le (p := p) (show 1 ≤ E by omega)
    rw [ppw_one] at z2
    exact Int.dvd_trans z2 z
  have b := both_en h1.sq h2.sq e1 j1
  rw [e, still_en i1 j1] at b
  have d1 := Int.dvd_trans ps (mod_sub (sumF ss.length fun k => en other i k * en one k j) (y : Int))
  rw [b]
  have s : (p : Int) ∣ (sumF ss.length fun k => en other i k * en one k j) - sumL (layer ss p E) fun k => en other i k * en one k j := by
    rw [sumF_list]
    refine sumL_filter _ _ _ fun k hk hf => ?_
    have kl := List.mem_range.mp hk
    have ke : ev ss p k ≠ E := of_decide_eq_false hf
    by_cases q : ev ss p k < E
    · have z := hit_pow ok h2.hit hp i1 kl
      have z2 := ppw_le (p := p) (show 1 ≤ ev ss p i - ev ss p k by omega)
      rw [ppw_one] at z2
      exact Int.dvd_trans (Int.dvd_trans z2 z) (Int.dvd_mul_right _ _)
    · have z := hit_pow ok h1.hit hp kl j1
      have z2 := ppw_le (p := p) (show 1 ≤ ev ss p k - ev ss p j by omega)
      rw [ppw_one] at z2
      exact Int.dvd_trans (Int.dvd_trans z2 z) (Int.dvd_mul_left _ _)
  rw [sumL_at] at s
  have f := Int.dvd_add d1 s
  generalize (sumF ss.length fun k => en other i k * en one k j) = a at *
  rw [show a % (y : Int) - a + (a - sumF (layer ss p E).length fun x => en other i ((layer ss p E).getD x 0) * en one ((layer ss p E).getD x 0) j) = a % (y : Int) - sumF (layer ss p E).length fun x => en other i ((layer ss p E).getD x 0) * en one ((layer ss p E).getD x 0) j by omega] at f
  exact f
theorem inj_of_left {p : Int} {m : Nat} {M B : Mx} (h : ∀ r c, r < m → c < m → p ∣ (if r = c then 1 else 0) - sumF m fun x => B r x * M x c) : Inj p m M := fun w hw c hc => by
  have e : w c = sumF m fun x => (if c = x then 1 else 0) * w x := (sumF_one m c w hc).symm
  have s1 : p ∣ (sumF m fun x => (if c = x then 1 else 0) * w x) - sumF m fun x => (sumF m fun y => B c y * M y x) * w x := sumF_alike fun x hx => by
    rw [← Int.sub_mul]
    exact Int.dvd_trans (h c x hc hx) (Int.dvd_mul_right _ _)
  have s2 : (sumF m fun x => (sumF m fun y => B c y * M y x) * w x) = sumF m fun y => B c y * rowS m M y w := by
    have e1 : (sumF m fun x => (sumF m fun y => B c y * M y x) * w x) = sumF m fun x => sumF m fun y => B c y * (M y x * w x) := sumF_congr fun x _ => by
      rw [Int.mul_comm, ← sumF_mul]
      exact sumF_congr fun y _ => by rw [Int.mul_comm, Int.mul_assoc]
    rw [e1, sumF_swap]
    refine sumF_congr fun y _ => ?_
    unfold rowS
    rw [← sumF_mul]
  rw [s2] at s1
  have s3 : p ∣ sumF m fun y => B c y * rowS m M y w := sumF_dvd fun y hy => Int.dvd_trans (hw y hy) (Int.dvd_mul_left _ _)
  rw [e]
  have z := Int.dvd_add s1 s3
  rw [Int.sub_add_cancel] at z
  exact z
/-! Euclid's steps -/
structure Eu (m n a b : Nat) (f c : Int) : Prop where
  hf : (m : Int) ∣ f * n - a
  hc : (m : Int) ∣ c * n - b
  g : Nat.gcd a b = Nat.gcd m n
  eq : c.natAbs * a + f.natAbs * b = m
  sg : (0 ≤ f ∧ c ≤ 0) ∨ (f ≤ 0 ∧ 0 ≤ c)
  bf : f.natAbs ≤ m
  bc : c.natAbs ≤ m
theorem Eu.start {m n : Nat} (hm : 0 < m) : Eu m n m (n % m) 0 1 := by
  refine ⟨⟨-1, by omega⟩, ?_, ?_, by simp, .inr ⟨by decide, by decide⟩, by simp, by simp; omega⟩
  · rw [Int.one_mul]
    have z := mod_sub (n : Int) (m : Int)
    have e : ((n % m : Nat) : Int) = (n : Int) % (m : Int) := rfl
    rw [e]
    exact dvd_sub_comm z
  · rw [Nat.gcd_comm m (n % m), ← Nat.gcd_rec]
theorem Eu.next {m n a b : Nat} {f c : Int} (h : Eu m n a b f c) (hb : 0 < b) : Eu m n b (a - a / b * b) c (f - ((a / b : Nat) : Int) * c) := by
  have le : a / b * b ≤ a := Nat.div_mul_le_self a b
  have am : a - a / b * b = a % b := by
    have := Nat.div_add_mod a b
    rw [Nat.mul_comm] at this
    omega
  generalize hq : a / b = q at *
  have ab : (f - (q : Int) * c).natAbs = f.natAbs + q * c.natAbs := by
    have e : ((q : Int) * c).natAbs = q * c.natAbs := by rw [Int.natAbs_mul, Int.natAbs_natCast]
    rcases h.sg with ⟨s1, s2⟩ | ⟨s1, s2⟩
    · have z : (q : Int) * c ≤ 0 := Int.mul_nonpos_of_nonneg_of_nonpos (Int.natCast_nonneg q) s2
      omega
    · have z : 0 ≤ (q : Int) * c := Int.mul_nonneg (Int.natCast_nonneg q) s2
      omega
  have e2 : (f - (q : Int) * c).natAbs * b + c.natAbs * (a - q * b) = m := by
    rw [ab, Nat.add_mul, Nat.mul_sub, ← h.eq]
    have l : c.natAbs * (q * b) ≤ c.natAbs * a := Nat.mul_le_mul_left _ le
    have w : q * c.natAbs * b = c.natAbs * (q * b) := by rw [Nat.mul_comm q, Nat.mul_assoc]
    omega
  refine ⟨h.hc, ?_, ?_, e2, ?_, h.bc, ?_⟩
  · obtain ⟨x, hx⟩ := h.hf
    obtain ⟨y, hy⟩ := h.hc
    refine ⟨x - (q : Int) * y, ?_⟩
    have e3 : ((a - q * b : Nat) : Int) = (a : Int) - (q : Int) * (b : Int) := by
      rw [Int.natCast_sub le, Int.natCast_mul]
    rw [e3, Int.mul_sub, Int.sub_mul, Int.mul_assoc]
    have f1 : f * (n : Int) = (m : Int) * x + a := by omega
    have f2 : c * (n : Int) = (m : Int) * y + b := by omega
    rw [f1, f2, Int.mul_add, ← Int.mul_assoc, ← Int.mul_assoc (m : Int), Int.mul_comm (m : Int) (q : Int)]
    omega
  · rw [am, Nat.gcd_comm b, ← Nat.gcd_rec, Nat.gcd_comm, h.g]
  · rcases h.sg with ⟨s1, s2⟩ | ⟨s1, s2⟩
    · have z : (q : Int) * c ≤ 0 := Int.mul_nonpos_of_nonneg_of_nonpos (Int.natCast_nonneg q) s2
      exact .inr ⟨s2, by omega⟩
    · have z : 0 ≤ (q : Int) * c := Int.mul_nonneg (Int.natCast_nonneg q) s2
      exact .inl ⟨s2, by omega⟩
  · have z : (f - (q : Int) * c).natAbs * 1 ≤ (f - (q : Int) * c).natAbs * b := Nat.mul_le_mul_left _ hb
    omega
theorem Eu.fin {m n a : Nat} {f c : Int} (h : Eu m n a 0 f c) (g : Nat.gcd m n = 1) : (m : Int) ∣ f * n - 1 := by
  have e := h.g
  rw [Nat.gcd_zero_right, g] at e
  have z := h.hf
  rw [e] at z
  exact z
/-- the part of a size that belongs to a prime -/
theorem part_ok {y p e u : Nat} (hp : p ∈ PRn) (hy : 0 < y) (he : val p y = e) (hu : (((p ^ e : Nat)) : Int) ∣ ((y / p ^ e : Nat) : Int) * (u : Int) - 1) :
    ppw p e ∣ (((y / p ^ e * u % y : Nat)) : Int) - 1 ∧ ∀ q ∈ PRn, q ≠ p → ppw q (val q y) ∣ (((y / p ^ e * u % y : Nat)) : Int) := by
  have dv : p ^ e ∣ y := (pow_dvd_val (PRn_two hp) e y hy).mpr (by omega)
  have ey : y = p ^ e * (y / p ^ e) := (Nat.mul_div_cancel' dv).symm
  have m0 : ((y / p ^ e * u % y : Nat) : Int) = ((y / p ^ e : Nat) : Int) * (u : Int) % (y : Int) := by
    rw [Int.natCast_emod, Int.natCast_mul]
  rw [m0]
  have ms := mod_sub (((y / p ^ e : Nat) : Int) * (u : Int)) (y : Int)
  refine ⟨?_, fun q hq ne => ?_⟩
  · have d : ppw p e ∣ (y : Int) := Int.natCast_dvd_natCast.mpr dv
    have z := Int.dvd_add (Int.dvd_trans d ms) hu
    rw [show ∀ a b : Int, a - b + (b - 1) = a - 1 from fun a b => by omega] at z
    exact z
  · have pos : 0 < y / p ^ e := Nat.div_pos (Nat.le_of_dvd hy dv) (Nat.pow_pos (by have := PRn_two hp; omega))
    have vq : val q y = val q (y / p ^ e) := by
      refine val_eq (PRn_two hq) hy pos fun k => ⟨fun d => ?_, fun d => Nat.dvd_trans d (Nat.div_dvd_of_dvd dv)⟩
      rw [ey] at d
      exact (Nat.Coprime.pow k e (PRn_ne hq hp ne)).dvd_of_dvd_mul_left d
    have d1 : q ^ val q y ∣ y / p ^ e := (pow_dvd_val (PRn_two hq) _ _ pos).mpr (by rw [vq]; exact Nat.le_refl _)
    have d2 : ppw q (val q y) ∣ (y : Int) := Int.natCast_dvd_natCast.mpr ((pow_dvd_val (PRn_two hq) _ _ hy).mpr (Nat.le_refl _))
    have d3 : ppw q (val q y) ∣ ((y / p ^ e : Nat) : Int) * (u : Int) := Int.dvd_trans (Int.natCast_dvd_natCast.mpr d1) (Int.dvd_mul_right _ _)
    have z := Int.dvd_add (Int.dvd_trans d2 ms) d3
    rw [Int.sub_add_cancel] at z
    exact z
theorem part_cop {y p e : Nat} (hp : p ∈ PRn) (hy : 0 < y) (he : val p y = e) : Nat.gcd (p ^ e) (y / p ^ e) = 1 := by
  have dv : p ^ e ∣ y := (pow_dvd_val (PRn_two hp) e y hy).mpr (by omega)
  have pos : 0 < y / p ^ e := Nat.div_pos (Nat.le_of_dvd hy dv) (Nat.pow_pos (by have := PRn_two hp; omega))
  have c : Nat.Coprime p (y / p ^ e) := PRn_cop hp fun d => by
    have d2 : p ^ (e + 1) ∣ y := by
      rw [(Nat.mul_div_cancel' dv).symm, Nat.pow_succ]
      exact Nat.mul_dvd_mul_left _ d
    have := (pow_dvd_val (PRn_two hp) (e + 1) y hy).mp d2
    omega
  exact Nat.Coprime.pow_left e c
end NA
namespace NA
open PySem PySem.Spec PyProof.Rows L2
/-! ## what is nearly led back, cell by cell -/
def NearD (ss : List Int) (v x : List (List Int)) (dn : Nat → Nat → Nat → Prop) : Prop := ∀ p ∈ PRn, ∀ i j, i < ss.length → j < ss.length → 0 < ev ss p i →
  (ev ss p i = ev ss p j → dn p i j → (p : Int) ∣ en x i j - en v i j) ∧ (ev ss p i ≠ ev ss p j ∨ ¬ dn p i j → ppw p (ev ss p i) ∣ en x i j)
theorem NearD.congr {ss : List Int} {v x : List (List Int)} {dn dm : Nat → Nat → Nat → Prop} (h : NearD ss v x dn) (e : ∀ p ∈ PRn, ∀ i j, i < ss.length → j < ss.length → 0 < ev ss p i → ev ss p i = ev ss p j → (dn p i j ↔ dm p i j)) : NearD ss v x dm := fun p hp i j hi hj e0 => by
  obtain ⟨a, b⟩ := h p hp i j hi hj e0
  refine ⟨fun q d => a q ((e p hp i j hi hj e0 q).mpr d), fun d => b ?_⟩
  by_cases q : ev ss p i = ev ss p j
  · rcases d with d | d
    · exact .inl d
    · exact .inr fun z => d ((e p hp i j hi hj e0 q).mp z)
  · exact .inl q
theorem NearD.fin {ss : List Int} {v x : List (List Int)} {dn : Nat → Nat → Nat → Prop} (h : NearD ss v x dn) (e : ∀ p ∈ PRn, ∀ i j, i < ss.length → j < ss.length → 0 < ev ss p i → ev ss p i = ev ss p j → dn p i j) : Near ss v x := fun p hp i j hi hj e0 => by
  obtain ⟨a, b⟩ := h p hp i j hi hj e0
  by_cases q : ev ss p i = ev ss p j
  · rw [if_pos q]
    exact a q (e p hp i j hi hj e0 q)
  · rw [if_neg q]
    exact b (.inl q)
theorem NearD.start {ss : List Int} {v x : List (List Int)} (z : ∀ i j, i < ss.length → j < ss.length → en x i j = 0) : NearD ss v x fun _ _ _ => False := fun p _ i j hi hj _ => ⟨fun _ d => d.elim, fun _ => by
  rw [z i j hi hj]
  exact Int.dvd_zero _⟩
theorem NearD.step {ss : List Int} (ok : ∀ s ∈ ss, SizeOk s) {v x x' : List (List Int)} {dn : Nat → Nat → Nat → Prop} (h : NearD ss v x dn) {q i j : Nat} (hq : q ∈ PRn) (hi : i < ss.length) (hj : j < ss.length) (e0 : 0 < ev ss q i) (eq : ev ss q i = ev ss q j) (nd : ¬ dn q i j)
    {ent unit : Int} (he : (q : Int) ∣ ent - en v i j) (u1 : ppw q (ev ss q i) ∣ unit - 1) (u2 : ∀ p ∈ PRn, p ≠ q → ppw p (ev ss p i) ∣ unit)
    (hx : ∀ i' j', i' < ss.length → j' < ss.length → en x' i' j' = if i' = i ∧ j' = j then (en x i j + ent * unit) % ss.getD i 0 else en x i' j') : NearD ss v x' fun p a b => dn p a b ∨ (p = q ∧ a = i ∧ b = j) := fun p hp a b ha hb ea => by
  obtain ⟨f, g⟩ := h p hp a b ha hb ea
  rw [hx a b ha hb]
  by_cases w : a = i ∧ b = j
  · obtain ⟨rfl, rfl⟩ := w
    rw [if_pos ⟨rfl, rfl⟩]
    have ms := mod_sub (en x a b + ent * unit) (ss.getD a 0)
    have ds := dvd_size ok hp ha
    by_cases pq : p = q
    · subst pq
      refine ⟨fun _ _ => ?_, fun d => ?_⟩
      · have pw : (p : Int) ∣ ppw p (ev ss p a) := by
          have z := ppw_le (p := p) (show 1 ≤ ev ss p a by omega)
          rw [ppw_one] at z
          exact z
        have gx := Int.dvd_trans pw (g (.inr nd))
        have m2 := Int.dvd_trans (Int.dvd_trans pw ds) ms
        have u3 : (p : Int) ∣ ent * (unit - 1) := Int.dvd_trans (Int.dvd_trans pw u1) (Int.dvd_mul_left _ _)
        have z := Int.dvd_add (Int.dvd_add m2 gx) (Int.dvd_add u3 he)
        have e : (en x a b + ent * unit) % ss.getD a 0 - (en x a b + ent * unit) + en x a b + (ent * (unit - 1) + (ent - en v a b)) = (en x a b + ent * unit) % ss.getD a 0 - en v a b := by
          rw [Int.mul_sub, Int.mul_one]
          omega
        rw [e] at z
        exact z
      · rcases d with d | d
        · exact absurd eq d
        · exact absurd (.inr ⟨rfl, rfl, rfl⟩) d
    · have uu := u2 p hp pq
      refine ⟨fun e d => ?_, fun d => ?_⟩
      · have pw : (p : Int) ∣ ppw p (ev ss p a) := by
          have z := ppw_le (p := p) (show 1 ≤ ev ss p a by omega)
          rw [ppw_one] at z
          exact z
        have fx := f e (by
          rcases d with d | d
          · exact d
          · exact absurd d.1 pq)
        have m2 := Int.dvd_trans (Int.dvd_trans pw ds) ms
        have u3 : (p : Int) ∣ ent * unit := Int.dvd_trans (Int.dvd_trans pw uu) (Int.dvd_mul_left _ _)
        have z := Int.dvd_add (Int.dvd_add m2 fx) u3
        rw [show ∀ m y t c : Int, m - (y + t) + (y - c) + t = m - c from fun m y t c => by omega] at z
        exact z
      · have gx := g (by
          rcases d with d | d
          · exact .inl d
          · exact .inr fun z => d (.inl z))
        have m2 := Int.dvd_trans ds ms
        have u3 : ppw p (ev ss p a) ∣ ent * unit := Int.dvd_trans uu (Int.dvd_mul_left _ _)
        have z := Int.dvd_add m2 (Int.dvd_add gx u3)
        rw [Int.sub_add_cancel] at z
        exact z
  · rw [if_neg w]
    refine ⟨fun e d => f e ?_, fun d => g ?_⟩
    · rcases d with d | d
      · exact d
      · exact absurd d.2 w
    · rcases d with d | d
      · exact .inl d
      · exact .inr fun z => d (.inl z)
theorem near_hit {ss : List Int} (ok : ∀ s ∈ ss, SizeOk s) {v x : List (List Int)} (n : Near ss v x) : Hit ss x := fun i j s r hs hr => by
  have hi := (List.getElem?_eq_some_iff.mp hs).1
  have hj := (List.getElem?_eq_some_iff.mp hr).1
  have e1 := getD_of_some ok hs
  have e2 := getD_of_some ok hr
  have z := size_dvd ok (i := i) (x := en x i j * r) hi fun p hp => by
    by_cases q0 : ev ss p i = 0
    · rw [q0, ppw_zero]
      exact Int.one_dvd _
    · have w := n p hp i j hi hj (by omega)
      have d := dvd_size ok hp hj
      rw [e2] at d
      by_cases q : ev ss p i = ev ss p j
      · rw [q]
        exact Int.dvd_trans d (Int.dvd_mul_left _ _)
      · rw [if_neg q] at w
        exact Int.dvd_trans w (Int.dvd_mul_right _ _)
  rw [e1] at z
  exact z
end NA
namespace NA

open PySem PySem.Spec PyProof.Rows L2
def topS (i : Nat) : Stmt := PySem.Challenge.pw_narrowadds_k13_whole_tables_of_programs.main.body.getD i (.Pass ⟨0, 0, 0, 0⟩)
abbrev s_is_an_integer : Stmt := topS 5
abbrev s_is_below : Stmt := topS 6
abbrev s_how_often : Stmt := topS 10
abbrev s_power_of : Stmt := topS 11
abbrev s_inverse : Stmt := topS 12
abbrev s_primes_of : Stmt := topS 15
abbrev s_depth : Stmt := topS 16
abbrev s_whole_power : Stmt := topS 17
abbrev s_part_of : Stmt := topS 18
abbrev s_step : Stmt := topS 19
abbrev s_square_of : Stmt := topS 21
abbrev s_determinant : Stmt := topS 22
abbrev s_row_with_entry : Stmt := topS 23
abbrev s_inverse_square : Stmt := topS 24
abbrev s_row_less : Stmt := topS 25
abbrev s_table_error : Stmt := topS 27
abbrev s_entry_error : Stmt := topS 28
abbrev s_is_row : Stmt := topS 29
abbrev s_is_entry : Stmt := topS 30
abbrev s_still : Stmt := topS 31
abbrev s_table_of : Stmt := topS 32
abbrev s_both : Stmt := topS 33
abbrev s_moved : Stmt := topS 34
abbrev s_product_sum : Stmt := topS 35
abbrev s_can_be_undone : Stmt := topS 36
abbrev s_layers : Stmt := topS 37
abbrev s_undone : Stmt := topS 38
abbrev s_nearly_undone : Stmt := topS 39
abbrev s_twice_less : Stmt := topS 40
abbrev s_program_error : Stmt := topS 42
abbrev s_program_error_from : Stmt := topS 43
abbrev s_steps_of : Stmt := topS 44
abbrev s_deed_fault : Stmt := topS 45
abbrev s_run : Stmt := topS 46
abbrev s_backward : Stmt := topS 47
abbrev s_l_pot : Stmt := topS 49
abbrev s_l_dip : Stmt := topS 50
abbrev s_l_pick : Stmt := topS 51
abbrev s_l_primes : Stmt := topS 52
abbrev s_l_common : Stmt := topS 53
abbrev s_l_step : Stmt := topS 54
abbrev s_l_great : Stmt := topS 55
abbrev s_l_sizes : Stmt := topS 56
abbrev s_l_wires : Stmt := topS 57
abbrev s_l_machine : Stmt := topS 58
abbrev s_l_contents : Stmt := topS 59
abbrev s_l_deed : Stmt := topS 60
abbrev s_l_program : Stmt := topS 61
abbrev s_l_run : Stmt := topS 62
abbrev s_l_table : Stmt := topS 63
abbrev s_l_led : Stmt := topS 64
abbrev s_l_both : Stmt := topS 65
abbrev s_l_still : Stmt := topS 66
abbrev s_l_made : Stmt := topS 67
abbrev s_l_is_right : Stmt := topS 68
abbrev s_l_is_long : Stmt := topS 69
abbrev s_law : Stmt := topS 70
section
variable {P : Program} {w : World} {K : PySem.W.Frag} {mg : Str → Option Value} {base : Heap}
abbrev sc_l_dipN : List Str := ["pot", "size", "cell", "mixed"]
theorem sc_l_dip : FnScope sc_l_dipN ["pot", "size"] (defScope s_l_dip) := ⟨rfl, rfl, rfl, by decide +kernel, rfl, by decide +kernel, by decide +kernel⟩
theorem ok_dipW {f : Addr} {fd : FuncData} (D : DefAt K mg "_law_dip" s_l_dip ["pot", "size"] f fd) (T : Blt mg) : Cal P w K mg base 1 "_law_dip" spDipW := by
  refine cal_of D sc_l_dip (fun vs H Q E h => ?_) (fun cdv A outer s H vs Q E hr h => ?_)
  · obtain ⟨p, q, n, rfl, _⟩ := h
    rfl
  · obtain ⟨p, q, n, rfl, hP, n0, n1, k⟩ := h
    obtain ⟨cs, a, b, m, hp, hq, hc, a0, a1, b0, b1⟩ := hP
    have npq : p ≠ q := pq_ne hp hq
    refine ⟨_, (pss_cons (ps_if (pt_cmpR (op_neDK K rfl hr.units) (pe_ix (ix_listK K rfl) (pv 0) pe_int (fun _ _ => rfl)) (pe_lst pa_nil) (nomark _)) (pss_cons (ps_set (i := 2) sc_l_dip.nd rfl (.inl rfl) (pe_bm0 PySem.F.plainAttrs_list PySem.F.slot_list_pop PySem.F.type_list_pop mt_pop (pe_ix (ix_listK K rfl) (pv 0) pe_int (fun _ _ => rfl))))
      (pss_cons (ps_if (pt_cmpR op_ge (pv 2) (pv 1) (nomark _)) (pss_one (ps_expr (pe_bm PySem.F.plainAttrs_list PySem.F.slot_list_append PySem.F.type_list_append mt_append (pe_ix (ix_listK K rfl) (pv 0) pe_int (fun _ _ => rfl)) (pa_cons (pe_op op_fdivW (pv 2) (pv 1)) pa_nil)))) pss_nil)
      (pss_one (ps_ret (pe_op op_mod (pe_callTy call_int1 (by rfl) T.int (by decide +kernel) (pa_cons (pv 2) pa_nil)) (pv 1)))))) pss_nil)
      (pss_cons (ps_asg (pe_op op_add (pe_ix (ix_listK K rfl) (pv 0) pe_int (fun _ _ => rfl)) pe_int) (pg_sub (pv 0) pe_int set_list))
      (pss_cons (ps_set (i := 3) sc_l_dip.nd rfl (.inl rfl) (pe_op op_mod (pe_op op_add (pe_ix (ix_listK K rfl) (pv 0) pe_int (fun _ _ => rfl)) (pe_op op_mul (pe_ix (ix_listK K rfl) (pv 0) pe_int (fun _ _ => rfl)) pe_int)) pe_int))
      (pss_cons (ps_set (i := 3) sc_l_dip.nd rfl (.inl rfl) (pe_op op_mod (pe_op op_add (pe_op op_add (pe_op op_mul (pv 3) (pv 3)) (pe_op op_mul (pe_ix (ix_listK K rfl) (pv 0) pe_int (fun _ _ => rfl)) (pe_ix (ix_listK K rfl) (pv 0) pe_int (fun _ _ => rfl)))) pe_int) pe_int))
      (pss_one (ps_ret (pe_op op_mod (pe_op op_fdiv (pe_op op_mod (pe_op op_mul (pv 3) pe_int) pe_int) pe_int) (pv 1)))))))), ?_⟩
    refine ⟨_, rfl, p, _, 0, _, rfl, rfl, SqL.of hp, atI_nat (j := 0) rfl, Nat.zero_le _, fun l nl => ?_⟩
    have nlp : p ≠ l := ne_of_none hp nl
    have nlq : q ≠ l := ne_of_none hq nl
    have hp1 : (upd H l (.lst [])) p = some (.lst [.ref q, .int a, .int b, .int m]) := by rw [upd_ne nlp]; exact hp
    have hq1 : (upd H l (.lst [])) q = some (.lst (cs.map V.int)) := by rw [upd_ne nlq]; exact hq
    have kp1 : Kp p q H (upd H l (.lst [])) := (Kp.refl p q H).new nl
    refine ⟨.list (cs.map PyData.int), .list [], .lst (SqL.of hq1) (DpAll.ints K _ cs), .lst (SqL.of upd_same) .nil, shaped_ints cs, rfl, _, rfl, ?_⟩
    have keep : ∀ (H' H'' : Hp) (c : Addr) (o : HO), Kp p q H H' → (c = p ∨ c = q) → Kp p q H (upd H' c o) := fun H' _ c o e hcq b u n1 n2 z => by
      have nb : b ≠ c := fun e => by
        rcases hcq with h | h
        · exact n1 (e.trans h)
        · exact n2 (e.trans h)
      rw [upd_ne nb]
      exact e b u n1 n2 z
    cases cs with
    | nil =>
      refine iteF ?_
      refine ⟨_, rfl, p, _, 3, _, rfl, rfl, SqL.of hp1, atI_nat (j := 3) rfl, m, 1, rfl, rfl, _, rfl, p, _, 3, 3, rfl, rfl, hp1, rfl, ?_⟩
      have hp2 : (upd (upd H l (.lst [])) p (.lst [.ref q, .int a, .int b, .int (m + 1)])) p = some (.lst [.ref q, .int a, .int b, .int (m + 1)]) := upd_same
      have hq2 : (upd (upd H l (.lst [])) p (.lst [.ref q, .int a, .int b, .int (m + 1)])) q = some (.lst []) := by rw [upd_ne npq.symm]; exact hq1
      have kp2 : Kp p q H (upd (upd H l (.lst [])) p (.lst [.ref q, .int a, .int b, .int (m + 1)])) := keep _ H _ _ kp1 (.inl rfl)
      refine ⟨_, rfl, p, _, 1, _, rfl, rfl, SqL.of hp2, atI_nat (j := 1) rfl, _, rfl, p, _, 3, _, rfl, rfl, SqL.of hp2, atI_nat (j := 3) rfl, _, _, rfl, rfl, .inr ⟨by decide, by decide⟩, _, _, rfl, rfl, _, _, rfl, rfl, (by decide : (0 : Int) < 4294967291), ?_⟩
      have m1 := Int.emod_nonneg (a + (m + 1) * 2654435761) (show (4294967291 : Int) ≠ 0 by decide)
      have m2 := Int.emod_lt_of_pos (a + (m + 1) * 2654435761) (show (0 : Int) < 4294967291 by decide)
      refine ⟨_, rfl, _, rfl, _, _, rfl, rfl, .inl ⟨by omega, by omega⟩, _, rfl, p, _, 2, _, rfl, rfl, SqL.of hp2, atI_nat (j := 2) rfl, _, rfl, p, _, 3, _, rfl, rfl, SqL.of hp2, atI_nat (j := 3) rfl, _, _, rfl, rfl, .inl ⟨by omega, by omega⟩, _, _, rfl, rfl, _, _, rfl, rfl, _, _, rfl, rfl, (by decide : (0 : Int) < 4294967279), ?_⟩
      refine ⟨_, rfl, _, _, rfl, rfl, .inl ⟨Int.lt_of_lt_of_le (by decide) (Int.emod_nonneg _ (by decide)), Int.lt_trans (Int.emod_lt_of_pos _ (by decide)) (by decide)⟩, _, _, rfl, rfl, (by decide : (0 : Int) < 4294967231), _, _, rfl, rfl, ⟨by decide, by decide⟩, _, rfl, _, _, rfl, rfl, n0, ?_⟩
      refine k _ _ (Int.emod_nonneg _ (by omega)) (Int.emod_lt_of_pos _ n0) ⟨[], a, b, m + 1, hp2, hq2, by decide, a0, a1, b0, b1⟩ kp2
    | cons c0 cs0 =>
      refine iteT ?_
      generalize hcs : c0 :: cs0 = cs at *
      have ne : cs ≠ [] := by rw [← hcs]; exact List.cons_ne_nil _ _
      obtain ⟨ini, z, rfl⟩ : ∃ (ini : List Int) (z : Int), cs = ini ++ [z] := ⟨cs.dropLast, cs.getLast ne, (List.dropLast_concat_getLast ne).symm⟩
      have hq1' : (upd H l (.lst [])) q = some (.lst (ini.map V.int ++ [V.int z])) := by rw [hq1, List.map_append]; rfl
      have hlast : (ini.map V.int ++ [V.int z])[(ini.map V.int ++ [V.int z]).length - 1]? = some (V.int z) := by simp
      have hdrop : (ini.map V.int ++ [V.int z]).dropLast = ini.map V.int := by simp
      refine ⟨_, rfl, p, _, 0, _, rfl, rfl, SqL.of hp1, atI_nat (j := 0) rfl, .inl ⟨rfl, _, SqL.of hq1'⟩, q, _, _, rfl, rfl, hq1', hlast, ?_⟩
      rw [hdrop]
      have hp2 : (upd (upd H l (.lst [])) q (.lst (ini.map V.int))) p = some (.lst [.ref q, .int a, .int b, .int m]) := by rw [upd_ne npq]; exact hp1
      have hq2 : (upd (upd H l (.lst [])) q (.lst (ini.map V.int))) q = some (.lst (ini.map V.int)) := upd_same
      have kp2 : Kp p q H (upd (upd H l (.lst [])) q (.lst (ini.map V.int))) := keep _ H _ _ kp1 (.inr rfl)
      have li : ini.length + 1 ≤ 60 := by simpa using hc
      refine ⟨_, rfl, _, rfl, _, _, rfl, rfl, _, rfl, ?_⟩
      refine ite2 (fun _ => ?_) (fun _ => ?_)
      · refine ⟨_, rfl, p, _, 0, _, rfl, rfl, SqL.of hp2, atI_nat (j := 0) rfl, .inl ⟨rfl, _, SqL.of hq2⟩, _, rfl, _, rfl, _, _, rfl, rfl, wide_div (b := 4000) n0 n1 (by decide) (by decide), q, _, _, rfl, rfl, hq2, small1000 (by rw [List.length_map]; omega), ?_⟩
        have hp3 : ∀ o, (upd (upd (upd H l (.lst [])) q (.lst (ini.map V.int))) q o) p = some (.lst [.ref q, .int a, .int b, .int m]) := fun o => by rw [upd_ne npq]; exact hp2
        refine ⟨_, rfl, .inl ⟨_, rfl, _, rfl, _, _, rfl, rfl, n0, ?_⟩⟩
        refine k _ _ (Int.emod_nonneg _ (by omega)) (Int.emod_lt_of_pos _ n0) ⟨ini ++ [z / n], a, b, m, hp3 _, by rw [upd_same, List.map_append]; rfl, by rw [List.length_append, List.length_singleton]; omega, a0, a1, b0, b1⟩ (keep _ H _ _ kp2 (.inr rfl))
      · refine ⟨_, rfl, .inl ⟨_, rfl, _, rfl, _, _, rfl, rfl, n0, ?_⟩⟩
        refine k _ _ (Int.emod_nonneg _ (by omega)) (Int.emod_lt_of_pos _ n0) ⟨ini, a, b, m, hp2, hq2, by omega, a0, a1, b0, b1⟩ kp2

abbrev sc_l_pickN : List Str := ["pot", "items"]
theorem sc_l_pick : FnScope sc_l_pickN ["pot", "items"] (defScope s_l_pick) := ⟨rfl, rfl, rfl, by decide +kernel, rfl, by decide +kernel, by decide +kernel⟩
theorem ok_pickA {f : Addr} {fd : FuncData} (D : DefAt K mg "_law_pick" s_l_pick ["pot", "items"] f fd) (T : Blt mg) (c_l_dip : Cal P w K mg base 1 "_law_dip" spDip) : Cal P w K mg base 2 "_law_pick" spPickA := by
  refine cal_of D sc_l_pick (fun vs H Q E h => ?_) (fun cdv A outer s H vs Q E hr h => ?_)
  · obtain ⟨p, q, a, xs, o, rfl, _⟩ := h
    rfl
  · obtain ⟨p, q, a, xs, o, rfl, hP, ha, ho, ne, lt, k⟩ := h
    refine ⟨_, (pss_one (ps_ret (pe_ix (ix_anyK K rfl) (pv 1) (pe_c c_l_dip hr (by decide) rfl (pa_cons (pv 0) (pa_cons (pe_callB (call_lenK K rfl) (by rfl) T.len PySem.boot_len (pa_cons (pv 1) pa_nil)) pa_nil))) (fun _ _ => rfl)))), ?_⟩
    have l0 : 0 < xs.length := List.length_pos_iff.mpr ne
    have sq : SqL K H a xs ∨ SqT K H a xs := by
      rcases ho with ⟨e, _⟩ | e
      · exact .inl (SqL.of (e ▸ ha))
      · exact .inr (SqT.of (e ▸ ha))
    refine ⟨_, rfl, _, rfl, _, rfl, a, xs, rfl, sq, p, q, _, rfl, hP, by omega, by omega, fun r H' r0 r1 hP' hk => ?_⟩
    obtain ⟨j, rfl⟩ : ∃ j : Nat, r = (j : Int) := ⟨r.toNat, by omega⟩
    have hj : j < xs.length := by omega
    have kk := k _ _ (List.getElem_mem hj) hP' hk
    rcases ho with ⟨e, n1, n2⟩ | e
    · exact .inl ⟨a, xs, j, _, rfl, rfl, SqL.of (hk a _ n1 n2 (e ▸ ha)), atI_nat (List.getElem?_eq_getElem hj), kk⟩
    · exact .inr ⟨a, xs, j, _, rfl, rfl, SqT.of ((hk.tk hP) _ _ (e ▸ ha)), atI_nat (List.getElem?_eq_getElem hj), kk⟩

abbrev sc_l_primesN : List Str := []
theorem sc_l_primes : FnScope sc_l_primesN [] (defScope s_l_primes) := ⟨rfl, rfl, rfl, by decide +kernel, rfl, by decide +kernel, by decide +kernel⟩
theorem ok_primes {f : Addr} {fd : FuncData} (D : DefAt K mg "_law_primes" s_l_primes [] f fd) : Cal P w K mg base 1 "_law_primes" spPrimes := by
  refine cal_of D sc_l_primes (fun vs H Q E h => ?_) (fun cdv A outer s H vs Q E hr h => ?_)
  · obtain ⟨rfl, _⟩ := h
    rfl
  · obtain ⟨rfl, k⟩ := h
    refine ⟨_, (pss_one (ps_ret (pe_lst (pa_cons pe_int (pa_cons pe_int (pa_cons pe_int (pa_cons pe_int (pa_cons pe_int (pa_cons pe_int (pa_cons pe_int (pa_cons pe_int (pa_cons pe_int (pa_cons pe_int (pa_cons pe_int (pa_cons pe_int (pa_cons pe_int (pa_cons pe_int (pa_cons pe_int (pa_cons pe_int (pa_cons pe_int (pa_cons pe_int (pa_cons pe_int (pa_cons pe_int (pa_cons pe_int (pa_cons pe_int (pa_cons pe_int (pa_cons pe_int (pa_cons pe_int pa_nil)))))))))))))))))))))))))))), ?_⟩
    exact ⟨by show 25 ≤ sizeLine; decide, fun a na => k a na⟩
abbrev sc_l_commonN : List Str := ["one", "other"]
theorem sc_l_common : FnScope sc_l_commonN ["one", "other"] (defScope s_l_common) := ⟨rfl, rfl, rfl, by decide +kernel, rfl, by decide +kernel, by decide +kernel⟩
theorem ok_common {f : Addr} {fd : FuncData} (D : DefAt K mg "_law_common" s_l_common ["one", "other"] f fd) : Cal P w K mg base 1 "_law_common" spCommon := by
  refine cal_of D sc_l_common (fun vs H Q E h => ?_) (fun cdv A outer s H vs Q E hr h => ?_)
  · obtain ⟨a, b, rfl, _⟩ := h
    rfl
  · obtain ⟨a, b, rfl, hb, k⟩ := h
    refine ⟨_, (pss_cons (ps_while PassesOwn.never (pt_cmpR op_gt (pv 1) pe_int (nomark _)) (pss_one (ps_par (i := 0) (j := 1) rfl sc_l_common.nd rfl rfl (by decide) rfl rfl (pa_cons (pv 1) (pa_cons (pe_op op_mod (pv 0) (pv 1)) pa_nil)) (by rfl))))
      (pss_one (ps_ret (pv 0)))), ?_⟩
    refine ⟨fun m σ H' => ∃ x y : Nat, σ = [some (.int x), some (.int y)] ∧ Nat.gcd x y = Nat.gcd a b ∧ m = y ∧ H' = H, ⟨b, a, b, rfl, rfl, rfl, rfl⟩, ?_⟩
    rintro m σ H' ⟨x, y, rfl, hg, rfl, rfl⟩
    refine ⟨_, rfl, _, _, rfl, rfl, _, rfl, ?_⟩
    refine ite2 (fun hy => ?_) (fun hy => ?_)
    · have hy' : (0 : Int) < (m : Int) := of_decide_eq_true hy
      refine ⟨fun σ' H'' => ∃ x' y' : Nat, σ' = [some (.int x'), some (.int y')] ∧ Nat.gcd x' y' = Nat.gcd a b ∧ y' < m ∧ H'' = H', fun σ' H'' ⟨x', y', e1, e2, e3, e4⟩ => ⟨y', e3, x', y', e1, e2, rfl, e4⟩, ?_⟩
      refine ⟨_, rfl, _, rfl, _, rfl, _, _, rfl, rfl, hy', _, _, rfl, m, x % m, rfl, ?_, Nat.mod_lt _ (by omega), rfl⟩
      rw [Nat.gcd_comm, ← Nat.gcd_rec, Nat.gcd_comm, hg]
    · have hy' : ¬ (0 : Int) < (m : Int) := of_decide_eq_false (by simpa using hy)
      have m0 : m = 0 := by omega
      subst m0
      refine ⟨_, rfl, ?_⟩
      rw [Nat.gcd_zero_right] at hg
      rw [hg]
      exact k

abbrev sc_l_greatN : List Str := ["pot", "some", "found", "turn", "prime"]
theorem sc_l_great : FnScope sc_l_greatN ["pot"] (defScope s_l_great) := ⟨rfl, rfl, rfl, by decide +kernel, rfl, by decide +kernel, by decide +kernel⟩
theorem ok_great {f : Addr} {fd : FuncData} (D : DefAt K mg "_law_great" s_l_great ["pot"] f fd) (T : Blt mg) (c_l_dip : Cal P w K mg base 1 "_law_dip" spDip) (c_l_pick : Cal P w K mg base 2 "_law_pick" spPick) (c_l_primes : Cal P w K mg base 1 "_law_primes" spPrimes) :
    Cal P w K mg base 3 "_law_great" spGreat := by
  refine cal_of D sc_l_great (fun vs H Q E h => ?_) (fun cdv A outer s H vs Q E hr h => ?_)
  · obtain ⟨p, q, rfl, _⟩ := h
    rfl
  · obtain ⟨p, q, rfl, hP, k⟩ := h
    refine ⟨_, (pss_cons (ps_set (i := 1) sc_l_great.nd rfl (.inl rfl) (pe_lst (pa_cons (pe_op op_pow pe_int pe_int) (pa_cons (pe_op op_pow pe_int pe_int) (pa_cons (pe_op op_pow pe_int pe_int) (pa_cons (pe_op op_pow pe_int pe_int) (pa_cons (pe_op op_pow pe_int pe_int) (pa_cons (pe_op op_pow pe_int pe_int) (pa_cons (pe_op op_pow (pe_op op_pow pe_int pe_int) pe_int) (pa_cons (pe_op op_pow pe_int pe_int) (pa_cons (pe_op op_pow pe_int pe_int) (pa_cons pe_int (pa_cons pe_int pa_nil)))))))))))))
      (pss_cons (ps_set (i := 2) sc_l_great.nd rfl (.inl rfl) (pe_c c_l_pick hr (by decide) rfl (pa_cons (pv 0) (pa_cons (pv 1) pa_nil))))
      (pss_cons (ps_for PassesOwn.never rfl (pi_range1 (by rfl) T.range (pa_cons (pe_c c_l_dip hr (by decide) rfl (pa_cons (pv 0) (pa_cons pe_int pa_nil))) pa_nil)) (pg_name (i := 3) sc_l_great.nd rfl (.inl rfl)) (pss_cons (ps_set (i := 4) sc_l_great.nd rfl (.inl rfl) (pe_c c_l_pick hr (by decide) rfl (pa_cons (pv 0) (pa_cons (pe_lst (pa_cons pe_int (pa_cons pe_int (pa_cons pe_int (pa_cons pe_int (pa_cons (pe_c c_l_pick hr (by decide) rfl (pa_cons (pv 0) (pa_cons (pe_c0 c_l_primes hr (by decide) rfl) pa_nil))) pa_nil)))))) pa_nil))))
      (pss_one (ps_set (i := 2) sc_l_great.nd rfl (.inl rfl) (pe_ifExp (pt_cmpR op_le (pe_op op_mulW (pv 2) (pv 4)) (pe_op op_pow pe_int pe_int) (nomark _)) (pe_op op_mulW (pv 2) (pv 4)) (pv 2))))))
      (pss_one (ps_ret (pe_callB (call_max2 rfl) (by rfl) T.max boot_max (pa_cons (pv 2) (pa_cons pe_int pa_nil)))))))), ?_⟩
    refine ⟨_, _, rfl, rfl, ⟨by decide, by decide, by decide⟩, _, _, rfl, rfl, ⟨by decide, by decide, by decide⟩, _, _, rfl, rfl, ⟨by decide, by decide, by decide⟩, _, _, rfl, rfl, ⟨by decide, by decide, by decide⟩, _, _, rfl, rfl, ⟨by decide, by decide, by decide⟩, _, _, rfl, rfl, ⟨by decide, by decide, by decide⟩,
      _, _, rfl, rfl, ⟨by decide, by decide, by decide⟩, _, _, rfl, rfl, ⟨by decide, by decide, by decide⟩, _, _, rfl, rfl, ⟨by decide, by decide, by decide⟩, _, _, rfl, rfl, ⟨by decide, by decide, by decide⟩, by show 11 ≤ sizeLine; decide, fun c nc => ?_⟩
    refine ⟨_, rfl, _, rfl, p, q, c, _, rfl, hP.new nc, upd_same, (hP.np nc).1, (hP.np nc).2, List.cons_ne_nil _ _, by show 11 < 1000; decide, fun v H2 hv P2 k2 => ?_⟩
    have kp2 : Kp p q H H2 := ((Kp.refl p q H).new nc).trans k2
    have ov : okV v = true := by
      have all : ∀ l : List V, l.all okV = true → v ∈ l → okV v = true := fun l h => List.all_eq_true.mp h v
      exact all _ (by decide +kernel) hv
    obtain ⟨m, rfl, m1, m2, m3⟩ := okV_of ov
    refine ⟨_, rfl, p, q, _, rfl, P2, by decide, by decide, fun r H3 r0 r1 P3 k3 => ⟨r, rfl, by omega, by omega, for_range (lo := 0) (n := r.toNat) (fun i σ H' => ∃ (x : Nat) (v3 v4 : Option V), σ = [some (.ref p), some (.ref c), some (.int x), v3, v4] ∧ 1 ≤ x ∧ x ≤ 10 ^ 30 ∧ Smo x ∧ Pt H' p q ∧ Kp p q H H')
      ⟨m, none, none, rfl, m1, m2, m3, P3, kp2.trans k3⟩ ?_ ?_⟩⟩
    · rintro i σ H' hi ⟨x, v3, v4, rfl, x1, x2, x3, P4, k4⟩
      refine ⟨_, rfl, _, rfl, rfl, fun a na => ⟨p, q, a, _, rfl, P4.new na, upd_same, (P4.np na).1, (P4.np na).2, by decide, by decide, fun v H5 hv P5 k5 => ⟨by show 5 ≤ sizeLine; decide, fun b nb => ?_⟩⟩⟩
      refine ⟨p, q, b, _, rfl, P5.new nb, upd_same, (P5.np nb).1, (P5.np nb).2, List.cons_ne_nil _ _, by show 5 < 1000; decide, fun u H6 hu P6 k6 => ?_⟩
      have k06 : Kp p q H H6 := ((((k4.new na).trans k5).new nb)).trans k6
      obtain ⟨pr, rfl, hpr⟩ : ∃ pr : Nat, u = .int pr ∧ pr ∈ PRn := by
        have fromPR : ∀ y : V, y ∈ PR.map V.int → ∃ pr : Nat, y = .int pr ∧ pr ∈ PRn := fun y hy => by
          obtain ⟨z, hz, rfl⟩ := List.mem_map.mp hy
          have e : PR = PRn.map (fun n : Nat => (n : Int)) := by decide +kernel
          rw [e] at hz
          obtain ⟨n, hn, rfl⟩ := List.mem_map.mp hz
          exact ⟨n, rfl, hn⟩
        rcases List.mem_cons.mp hu with e | hu
        · exact ⟨2, e, by decide⟩
        rcases List.mem_cons.mp hu with e | hu
        · exact ⟨2, e, by decide⟩
        rcases List.mem_cons.mp hu with e | hu
        · exact ⟨3, e, by decide⟩
        rcases List.mem_cons.mp hu with e | hu
        · exact ⟨5, e, by decide⟩
        rcases List.mem_cons.mp hu with e | hu
        · exact fromPR _ (e ▸ hv)
        · cases hu
      have wide : CMulW (x : Int) (pr : Int) := wide_mul (a := 100) (b := 10) (by
        have : (10 : Nat) ^ 30 < 2 ^ 100 := by decide
        omega) (by
        have := PRn_le hpr
        omega) (by decide) (by decide) (by decide)
      refine ⟨_, rfl, _, rfl, _, _, rfl, rfl, wide, _, _, rfl, rfl, ⟨by decide, by decide, by decide⟩, _, _, rfl, rfl, _, rfl, ?_⟩
      refine ite2 (fun le => ?_) (fun _ => ?_)
      · have le' : (x : Int) * (pr : Int) ≤ 10 ^ 30 := of_decide_eq_true le
        have le2 : x * pr ≤ 10 ^ 30 := by
          have z : ((x * pr : Nat) : Int) ≤ 10 ^ 30 := by rw [Int.natCast_mul]; exact le'
          omega
        refine ⟨_, rfl, _, rfl, _, _, rfl, rfl, wide, x * pr, some (.int (0 + (i : Int))), some (.int pr), ?_, ?_, le2, x3.mulr hpr, P6, k06⟩
        · rw [Int.natCast_mul]
          rfl
        · exact Nat.mul_pos x1 (Nat.lt_of_lt_of_le (by decide) (PRn_two hpr))
      · exact ⟨_, rfl, x, _, _, rfl, x1, x2, x3, P6, k06⟩
    · rintro σ H' ⟨x, v3, v4, rfl, x1, x2, x3, P4, k4⟩
      refine ⟨_, rfl, _, _, rfl, ?_⟩
      have so : SizeOk (if (2 : Int) > (x : Int) then 2 else (x : Int)) := by
        by_cases h2 : (2 : Int) > (x : Int)
        · rw [if_pos h2]
          exact ⟨2, rfl, by decide, by decide, smo_of (by decide +kernel)⟩
        · rw [if_neg h2]
          exact ⟨x, rfl, by omega, x2, x3⟩
      exact k _ _ so P4 k4
abbrev sc_l_sizesN : List Str := ["pot", "is_great", "few", "base", "turn"]
theorem sc_l_sizes : FnScope sc_l_sizesN ["pot", "is_great"] (defScope s_l_sizes) := ⟨rfl, rfl, rfl, by decide +kernel, rfl, by decide +kernel, by decide +kernel⟩
theorem ok_sizes {f : Addr} {fd : FuncData} (D : DefAt K mg "_law_sizes" s_l_sizes ["pot", "is_great"] f fd) (T : Blt mg) (c_l_dip : Cal P w K mg base 1 "_law_dip" spDip) (c_l_pick : Cal P w K mg base 2 "_law_pick" spPick) (c_l_great : Cal P w K mg base 3 "_law_great" spGreat) :
    Cal P w K mg base 4 "_law_sizes" spSizes := by
  refine cal_of D sc_l_sizes (fun vs H Q E h => ?_) (fun cdv A outer s H vs Q E hr h => ?_)
  · obtain ⟨p, q, g, rfl, _⟩ := h
    rfl
  · obtain ⟨p, q, g, rfl, hP, k⟩ := h
    refine ⟨_, (pss_cons (ps_set (i := 2) sc_l_sizes.nd rfl (.inr rfl) (pe_lst (pa_cons pe_int (pa_cons pe_int (pa_cons pe_int (pa_cons pe_int (pa_cons pe_int (pa_cons pe_int (pa_cons pe_int (pa_cons pe_int (pa_cons pe_int (pa_cons pe_int (pa_cons pe_int (pa_cons pe_int (pa_cons pe_int pa_nil)))))))))))))))
      (pss_cons (ps_set (i := 3) sc_l_sizes.nd rfl (.inr rfl) (pe_lc (own := [("turn", 4)]) rfl sc_l_sizes.nd (pi_range1 (by rfl) T.range (pa_cons pe_int pa_nil)) (blkOk_by (N := sc_l_sizesN) (sc := defScope s_l_sizes) (by decide +kernel)) (fun _ _ _ _ _ => (pg_name (i := 4) sc_l_sizes.nd rfl (by first | exact .inl rfl | exact .inr rfl))) (fun _ _ _ _ _ => pts_nil) (fun _ _ _ _ _ => (pe_ifExp (pt_val (pv 1)) (pe_c c_l_great hr (by decide) rfl (pa_cons (pv 0) pa_nil)) (pe_c c_l_pick hr (by decide) rfl (pa_cons (pv 0) (pa_cons (pv 2) pa_nil)))))))
      (pss_one (ps_ret (pe_callTy (call_tupleK K rfl) (by rfl) T.tuple (by decide +kernel) (pa_cons (pe_lc (own := [("turn", 4)]) rfl sc_l_sizes.nd (pi_range1 (by rfl) T.range (pa_cons (pe_op op_add pe_int (pe_c c_l_dip hr (by decide) rfl (pa_cons (pv 0) (pa_cons pe_int pa_nil)))) pa_nil)) (blkOk_by (N := sc_l_sizesN) (sc := defScope s_l_sizes) (by decide +kernel)) (fun _ _ _ _ _ => (pg_name (i := 4) sc_l_sizes.nd rfl (by first | exact .inl rfl | exact .inr rfl))) (fun _ _ _ _ _ => pts_nil) (fun _ _ _ _ _ => (pe_c c_l_pick hr (by decide) rfl (pa_cons (pv 0) (pa_cons (pv 3) pa_nil))))) pa_nil)))))), ?_⟩
    refine ⟨by show 13 ≤ sizeLine; decide, fun c nc => ?_⟩
    have P1 : Pt (upd H c (.lst fewV)) p q := hP.new nc
    have k1 : Kp p q H (upd H c (.lst fewV)) := (Kp.refl p q H).new nc
    obtain ⟨nc1, nc2⟩ := hP.np nc
    refine ⟨3, rfl, by decide, by decide, fun b nb => ?_⟩
    have nbH : H b = none := by
      by_cases e : b = c
      · rw [e, upd_same] at nb
        cases nb
      · rw [upd_ne e] at nb
        exact nb
    obtain ⟨nb1, nb2⟩ := hP.np nbH
    have ncb : c ≠ b := ne_of_none upd_same nb
    refine lc_range (lo := 0) (n := 3) (fun i H' => Pt H' p q ∧ Kp p q H H' ∧ H' c = some (.lst fewV) ∧ ∃ acc : List Int, H' b = some (.lst (acc.map V.int)) ∧ acc.length = i ∧ ∀ s ∈ acc, SizeOk s)
      ⟨P1.new nb, k1.new nb, by rw [upd_ne ncb]; exact upd_same, [], upd_same, rfl, fun s hs => by cases hs⟩ ?_ ?_
    · rintro i H' hi ⟨P2, k2, hc, acc, hb, hl, ok⟩
      have fin : ∀ (n : Int) (H3 : Hp), SizeOk n → Pt H3 p q → Kp p q H' H3 → ∃ acc' : List V, H3 b = some (.lst acc') ∧ acc'.length < sizeLine ∧ (Pt (upd H3 b (.lst (acc' ++ [V.int n]))) p q ∧ Kp p q H (upd H3 b (.lst (acc' ++ [V.int n]))) ∧ (upd H3 b (.lst (acc' ++ [V.int n]))) c = H' c ∧ ∃ acc : List Int, (upd H3 b (.lst (acc' ++ [V.int n]))) b = some (.lst (acc.map V.int)) ∧ acc.length = i + 1 ∧ ∀ s ∈ acc, SizeOk s) := fun n H3 hn P3 k3 => by
        refine ⟨acc.map V.int, k3 _ _ nb1 nb2 hb, small1000 (by rw [List.length_map]; omega), P3.put nb1 nb2, (k2.trans k3).put nbH, ?_, acc ++ [n], by rw [upd_same, List.map_append]; rfl, by rw [List.length_append, List.length_singleton, hl], fun s hs => ?_⟩
        · rw [upd_ne ncb, hc]
          exact k3 _ _ nc1 nc2 hc
        · rcases List.mem_append.mp hs with h | h
          · exact ok s h
          · rw [List.mem_singleton.mp h]
            exact hn
      refine ⟨rfl, ⟨_, rfl, _, rfl, ?_⟩⟩
      cases g with
      | true =>
        refine iteT ⟨_, rfl, p, q, rfl, P2, fun n H3 hn P3 k3 => ?_⟩
        obtain ⟨acc', a1, a2, a3, a4, a5, a6⟩ := fin n H3 hn P3 k3
        exact ⟨acc', a1, a2, a3, a4, a5.trans hc, a6⟩
      | false =>
        refine iteF ⟨_, rfl, _, rfl, p, q, c, _, rfl, P2, hc, nc1, nc2, List.cons_ne_nil _ _, by show 13 < 1000; decide, fun v H3 hv P3 k3 => ?_⟩
        have ov : okV v = true := by
          have all : ∀ l : List V, l.all okV = true → v ∈ l → okV v = true := fun l h => List.all_eq_true.mp h v
          exact all _ (by decide +kernel) hv
        have big : ∀ l : List V, l.all (fun v => match v with | .int i => decide (2 ≤ i) | _ => false) = true → v ∈ l → ∀ i, v = V.int i → 2 ≤ i := fun l h m i e => by
          have z := List.all_eq_true.mp h v m
          rw [e] at z
          exact of_decide_eq_true z
        obtain ⟨n, rfl, n1, n2, n3⟩ := okV_of ov
        have n4 := big _ (by decide +kernel) hv _ rfl
        obtain ⟨acc', a1, a2, a3, a4, a5, a6⟩ := fin n H3 ⟨n, rfl, by omega, n2, n3⟩ P3 k3
        exact ⟨acc', a1, a2, a3, a4, a5.trans hc, a6⟩
    · rintro H' ⟨P2, k2, hc, acc, hb, hl, ok⟩
      refine ⟨_, rfl, p, q, _, rfl, P2, by decide, by decide, fun r H3 r0 r1 P3 k3 => ⟨1, r, rfl, rfl, _, rfl, by omega, by omega, fun d nd => ?_⟩⟩
      have hb3 : H3 b = some (.lst (acc.map V.int)) := k3 _ _ nb1 nb2 hb
      obtain ⟨nd1, nd2⟩ := P3.np nd
      have nbd : b ≠ d := ne_of_none hb3 nd
      have ndH : H d = none := (k2.trans k3).fresh nd1 nd2 nd
      refine lc_range (lo := 0) (n := (1 + r).toNat) (fun i H' => Pt H' p q ∧ Kp p q H H' ∧ H' b = some (.lst (acc.map V.int)) ∧ ∃ ac : List Int, H' d = some (.lst (ac.map V.int)) ∧ ac.length = i ∧ ∀ s ∈ ac, SizeOk s)
        ⟨P3.new nd, (k2.trans k3).new nd, by rw [upd_ne nbd]; exact hb3, [], upd_same, rfl, fun s hs => by cases hs⟩ ?_ ?_
      · rintro i H4 hi ⟨P4, k4, hb4, ac, hd, hl4, ok4⟩
        refine ⟨rfl, ⟨_, rfl, _, rfl, p, q, b, _, rfl, P4, hb4, nb1, nb2, ?_, ?_, fun v H5 hv P5 k5 => ?_⟩⟩
        · intro z
          have z' := congrArg List.length z
          rw [List.length_map, hl] at z'
          cases z'
        · rw [List.length_map, hl]
          decide
        · obtain ⟨n, hn, rfl⟩ := List.mem_map.mp hv
          refine ⟨ac.map V.int, k5 _ _ nd1 nd2 hd, small1000 (by rw [List.length_map]; omega), P5.put nd1 nd2, (k4.trans k5).put ndH, ?_, ac ++ [n], by rw [upd_same, List.map_append]; rfl, by rw [List.length_append, List.length_singleton, hl4], fun s hs => ?_⟩
          · rw [upd_ne nbd]
            exact k5 _ _ nb1 nb2 hb4
          · rcases List.mem_append.mp hs with h | h
            · exact ok4 s h
            · rw [List.mem_singleton.mp h]
              exact ok n hn
      · rintro H4 ⟨P4, k4, hb4, ac, hd, hl4, ok4⟩
        refine ⟨d, _, rfl, .inl ⟨SqL.of hd, fun t nt => ?_⟩⟩
        refine k _ ac _ (.tup upd_same ?_) (by omega) (by omega) ok4 (P4.new nt) (k4.new nt)
        exact ImAll.of_ints _ ac

abbrev sc_l_wiresN : List Str := ["pot", "many", "chance", "found", "j", "i"]
theorem sc_l_wires : FnScope sc_l_wiresN ["pot", "many"] (defScope s_l_wires) := ⟨rfl, rfl, rfl, by decide +kernel, rfl, by decide +kernel, by decide +kernel⟩
theorem wlt_low {ws : List (Nat × Nat)} {j i : Nat} {acc : List (Nat × Nat)} (h1 : ws.Pairwise wlt) (h2 : ∀ w ∈ ws, w.1 < j) (h3 : acc.Pairwise wlt) (h4 : ∀ w ∈ acc, w.1 = j) : (ws ++ acc).Pairwise wlt :=
  List.pairwise_append.mpr ⟨h1, h3, fun a ha b hb => .inl (by rw [h4 b hb]; exact h2 a ha)⟩
theorem ok_wires {f : Addr} {fd : FuncData} (D : DefAt K mg "_law_wires" s_l_wires ["pot", "many"] f fd) (T : Blt mg) (c_l_dip : Cal P w K mg base 1 "_law_dip" spDip) (c_l_pick : Cal P w K mg base 2 "_law_pick" spPick) :
    Cal P w K mg base 3 "_law_wires" spWires := by
  refine cal_of D sc_l_wires (fun vs H Q E h => ?_) (fun cdv A outer s H vs Q E hr h => ?_)
  · obtain ⟨p, q, m, rfl, _⟩ := h
    rfl
  · obtain ⟨p, q, m, rfl, hm, hP, k⟩ := h
    refine ⟨_, (pss_cons (ps_asg (pe_tup (pa_cons (pe_c c_l_pick hr (by decide) rfl (pa_cons (pv 0) (pa_cons (pe_lst (pa_cons pe_int (pa_cons pe_int (pa_cons pe_int (pa_cons pe_int (pa_cons pe_int (pa_cons pe_int pa_nil))))))) pa_nil))) (pa_cons (pe_lst pa_nil) pa_nil))) (pg_tup rfl (pgs_cons (pg_name (i := 2) sc_l_wires.nd rfl (.inr rfl)) (pgs_cons (pg_name (i := 3) sc_l_wires.nd rfl (.inl rfl)) pgs_nil))))
      (pss_cons (ps_for PassesOwn.never rfl (pi_range1 (by rfl) T.range (pa_cons (pv 1) pa_nil)) (pg_name (i := 4) sc_l_wires.nd rfl (.inr rfl)) (pss_one (ps_expr (pe_bm PySem.F.plainAttrs_list PySem.F.slot_list_extend PySem.F.type_list_extend mt_extend (pv 3) (pa_cons (pe_lc (own := [("i", 5)]) rfl sc_l_wires.nd (pi_range1 (by rfl) T.range (pa_cons (pv 1) pa_nil)) (blkOk_by (N := sc_l_wiresN) (sc := defScope s_l_wires) (by decide +kernel)) (fun _ _ _ _ _ => (pg_name (i := 5) sc_l_wires.nd rfl (by first | exact .inl rfl | exact .inr rfl))) (fun _ _ _ _ _ => (pts_one (PW.pt (pw_and (pt_cmpR op_ne (pv 5) (pv 4) (nomark _)) (pw_and1 (pt_cmpR op_lt (pe_c c_l_dip hr (by decide) rfl (pa_cons (pv 0) (pa_cons pe_int pa_nil))) (pv 2) (nomark _))))))) (fun _ _ _ _ _ => (pe_tup (pa_cons (pv 4) (pa_cons (pv 5) pa_nil))))) pa_nil)))))
      (pss_one (ps_ret (pe_callTy (call_tupleK K rfl) (by rfl) T.tuple (by decide +kernel) (pa_cons (pv 3) pa_nil)))))), ?_⟩
    refine ⟨_, rfl, by show 6 ≤ sizeLine; decide, fun a na => ⟨p, q, a, _, rfl, hP.new na, upd_same, (hP.np na).1, (hP.np na).2, List.cons_ne_nil _ _, by show 6 < 1000; decide, fun v H1 hv P1 k1 => ?_⟩⟩
    have k01 : Kp p q H H1 := ((Kp.refl p q H).new na).trans k1
    obtain ⟨ch, rfl⟩ : ∃ ch : Int, v = .int ch := by
      have all : ∀ l : List V, l.all (fun v => match v with | .int _ => true | _ => false) = true → v ∈ l → ∃ ch : Int, v = .int ch := fun l h m => by
        have z := List.all_eq_true.mp h v m
        cases v with
        | int c => exact ⟨c, rfl⟩
        | _ => cases z
      exact all _ (by decide +kernel) hv
    refine ⟨Nat.zero_le _, fun fo nfo => ⟨by show 2 ≤ sizeLine; decide, fun t nt => ?_⟩⟩
    obtain ⟨nf1, nf2⟩ := P1.np nfo
    have nfoH : H fo = none := k01.fresh nf1 nf2 nfo
    have nft : fo ≠ t := ne_of_none upd_same nt
    refine ⟨t, _, rfl, .inl (.inl upd_same), rfl, _, _, rfl, _, _, rfl, rfl, ?_⟩
    refine ⟨_, rfl, m, rfl, by omega, by omega, for_range (lo := 0) (n := (m : Int).toNat) (fun j σ H' => ∃ (v4 v5 : Option V) (ws : List (Nat × Nat)) (rs : List V), σ = [some (.ref p), some (.int m), some (.int ch), some (.ref fo), v4, v5] ∧
        Pt H' p q ∧ Kp p q H H' ∧ H' fo = some (.lst rs) ∧ ImAll H' rs (ws.map wD) ∧ ws.length ≤ 6 * j ∧ WOk m ws ∧ ∀ w ∈ ws, w.1 < j)
      ⟨none, none, [], [], rfl, (P1.new nfo).new nt, (k01.new nfo).new nt, by rw [upd_ne nft]; exact upd_same, .nil, by decide, ⟨.nil, fun w hw => by cases hw⟩, fun w hw => by cases hw⟩ ?_ ?_⟩
    · rintro j σ H2 hj ⟨v4, v5, ws, rs, rfl, P2, k2, hf, im, hlen, wok, low⟩
      have hj' : j < m := by omega
      have hrs : rs.length = ws.length := by rw [im.length, List.length_map]
      refine ⟨_, rfl, .inl ⟨rfl, _, SqL.of hf⟩, _, rfl, m, rfl, by omega, by omega, fun d nd => ?_⟩
      obtain ⟨nd1, nd2⟩ := P2.np nd
      have nfd : fo ≠ d := ne_of_none hf nd
      have ndH : H d = none := k2.fresh nd1 nd2 nd
      refine lc_range (lo := 0) (n := (m : Int).toNat) (fun i H' => ∃ (ac : List (Nat × Nat)) (rc : List V), Pt H' p q ∧ Kp p q H H' ∧ H' fo = some (.lst rs) ∧ ImAll H' rs (ws.map wD) ∧ H' d = some (.lst rc) ∧ ImAll H' rc (ac.map wD) ∧ ac.length ≤ i ∧ WOk m ac ∧ (∀ w ∈ ac, w.1 = j ∧ w.2 < i))
        ⟨[], [], P2.new nd, k2.new nd, by rw [upd_ne nfd]; exact hf, im.k ((Tk.refl H2).new nd), upd_same, .nil, Nat.le_refl _, ⟨.nil, fun w hw => by cases hw⟩, fun w hw => by cases hw⟩ ?_ ?_
      · rintro i H3 hi ⟨ac, rc, P3, k3, hf3, im3, hd, imc, hac, wac, lac⟩
        have hi' : i < m := by omega
        have hrc : rc.length = ac.length := by rw [imc.length, List.length_map]
        refine ⟨rfl, ?_⟩
        refine ⟨_, rfl, _, rfl, rfl, _, rfl, ?_⟩
        refine ite2 (fun ne => ?_) (fun _ => ?_)
        · have nij : i ≠ j := fun e => by
            subst e
            have z : (!decide (V.int (0 + (i : Int)) = V.int (0 + (i : Int)))) = true := ne
            rw [decide_eq_true rfl] at z
            cases z
          refine ⟨_, rfl, p, q, _, rfl, P3, by decide, by decide, fun r H4 r0 r1 P4 k4 => ⟨_, rfl, _, _, rfl, rfl, _, rfl, ?_⟩⟩
          have hf4 : H4 fo = some (.lst rs) := k4 _ _ nf1 nf2 hf3
          have hd4 : H4 d = some (.lst rc) := k4 _ _ nd1 nd2 hd
          have tk4 : Tk H3 H4 := k4.tk P3
          refine ite2 (fun _ => ?_) (fun _ => ?_)
          · refine ⟨_, rfl, _, rfl, by show 2 ≤ sizeLine; decide, fun t2 nt2 => ?_⟩
            obtain ⟨nt21, nt22⟩ := P4.np nt2
            have nft2 : fo ≠ t2 := ne_of_none hf4 nt2
            have ndt2 : d ≠ t2 := ne_of_none hd4 nt2
            have hdn : (upd H4 t2 (.tup [V.int (0 + (j : Int)), V.int (0 + (i : Int))])) d = some (.lst rc) := by rw [upd_ne ndt2]; exact hd4
            have tk5 : Tk H4 (upd (upd H4 t2 (.tup [V.int (0 + (j : Int)), V.int (0 + (i : Int))])) d (.lst (rc ++ [V.ref t2]))) := ((Tk.refl H4).new nt2).put hdn
            refine ⟨rc, hdn, small1000 (by omega), ac ++ [(j, i)], rc ++ [V.ref t2], (P4.new nt2).put nd1 nd2, ((k3.trans k4).new nt2).put ndH, ?_, (im3.k tk4).k tk5, upd_same, ?_, by rw [List.length_append, List.length_singleton]; omega, ⟨?_, fun w hw => ?_⟩, fun w hw => ?_⟩
            · rw [upd_ne nfd, upd_ne nft2]
              exact hf4
            · rw [List.map_append]
              refine ((imc.k tk4).k tk5).append (.cons (.tup (xs := [V.int (0 + (j : Int)), V.int (0 + (i : Int))]) ?_ (.cons ?_ (.cons ?_ .nil))) .nil)
              · rw [upd_ne ndt2.symm, upd_same]
              · exact Im.int0 j
              · exact Im.int0 i
            · refine List.pairwise_append.mpr ⟨wac.asc, List.pairwise_singleton _ _, fun a ha b hb => ?_⟩
              rw [List.mem_singleton.mp hb]
              obtain ⟨z1, z2⟩ := lac a ha
              exact .inr ⟨z1, z2⟩
            · rcases List.mem_append.mp hw with h | h
              · exact wac.low w h
              · rw [List.mem_singleton.mp h]
                exact ⟨hj', hi', Ne.symm nij⟩
            · rcases List.mem_append.mp hw with h | h
              · obtain ⟨z1, z2⟩ := lac w h
                exact ⟨z1, by omega⟩
              · rw [List.mem_singleton.mp h]
                exact ⟨rfl, Nat.lt_succ_self _⟩
          · exact ⟨ac, rc, P4, k3.trans k4, hf4, im3.k tk4, hd4, imc.k tk4, by omega, wac, fun w hw => ⟨(lac w hw).1, Nat.lt_succ_of_lt (lac w hw).2⟩⟩
        · exact ⟨ac, rc, P3, k3, hf3, im3, hd, imc, by omega, wac, fun w hw => ⟨(lac w hw).1, Nat.lt_succ_of_lt (lac w hw).2⟩⟩
      · rintro H3 ⟨ac, rc, P3, k3, hf3, im3, hd, imc, hac, wac, lac⟩
        have hrc : rc.length = ac.length := by rw [imc.length, List.length_map]
        refine ⟨fo, d, rs, rc, rfl, rfl, hf3, hd, Nat.le_of_lt (small1000 (by omega)), ?_⟩
        have tk : Tk H3 (upd H3 fo (.lst (rs ++ rc))) := (Tk.refl H3).put hf3
        refine ⟨_, _, ws ++ ac, rs ++ rc, rfl, P3.put nf1 nf2, k3.put nfoH, upd_same, by rw [List.map_append]; exact (im3.k tk).append (imc.k tk), by rw [List.length_append]; omega, ⟨?_, fun w hw => ?_⟩, fun w hw => ?_⟩
        · exact wlt_low (i := 0) wok.asc low wac.asc fun w hw => (lac w hw).1
        · rcases List.mem_append.mp hw with h | h
          · exact wok.low w h
          · exact wac.low w h
        · rcases List.mem_append.mp hw with h | h
          · have := low w h
            omega
          · have := (lac w h).1
            omega
    · rintro σ H2 ⟨v4, v5, ws, rs, rfl, P2, k2, hf, im, hlen, wok, low⟩
      refine ⟨_, rfl, fo, rs, rfl, .inl ⟨SqL.of hf, fun t2 nt2 => ?_⟩⟩
      exact k _ ws _ (.tup upd_same (im.k ((Tk.refl H2).new nt2))) wok (P2.new nt2) (k2.new nt2)
abbrev sc_l_machineN : List Str := ["pot", "is_great", "sizes"]
theorem sc_l_machine : FnScope sc_l_machineN ["pot", "is_great"] (defScope s_l_machine) := ⟨rfl, rfl, rfl, by decide +kernel, rfl, by decide +kernel, by decide +kernel⟩
theorem ok_machine {f : Addr} {fd : FuncData} (D : DefAt K mg "_law_machine" s_l_machine ["pot", "is_great"] f fd) (T : Blt mg) (c_l_sizes : Cal P w K mg base 4 "_law_sizes" spSizes) (c_l_wires : Cal P w K mg base 3 "_law_wires" spWires) :
    Cal P w K mg base 5 "_law_machine" spMachine := by
  refine cal_of D sc_l_machine (fun vs H Q E h => ?_) (fun cdv A outer s H vs Q E hr h => ?_)
  · obtain ⟨p, q, g, rfl, _⟩ := h
    rfl
  · obtain ⟨p, q, g, rfl, hP, k⟩ := h
    refine ⟨_, (pss_cons (ps_set (i := 2) sc_l_machine.nd rfl (.inl rfl) (pe_c c_l_sizes hr (by decide) rfl (pa_cons (pv 0) (pa_cons (pv 1) pa_nil))))
      (pss_one (ps_ret (pe_tup (pa_cons (pv 2) (pa_cons (pe_c c_l_wires hr (by decide) rfl (pa_cons (pv 0) (pa_cons (pe_callB (call_lenK K rfl) (by rfl) T.len PySem.boot_len (pa_cons (pv 2) pa_nil)) pa_nil))) pa_nil)))))), ?_⟩
    refine ⟨_, rfl, _, rfl, p, q, g, rfl, hP, fun v ss H1 im l1 l6 ok P1 k1 => ?_⟩
    obtain ⟨a, xs, rfl, ha, ia⟩ := im.tuple
    have hx : xs.length = ss.length := by rw [ia.length, List.length_map]
    refine ⟨_, rfl, _, rfl, _, rfl, a, xs, rfl, .inr (SqT.of ha), p, q, ss.length, by rw [hx]; rfl, l6, P1, fun v ws H2 iw wok P2 k2 => ⟨by show 2 ≤ sizeLine; decide, fun t nt => ?_⟩⟩
    have tk : Tk H1 (upd H2 t (.tup [V.ref a, v])) := (k2.tk P1).new nt
    refine k _ ss ws _ (.tup upd_same (.cons (im.k tk) (.cons (iw.k ((Tk.refl H2).new nt)) .nil))) ⟨l1, l6, ok, wok⟩ (P2.new nt) ((k1.trans k2).new nt)

abbrev sc_l_potN : List Str := ["script", "cell", "cells", "first", "last"]
theorem sc_l_pot : FnScope sc_l_potN ["script"] (defScope s_l_pot) := ⟨rfl, rfl, rfl, by decide +kernel, rfl, by decide +kernel, by decide +kernel⟩
theorem pot_le {xs : List V} (h : xs.length ≤ 63) : (cutV xs none (some 60)).length ≤ 60 := by
  unfold cutV
  rw [HT.sIx_none, show HT.sIx xs.length xs.length (some 60) = min 60 xs.length from HT.sIx_nat xs.length xs.length 60]
  rw [List.drop_zero, List.length_take]
  omega
theorem cut_ints (ns : List Int) (a b : Option Int) : ∃ ms : List Int, cutV (ns.map V.int) a b = ms.map V.int := by
  unfold cutV
  exact ⟨_, by rw [← List.map_drop, ← List.map_take]⟩
theorem ok_pot {f : Addr} {fd : FuncData} (D : DefAt K mg "_law_pot" s_l_pot ["script"] f fd) (T : Blt mg) : Cal P w K mg base 1 "_law_pot" (spPot K) := by
  refine cal_of D sc_l_pot (fun vs H Q E h => ?_) (fun cdv A outer s H vs Q E hr h => ?_)
  · obtain ⟨a, ns, rfl, _⟩ := h
    rfl
  · obtain ⟨a, ns, rfl, hS, len, k⟩ := h
    refine ⟨_, (pss_cons (ps_setLc (i := 2) (own := [("cell", 1)]) rfl sc_l_pot.nd rfl rfl (sw_true rfl rfl rfl (by decide +kernel)) (pi_listK K rfl (pe_slice (sl_listK K rfl) (pv 0) po_none (po_some pe_int))) (blkOk_by (N := sc_l_potN) (sc := defScope s_l_pot) (by decide +kernel)) (fun _ _ _ _ _ => (pg_name (i := 1) sc_l_pot.nd rfl (by first | exact .inl rfl | exact .inr rfl))) (fun _ _ _ _ _ => pts_nil) (fun _ _ _ _ _ => (pe_ifExp (pt_cmpR op_ge (pv 1) pe_int (nomark _)) (pe_op op_mul pe_int (pv 1)) (pe_op op_sub (pe_un un_neg pe_int) (pe_op op_mul pe_int (pv 1))))))
      (pss_cons (ps_par (i := 3) (j := 4) rfl sc_l_pot.nd rfl rfl (by decide) rfl rfl (pa_cons pe_int (pa_cons (pe_op op_add pe_int (pe_callB (call_lenK K rfl) (by rfl) T.len PySem.boot_len (pa_cons (pv 2) pa_nil))) pa_nil)) (by rfl))
      (pss_cons (ps_for PassesOwn.never rfl (pi_listK K rfl (pv 2)) (pg_name (i := 1) sc_l_pot.nd rfl (.inl rfl)) (pss_one (ps_par (i := 3) (j := 4) rfl sc_l_pot.nd rfl rfl (by decide) rfl rfl (pa_cons (pe_op op_mod (pe_callTy call_int1 (by rfl) T.int (by decide +kernel) (pa_cons (pe_op op_add (pe_op op_add (pe_op op_mul (pv 3) pe_int) (pv 1)) pe_int) pa_nil)) pe_int) (pa_cons (pe_op op_mod (pe_callTy call_int1 (by rfl) T.int (by decide +kernel) (pa_cons (pe_op op_add (pe_op op_add (pe_op op_mul (pv 4) pe_int) (pe_op op_mul pe_int (pv 1))) pe_int) pa_nil)) pe_int) pa_nil)) (by rfl))))
      (pss_one (ps_ret (pe_lst (pa_cons (pe_lc (own := [("cell", 1)]) rfl sc_l_pot.nd (pi_listK K rfl (pv 2)) (blkOk_by (N := sc_l_potN) (sc := defScope s_l_pot) (by decide +kernel)) (fun _ _ _ _ _ => (pg_name (i := 1) sc_l_pot.nd rfl (by first | exact .inl rfl | exact .inr rfl))) (fun _ _ _ _ _ => (pts_one (pt_cmpR op_gt (pv 1) (pe_op op_pow pe_int pe_int) (nomark _)))) (fun _ _ _ _ _ => (pv 1))) (pa_cons (pv 3) (pa_cons (pv 4) (pa_cons pe_int pa_nil)))))))))), ?_⟩
    obtain ⟨ms, em⟩ := cut_ints ns none (some 60)
    have ml : ms.length ≤ 60 := by
      have z := pot_le (xs := ns.map V.int) (by rw [List.length_map]; exact len)
      rw [em, List.length_map] at z
      exact z
    refine ⟨_, rfl, 60, rfl, a, ns.map V.int, rfl, hS, fun c nc => ?_⟩
    rw [em]
    refine ⟨c, rfl, ⟨_, SqL.of upd_same⟩, fun D nD => ?_⟩
    have ncD : c ≠ D := ne_of_none upd_same nD
    have nDH : H D = none := by
      rw [upd_ne (Ne.symm ncD)] at nD
      exact nD
    refine lc_list (K := K) (a := c) (xs := ms.map V.int) (fun i H' => Same H H' ∧ H' c = some (.lst (ms.map V.int)) ∧ ∃ cs : List Int, H' D = some (.lst (cs.map V.int)) ∧ cs.length = i) ⟨Same.new (Same.new (Same.refl H) nc) nD, by rw [upd_ne ncD]; exact upd_same, [], upd_same, rfl⟩ (fun i H' _ z => SqL.of z.2.1) ?_ ?_
    · rintro i x H' hx ⟨sm, hc, cs, hD, hl⟩
      obtain ⟨z, hz, rfl⟩ := map_get hx
      have il : i < ms.length := (List.getElem?_eq_some_iff.mp hz).1
      have next : ∀ y : Int, ∃ acc : List V, H' D = some (.lst acc) ∧ acc.length < sizeLine ∧ (Same H (upd H' D (.lst (acc ++ [V.int y]))) ∧ (upd H' D (.lst (acc ++ [V.int y]))) c = some (.lst (ms.map V.int)) ∧ ∃ cs : List Int, (upd H' D (.lst (acc ++ [V.int y]))) D = some (.lst (cs.map V.int)) ∧ cs.length = i + 1) := fun y =>
        ⟨cs.map V.int, hD, small1000 (by rw [List.length_map]; omega), Same.put sm nDH, by rw [upd_ne ncD]; exact hc, cs ++ [y], by rw [upd_same, List.map_append]; rfl, by rw [List.length_append, List.length_singleton, hl]⟩
      refine ⟨rfl, ⟨_, rfl, _, _, rfl, rfl, _, rfl, ?_⟩⟩
      refine ite2 (fun _ => ?_) (fun _ => ?_)
      · exact ⟨_, rfl, _, _, rfl, rfl, .inl ⟨by decide, by decide⟩, next _⟩
      · exact ⟨_, rfl, _, rfl, _, _, rfl, rfl, .inl ⟨by decide, by decide⟩, _, _, rfl, rfl, next _⟩
    rintro H1 ⟨sm, hc, cs, hD, hl⟩
    rw [List.length_map] at hl
    have cl : cs.length ≤ 60 := by omega
    refine ⟨_, rfl, D, _, rfl, .inl (SqL.of hD), _, _, rfl, rfl, _, _, rfl, ?_⟩
    refine ⟨_, rfl, D, rfl, ⟨_, SqL.of hD⟩, for_list (K := K) (a := D) (xs := cs.map V.int) (fun i σ H' => ∃ (v1 : Option V) (x y : Int), σ = [some (.ref a), v1, some (.ref D), some (.int x), some (.int y)] ∧ H' = H1 ∧ 0 ≤ x ∧ x < 4294967296 ∧ 0 ≤ y ∧ y < 4294967296)
      ⟨none, _, _, rfl, rfl, by decide, by decide, by rw [List.length_map]; omega, by rw [List.length_map]; omega⟩ (fun i σ H' _ z => by obtain ⟨_, _, _, _, e, _⟩ := z; rw [e]; exact SqL.of hD) ?_ ?_⟩
    · rintro i v σ H' hv ⟨v1, x, y, rfl, rfl, x0, x1, y0, y1⟩
      obtain ⟨z, hz, rfl⟩ := map_get hv
      refine ⟨_, rfl, _, _, rfl, rfl, .inl ⟨by omega, by omega⟩, _, rfl, _, _, rfl, rfl, _, _, rfl, rfl, .inl ⟨_, rfl, _, _, rfl, rfl, (by decide : (0 : Int) < 4294967291), ?_⟩⟩
      refine ⟨_, rfl, _, _, rfl, rfl, .inl ⟨by omega, by omega⟩, _, rfl, _, _, rfl, rfl, .inl ⟨by decide, by decide⟩, _, _, rfl, rfl, _, _, rfl, rfl, .inl ⟨_, rfl, _, _, rfl, rfl, (by decide : (0 : Int) < 4294967279), ?_⟩⟩
      refine ⟨_, _, rfl, some (V.int z), _, _, rfl, rfl, Int.emod_nonneg _ (by decide), Int.lt_trans (Int.emod_lt_of_pos _ (by decide)) (by decide), Int.emod_nonneg _ (by decide), Int.lt_trans (Int.emod_lt_of_pos _ (by decide)) (by decide)⟩
    · rintro σ H' ⟨v1, x, y, rfl, rfl, x0, x1, y0, y1⟩
      refine ⟨_, rfl, D, rfl, ⟨_, SqL.of hD⟩, fun q nq => ?_⟩
      have nDq : D ≠ q := ne_of_none hD nq
      have nqH : H q = none := Same.free sm nq
      refine lc_list (K := K) (a := D) (xs := cs.map V.int) (fun i H2 => Same H H2 ∧ H2 D = some (.lst (cs.map V.int)) ∧ ∃ gs : List Int, H2 q = some (.lst (gs.map V.int)) ∧ gs.length ≤ i) ⟨Same.new sm nq, by rw [upd_ne nDq]; exact hD, [], upd_same, Nat.le_refl _⟩ (fun i H2 _ z => SqL.of z.2.1) ?_ ?_
      · rintro i v H2 hv ⟨sm2, hD2, gs, hq, gl⟩
        obtain ⟨z, hz, rfl⟩ := map_get hv
        have il : i < cs.length := (List.getElem?_eq_some_iff.mp hz).1
        refine ⟨rfl, ⟨_, rfl, _, _, rfl, rfl, ⟨by decide, by decide, by decide⟩, _, _, rfl, rfl, _, rfl, ?_⟩⟩
        refine ite2 (fun _ => ?_) (fun _ => ?_)
        · exact ⟨_, rfl, gs.map V.int, hq, small1000 (by rw [List.length_map]; omega), Same.put sm2 nqH, by rw [upd_ne nDq]; exact hD2, gs ++ [z], by rw [upd_same, List.map_append]; rfl, by rw [List.length_append, List.length_singleton]; omega⟩
        · exact ⟨sm2, hD2, gs, hq, by omega⟩
      · rintro H2 ⟨sm2, hD2, gs, hq, gl⟩
        rw [List.length_map] at gl
        refine ⟨_, rfl, _, rfl, by show 4 ≤ sizeLine; decide, fun p np => ?_⟩
        have npq : q ≠ p := ne_of_none hq np
        exact k p q _ ⟨gs, x, y, 0, upd_same, by rw [upd_ne npq]; exact hq, by omega, x0, x1, y0, y1⟩ (Same.new sm2 np) (Same.free sm2 np) nqH

abbrev sc_l_stepN : List Str := ["sizes", "j", "i"]
theorem sc_l_step : FnScope sc_l_stepN ["sizes", "j", "i"] (defScope s_l_step) := ⟨rfl, rfl, rfl, by decide +kernel, rfl, by decide +kernel, by decide +kernel⟩
theorem ok_lstep {f : Addr} {fd : FuncData} (D : DefAt K mg "_law_step" s_l_step ["sizes", "j", "i"] f fd) (c_l_common : Cal P w K mg base 1 "_law_common" spCommon) : Cal P w K mg base 2 "_law_step" spLStep := by
  refine cal_of D sc_l_step (fun vs H Q E h => ?_) (fun cdv A outer s H vs Q E hr h => ?_)
  · obtain ⟨v, ss, j, i, a, b, rfl, _⟩ := h
    rfl
  · obtain ⟨v, ss, j, i, x, y, rfl, im, hj, hi, y0, y1, k⟩ := h
    refine ⟨_, (pss_one (ps_ret (pe_op op_fdivW (pe_ix (ix_tupK K rfl) (pv 0) (pv 2) (fun _ _ => rfl)) (pe_c c_l_common hr (by decide) rfl (pa_cons (pe_ix (ix_tupK K rfl) (pv 0) (pv 1) (fun _ _ => rfl)) (pa_cons (pe_ix (ix_tupK K rfl) (pv 0) (pv 2) (fun _ _ => rfl)) pa_nil)))))), ?_⟩
    obtain ⟨b, ys, rfl, hb, ib⟩ := im.tuple
    have ey := ib.ints
    subst ey
    have hi' : (ss.map V.int)[i]? = some (V.int (y : Int)) := by rw [List.getElem?_map, hi]; rfl
    have hj' : (ss.map V.int)[j]? = some (V.int (x : Int)) := by rw [List.getElem?_map, hj]; rfl
    have gp : 0 < Nat.gcd y x := gcd_pos' y0
    have gl : Nat.gcd y x < 2 ^ 4000 := Nat.lt_of_le_of_lt (Nat.le_of_dvd y0 (Nat.gcd_dvd_left y x)) y1
    refine ⟨_, rfl, _, rfl, b, _, i, _, rfl, rfl, SqT.of hb, atI_nat hi', _, rfl, _, rfl, b, _, j, _, rfl, rfl, SqT.of hb, atI_nat hj', _, rfl, _, rfl, b, _, i, _, rfl, rfl, SqT.of hb, atI_nat hi', x, y, rfl, y1, ?_⟩
    rw [Nat.gcd_comm]
    exact ⟨_, _, rfl, rfl, wide_div (b := 4000) (by omega) (by simpa using gl) (by decide) (by decide), k⟩

theorem SizeOk.bnd {s : Int} (h : SizeOk s) : 2 ≤ s ∧ s ≤ 10 ^ 30 := by
  obtain ⟨m, rfl, a, b⟩ := h.nat
  omega
theorem ixN_of {n j : Nat} (h : j < n) : ixN n (j : Int) = some j := by
  unfold ixN
  simp [h]
theorem remI_get {ns ss : List Int} {i : Nat} {n s : Int} (h1 : ns[i]? = some n) (h2 : ss[i]? = some s) : (remI ns ss)[i]? = some (n % s) := by
  unfold remI
  rw [List.getElem?_zipWith, h1, h2]
theorem remI_take {ns ss : List Int} {i : Nat} {n s : Int} (h1 : ns[i]? = some n) (h2 : ss[i]? = some s) : (remI ns ss).take (i + 1) = (remI ns ss).take i ++ [n % s] := by
  rw [List.take_add_one, remI_get h1 h2]
  rfl
theorem remI_len {ns ss : List Int} (h : ns.length = ss.length) : (remI ns ss).length = ss.length := by
  unfold remI
  rw [List.length_zipWith]
  omega
theorem map_int_get {ns : List Int} {i : Nat} {x : V} (h : (ns.map V.int)[i]? = some x) : ∃ n, ns[i]? = some n ∧ x = .int n := map_get h
theorem getD_get {ns : List Int} {i : Nat} (h : i < ns.length) : (ns.map V.int)[i]? = some (.int (ns.getD i 0)) := by
  rw [List.getElem?_map, List.getElem?_eq_getElem h, List.getD_eq_getElem?_getD, List.getElem?_eq_getElem h]
  rfl
theorem farI_len (l : List (Nat × Nat × Int)) (ns : List Int) : (farI l ns).length = ns.length := by
  unfold farI
  induction l generalizing ns with
  | nil => rfl
  | cons d l ih => exact (ih _).trans (addI_len ns d)
theorem farI_most {l : List (Nat × Nat × Int)} (hl : ∀ d ∈ l, d.2.2.natAbs < 2 ^ 200) {B : Nat} {ns : List Int} (h : mostI B ns) : mostI (B + 201 * l.length) (farI l ns) := by
  induction l generalizing ns B with
  | nil => exact h
  | cons d l ih =>
    have a := ih (fun x hx => hl x (List.mem_cons_of_mem _ hx)) (addI_most h (hl d List.mem_cons_self))
    rw [show B + 201 * (d :: l).length = B + 201 + 201 * l.length by rw [List.length_cons]; omega]
    exact a

abbrev sc_l_contentsN : List Str := ["pot", "sizes", "size"]
theorem sc_l_contents : FnScope sc_l_contentsN ["pot", "sizes"] (defScope s_l_contents) := ⟨rfl, rfl, rfl, by decide +kernel, rfl, by decide +kernel, by decide +kernel⟩
theorem ok_contents {f : Addr} {fd : FuncData} (D : DefAt K mg "_law_contents" s_l_contents ["pot", "sizes"] f fd) (T : Blt mg) (c_l_dip : Cal P w K mg base 1 "_law_dip" spDipW) (c_l_pick : Cal P w K mg base 2 "_law_pick" spPick) : Cal P w K mg base 3 "_law_contents" spContents := by
  refine cal_of D sc_l_contents (fun vs H Q E h => ?_) (fun cdv A outer s H vs Q E hr h => ?_)
  · obtain ⟨p, q, v, ss, rfl, _⟩ := h
    rfl
  · obtain ⟨p, q, v, ss, rfl, hP, im, ok, l9, k⟩ := h
    refine ⟨_, (pss_one (ps_ret (pe_callTy (call_tupleK K rfl) (by rfl) T.tuple (by decide +kernel) (pa_cons (pe_lc (own := [("size", 2)]) rfl sc_l_contents.nd (pi_tupK K rfl (pv 1)) (blkOk_by (N := sc_l_contentsN) (sc := defScope s_l_contents) (by decide +kernel)) (fun _ _ _ _ _ => (pg_name (i := 2) sc_l_contents.nd rfl (by first | exact .inl rfl | exact .inr rfl))) (fun _ _ _ _ _ => pts_nil) (fun _ _ _ _ _ => (pe_op op_mod (pe_c c_l_pick hr (by decide) rfl (pa_cons (pv 0) (pa_cons (pe_lst (pa_cons pe_int (pa_cons pe_int (pa_cons (pe_op op_sub (pv 2) pe_int) (pa_cons (pe_c c_l_dip hr (by decide) rfl (pa_cons (pv 0) (pa_cons (pv 2) pa_nil))) (pa_cons (pe_op op_fdivW (pv 2) pe_int) pa_nil)))))) pa_nil))) (pv 2)))) pa_nil)))), ?_⟩
    obtain ⟨b, ys, rfl, hb, ib⟩ := im.tuple
    have ey := ib.ints
    subst ey
    refine ⟨_, rfl, b, rfl, ⟨_, SqT.of hb⟩, fun d nd => ?_⟩
    obtain ⟨nd1, nd2⟩ := hP.np nd
    refine lc_tup (K := K) (a := b) (xs := ss.map V.int) (fun i H' => Pt H' p q ∧ Kp p q H H' ∧ ∃ hs : List Int, H' d = some (.lst (hs.map V.int)) ∧ hs.length = i ∧ ∀ (j : Nat) (h s : Int), hs[j]? = some h → ss[j]? = some s → 0 ≤ h ∧ h < s)
      ⟨hP.new nd, (Kp.refl p q H).new nd, [], upd_same, rfl, fun j h s e => by simp at e⟩ (fun i H' _ z => SqT.of ((z.2.1.tk hP) _ _ hb)) ?_ ?_
    · rintro i x H1 hx ⟨P1, k1, hs, hd, hl, low⟩
      obtain ⟨s, hs', rfl⟩ := map_get hx
      obtain ⟨s2, s30⟩ := (ok s (List.mem_of_getElem? hs')).bnd
      have il : i < ss.length := (List.getElem?_eq_some_iff.mp hs').1
      have s4 : s.natAbs < 2 ^ 4000 := Nat.lt_of_le_of_lt (show s.natAbs ≤ 10 ^ 30 by omega) (by decide)
      refine ⟨rfl, _, rfl, _, rfl, _, _, rfl, rfl, _, rfl, _, rfl, p, q, _, rfl, P1, by omega, s4, fun r H2 r0 r1 P2 k2 => ?_⟩
      refine ⟨_, rfl, _, _, rfl, rfl, wide_div (b := 10) (by decide) (by decide) (by decide) (by decide), by show 5 ≤ sizeLine; decide, fun c nc => ?_⟩
      obtain ⟨nc1, nc2⟩ := P2.np nc
      have hd2 : H2 d = some (.lst (hs.map V.int)) := k2 _ _ nd1 nd2 hd
      refine ⟨p, q, c, _, rfl, P2.new nc, upd_same, nc1, nc2, List.cons_ne_nil _ _, by show 5 < 1000; decide, fun v H3 hv P3 k3 => ?_⟩
      obtain ⟨y, rfl⟩ : ∃ y : Int, v = .int y := by
        rcases List.mem_cons.mp hv with e | hv
        · exact ⟨_, e⟩
        rcases List.mem_cons.mp hv with e | hv
        · exact ⟨_, e⟩
        rcases List.mem_cons.mp hv with e | hv
        · exact ⟨_, e⟩
        rcases List.mem_cons.mp hv with e | hv
        · exact ⟨_, e⟩
        · exact ⟨_, List.mem_singleton.mp hv⟩
      have hd3 : H3 d = some (.lst (hs.map V.int)) := k3 _ _ nd1 nd2 (keepN hd2 nc)
      refine ⟨_, rfl, _, _, rfl, rfl, (show (0 : Int) < s by omega), _, hd3, small1000 (by rw [List.length_map]; omega), P3.put nd1 nd2, (((k1.trans k2).new nc).trans k3).put nd, hs ++ [y % s], by rw [upd_same, List.map_append]; rfl, by rw [List.length_append, List.length_singleton, hl], ?_⟩
      intro j h t e1 e2
      rcases Nat.lt_trichotomy j hs.length with e | e | e
      · rw [List.getElem?_append_left e] at e1
        exact low j h t e1 e2
      · subst e
        rw [List.getElem?_append_right (Nat.le_refl _), Nat.sub_self] at e1
        rw [hl] at e2
        rw [hs'] at e2
        cases e1
        cases e2
        exact ⟨Int.emod_nonneg _ (by omega), Int.emod_lt_of_pos _ (by omega)⟩
      · rw [List.getElem?_eq_none (by rw [List.length_append, List.length_singleton]; omega)] at e1
        cases e1
    · rintro H1 ⟨P1, k1, hs, hd, hl, low⟩
      rw [List.length_map] at hl
      exact ⟨d, _, rfl, .inl ⟨SqL.of hd, fun t nt => k _ hs _ (.tup upd_same (ImAll.of_ints _ hs)) ⟨hl, low⟩ (P1.new nt) (k1.new nt)⟩⟩

abbrev sc_l_deedN : List Str := ["pot", "machine", "j", "i", "ask", "most"]
theorem sc_l_deed : FnScope sc_l_deedN ["pot", "machine"] (defScope s_l_deed) := ⟨rfl, rfl, rfl, by decide +kernel, rfl, by decide +kernel, by decide +kernel⟩
theorem ok_deed {f : Addr} {fd : FuncData} (D : DefAt K mg "_law_deed" s_l_deed ["pot", "machine"] f fd) (T : Blt mg) (c_l_dip : Cal P w K mg base 1 "_law_dip" spDip) (c_l_pick : Cal P w K mg base 2 "_law_pick" spPickA) (c_l_step : Cal P w K mg base 2 "_law_step" spLStep) : Cal P w K mg base 3 "_law_deed" spDeed := by
  refine cal_of D sc_l_deed (fun vs H Q E h => ?_) (fun cdv A outer s H vs Q E hr h => ?_)
  · obtain ⟨p, q, v, ss, ws, rfl, _⟩ := h
    rfl
  · obtain ⟨p, q, v, ss, ws, rfl, hP, im, ok, ne, k⟩ := h
    refine ⟨_, (pss_cons (ps_asg (pe_c c_l_pick hr (by decide) rfl (pa_cons (pv 0) (pa_cons (pe_ix (ix_tupK K rfl) (pv 1) pe_int (fun _ _ => rfl)) pa_nil))) (pg_tup rfl (pgs_cons (pg_name (i := 2) sc_l_deed.nd rfl (.inl rfl)) (pgs_cons (pg_name (i := 3) sc_l_deed.nd rfl (.inl rfl)) pgs_nil))))
      (pss_cons (ps_set (i := 4) sc_l_deed.nd rfl (.inl rfl) (pe_c c_l_step hr (by decide) rfl (pa_cons (pe_ix (ix_tupK K rfl) (pv 1) pe_int (fun _ _ => rfl)) (pa_cons (pv 2) (pa_cons (pv 3) pa_nil)))))
      (pss_cons (ps_set (i := 5) sc_l_deed.nd rfl (.inl rfl) (pe_op op_fdivW (pe_op op_pow pe_int pe_int) (pv 4)))
      (pss_one (ps_ret (pe_tup (pa_cons (pv 2) (pa_cons (pv 3) (pa_cons (pe_op op_mulW (pv 4) (pe_c c_l_pick hr (by decide) rfl (pa_cons (pv 0) (pa_cons (pe_lst (pa_cons pe_int (pa_cons pe_int (pa_cons (pe_un un_neg pe_int) (pa_cons pe_int (pa_cons (pe_un un_neg pe_int) (pa_cons (pe_op op_sub (pe_c c_l_dip hr (by decide) rfl (pa_cons (pv 0) (pa_cons pe_int pa_nil))) pe_int) (pa_cons (pv 5) (pa_cons (pe_un un_neg (pv 5)) (pa_cons (pe_op op_fdivW (pv 5) pe_int) (pa_cons (pe_op op_pow pe_int pe_int) pa_nil))))))))))) pa_nil)))) pa_nil))))))))), ?_⟩
    obtain ⟨a, xs, rfl, ha, ia⟩ := id im.tuple
    obtain ⟨b0, g0, im0⟩ := ia.get (i := 0) rfl
    obtain ⟨c0, g1, im1⟩ := ia.get (i := 1) rfl
    obtain ⟨c, ys, rfl, hc, ic⟩ := im1.tuple
    have ly : ys.length = ws.length := by rw [ic.length, List.length_map]
    have wl := ok.wires.len ok.six
    have wp := List.length_pos_iff.mpr ne
    refine ⟨_, rfl, _, rfl, a, _, 1, _, rfl, rfl, SqT.of ha, atI_nat (j := 1) g1, p, q, c, ys, _, rfl, hP, hc, .inr rfl, List.length_pos_iff.mp (by omega), by omega, fun v H1 hv P1 k1 => ?_⟩
    obtain ⟨wt, hw, imw⟩ : ∃ w ∈ ws, Im H1 v (wD w) := by
      obtain ⟨i, hi, rfl⟩ := List.getElem_of_mem hv
      obtain ⟨w, hw⟩ : ∃ w, ws[i]? = some w := ⟨ws[i]'(by omega), by simp⟩
      obtain ⟨v', e1, e2⟩ := ic.get (i := i) (d := wD w) (by rw [List.getElem?_map, hw]; rfl)
      rw [List.getElem?_eq_getElem hi] at e1
      cases e1
      exact ⟨w, List.mem_of_getElem? hw, e2.k (k1.tk hP)⟩
    obtain ⟨j, i⟩ := wt
    obtain ⟨lj, li, nji⟩ := ok.wires.low _ hw
    obtain ⟨e, zs, rfl, he, ie⟩ := imw.tuple
    have ez : zs = [.int (j : Int), .int (i : Int)] := by
      match zs, ie with
      | _, .cons (.int _) (.cons (.int _) .nil) => rfl
    subst ez
    refine ⟨e, _, rfl, SqT.of he, rfl, _, _, rfl, _, _, rfl, rfl, ?_⟩
    have okk : ∀ (n : Nat), n < ss.length → ∃ m : Nat, ss[n]? = some (m : Int) ∧ 0 < m ∧ m ≤ 10 ^ 30 := fun n hn => by
      obtain ⟨m, e, m2, m3, _⟩ := ok.size ss[n] (List.getElem_mem hn)
      exact ⟨m, by rw [List.getElem?_eq_getElem hn, e], by omega, m3⟩
    obtain ⟨x, hx, x0, xl⟩ := okk j lj
    obtain ⟨y, hy, y0, yl⟩ := okk i li
    have im' := im.k (k1.tk hP)
    have ha1 := (k1.tk hP) _ _ ha
    refine ⟨_, rfl, a, _, 0, _, rfl, rfl, SqT.of ha1, atI_nat (j := 0) g0, _, rfl, _, rfl, b0, ss, j, i, x, y, rfl, im0.k (k1.tk hP), hx, hy, y0, Nat.lt_of_le_of_lt yl (by decide), ?_⟩
    obtain ⟨s0, sl⟩ := stp_le (a := x) y0
    have sl30 : stp x y ≤ 10 ^ 30 := Nat.le_trans sl yl
    have hit : ((stp x y : Nat) : Int) ∣ ((stp x y : Nat) : Int) := ⟨1, by omega⟩
    generalize hst : stp x y = st at *
    have st4 : ((st : Nat) : Int).natAbs < 2 ^ 4000 := by
      rw [Int.natAbs_natCast]
      exact Nat.lt_of_le_of_lt sl30 (by decide)
    refine ⟨_, _, rfl, rfl, ⟨by decide, by decide, by decide⟩, _, rfl, _, _, rfl, rfl, wide_div (b := 4000) (by omega) st4 (by decide) (by decide), ?_⟩
    refine ⟨_, rfl, _, rfl, _, rfl, _, rfl, _, rfl, _, rfl, _, rfl, p, q, _, rfl, P1, by decide, by decide, fun r H2 r0 r1 P2 k2 => ⟨_, _, rfl, rfl, _, rfl, _, rfl, _, rfl, _, rfl, _, _, rfl, rfl, wide_div (b := 10) (by decide) (by decide) (by decide) (by decide), _, _, rfl, rfl, ⟨by decide, by decide, by decide⟩, by show 10 ≤ sizeLine; decide, fun l nl => ?_⟩⟩
    obtain ⟨nl1, nl2⟩ := P2.np nl
    refine ⟨p, q, l, _, _, rfl, P2.new nl, upd_same, .inl ⟨rfl, nl1, nl2⟩, List.cons_ne_nil _ _, by show 10 < 1000; decide, fun v H3 hv P3 k3 => ?_⟩
    obtain ⟨z, rfl, hz⟩ : ∃ z : Int, v = .int z ∧ (((st : Nat) : Int) * z).natAbs ≤ 10 ^ 60 := by
      have small : ∀ z : Int, z.natAbs ≤ 10 ^ 29 → (((st : Nat) : Int) * z).natAbs ≤ 10 ^ 60 := fun z hz => by
        rw [Int.natAbs_mul, Int.natAbs_natCast]
        exact Nat.le_trans (Nat.mul_le_mul sl30 hz) (by decide)
      have m0 : (0 : Int) ≤ 10 ^ 60 / (st : Int) := Int.ediv_nonneg (by decide) (by omega)
      have m1 : (st : Int) * (10 ^ 60 / (st : Int)) ≤ 10 ^ 60 := by
        have := Int.mul_ediv_self_le (x := 10 ^ 60) (k := (st : Int)) (by omega)
        exact this
      have ms : 0 ≤ (st : Int) * (10 ^ 60 / (st : Int)) := Int.mul_nonneg (by omega) m0
      rcases List.mem_cons.mp hv with e | hv
      · exact ⟨_, e, small _ (by decide)⟩
      rcases List.mem_cons.mp hv with e | hv
      · exact ⟨_, e, small _ (by decide)⟩
      rcases List.mem_cons.mp hv with e | hv
      · exact ⟨_, e, small _ (by decide)⟩
      rcases List.mem_cons.mp hv with e | hv
      · exact ⟨_, e, small _ (by decide)⟩
      rcases List.mem_cons.mp hv with e | hv
      · exact ⟨_, e, small _ (by decide)⟩
      rcases List.mem_cons.mp hv with e | hv
      · exact ⟨_, e, small _ (by show (r - 20).natAbs ≤ _; omega)⟩
      rcases List.mem_cons.mp hv with e | hv
      · refine ⟨_, e, ?_⟩
        show ((st : Int) * (10 ^ 60 / (st : Int))).natAbs ≤ _
        omega
      rcases List.mem_cons.mp hv with e | hv
      · refine ⟨_, e, ?_⟩
        show ((st : Int) * -(10 ^ 60 / (st : Int))).natAbs ≤ _
        rw [Int.mul_neg, Int.natAbs_neg]
        omega
      rcases List.mem_cons.mp hv with e | hv
      · refine ⟨_, e, ?_⟩
        show ((st : Int) * (10 ^ 60 / (st : Int) / 3)).natAbs ≤ _
        have a1 : (10 ^ 60 / (st : Int)) / 3 ≤ 10 ^ 60 / (st : Int) := by omega
        have a2 : 0 ≤ (10 ^ 60 / (st : Int)) / 3 := by omega
        have a3 := Int.mul_le_mul_of_nonneg_left a1 (show (0 : Int) ≤ (st : Int) by omega)
        have a4 := Int.mul_nonneg (show (0 : Int) ≤ (st : Int) by omega) a2
        omega
      · exact ⟨_, List.mem_singleton.mp hv, small _ (by decide)⟩
    have wide : CMulW (st : Int) z := by
      by_cases z0 : z.natAbs = 0
      · have : z = 0 := by omega
        subst this
        exact wide_mul (a := 4000) (b := 10) st4 (by decide) (by decide) (by decide) (by decide)
      · refine wide_mul (a := 4000) (b := 4000) st4 ?_ (by decide) (by decide) (by decide)
        rw [Int.natAbs_mul, Int.natAbs_natCast] at hz
        have := Nat.le_mul_of_pos_left z.natAbs (show 0 < st from s0)
        exact Nat.lt_of_le_of_lt (Nat.le_trans this hz) (by decide)
    refine ⟨_, _, rfl, rfl, wide, by show 3 ≤ sizeLine; decide, fun t nt => ?_⟩
    refine k _ (j, i, (st : Int) * z) _ (.tup upd_same (.cons (.int _) (.cons (.int _) (.cons (.int _) .nil)))) ⟨hw, hz, ⟨x, y, hx, hy, ?_⟩⟩ (P3.new nt) ((((k1.trans k2).new nl).trans k3).new nt)
    rw [hst]
    exact Int.dvd_mul_right _ _
abbrev sc_l_programN : List Str := ["pot", "machine", "most", "turn"]
theorem sc_l_program : FnScope sc_l_programN ["pot", "machine", "most"] (defScope s_l_program) := ⟨rfl, rfl, rfl, by decide +kernel, rfl, by decide +kernel, by decide +kernel⟩
theorem shaped_wires (ws : List (Nat × Nat)) : SeqAt.shaped (.tuple (ws.map wD)) = true := by
  have a : ∀ ws : List (Nat × Nat), PyData.canLayAll0 (ws.map wD) = true := by
    intro ws
    induction ws with
    | nil => rfl
    | cons w ws ih =>
      rw [List.map_cons]
      simp only [PyData.canLayAll0, wD, PyData.canLay0, ih, Bool.and_self]
  have b := depth_wires ws
  unfold SeqAt.shaped
  simp only [PyData.canLay0, PyData.depth, a, Bool.true_and]
  exact decide_eq_true (by omega)
theorem eqv_nilT (ws : List (Nat × Nat)) : PyData.eqv (.tuple (ws.map wD)) (.tuple []) = ws.isEmpty := by
  cases ws with
  | nil => rfl
  | cons n ns => rfl
theorem ok_program {f : Addr} {fd : FuncData} (D : DefAt K mg "_law_program" s_l_program ["pot", "machine", "most"] f fd) (T : Blt mg) (c_l_dip : Cal P w K mg base 1 "_law_dip" spDip) (c_l_deed : Cal P w K mg base 3 "_law_deed" spDeed) : Cal P w K mg base 4 "_law_program" spProgram := by
  refine cal_of D sc_l_program (fun vs H Q E h => ?_) (fun cdv A outer s H vs Q E hr h => ?_)
  · obtain ⟨p, q, v, ss, ws, m, rfl, _⟩ := h
    rfl
  · obtain ⟨p, q, v, ss, ws, m, rfl, hP, im, ok, m9, k⟩ := h
    refine ⟨_, (pss_cons (ps_if (pt_cmpR (op_eqDK K rfl hr.units) (pe_ix (ix_tupK K rfl) (pv 1) pe_int (fun _ _ => rfl)) (pe_tup pa_nil) (nomark _)) (pss_one (ps_ret (pe_tup pa_nil))) pss_nil)
      (pss_one (ps_ret (pe_callTy (call_tupleK K rfl) (by rfl) T.tuple (by decide +kernel) (pa_cons (pe_lc (own := [("turn", 3)]) rfl sc_l_program.nd (pi_range1 (by rfl) T.range (pa_cons (pe_c c_l_dip hr (by decide) rfl (pa_cons (pv 0) (pa_cons (pe_op op_add (pv 2) pe_int) pa_nil))) pa_nil)) (blkOk_by (N := sc_l_programN) (sc := defScope s_l_program) (by decide +kernel)) (fun _ _ _ _ _ => (pg_name (i := 3) sc_l_program.nd rfl (by first | exact .inl rfl | exact .inr rfl))) (fun _ _ _ _ _ => pts_nil) (fun _ _ _ _ _ => (pe_c c_l_deed hr (by decide) rfl (pa_cons (pv 0) (pa_cons (pv 1) pa_nil))))) pa_nil))))), ?_⟩
    obtain ⟨a, xs, rfl, ha, ia⟩ := id im.tuple
    obtain ⟨c0, g1, im1⟩ := ia.get (i := 1) rfl
    refine ⟨_, rfl, a, _, 1, _, rfl, rfl, SqT.of ha, atI_nat (j := 1) g1, by show 0 ≤ sizeLine; decide, fun t nt => ?_⟩
    refine ⟨.tuple (ws.map wD), .tuple [], (im1.k ((Tk.refl H).new nt)).dp, .tup (SqT.of upd_same) .nil, shaped_wires ws, rfl, _, rfl, ?_⟩
    rw [eqv_nilT]
    have P1 := hP.new (o := .tup []) nt
    have k1 := (Kp.refl p q H).new (o := .tup []) nt
    cases ws with
    | nil =>
      refine iteT ⟨by show 0 ≤ sizeLine; decide, fun u nu => ?_⟩
      exact k _ [] _ (.tup upd_same .nil) (fun d hd => by cases hd) (Nat.zero_le _) (P1.new nu) (k1.new nu)
    | cons w0 ws0 =>
      refine iteF ?_
      have ne : w0 :: ws0 ≠ [] := List.cons_ne_nil _ _
      generalize w0 :: ws0 = ws at *
      refine ⟨_, rfl, _, rfl, _, _, rfl, rfl, p, q, _, rfl, P1, by omega, by omega, fun r H2 r0 r1 P2 k2 => ⟨r, rfl, by omega, by omega, fun d nd => ?_⟩⟩
      obtain ⟨nd1, nd2⟩ := P2.np nd
      have ndH : H d = none := (k1.trans k2).fresh nd1 nd2 nd
      have im2 := (im.k ((Tk.refl H).new (o := .tup []) nt)).k (k2.tk P1)
      generalize hT : upd H t (.tup []) = HT at *
      refine lc_range (lo := 0) (n := r.toNat) (fun i H' => Pt H' p q ∧ Kp p q H2 H' ∧ ∃ (vs : List V) (ds : List (Nat × Nat × Int)), H' d = some (.lst vs) ∧ ImAll H' vs (ds.map dD) ∧ ds.length = i ∧ ∀ x ∈ ds, DOk ss ws x)
        ⟨P2.new nd, (Kp.refl p q H2).new nd, [], [], upd_same, .nil, rfl, fun x hx => by cases hx⟩ ?_ ?_
      · rintro i H3 hi ⟨P3, k3, vs, ds, hd, ia3, hl, ok3⟩
        have lv : vs.length = ds.length := by rw [ia3.length, List.length_map]
        refine ⟨rfl, _, rfl, _, rfl, p, q, _, ss, ws, rfl, P3, im2.k (k3.tk P2), ok, ne, fun u dd H4 imu dok P4 k4 => ?_⟩
        have hd4 : H4 d = some (.lst vs) := k4 _ _ nd1 nd2 hd
        have tk5 : Tk H4 (upd H4 d (.lst (vs ++ [u]))) := (Tk.refl H4).put hd4
        refine ⟨vs, hd4, small1000 (by omega), P4.put nd1 nd2, (k3.trans k4).put nd, vs ++ [u], ds ++ [dd], upd_same, ?_, by rw [List.length_append, List.length_singleton, hl], fun x hx => ?_⟩
        · rw [List.map_append]
          exact ((ia3.k (k4.tk P3)).k tk5).append (.cons (imu.k tk5) .nil)
        · rcases List.mem_append.mp hx with h | h
          · exact ok3 x h
          · rw [List.mem_singleton.mp h]
            exact dok
      · rintro H3 ⟨P3, k3, vs, ds, hd, ia3, hl, ok3⟩
        refine ⟨d, _, rfl, .inl ⟨SqL.of hd, fun u nu => ?_⟩⟩
        refine k _ ds _ (.tup upd_same (ia3.k ((Tk.refl H3).new nu))) ok3 (by omega) (P3.new nu) (((k1.trans k2).trans k3).new nu)

abbrev sc_l_runN : List Str := ["sizes", "program", "held", "found", "j", "i", "c", "item", "size"]
theorem sc_l_run : FnScope sc_l_runN ["sizes", "program", "held"] (defScope s_l_run) := ⟨rfl, rfl, rfl, by decide +kernel, rfl, by decide +kernel, by decide +kernel⟩
theorem ok_runI {f : Addr} {fd : FuncData} (D : DefAt K mg "_law_run" s_l_run ["sizes", "program", "held"] f fd) (T : Blt mg) (T_zip : mg "zip" = none) : Cal P w K mg base 1 "_law_run" (spRunI K) := by
  refine cal_of D sc_l_run (fun vs H Q E h => ?_) (fun cdv A outer s H vs Q E hr h => ?_)
  · obtain ⟨v, u, a, ss, ns, l, rfl, _⟩ := h
    rfl
  · obtain ⟨v, u, a, ss, ns, l, rfl, imv, imu, ha, ln, l100, ok, dok, l1000, hm, k⟩ := h
    refine ⟨_, (pss_cons (ps_set (i := 3) sc_l_run.nd rfl (.inl rfl) (pe_callTy (call_listK K rfl) (by rfl) T.list (by decide +kernel) (pa_cons (pv 2) pa_nil)))
      (pss_cons (ps_for PassesOwn.never rfl (pi_tupK K rfl (pv 1)) (pg_tup rfl (pgs_cons (pg_name (i := 4) sc_l_run.nd rfl (.inl rfl)) (pgs_cons (pg_name (i := 5) sc_l_run.nd rfl (.inl rfl)) (pgs_cons (pg_name (i := 6) sc_l_run.nd rfl (.inl rfl)) pgs_nil)))) (pss_one (ps_asg (pe_op op_add (pe_ix (ix_listK K rfl) (pv 3) (pv 5) (fun _ _ => rfl)) (pe_op op_mulW (pv 6) (pe_ix (ix_listK K rfl) (pv 3) (pv 4) (fun _ _ => rfl)))) (pg_sub (pv 3) (pv 5) set_list))))
      (pss_one (ps_ret (pe_callTy (call_tupleK K rfl) (by rfl) T.tuple (by decide +kernel) (pa_cons (pe_lc (own := [("item", 7), ("size", 8)]) rfl sc_l_run.nd (pi_zipG K rfl .l .t (by rfl) T_zip (pa_cons (pv 3) (pa_cons (pv 0) pa_nil))) (blkOk_by (N := sc_l_runN) (sc := defScope s_l_run) (by decide +kernel)) (fun _ _ _ _ _ => (pg_tupK (n := 2) K rfl rfl (pgs_cons (pg_name (i := 7) sc_l_run.nd rfl (by first | exact .inl rfl | exact .inr rfl)) (pgs_cons (pg_name (i := 8) sc_l_run.nd rfl (by first | exact .inl rfl | exact .inr rfl)) pgs_nil)))) (fun _ _ _ _ _ => pts_nil) (fun _ _ _ _ _ => (pe_op op_mod (pv 7) (pv 8)))) pa_nil)))))), ?_⟩
    obtain ⟨b, ys, rfl, hb, ib⟩ := imv.tuple
    have ey := ib.ints
    subst ey
    obtain ⟨c, zs, rfl, hc, ic⟩ := imu.tuple
    have dsm : ∀ d ∈ l, d.2.2.natAbs < 2 ^ 200 := fun d hd => Nat.lt_of_le_of_lt (dok d hd).2.2 (by decide)
    refine ⟨_, rfl, a, _, rfl, ha, fun g ng => ?_⟩
    have sm0 : Same H (upd H g (.lst (ns.map V.int))) := Same.new (Same.refl H) ng
    refine ⟨_, rfl, c, rfl, ⟨_, SqT.of (sm0 _ _ hc)⟩, for_tup (K := K) (a := c) (xs := zs) (fun t σ H' => ∃ v4 v5 v6 : Option V, σ = [some (.ref b), some (.ref c), some (.ref a), some (.ref g), v4, v5, v6, none, none] ∧ Same H H' ∧ H' g = some (.lst ((farI (l.take t) ns).map V.int)))
      ⟨none, none, none, rfl, sm0, upd_same⟩ (fun t σ H' _ ⟨_, _, _, _, z, _⟩ => SqT.of (z _ _ hc)) ?_ ?_⟩
    · rintro t y σ H1 hy ⟨v4, v5, v6, rfl, sm, hg⟩
      have lt : t < l.length := by
        have := (List.getElem?_eq_some_iff.mp hy).1
        rw [ic.length, List.length_map] at this
        exact this
      obtain ⟨d, hd⟩ : ∃ d, l[t]? = some d := ⟨l[t], List.getElem?_eq_getElem lt⟩
      obtain ⟨y', e1, imd⟩ := ic.get (i := t) (d := dD d) (by rw [List.getElem?_map, hd]; rfl)
      rw [hy] at e1
      cases e1
      obtain ⟨e, ws, rfl, he, ie⟩ := (Same.k sm imd).tuple
      have ew : ws = [.int (d.1 : Int), .int (d.2.1 : Int), .int d.2.2] := by
        match ws, ie with
        | _, .cons (.int _) (.cons (.int _) (.cons (.int _) .nil)) => rfl
      subst ew
      obtain ⟨dj, di, dc⟩ := dok d (List.mem_of_getElem? hd)
      have nx := farI_next (ns := ns) hd
      have fl := farI_len (l.take t) ns
      have fm := farI_most (l := l.take t) (fun x hx => dsm x (List.mem_of_mem_take hx)) hm
      have tl : (l.take t).length ≤ 1000 := by
        rw [List.length_take]
        omega
      generalize farI (l.take t) ns = fs at *
      have gm : (fs.getD d.1 0).natAbs < 2 ^ 300000 := Nat.lt_of_lt_of_le (getD_most fm d.1) (Nat.pow_le_pow_right (by decide) (by omega))
      refine ⟨e, _, rfl, SqT.of he, rfl, _, _, rfl, _, _, rfl, _, _, rfl, rfl, ?_⟩
      refine ⟨_, rfl, _, rfl, g, _, _, _, rfl, rfl, SqL.of hg, atI_nat (getD_get (by omega)), _, rfl, _, rfl, _, rfl, g, _, _, _, rfl, rfl, SqL.of hg, atI_nat (getD_get (by omega)), _, _, rfl, rfl, wide_mul (a := 200) (b := 300000) (dsm d (List.mem_of_getElem? hd)) gm (by decide) (by decide) (by decide), _, _, rfl, rfl, _, rfl, _, rfl, ?_⟩
      refine ⟨g, _, _, d.2.1, rfl, rfl, hg, ixN_of (by rw [List.length_map]; omega), some (.int (d.1 : Int)), some (.int (d.2.1 : Int)), some (.int d.2.2), rfl, ?_, ?_⟩
      · intro x o hx
        by_cases e : x = g
        · subst e
          rw [ng] at hx
          cases hx
        · rw [upd_ne e]
          exact sm _ _ hx
      · rw [upd_same, nx]
        unfold addI
        rw [List.map_set]
    · rintro σ H1 ⟨v4, v5, v6, rfl, sm, hg⟩
      have full : l.take zs.length = l := by rw [ic.length, List.length_map, List.take_length]
      rw [full] at hg
      have fl := farI_len l ns
      generalize hfs : farI l ns = fs at *
      have gne : ∀ e : Addr, H1 e = none → g ≠ e := fun e ne z => by rw [z, ne] at hg; cases hg
      refine ⟨_, rfl, _, rfl, g, b, _, _, rfl, SqS.of_l hg, SqS.of_t (sm _ _ hb), fun e ne => ?_⟩
      have neH : H e = none := Same.free sm ne
      refine lc_it (walk_zipG (n := ss.length) (by rw [List.length_map, List.length_map]; omega)) (fun i H' => Same H H' ∧ H' g = some (.lst (fs.map V.int)) ∧ H' e = some (.lst (((remI fs ss).take i).map V.int))) ⟨Same.new sm ne, keepN hg ne, upd_same⟩ (fun i H' _ z => ⟨SqS.of_l z.2.1, SqS.of_t (z.1 _ _ hb)⟩) ?_ ?_
      · rintro i x H2 H3 hi ⟨sm2, hg2, he2⟩ ⟨T1, x1, x2, rfl, nT, rfl, e1, e2⟩
        obtain ⟨n, hn, rfl⟩ := map_get e1
        obtain ⟨s, hs, rfl⟩ := map_get e2
        obtain ⟨s2, _⟩ := (ok s (List.mem_of_getElem? hs)).bnd
        refine ⟨T1, _, rfl, SqT.of upd_same, rfl, _, _, rfl, _, _, rfl, rfl, rfl, ?_⟩
        refine ⟨_, rfl, _, rfl, _, _, rfl, rfl, (show (0 : Int) < s by omega), _, keepN he2 nT, small1000 (by rw [List.length_map, List.length_take]; omega), Same.put (Same.new sm2 nT) neH, ?_, ?_⟩
        · rw [upd_ne (gne e ne)]
          exact keepN hg2 nT
        · rw [upd_same, remI_take hn hs, List.map_append]
          rfl
      · rintro H2 ⟨sm2, hg2, he2⟩
        refine ⟨e, _, rfl, .inl ⟨SqL.of he2, fun t nt => ?_⟩⟩
        have full2 : (remI fs ss).take ss.length = remI fs ss := by
          rw [List.take_of_length_le]
          rw [remI_len (by omega)]
          exact Nat.le_refl _
        rw [full2]
        refine k _ _ (.tup upd_same ?_) (Same.new sm2 nt)
        unfold runI
        rw [hfs]
        exact ImAll.of_ints _ _

theorem zw_get {α β γ : Type} {f : α → β → γ} {l : List α} {m : List β} {i : Nat} {x : α} {y : β} (h1 : l[i]? = some x) (h2 : m[i]? = some y) : (List.zipWith f l m)[i]? = some (f x y) := by
  rw [List.getElem?_zipWith, h1, h2]
theorem take_get {α : Type} {l : List α} {i : Nat} {x : α} (h : l[i]? = some x) : l.take (i + 1) = l.take i ++ [x] := by
  rw [List.take_add_one, h]
  rfl
theorem zw_len {α β γ : Type} {f : α → β → γ} {l : List α} {m : List β} {n : Nat} (h1 : l.length = n) (h2 : m.length = n) : (List.zipWith f l m).length = n := by
  rw [List.length_zipWith]
  omega
abbrev sc_l_ledN : List Str := ["sizes", "table", "held", "row", "size", "entry", "item"]
theorem sc_l_led : FnScope sc_l_ledN ["sizes", "table", "held"] (defScope s_l_led) := ⟨rfl, rfl, rfl, by decide +kernel, rfl, by decide +kernel, by decide +kernel⟩
def cs_l_led : Scope := match defBody s_l_led with
  | [.Return (some (.Call _ [.ListComp _ _ sc _] _ _)) _] => sc
  | _ => defScope s_l_led
theorem ok_led {f : Addr} {fd : FuncData} (D : DefAt K mg "_law_led" s_l_led ["sizes", "table", "held"] f fd) (T : Blt mg) (T_zip : mg "zip" = none) (T_sum : mg "sum" = none) : Cal P w K mg base 1 "_law_led" spLed := by
  refine cal_of D sc_l_led (fun vs H Q E h => ?_) (fun cdv A outer s H vs Q E hr h => ?_)
  · obtain ⟨x, y, z, ss, t, hs, rfl, _⟩ := h
    rfl
  · obtain ⟨x, y, z, ss, t, hs, rfl, imx, imy, imz, ok, l100, tsh, lh, mh, k⟩ := h
    refine ⟨_, (pss_one (ps_ret (pe_callTy (call_tupleK K rfl) (by rfl) T.tuple (by decide +kernel) (pa_cons (pe_lc (own := [("row", 3), ("size", 4)]) rfl sc_l_led.nd (pi_zipG K rfl .t .t (by rfl) T_zip (pa_cons (pv 1) (pa_cons (pv 0) pa_nil))) (blkOk_by (N := sc_l_ledN) (sc := defScope s_l_led) (by decide +kernel)) (fun _ _ _ _ _ => (pg_tupK (n := 2) K rfl rfl (pgs_cons (pg_name (i := 3) sc_l_led.nd rfl (by first | exact .inl rfl | exact .inr rfl)) (pgs_cons (pg_name (i := 4) sc_l_led.nd rfl (by first | exact .inl rfl | exact .inr rfl)) pgs_nil)))) (fun _ _ _ _ _ => pts_nil) (fun _ _ _ _ _ => (pe_op op_mod (pe_callB (cr_sumK K rfl rfl) (by rfl) T_sum (by decide +kernel) (pa_cons (pe_lc (own := [("entry", 5), ("item", 6)]) rfl sc_l_led.nd (pi_zipG K rfl .t .t (by rfl) T_zip (pa_cons (pv 3) (pa_cons (pv 2) pa_nil))) (blkOk_by (N := sc_l_ledN) (sc := relS cs_l_led (defScope s_l_led)) (by decide +kernel)) (fun _ _ _ _ _ => (pg_tupK (n := 2) K rfl rfl (pgs_cons (pg_name (i := 5) sc_l_led.nd rfl (by first | exact .inl rfl | exact .inr rfl)) (pgs_cons (pg_name (i := 6) sc_l_led.nd rfl (by first | exact .inl rfl | exact .inr rfl)) pgs_nil)))) (fun _ _ _ _ _ => pts_nil) (fun _ _ _ _ _ => (pe_op op_mulW (pv 5) (pv 6)))) pa_nil)) (pv 4)))) pa_nil)))), ?_⟩
    obtain ⟨b, bs, rfl, hb, ib⟩ := imx.tuple
    have ey := ib.ints
    subst ey
    obtain ⟨c, cs, rfl, hc, ic⟩ := imy.tuple
    obtain ⟨e, es, rfl, he, ie⟩ := imz.tuple
    have ey := ie.ints
    subst ey
    have lc0 : cs.length = ss.length := by rw [ic.length, List.length_map, tsh.len]
    refine ⟨_, rfl, _, rfl, c, b, _, _, rfl, SqS.of_t hc, SqS.of_t hb, fun d nd => ?_⟩
    refine lc_it (walk_zipG (n := ss.length) (by rw [List.length_map]; omega)) (fun i H' => Same H H' ∧ H' d = some (.lst (((ledI ss t hs).take i).map V.int))) ⟨Same.new (Same.refl H) nd, upd_same⟩ (fun i H' _ z => ⟨SqS.of_t (z.1 _ _ hc), SqS.of_t (z.1 _ _ hb)⟩) ?_ ?_
    · rintro i x H2 H3 hi ⟨sm, hd⟩ ⟨T1, x1, x2, rfl, nT, rfl, e1, e2⟩
      obtain ⟨s, hs', rfl⟩ := map_get e2
      obtain ⟨s2, _⟩ := (ok s (List.mem_of_getElem? hs')).bnd
      obtain ⟨r, hr'⟩ : ∃ r, t[i]? = some r := ⟨t[i]'(by rw [tsh.len]; exact hi), List.getElem?_eq_getElem _⟩
      obtain ⟨a, e1', ha⟩ := Im.row (H := H) ic hr'
      rw [show cs[i]? = some x1 from e1] at e1'
      cases e1'
      have rl := tsh.row r (List.mem_of_getElem? hr')
      have rm := tsh.most r (List.mem_of_getElem? hr')
      have sm3 : Same H (upd H2 T1 (.tup [.ref a, .int s])) := Same.new sm nT
      have hd3 : (upd H2 T1 (.tup [.ref a, .int s])) d = some (.lst (((ledI ss t hs).take i).map V.int)) := keepN hd nT
      refine ⟨T1, _, rfl, SqT.of upd_same, rfl, _, _, rfl, _, _, rfl, rfl, rfl, ?_⟩
      generalize upd H2 T1 (.tup [.ref a, .int s]) = H3 at *
      refine ⟨_, rfl, _, rfl, a, e, _, _, rfl, SqS.of_t (sm3 _ _ ha), SqS.of_t (sm3 _ _ he), fun g ng => ?_⟩
      refine lc_it (walk_zipG (n := ss.length) (by rw [List.length_map, List.length_map]; omega)) (fun j H' => Same H3 H' ∧ H' g = some (.lst (((List.zipWith (fun e h => e * h) r hs).take j).map V.int))) ⟨Same.new (Same.refl H3) ng, upd_same⟩ (fun j H' _ z => ⟨SqS.of_t (z.1 _ _ (sm3 _ _ ha)), SqS.of_t (z.1 _ _ (sm3 _ _ he))⟩) ?_ ?_
      · rintro j y H4 H5 hj ⟨sm4, hg⟩ ⟨T2, y1, y2, rfl, nT2, rfl, f1, f2⟩
        obtain ⟨en, hen, rfl⟩ := map_get f1
        obtain ⟨ho, hho, rfl⟩ := map_get f2
        have w := mul_wide (rm en (List.mem_of_getElem? hen)) (mh ho (List.mem_of_getElem? hho)) (by decide)
        refine ⟨T2, _, rfl, SqT.of upd_same, rfl, _, _, rfl, _, _, rfl, rfl, rfl, ?_⟩
        refine ⟨_, rfl, _, rfl, _, _, rfl, rfl, w, _, keepN hg nT2, small1000 (by rw [List.length_map, List.length_take]; omega), Same.put (Same.new sm4 nT2) ng, ?_⟩
        rw [upd_same, take_get (zw_get (f := fun e h : Int => e * h) hen hho), List.map_append]
        rfl
      · rintro H4 ⟨sm4, hg⟩
        have full : (List.zipWith (fun e h : Int => e * h) r hs).take ss.length = List.zipWith (fun e h => e * h) r hs := List.take_of_length_le (Nat.le_of_eq (zw_len rl lh))
        rw [full] at hg
        have ndH : H d = none := nd
        refine ⟨g, _, rfl, SqL.of hg, _, rfl, _, _, rfl, rfl, (show (0 : Int) < s by omega), _, sm4 _ _ hd3, small1000 (by rw [List.length_map, List.length_take]; omega), Same.put (sm3.trans sm4) ndH, ?_⟩
        unfold ledI
        rw [upd_same, take_get (zw_get (f := fun (row : List Int) (s : Int) => dot row hs % s) hr' hs'), List.map_append]
        rfl
    · rintro H2 ⟨sm, hd⟩
      have full : (ledI ss t hs).take ss.length = ledI ss t hs := List.take_of_length_le (Nat.le_of_eq (zw_len tsh.len rfl))
      rw [full] at hd
      exact ⟨d, _, rfl, .inl ⟨SqL.of hd, fun u nu => k _ _ (.tup upd_same (ImAll.of_ints _ _)) (Same.new sm nu)⟩⟩
abbrev sc_l_stillN : List Str := ["sizes", "i", "j"]
theorem sc_l_still : FnScope sc_l_stillN ["sizes"] (defScope s_l_still) := ⟨rfl, rfl, rfl, by decide +kernel, rfl, by decide +kernel, by decide +kernel⟩
def cs_l_still : Scope := match defBody s_l_still with
  | [.Return (some (.Call _ [.ListComp _ _ sc _] _ _)) _] => sc
  | _ => defScope s_l_still
theorem range_get {n i : Nat} (h : i < n) : (List.range n)[i]? = some i := by
  rw [List.getElem?_eq_getElem (by rw [List.length_range]; exact h), List.getElem_range]
theorem rm_get {α : Type} {n i : Nat} (f : Nat → α) (h : i < n) : ((List.range n).map f)[i]? = some (f i) := by
  rw [List.getElem?_map, range_get h]
  rfl
theorem rm_full {α : Type} {n : Nat} (f : Nat → α) : ((List.range n).map f).take n = (List.range n).map f := List.take_of_length_le (by rw [List.length_map, List.length_range]; exact Nat.le_refl _)
theorem int_if (i j : Nat) : (if decide (V.int ((0 : Int) + (i : Int)) = V.int ((0 : Int) + (j : Int))) = true then (1 : Int) else 0) = if i = j then 1 else 0 := by
  rw [dec_int0]
  by_cases h : i = j
  · subst h
    rw [decide_eq_true rfl, if_pos rfl, if_pos rfl]
  · rw [decide_eq_false (by omega), if_neg (by decide), if_neg h]
theorem ok_still {f : Addr} {fd : FuncData} (D : DefAt K mg "_law_still" s_l_still ["sizes"] f fd) (T : Blt mg) : Cal P w K mg base 1 "_law_still" spStill := by
  refine cal_of D sc_l_still (fun vs H Q E h => ?_) (fun cdv A outer s H vs Q E hr h => ?_)
  · obtain ⟨x, ss, rfl, _⟩ := h
    rfl
  · obtain ⟨x, ss, rfl, imx, l100, k⟩ := h
    refine ⟨_, (pss_one (ps_ret (pe_callTy (call_tupleK K rfl) (by rfl) T.tuple (by decide +kernel) (pa_cons (pe_lc (own := [("i", 1)]) rfl sc_l_still.nd (pi_range1 (by rfl) T.range (pa_cons (pe_callB (call_lenK K rfl) (by rfl) T.len PySem.boot_len (pa_cons (pv 0) pa_nil)) pa_nil)) (blkOk_by (N := sc_l_stillN) (sc := defScope s_l_still) (by decide +kernel)) (fun _ _ _ _ _ => (pg_name (i := 1) sc_l_still.nd rfl (by first | exact .inl rfl | exact .inr rfl))) (fun _ _ _ _ _ => pts_nil) (fun _ _ _ _ _ => (pe_callTy (call_tupleK K rfl) (by rfl) T.tuple (by decide +kernel) (pa_cons (pe_lc (own := [("j", 2)]) rfl sc_l_still.nd (pi_range1 (by rfl) T.range (pa_cons (pe_callB (call_lenK K rfl) (by rfl) T.len PySem.boot_len (pa_cons (pv 0) pa_nil)) pa_nil)) (blkOk_by (N := sc_l_stillN) (sc := relS cs_l_still (defScope s_l_still)) (by decide +kernel)) (fun _ _ _ _ _ => (pg_name (i := 2) sc_l_still.nd rfl (by first | exact .inl rfl | exact .inr rfl))) (fun _ _ _ _ _ => pts_nil) (fun _ _ _ _ _ => (pe_callTy call_int1 (by rfl) T.int (by decide +kernel) (pa_cons (pe_cmpR op_eq (pv 1) (pv 2) (nomark _)) pa_nil)))) pa_nil)))) pa_nil)))), ?_⟩
    obtain ⟨b, bs, rfl, hb, ib⟩ := imx.tuple
    have ey := ib.ints
    subst ey
    have lb : (ss.map V.int).length = ss.length := List.length_map ..
    refine ⟨_, rfl, b, _, rfl, .inr (SqT.of hb), _, rfl, by omega, by omega, fun d nd => ?_⟩
    rw [lb, Int.toNat_natCast]
    refine lc_range (lo := 0) (n := ss.length) (fun i H' => Same H H' ∧ ∃ vs : List V, H' d = some (.lst vs) ∧ ImAll H' vs (((stillI ss.length).take i).map sD)) ⟨Same.new (Same.refl H) nd, [], upd_same, .nil⟩ ?_ ?_
    · rintro i H2 hi ⟨sm, vs, hd, ia⟩
      have lv : vs.length ≤ 100 := by
        rw [ia.length, List.length_map, List.length_take]
        omega
      refine ⟨rfl, _, rfl, b, _, rfl, .inr (SqT.of (sm _ _ hb)), _, rfl, by omega, by omega, fun g ng => ?_⟩
      rw [lb, Int.toNat_natCast]
      refine lc_range (lo := 0) (n := ss.length) (fun j H' => Same H2 H' ∧ H' g = some (.lst ((((List.range ss.length).map fun j => if i = j then (1 : Int) else 0).take j).map V.int))) ⟨Same.new (Same.refl H2) ng, upd_same⟩ ?_ ?_
      · rintro j H3 hj ⟨sm3, hg⟩
        refine ⟨rfl, _, rfl, _, rfl, rfl, .inr ⟨_, rfl, _, hg, small1000 (by rw [List.length_map, List.length_take]; omega), Same.put sm3 ng, ?_⟩⟩
        rw [upd_same, int_if, take_get (rm_get _ hj), List.map_append]
        rfl
      · rintro H3 ⟨sm3, hg⟩
        rw [rm_full] at hg
        refine ⟨g, _, rfl, .inl ⟨SqL.of hg, fun u nu => ?_⟩⟩
        have sm4 : Same H2 (upd H3 u (.tup (((List.range ss.length).map fun j => if i = j then (1 : Int) else 0).map V.int))) := Same.new sm3 nu
        have hd4 := sm4 _ _ hd
        have tk : Tk (upd H3 u (.tup (((List.range ss.length).map fun j => if i = j then (1 : Int) else 0).map V.int))) (upd (upd H3 u (.tup (((List.range ss.length).map fun j => if i = j then (1 : Int) else 0).map V.int))) d (.lst (vs ++ [.ref u]))) := (Tk.refl _).put hd4
        refine ⟨_, hd4, small1000 (by omega), Same.put (sm.trans sm4) nd, _, upd_same, ?_⟩
        unfold stillI
        rw [take_get (rm_get _ hi), List.map_append]
        exact ((ia.k (Tk.same sm4)).k tk).append (.cons (Im.k (.tup upd_same (ImAll.of_ints _ _)) tk) .nil)
    · rintro H2 ⟨sm, vs, hd, ia⟩
      unfold stillI at ia
      rw [rm_full] at ia
      refine ⟨d, _, rfl, .inl ⟨SqL.of hd, fun u nu => k _ _ (.tup upd_same (ia.k ((Tk.refl H2).new nu))) (Same.new sm nu)⟩⟩

abbrev sc_l_bothN : List Str := ["sizes", "one", "other", "found", "row", "size", "j", "entry", "own"]
theorem sc_l_both : FnScope sc_l_bothN ["sizes", "one", "other"] (defScope s_l_both) := ⟨rfl, rfl, rfl, by decide +kernel, rfl, by decide +kernel, by decide +kernel⟩
def cs_l_both : Scope := match defBody s_l_both with
  | [_, .For _ _ [.Expr (.Call _ [.Call _ [.ListComp _ _ sc _] _ _] _ _) _] _ _, _] => sc
  | _ => defScope s_l_both
theorem col_get {one : List (List Int)} {i j : Nat} {r : List Int} (h : one[i]? = some r) : (colI one j)[i]? = some (r.getD j 0) := by
  unfold colI
  rw [List.getElem?_map, h]
  rfl
theorem ok_both {f : Addr} {fd : FuncData} (D : DefAt K mg "_law_both" s_l_both ["sizes", "one", "other"] f fd) (T : Blt mg) (T_zip : mg "zip" = none) (T_sum : mg "sum" = none) : Cal P w K mg base 1 "_law_both" spBoth := by
  refine cal_of D sc_l_both (fun vs H Q E h => ?_) (fun cdv A outer s H vs Q E hr h => ?_)
  · obtain ⟨x, y, z, ss, one, other, rfl, _⟩ := h
    rfl
  · obtain ⟨x, y, z, ss, one, other, rfl, imx, imy, imz, ok, l100, ts1, ts2, k⟩ := h
    refine ⟨_, (pss_cons (ps_set (i := 3) sc_l_both.nd rfl (.inl rfl) (pe_lst pa_nil))
      (pss_cons (ps_for PassesOwn.never rfl (pi_zipG K rfl .t .t (by rfl) T_zip (pa_cons (pv 2) (pa_cons (pv 0) pa_nil))) (pg_tup rfl (pgs_cons (pg_name (i := 4) sc_l_both.nd rfl (.inr rfl)) (pgs_cons (pg_name (i := 5) sc_l_both.nd rfl (.inr rfl)) pgs_nil))) (pss_one (ps_expr (pe_bm PySem.F.plainAttrs_list PySem.F.slot_list_append PySem.F.type_list_append mt_append (pv 3) (pa_cons (pe_callTy (call_tupleK K rfl) (by rfl) T.tuple (by decide +kernel) (pa_cons (pe_lc (own := [("j", 6)]) rfl sc_l_both.nd (pi_range1 (by rfl) T.range (pa_cons (pe_callB (call_lenK K rfl) (by rfl) T.len PySem.boot_len (pa_cons (pv 0) pa_nil)) pa_nil)) (blkOk_by (N := sc_l_bothN) (sc := defScope s_l_both) (by decide +kernel)) (fun _ _ _ _ _ => (pg_name (i := 6) sc_l_both.nd rfl (by first | exact .inl rfl | exact .inr rfl))) (fun _ _ _ _ _ => pts_nil) (fun _ _ _ _ _ => (pe_op op_mod (pe_callB (cr_sumK K rfl rfl) (by rfl) T_sum (by decide +kernel) (pa_cons (pe_lc (own := [("entry", 7), ("own", 8)]) rfl sc_l_both.nd (pi_zipG K rfl .t .t (by rfl) T_zip (pa_cons (pv 4) (pa_cons (pv 1) pa_nil))) (blkOk_by (N := sc_l_bothN) (sc := relS cs_l_both (defScope s_l_both)) (by decide +kernel)) (fun _ _ _ _ _ => (pg_tupK (n := 2) K rfl rfl (pgs_cons (pg_name (i := 7) sc_l_both.nd rfl (by first | exact .inl rfl | exact .inr rfl)) (pgs_cons (pg_name (i := 8) sc_l_both.nd rfl (by first | exact .inl rfl | exact .inr rfl)) pgs_nil)))) (fun _ _ _ _ _ => pts_nil) (fun _ _ _ _ _ => (pe_op op_mulW (pv 7) (pe_ix (ix_tupK K rfl) (pv 8) (pv 6) (fun _ _ => rfl))))) pa_nil)) (pv 5)))) pa_nil)) pa_nil)))))
      (pss_one (ps_ret (pe_callTy (call_tupleK K rfl) (by rfl) T.tuple (by decide +kernel) (pa_cons (pv 3) pa_nil)))))), ?_⟩
    obtain ⟨b, bs, rfl, hb, ib⟩ := imx.tuple
    have ey := ib.ints
    subst ey
    obtain ⟨c, cs, rfl, hc, ic⟩ := imy.tuple
    obtain ⟨e, es, rfl, he, ie⟩ := imz.tuple
    have lb : (ss.map V.int).length = ss.length := List.length_map ..
    have lc0 : cs.length = ss.length := by rw [ic.length, List.length_map, ts1.len]
    have le0 : es.length = ss.length := by rw [ie.length, List.length_map, ts2.len]
    refine ⟨by show 0 ≤ sizeLine; decide, fun g ng => ?_⟩
    have sm0 : Same H (upd H g (.lst [])) := Same.new (Same.refl H) ng
    refine ⟨_, rfl, _, rfl, e, b, _, _, rfl, SqS.of_t (sm0 _ _ he), SqS.of_t (sm0 _ _ hb), ?_⟩
    refine for_it (walk_zipG (n := ss.length) (by rw [List.length_map]; omega)) (fun i σ H' => ∃ v4 v5 : Option V, σ = [some (.ref b), some (.ref c), some (.ref e), some (.ref g), v4, v5, none, none, none] ∧ Same H H' ∧ ∃ vs : List V, H' g = some (.lst vs) ∧ ImAll H' vs (((bothI ss one other).take i).map sD))
      ⟨none, none, rfl, sm0, [], upd_same, .nil⟩ (fun i σ H' _ ⟨_, _, _, z, _⟩ => ⟨SqS.of_t (z _ _ he), SqS.of_t (z _ _ hb)⟩) ?_ ?_
    · rintro i x σ H2 H3 hi ⟨v4, v5, rfl, sm, vs, hg, ia⟩ ⟨T1, x1, x2, rfl, nT, rfl, e1, e2⟩
      have lv : vs.length ≤ 100 := by
        rw [ia.length, List.length_map, List.length_take]
        omega
      obtain ⟨s, hs', rfl⟩ := map_get e2
      obtain ⟨s2, _⟩ := (ok s (List.mem_of_getElem? hs')).bnd
      obtain ⟨r, hr'⟩ : ∃ r, other[i]? = some r := ⟨other[i]'(by rw [ts2.len]; exact hi), List.getElem?_eq_getElem _⟩
      obtain ⟨a, e1', ha⟩ := Im.row (H := H) ie hr'
      rw [show es[i]? = some x1 from e1] at e1'
      cases e1'
      have rl := ts2.row r (List.mem_of_getElem? hr')
      have rm := ts2.most r (List.mem_of_getElem? hr')
      have sm3 : Same H (upd H2 T1 (.tup [.ref a, .int s])) := Same.new sm nT
      have ia3 := ia.k ((Tk.refl H2).new (o := .tup [.ref a, .int s]) nT)
      have hg3 : (upd H2 T1 (.tup [.ref a, .int s])) g = some (.lst vs) := keepN hg nT
      refine ⟨T1, _, rfl, SqT.of upd_same, rfl, _, _, rfl, _, _, rfl, rfl, ?_⟩
      generalize upd H2 T1 (.tup [.ref a, .int s]) = H3 at *
      refine ⟨_, rfl, .inl ⟨rfl, _, SqL.of hg3⟩, _, rfl, b, _, rfl, .inr (SqT.of (sm3 _ _ hb)), _, rfl, by omega, by omega, fun d nd => ?_⟩
      rw [lb, Int.toNat_natCast]
      refine lc_range (lo := 0) (n := ss.length) (fun j H' => Same H3 H' ∧ H' d = some (.lst ((((List.range ss.length).map fun j => dot r (colI one j) % s).take j).map V.int))) ⟨Same.new (Same.refl H3) nd, upd_same⟩ ?_ ?_
      · rintro j H4 hj ⟨sm4, hd⟩
        have sm4H := sm3.trans sm4
        refine ⟨rfl, _, rfl, _, rfl, a, c, _, _, rfl, SqS.of_t (sm4H _ _ ha), SqS.of_t (sm4H _ _ hc), fun h nh => ?_⟩
        have cl : (colI one j).length = ss.length := by unfold colI; rw [List.length_map, ts1.len]
        refine lc_it (walk_zipG (n := ss.length) (by rw [List.length_map]; omega)) (fun t H' => Same H4 H' ∧ H' h = some (.lst (((List.zipWith (fun e h => e * h) r (colI one j)).take t).map V.int))) ⟨Same.new (Same.refl H4) nh, upd_same⟩ (fun t H' _ z => ⟨SqS.of_t (z.1 _ _ (sm4H _ _ ha)), SqS.of_t (z.1 _ _ (sm4H _ _ hc))⟩) ?_ ?_
        · rintro t y H5 H6 ht ⟨sm5, hh⟩ ⟨T2, y1, y2, rfl, nT2, rfl, f1, f2⟩
          obtain ⟨en, hen, rfl⟩ := map_get f1
          obtain ⟨o, ho⟩ : ∃ o, one[t]? = some o := ⟨one[t]'(by rw [ts1.len]; exact ht), List.getElem?_eq_getElem _⟩
          obtain ⟨a2, f2', ha2⟩ := Im.row (H := H) ic ho
          rw [show cs[t]? = some y2 from f2] at f2'
          cases f2'
          have ol := ts1.row o (List.mem_of_getElem? ho)
          have om := ts1.most o (List.mem_of_getElem? ho)
          have wd := mul_wide (rm en (List.mem_of_getElem? hen)) (getD_most om j) (by decide)
          refine ⟨T2, _, rfl, SqT.of upd_same, rfl, _, _, rfl, _, _, rfl, rfl, rfl, ?_⟩
          have e0 : (0 : Int) + (j : Int) = (j : Int) := by omega
          refine ⟨_, rfl, _, rfl, _, rfl, a2, _, j, _, rfl, by rw [e0], SqT.of (Same.new (sm4H.trans sm5) nT2 _ _ ha2), atI_nat (getD_get (by omega)), _, _, rfl, rfl, wd, _, keepN hh nT2, small1000 (by rw [List.length_map, List.length_take]; omega), Same.put (Same.new sm5 nT2) nh, ?_⟩
          rw [upd_same, take_get (zw_get (f := fun e h : Int => e * h) hen (col_get ho)), List.map_append]
          rfl
        · rintro H5 ⟨sm5, hh⟩
          have full : (List.zipWith (fun e h : Int => e * h) r (colI one j)).take ss.length = List.zipWith (fun e h => e * h) r (colI one j) := List.take_of_length_le (Nat.le_of_eq (zw_len rl cl))
          rw [full] at hh
          refine ⟨h, _, rfl, SqL.of hh, _, rfl, _, _, rfl, rfl, (show (0 : Int) < s by omega), _, sm5 _ _ hd, small1000 (by rw [List.length_map, List.length_take]; omega), Same.put (sm4.trans sm5) nd, ?_⟩
          rw [upd_same, take_get (rm_get (fun j => dot r (colI one j) % s) hj), List.map_append]
          rfl
      · rintro H4 ⟨sm4, hd⟩
        rw [rm_full] at hd
        refine ⟨d, _, rfl, .inl ⟨SqL.of hd, fun u nu => ?_⟩⟩
        have sm5 : Same H3 (upd H4 u (.tup (((List.range ss.length).map fun j => dot r (colI one j) % s).map V.int))) := Same.new sm4 nu
        have hg5 := sm5 _ _ hg3
        generalize hU : upd H4 u (.tup (((List.range ss.length).map fun j => dot r (colI one j) % s).map V.int)) = H5 at *
        have hu5 : H5 u = some (.tup (((List.range ss.length).map fun j => dot r (colI one j) % s).map V.int)) := by rw [← hU]; exact upd_same
        have tk : Tk H5 (upd H5 g (.lst (vs ++ [.ref u]))) := (Tk.refl _).put hg5
        refine ⟨g, _, _, rfl, rfl, hg5, small1000 (by omega), some (.ref a), some (.int s), rfl, Same.put (sm3.trans sm5) ng, vs ++ [.ref u], upd_same, ?_⟩
        unfold bothI
        rw [take_get (zw_get (f := fun (row : List Int) (s : Int) => (List.range ss.length).map fun j => dot row (colI one j) % s) hr' hs'), List.map_append]
        exact ((ia3.k (Tk.same sm5)).k tk).append (.cons (Im.k (.tup hu5 (ImAll.of_ints _ _)) tk) .nil)
    · rintro σ H2 ⟨v4, v5, rfl, sm, vs, hg, ia⟩
      have full : (bothI ss one other).take ss.length = bothI ss one other := List.take_of_length_le (Nat.le_of_eq (zw_len ts2.len rfl))
      rw [full] at ia
      refine ⟨_, rfl, g, _, rfl, .inl ⟨SqL.of hg, fun u nu => k _ _ (.tup upd_same (ia.k ((Tk.refl H2).new nu))) (Same.new sm nu)⟩⟩

abbrev sc_l_tableN : List Str := ["pot", "sizes", "i", "j", "rows", "chance", "size", "ask", "row"]
theorem sc_l_table : FnScope sc_l_tableN ["pot", "sizes"] (defScope s_l_table) := ⟨rfl, rfl, rfl, by decide +kernel, rfl, by decide +kernel, by decide +kernel⟩
def cs_l_table : Scope := match defBody s_l_table with
  | .Assign _ (.ListComp _ _ sc _) _ :: _ => sc
  | _ => defScope s_l_table
theorem ok_table {f : Addr} {fd : FuncData} (D : DefAt K mg "_law_table" s_l_table ["pot", "sizes"] f fd) (T : Blt mg) (c_l_dip : Cal P w K mg base 1 "_law_dip" spDipW) (c_l_pick : Cal P w K mg base 2 "_law_pick" spPick) (c_l_step : Cal P w K mg base 2 "_law_step" spLStep) : Cal P w K mg base 3 "_law_table" spTable := by
  refine cal_of D sc_l_table (fun vs H Q E h => ?_) (fun cdv A outer s H vs Q E hr h => ?_)
  · obtain ⟨p, q, v, ss, rfl, _⟩ := h
    rfl
  · obtain ⟨p, q, v, ss, rfl, hP, im, ok, l100, k⟩ := h
    refine ⟨_, (pss_cons (ps_setLc (i := 4) (own := [("i", 2)]) rfl sc_l_table.nd rfl rfl (sw_true rfl rfl rfl (by decide +kernel)) (pi_range1 (by rfl) T.range (pa_cons (pe_callB (call_lenK K rfl) (by rfl) T.len PySem.boot_len (pa_cons (pv 1) pa_nil)) pa_nil)) (blkOk_by (N := sc_l_tableN) (sc := defScope s_l_table) (by decide +kernel)) (fun _ _ _ _ _ => (pg_name (i := 2) sc_l_table.nd rfl (by first | exact .inl rfl | exact .inr rfl))) (fun _ _ _ _ _ => pts_nil) (fun _ _ _ _ _ => (pe_lc (own := [("j", 3)]) rfl sc_l_table.nd (pi_range1 (by rfl) T.range (pa_cons (pe_callB (call_lenK K rfl) (by rfl) T.len PySem.boot_len (pa_cons (pv 1) pa_nil)) pa_nil)) (blkOk_by (N := sc_l_tableN) (sc := relS cs_l_table (defScope s_l_table)) (by decide +kernel)) (fun _ _ _ _ _ => (pg_name (i := 3) sc_l_table.nd rfl (by first | exact .inl rfl | exact .inr rfl))) (fun _ _ _ _ _ => pts_nil) (fun _ _ _ _ _ => (pe_callTy call_int1 (by rfl) T.int (by decide +kernel) (pa_cons (pe_cmpR op_eq (pv 2) (pv 3) (nomark _)) pa_nil))))))
      (pss_cons (ps_set (i := 5) sc_l_table.nd rfl (.inl rfl) (pe_c c_l_pick hr (by decide) rfl (pa_cons (pv 0) (pa_cons (pe_lst (pa_cons pe_int (pa_cons pe_int (pa_cons pe_int (pa_cons pe_int pa_nil))))) pa_nil))))
      (pss_cons (ps_for PassesOwn.never rfl (pi_enumTK K rfl (by rfl) T.enumerate (pa_cons (pv 1) pa_nil)) (pg_tup rfl (pgs_cons (pg_name (i := 2) sc_l_table.nd rfl (.inl rfl)) (pgs_cons (pg_name (i := 6) sc_l_table.nd rfl (.inl rfl)) pgs_nil))) (pss_one (ps_for PassesOwn.never rfl (pi_range1 (by rfl) T.range (pa_cons (pe_callB (call_lenK K rfl) (by rfl) T.len PySem.boot_len (pa_cons (pv 1) pa_nil)) pa_nil)) (pg_name (i := 3) sc_l_table.nd rfl (.inl rfl)) (pss_cons (ps_set (i := 7) sc_l_table.nd rfl (.inl rfl) (pe_ifExp (pt_cmpR op_eq (pv 2) (pv 3) (nomark _)) pe_int (pe_c c_l_step hr (by decide) rfl (pa_cons (pv 1) (pa_cons (pv 3) (pa_cons (pv 2) pa_nil))))))
      (pss_one (ps_if (PW.pt (pw_and (pt_cmpR op_lt (pe_c c_l_dip hr (by decide) rfl (pa_cons (pv 0) (pa_cons pe_int pa_nil))) (pv 5) (nomark _)) (pw_and1 (PW.pt (pw_or (pt_cmpR op_ne (pv 2) (pv 3) (nomark _)) (pw_or1 (pt_cmpR op_eq (pe_c c_l_dip hr (by decide) rfl (pa_cons (pv 0) (pa_cons pe_int pa_nil))) pe_int (nomark _)))))))) (pss_one (ps_asg (pe_op op_mod (pe_op op_mulW (pv 7) (pe_c c_l_pick hr (by decide) rfl (pa_cons (pv 0) (pa_cons (pe_lst (pa_cons pe_int (pa_cons pe_int (pa_cons pe_int (pa_cons pe_int (pa_cons (pe_op op_sub (pv 6) pe_int) (pa_cons (pe_c c_l_dip hr (by decide) rfl (pa_cons (pv 0) (pa_cons (pv 6) pa_nil))) pa_nil))))))) pa_nil)))) (pv 6)) (pg_sub (pe_ix (ix_listK K rfl) (pv 4) (pv 2) (fun _ _ => rfl)) (pv 3) set_list))) pss_nil))))))
      (pss_one (ps_ret (pe_callTy (call_tupleK K rfl) (by rfl) T.tuple (by decide +kernel) (pa_cons (pe_lc (own := [("row", 8)]) rfl sc_l_table.nd (pi_listK K rfl (pv 4)) (blkOk_by (N := sc_l_tableN) (sc := defScope s_l_table) (by decide +kernel)) (fun _ _ _ _ _ => (pg_name (i := 8) sc_l_table.nd rfl (by first | exact .inl rfl | exact .inr rfl))) (fun _ _ _ _ _ => pts_nil) (fun _ _ _ _ _ => (pe_callTy (call_tupleK K rfl) (by rfl) T.tuple (by decide +kernel) (pa_cons (pv 8) pa_nil)))) pa_nil))))))), ?_⟩
    obtain ⟨b, bs, rfl, hb, ib⟩ := id im.tuple
    have ey := ib.ints
    subst ey
    have lb : (ss.map V.int).length = ss.length := List.length_map ..
    refine ⟨_, rfl, b, _, rfl, .inr (SqT.of hb), _, rfl, by omega, by omega, fun R nR0 => ?_⟩
    have nR := hP.np nR0
    rw [lb, Int.toNat_natCast]
    refine lc_range (lo := 0) (n := ss.length) (fun i H' => Same H H' ∧ ∃ rs : List Addr, Rws p q R H' rs ((stillI ss.length).take i) ∧ ∀ a ∈ rs, H a = none) ⟨Same.new (Same.refl H) nR0, [], ⟨upd_same, rfl, fun i a e => by simp at e, List.nodup_nil, fun a h => by cases h⟩, fun a h => by cases h⟩ ?_ ?_
    · rintro i H2 hi ⟨sm, rs, rw1, fr⟩
      have lr : rs.length ≤ 100 := by
        rw [rw1.len, List.length_take]
        omega
      refine ⟨rfl, _, rfl, b, _, rfl, .inr (SqT.of (sm _ _ hb)), _, rfl, by omega, by omega, fun g ng => ?_⟩
      rw [lb, Int.toNat_natCast]
      refine lc_range (lo := 0) (n := ss.length) (fun j H' => Same H2 H' ∧ H' g = some (.lst ((((List.range ss.length).map fun j => if i = j then (1 : Int) else 0).take j).map V.int))) ⟨Same.new (Same.refl H2) ng, upd_same⟩ ?_ ?_
      · rintro j H3 hj ⟨sm3, hg⟩
        refine ⟨rfl, _, rfl, _, rfl, rfl, .inr ⟨_, rfl, _, hg, small1000 (by rw [List.length_map, List.length_take]; omega), Same.put sm3 ng, ?_⟩⟩
        rw [upd_same, int_if, take_get (rm_get _ hj), List.map_append]
        rfl
      · rintro H3 ⟨sm3, hg⟩
        rw [rm_full] at hg
        have rw3 := rw1.same sm3
        have gR : g ≠ R := fun z => by rw [z, rw1.top] at ng; cases ng
        have gP := (hP.same sm).np ng
        have gN : g ∉ rs := fun m => by
          obtain ⟨i, hi, e⟩ := List.getElem_of_mem m
          obtain ⟨r, _, h2⟩ := rw1.row i g (by rw [List.getElem?_eq_getElem hi, e])
          rw [h2] at ng
          cases ng
        refine ⟨_, rw3.top, small1000 (by rw [List.length_map]; omega), Same.put (sm.trans sm3) nR0, rs ++ [g], ?_, fun a ha => ?_⟩
        · unfold stillI
          rw [take_get (rm_get _ hi)]
          exact rw3.put nR hg gN ⟨gR, gP⟩
        · rcases List.mem_append.mp ha with ha | ha
          · exact fr a ha
          · rw [List.mem_singleton.mp ha]
            exact Same.free sm ng
    rintro H2 ⟨sm2, rs, rw2, fr⟩
    unfold stillI at rw2
    rw [rm_full] at rw2
    have P2 := hP.same sm2
    have tok : TOk ss (stillI ss.length) := TOk.still ok
    refine ⟨_, rfl, by show 4 ≤ sizeLine; decide, fun c nc => ?_⟩
    obtain ⟨nc1, nc2⟩ := P2.np nc
    refine ⟨p, q, c, _, rfl, P2.new nc, upd_same, nc1, nc2, List.cons_ne_nil _ _, by show 4 < 1000; decide, fun ch H3 hch P3 k3 => ?_⟩
    obtain ⟨chz, rfl⟩ : ∃ z : Int, ch = .int z := by
      rcases List.mem_cons.mp hch with e | hch
      · exact ⟨_, e⟩
      rcases List.mem_cons.mp hch with e | hch
      · exact ⟨_, e⟩
      rcases List.mem_cons.mp hch with e | hch
      · exact ⟨_, e⟩
      · exact ⟨_, List.mem_singleton.mp hch⟩
    have kp3 : Kp p q H H3 := ((Kp.same sm2).new nc).trans k3
    have rw3 : Rws p q R H3 rs (stillI ss.length) := (rw2.same (Same.new (Same.refl H2) nc)).kp nR k3
    have hb3 := (kp3.tk hP) _ _ hb
    refine ⟨_, rfl, b, _, rfl, SqT.of hb3, for_it walk_enumT (fun i σ H' => ∃ (v2 v3 v6 v7 v8 : Option V) (t : List (List Int)), σ = [some (.ref p), some (.ref b), v2, v3, some (.ref R), some (.int chz), v6, v7, v8] ∧ Pt H' p q ∧ Kp p q H H' ∧ Rws p q R H' rs t ∧ TOk ss t)
      ⟨_, _, _, _, _, _, rfl, P3, kp3, rw3, tok⟩ (fun i σ H' _ ⟨_, _, _, _, _, _, _, _, z, _⟩ => SqT.of ((z.tk hP) _ _ hb)) ?_ ?_⟩
    · rintro i x σ H4 H5 hi ⟨v2, v3, v6, v7, v8, t, rfl, P4, k4, rw4, tok4⟩ ⟨T1, x1, x2, rfl, nT, rfl, e1, e2⟩
      cases e1
      obtain ⟨s, es, rfl⟩ := map_get e2
      obtain ⟨s2, s30⟩ := (ok s (List.mem_of_getElem? es)).bnd
      have hi' : i < ss.length := by rw [← lb]; exact hi
      refine ⟨T1, _, rfl, SqT.of upd_same, rfl, _, _, rfl, _, _, rfl, rfl, ?_⟩
      have P5 := P4.new (o := .tup [.int (i : Nat), .int s]) nT
      have k5 := k4.new (o := .tup [.int (i : Nat), .int s]) nT
      have rw5 := rw4.same (Same.new (o := .tup [.int (i : Nat), .int s]) (Same.refl H4) nT)
      generalize upd H4 T1 (.tup [.int (i : Nat), .int s]) = H5 at *
      refine ⟨_, rfl, b, _, rfl, .inr (SqT.of ((k5.tk hP) _ _ hb)), _, rfl, by omega, by omega, ?_⟩
      rw [lb, Int.toNat_natCast]
      refine for_range (lo := 0) (n := ss.length) (fun j σ H' => ∃ (v3 v7 : Option V) (t : List (List Int)), σ = [some (.ref p), some (.ref b), some (.int (i : Nat)), v3, some (.ref R), some (.int chz), some (.int s), v7, v8] ∧ Pt H' p q ∧ Kp p q H H' ∧ Rws p q R H' rs t ∧ TOk ss t)
        ⟨_, _, _, rfl, P5, k5, rw5, tok4⟩ ?_ ?_
      · rintro j σ H6 hj ⟨v3', v7', t, rfl, P6, k6, rw6, tok6⟩
        have e0 : (0 : Int) + (j : Int) = (j : Int) := by omega
        rw [e0]
        refine ⟨_, rfl, _, rfl, rfl, _, rfl, ?_⟩
        refine ite2 (fun eq => ?_) (fun _ => ?_)
        · have ij : i = j := by
            have := V.int.inj (of_decide_eq_true eq)
            omega
          have askS : (1 : Int).natAbs ≤ 10 ^ 30 := by decide
          have askD : i ≠ j → ∃ a b : Nat, ss[j]? = some (a : Int) ∧ ss[i]? = some (b : Int) ∧ ((stp a b : Nat) : Int) = 1 := fun n => absurd ij n
          refine ⟨_, rfl, p, q, _, rfl, P6, by decide, by decide, fun r1 H7 _ _ P7 k7 => ⟨_, rfl, _, _, rfl, rfl, _, rfl, ?_⟩⟩
          refine ite2 (fun _ => ?_) (fun _ => iteF ⟨_, _, t, rfl, P7, k6.trans k7, rw6.kp nR k7, tok6⟩)
          refine ⟨_, rfl, _, rfl, rfl, _, rfl, ?_⟩
          refine ite2 (fun _ => iteT ?_) (fun _ => ?_)
          · have PB := P7
            have kB := k6.trans k7
            have rwB := rw6.kp nR k7
            have sp : (0 : Int) < s := by omega
            have s4 : s.natAbs < 2 ^ 4000 := Nat.lt_of_le_of_lt (show s.natAbs ≤ 10 ^ 30 by omega) (by decide)
            refine ⟨_, rfl, _, rfl, _, rfl, _, _, rfl, rfl, _, rfl, _, rfl, p, q, _, rfl, PB, sp, s4, fun r3 H9 c0 c1 P9 k9 => ⟨by show 6 ≤ sizeLine; decide, fun l nl => ?_⟩⟩
            obtain ⟨nl1, nl2⟩ := P9.np nl
            refine ⟨p, q, l, _, rfl, P9.new nl, upd_same, nl1, nl2, List.cons_ne_nil _ _, by show 6 < 1000; decide, fun v HA hv PA kA => ?_⟩
            obtain ⟨z, rfl, z0, z1⟩ : ∃ z : Int, v = .int z ∧ 0 ≤ z ∧ z ≤ 10 ^ 30 := by
              rcases List.mem_cons.mp hv with e | hv
              · exact ⟨_, e, by decide, by decide⟩
              rcases List.mem_cons.mp hv with e | hv
              · exact ⟨_, e, by decide, by decide⟩
              rcases List.mem_cons.mp hv with e | hv
              · exact ⟨_, e, by decide, by decide⟩
              rcases List.mem_cons.mp hv with e | hv
              · exact ⟨_, e, by decide, by decide⟩
              rcases List.mem_cons.mp hv with e | hv
              · exact ⟨_, e, by show 0 ≤ s - 1; omega, by show s - 1 ≤ _; omega⟩
              · exact ⟨_, List.mem_singleton.mp hv, c0, by omega⟩
            have kZ : Kp p q H HA := ((kB.trans k9).new nl).trans kA
            have rwZ : Rws p q R HA rs t := ((rwB.kp nR k9).same (Same.new (Same.refl H9) nl)).kp nR kA
            have wd : CMulW 1 z := mul_wide (A := 120) (B := 120) (Nat.lt_of_le_of_lt askS (by decide)) (Nat.lt_of_le_of_lt (show z.natAbs ≤ 10 ^ 30 by omega) (by decide)) (by decide)
            have li : i < rs.length := by
              rw [rwZ.len, tok6.len]
              exact hi'
            obtain ⟨a, ea⟩ : ∃ a, rs[i]? = some a := ⟨rs[i], List.getElem?_eq_getElem li⟩
            obtain ⟨r, er, ha⟩ := rwZ.row i a ea
            have rl := tok6.row r (List.mem_of_getElem? er)
            refine ⟨_, _, rfl, rfl, wd, _, rfl, _, _, rfl, rfl, sp, _, rfl, _, rfl, R, _, i, _, rfl, rfl, SqL.of rwZ.top, atI_nat (by rw [List.getElem?_map, ea]; rfl), _, rfl, a, _, j, j, rfl, rfl, ha, ixN_of (by rw [List.length_map]; omega), ?_⟩
            refine ⟨some (.int (j : Int)), some (.int 1), t.set i (r.set j (1 * z % s)), rfl, PA.put (rwZ.off a (List.mem_of_getElem? ea)).2.1 (rwZ.off a (List.mem_of_getElem? ea)).2.2, kZ.put (fr a (List.mem_of_getElem? ea)), ?_, tok6.set er (fun s' hs' => ?_) (fun n => ?_)⟩
            · have := rwZ.set ea (r.set j (1 * z % s))
              rw [List.map_set] at this
              exact this
            · rw [es] at hs'
              cases hs'
              exact ⟨Int.emod_nonneg _ (by omega), Int.emod_lt_of_pos _ sp⟩
            · obtain ⟨x', y', hx', hy', st'⟩ := askD n
              refine ⟨x', y', hx', hy', ?_⟩
              rw [es] at hy'
              cases hy'
              have d1 : ((stp x' y' : Nat) : Int) ∣ 1 * z := by
                rw [st']
                exact Int.dvd_mul_right _ _
              rw [Int.emod_def]
              exact Int.dvd_sub d1 (Int.dvd_trans (Int.natCast_dvd_natCast.mpr (stp_dvd x' y')) (Int.dvd_mul_right _ _))
          · refine ⟨_, rfl, p, q, _, rfl, P7, by decide, by decide, fun r2 H8 _ _ P8 k8 => ⟨rfl, _, rfl, ?_⟩⟩
            refine ite2 (fun _ => ?_) (fun _ => ⟨_, _, t, rfl, P8, (k6.trans k7).trans k8, (rw6.kp nR k7).kp nR k8, tok6⟩)
            have PB := P8
            have kB := (k6.trans k7).trans k8
            have rwB := (rw6.kp nR k7).kp nR k8
            have sp : (0 : Int) < s := by omega
            have s4 : s.natAbs < 2 ^ 4000 := Nat.lt_of_le_of_lt (show s.natAbs ≤ 10 ^ 30 by omega) (by decide)
            refine ⟨_, rfl, _, rfl, _, rfl, _, _, rfl, rfl, _, rfl, _, rfl, p, q, _, rfl, PB, sp, s4, fun r3 H9 c0 c1 P9 k9 => ⟨by show 6 ≤ sizeLine; decide, fun l nl => ?_⟩⟩
            obtain ⟨nl1, nl2⟩ := P9.np nl
            refine ⟨p, q, l, _, rfl, P9.new nl, upd_same, nl1, nl2, List.cons_ne_nil _ _, by show 6 < 1000; decide, fun v HA hv PA kA => ?_⟩
            obtain ⟨z, rfl, z0, z1⟩ : ∃ z : Int, v = .int z ∧ 0 ≤ z ∧ z ≤ 10 ^ 30 := by
              rcases List.mem_cons.mp hv with e | hv
              · exact ⟨_, e, by decide, by decide⟩
              rcases List.mem_cons.mp hv with e | hv
              · exact ⟨_, e, by decide, by decide⟩
              rcases List.mem_cons.mp hv with e | hv
              · exact ⟨_, e, by decide, by decide⟩
              rcases List.mem_cons.mp hv with e | hv
              · exact ⟨_, e, by decide, by decide⟩
              rcases List.mem_cons.mp hv with e | hv
              · exact ⟨_, e, by show 0 ≤ s - 1; omega, by show s - 1 ≤ _; omega⟩
              · exact ⟨_, List.mem_singleton.mp hv, c0, by omega⟩
            have kZ : Kp p q H HA := ((kB.trans k9).new nl).trans kA
            have rwZ : Rws p q R HA rs t := ((rwB.kp nR k9).same (Same.new (Same.refl H9) nl)).kp nR kA
            have wd : CMulW 1 z := mul_wide (A := 120) (B := 120) (Nat.lt_of_le_of_lt askS (by decide)) (Nat.lt_of_le_of_lt (show z.natAbs ≤ 10 ^ 30 by omega) (by decide)) (by decide)
            have li : i < rs.length := by
              rw [rwZ.len, tok6.len]
              exact hi'
            obtain ⟨a, ea⟩ : ∃ a, rs[i]? = some a := ⟨rs[i], List.getElem?_eq_getElem li⟩
            obtain ⟨r, er, ha⟩ := rwZ.row i a ea
            have rl := tok6.row r (List.mem_of_getElem? er)
            refine ⟨_, _, rfl, rfl, wd, _, rfl, _, _, rfl, rfl, sp, _, rfl, _, rfl, R, _, i, _, rfl, rfl, SqL.of rwZ.top, atI_nat (by rw [List.getElem?_map, ea]; rfl), _, rfl, a, _, j, j, rfl, rfl, ha, ixN_of (by rw [List.length_map]; omega), ?_⟩
            refine ⟨some (.int (j : Int)), some (.int 1), t.set i (r.set j (1 * z % s)), rfl, PA.put (rwZ.off a (List.mem_of_getElem? ea)).2.1 (rwZ.off a (List.mem_of_getElem? ea)).2.2, kZ.put (fr a (List.mem_of_getElem? ea)), ?_, tok6.set er (fun s' hs' => ?_) (fun n => ?_)⟩
            · have := rwZ.set ea (r.set j (1 * z % s))
              rw [List.map_set] at this
              exact this
            · rw [es] at hs'
              cases hs'
              exact ⟨Int.emod_nonneg _ (by omega), Int.emod_lt_of_pos _ sp⟩
            · obtain ⟨x', y', hx', hy', st'⟩ := askD n
              refine ⟨x', y', hx', hy', ?_⟩
              rw [es] at hy'
              cases hy'
              have d1 : ((stp x' y' : Nat) : Int) ∣ 1 * z := by
                rw [st']
                exact Int.dvd_mul_right _ _
              rw [Int.emod_def]
              exact Int.dvd_sub d1 (Int.dvd_trans (Int.natCast_dvd_natCast.mpr (stp_dvd x' y')) (Int.dvd_mul_right _ _))
        · have im6 := im.k (k6.tk hP)
          obtain ⟨x, ex, x2, x30⟩ := (ok ss[j] (List.getElem_mem hj)).nat
          obtain ⟨y, ey, y2, y30⟩ := (ok s (List.mem_of_getElem? es)).nat
          have hx : ss[j]? = some (x : Int) := by rw [List.getElem?_eq_getElem hj, ex]
          have hy : ss[i]? = some (y : Int) := by rw [es, ey]
          refine ⟨_, rfl, _, rfl, _, rfl, .ref b, ss, j, i, x, y, rfl, im6, hx, hy, by omega, Nat.lt_of_le_of_lt y30 (by decide), ?_⟩
          have askS : ((stp x y : Nat) : Int).natAbs ≤ 10 ^ 30 := by
            rw [Int.natAbs_natCast]
            exact Nat.le_trans (stp_le (by omega)).2 y30
          have askD : i ≠ j → ∃ a b : Nat, ss[j]? = some (a : Int) ∧ ss[i]? = some (b : Int) ∧ ((stp a b : Nat) : Int) = ((stp x y : Nat) : Int) := fun _ => ⟨x, y, hx, hy, rfl⟩
          refine ⟨_, rfl, p, q, _, rfl, P6, by decide, by decide, fun r1 H7 _ _ P7 k7 => ⟨_, rfl, _, _, rfl, rfl, _, rfl, ?_⟩⟩
          refine ite2 (fun _ => ?_) (fun _ => iteF ⟨_, _, t, rfl, P7, k6.trans k7, rw6.kp nR k7, tok6⟩)
          refine ⟨_, rfl, _, rfl, rfl, _, rfl, ?_⟩
          refine ite2 (fun _ => iteT ?_) (fun _ => ?_)
          · have PB := P7
            have kB := k6.trans k7
            have rwB := rw6.kp nR k7
            have sp : (0 : Int) < s := by omega
            have s4 : s.natAbs < 2 ^ 4000 := Nat.lt_of_le_of_lt (show s.natAbs ≤ 10 ^ 30 by omega) (by decide)
            refine ⟨_, rfl, _, rfl, _, rfl, _, _, rfl, rfl, _, rfl, _, rfl, p, q, _, rfl, PB, sp, s4, fun r3 H9 c0 c1 P9 k9 => ⟨by show 6 ≤ sizeLine; decide, fun l nl => ?_⟩⟩
            obtain ⟨nl1, nl2⟩ := P9.np nl
            refine ⟨p, q, l, _, rfl, P9.new nl, upd_same, nl1, nl2, List.cons_ne_nil _ _, by show 6 < 1000; decide, fun v HA hv PA kA => ?_⟩
            obtain ⟨z, rfl, z0, z1⟩ : ∃ z : Int, v = .int z ∧ 0 ≤ z ∧ z ≤ 10 ^ 30 := by
              rcases List.mem_cons.mp hv with e | hv
              · exact ⟨_, e, by decide, by decide⟩
              rcases List.mem_cons.mp hv with e | hv
              · exact ⟨_, e, by decide, by decide⟩
              rcases List.mem_cons.mp hv with e | hv
              · exact ⟨_, e, by decide, by decide⟩
              rcases List.mem_cons.mp hv with e | hv
              · exact ⟨_, e, by decide, by decide⟩
              rcases List.mem_cons.mp hv with e | hv
              · exact ⟨_, e, by show 0 ≤ s - 1; omega, by show s - 1 ≤ _; omega⟩
              · exact ⟨_, List.mem_singleton.mp hv, c0, by omega⟩
            have kZ : Kp p q H HA := ((kB.trans k9).new nl).trans kA
            have rwZ : Rws p q R HA rs t := ((rwB.kp nR k9).same (Same.new (Same.refl H9) nl)).kp nR kA
            have wd : CMulW ((stp x y : Nat) : Int) z := mul_wide (A := 120) (B := 120) (Nat.lt_of_le_of_lt askS (by decide)) (Nat.lt_of_le_of_lt (show z.natAbs ≤ 10 ^ 30 by omega) (by decide)) (by decide)
            have li : i < rs.length := by
              rw [rwZ.len, tok6.len]
              exact hi'
            obtain ⟨a, ea⟩ : ∃ a, rs[i]? = some a := ⟨rs[i], List.getElem?_eq_getElem li⟩
            obtain ⟨r, er, ha⟩ := rwZ.row i a ea
            have rl := tok6.row r (List.mem_of_getElem? er)
            refine ⟨_, _, rfl, rfl, wd, _, rfl, _, _, rfl, rfl, sp, _, rfl, _, rfl, R, _, i, _, rfl, rfl, SqL.of rwZ.top, atI_nat (by rw [List.getElem?_map, ea]; rfl), _, rfl, a, _, j, j, rfl, rfl, ha, ixN_of (by rw [List.length_map]; omega), ?_⟩
            refine ⟨some (.int (j : Int)), some (.int ((stp x y : Nat) : Int)), t.set i (r.set j (((stp x y : Nat) : Int) * z % s)), rfl, PA.put (rwZ.off a (List.mem_of_getElem? ea)).2.1 (rwZ.off a (List.mem_of_getElem? ea)).2.2, kZ.put (fr a (List.mem_of_getElem? ea)), ?_, tok6.set er (fun s' hs' => ?_) (fun n => ?_)⟩
            · have := rwZ.set ea (r.set j (((stp x y : Nat) : Int) * z % s))
              rw [List.map_set] at this
              exact this
            · rw [es] at hs'
              cases hs'
              exact ⟨Int.emod_nonneg _ (by omega), Int.emod_lt_of_pos _ sp⟩
            · obtain ⟨x', y', hx', hy', st'⟩ := askD n
              refine ⟨x', y', hx', hy', ?_⟩
              rw [es] at hy'
              cases hy'
              have d1 : ((stp x' y' : Nat) : Int) ∣ ((stp x y : Nat) : Int) * z := by
                rw [st']
                exact Int.dvd_mul_right _ _
              rw [Int.emod_def]
              exact Int.dvd_sub d1 (Int.dvd_trans (Int.natCast_dvd_natCast.mpr (stp_dvd x' y')) (Int.dvd_mul_right _ _))
          · refine ⟨_, rfl, p, q, _, rfl, P7, by decide, by decide, fun r2 H8 _ _ P8 k8 => ⟨rfl, _, rfl, ?_⟩⟩
            refine ite2 (fun _ => ?_) (fun _ => ⟨_, _, t, rfl, P8, (k6.trans k7).trans k8, (rw6.kp nR k7).kp nR k8, tok6⟩)
            have PB := P8
            have kB := (k6.trans k7).trans k8
            have rwB := (rw6.kp nR k7).kp nR k8
            have sp : (0 : Int) < s := by omega
            have s4 : s.natAbs < 2 ^ 4000 := Nat.lt_of_le_of_lt (show s.natAbs ≤ 10 ^ 30 by omega) (by decide)
            refine ⟨_, rfl, _, rfl, _, rfl, _, _, rfl, rfl, _, rfl, _, rfl, p, q, _, rfl, PB, sp, s4, fun r3 H9 c0 c1 P9 k9 => ⟨by show 6 ≤ sizeLine; decide, fun l nl => ?_⟩⟩
            obtain ⟨nl1, nl2⟩ := P9.np nl
            refine ⟨p, q, l, _, rfl, P9.new nl, upd_same, nl1, nl2, List.cons_ne_nil _ _, by show 6 < 1000; decide, fun v HA hv PA kA => ?_⟩
            obtain ⟨z, rfl, z0, z1⟩ : ∃ z : Int, v = .int z ∧ 0 ≤ z ∧ z ≤ 10 ^ 30 := by
              rcases List.mem_cons.mp hv with e | hv
              · exact ⟨_, e, by decide, by decide⟩
              rcases List.mem_cons.mp hv with e | hv
              · exact ⟨_, e, by decide, by decide⟩
              rcases List.mem_cons.mp hv with e | hv
              · exact ⟨_, e, by decide, by decide⟩
              rcases List.mem_cons.mp hv with e | hv
              · exact ⟨_, e, by decide, by decide⟩
              rcases List.mem_cons.mp hv with e | hv
              · exact ⟨_, e, by show 0 ≤ s - 1; omega, by show s - 1 ≤ _; omega⟩
              · exact ⟨_, List.mem_singleton.mp hv, c0, by omega⟩
            have kZ : Kp p q H HA := ((kB.trans k9).new nl).trans kA
            have rwZ : Rws p q R HA rs t := ((rwB.kp nR k9).same (Same.new (Same.refl H9) nl)).kp nR kA
            have wd : CMulW ((stp x y : Nat) : Int) z := mul_wide (A := 120) (B := 120) (Nat.lt_of_le_of_lt askS (by decide)) (Nat.lt_of_le_of_lt (show z.natAbs ≤ 10 ^ 30 by omega) (by decide)) (by decide)
            have li : i < rs.length := by
              rw [rwZ.len, tok6.len]
              exact hi'
            obtain ⟨a, ea⟩ : ∃ a, rs[i]? = some a := ⟨rs[i], List.getElem?_eq_getElem li⟩
            obtain ⟨r, er, ha⟩ := rwZ.row i a ea
            have rl := tok6.row r (List.mem_of_getElem? er)
            refine ⟨_, _, rfl, rfl, wd, _, rfl, _, _, rfl, rfl, sp, _, rfl, _, rfl, R, _, i, _, rfl, rfl, SqL.of rwZ.top, atI_nat (by rw [List.getElem?_map, ea]; rfl), _, rfl, a, _, j, j, rfl, rfl, ha, ixN_of (by rw [List.length_map]; omega), ?_⟩
            refine ⟨some (.int (j : Int)), some (.int ((stp x y : Nat) : Int)), t.set i (r.set j (((stp x y : Nat) : Int) * z % s)), rfl, PA.put (rwZ.off a (List.mem_of_getElem? ea)).2.1 (rwZ.off a (List.mem_of_getElem? ea)).2.2, kZ.put (fr a (List.mem_of_getElem? ea)), ?_, tok6.set er (fun s' hs' => ?_) (fun n => ?_)⟩
            · have := rwZ.set ea (r.set j (((stp x y : Nat) : Int) * z % s))
              rw [List.map_set] at this
              exact this
            · rw [es] at hs'
              cases hs'
              exact ⟨Int.emod_nonneg _ (by omega), Int.emod_lt_of_pos _ sp⟩
            · obtain ⟨x', y', hx', hy', st'⟩ := askD n
              refine ⟨x', y', hx', hy', ?_⟩
              rw [es] at hy'
              cases hy'
              have d1 : ((stp x' y' : Nat) : Int) ∣ ((stp x y : Nat) : Int) * z := by
                rw [st']
                exact Int.dvd_mul_right _ _
              rw [Int.emod_def]
              exact Int.dvd_sub d1 (Int.dvd_trans (Int.natCast_dvd_natCast.mpr (stp_dvd x' y')) (Int.dvd_mul_right _ _))
      · rintro σ H6 ⟨v3', v7', t, rfl, P6, k6, rw6, tok6⟩
        exact ⟨_, _, _, _, _, t, rfl, P6, k6, rw6, tok6⟩
    · rintro σ H4 ⟨v2, v3, v6, v7, v8, t, rfl, P4, k4, rw4, tok4⟩
      have lr : rs.length ≤ 100 := by rw [rw4.len, tok4.len]; exact l100
      refine ⟨_, rfl, R, rfl, ⟨_, SqL.of rw4.top⟩, fun d nd => ?_⟩
      obtain ⟨nd1, nd2⟩ := P4.np nd
      have ndR : R ≠ d := fun z => by rw [← z, rw4.top] at nd; cases nd
      refine lc_list (K := K) (a := R) (xs := rs.map V.ref) (fun i H' => Same H4 H' ∧ ∃ vs : List V, H' d = some (.lst vs) ∧ ImAll H' vs ((t.take i).map sD)) ⟨Same.new (Same.refl H4) nd, [], upd_same, .nil⟩ (fun i H' _ z => SqL.of (z.1 _ _ rw4.top)) ?_ ?_
      · rintro i x H5 hx ⟨sm5, vs, hd, ia⟩
        obtain ⟨a, ea, rfl⟩ := map_get hx
        obtain ⟨r, er, ha⟩ := rw4.row i a ea
        have lv : vs.length ≤ 100 := by
          rw [ia.length, List.length_map, List.length_take, tok4.len]
          omega
        refine ⟨rfl, _, rfl, a, _, rfl, .inl ⟨SqL.of (sm5 _ _ ha), fun u nu => ?_⟩⟩
        have hd5 := keepN (o' := .tup (r.map V.int)) hd nu
        have tk : Tk (upd H5 u (.tup (r.map V.int))) (upd (upd H5 u (.tup (r.map V.int))) d (.lst (vs ++ [.ref u]))) := (Tk.refl _).put hd5
        refine ⟨_, hd5, small1000 (by omega), Same.put (Same.new sm5 nu) nd, _, upd_same, ?_⟩
        rw [take_get er, List.map_append]
        exact ((ia.k ((Tk.refl H5).new nu)).k tk).append (.cons (Im.k (.tup upd_same (ImAll.of_ints _ _)) tk) .nil)
      · rintro H5 ⟨sm5, vs, hd, ia⟩
        rw [show t.take (rs.map V.ref).length = t by rw [List.length_map, rw4.len, List.take_length]] at ia
        refine ⟨d, _, rfl, .inl ⟨SqL.of hd, fun u nu => k _ t _ (.tup upd_same (ia.k ((Tk.refl H5).new nu))) tok4 ((P4.same sm5).new nu) ((k4.trans (Kp.same sm5)).new nu)⟩⟩

theorem cok_mostR {ss hs : List Int} (ok : ∀ s ∈ ss, SizeOk s) (h : COk ss hs) : mostI 300 hs := fun n hn => by
  obtain ⟨i, hi, rfl⟩ := List.getElem_of_mem hn
  obtain ⟨s, es⟩ := get_some (show i < ss.length by rw [← h.len]; exact hi)
  obtain ⟨a, b⟩ := h.low i _ s (List.getElem?_eq_getElem hi) es
  obtain ⟨_, c⟩ := (ok s (List.mem_of_getElem? es)).bnd
  exact Nat.lt_of_le_of_lt (show hs[i].natAbs ≤ 10 ^ 30 by omega) (by decide)

def spRun : Sp := fun vs H Q _ => ∃ (m l h : V) (ss : List Int) (ws : List (Nat × Nat)) (prog : List (Nat × Nat × Int)) (hs : List Int), vs = [m, l, h] ∧ Im H m (mD ss ws) ∧ MOk ss ws ∧ Im H l (pD prog) ∧ (∀ d ∈ prog, DOk ss ws d) ∧ prog.length ≤ 1000 ∧ Im H h (sD hs) ∧ COk ss hs ∧
  ∀ (u : V) (H' : Hp), Im H' u (sD (runP ss prog hs)) → Same H H' → Q u H'
def spDone : Sp := fun vs H Q _ => ∃ (m h e : V) (ss : List Int) (ws : List (Nat × Nat)) (d : Nat × Nat × Int) (hs : List Int), vs = [m, h, e] ∧ Im H m (mD ss ws) ∧ MOk ss ws ∧ Im H e (dD d) ∧ DOk ss ws d ∧ Im H h (sD hs) ∧ COk ss hs ∧
  ∀ (u : V) (H' : Hp), Im H' u (sD (doneI ss hs d)) → Same H H' → Q u H'

abbrev sc_runN : List Str := ["machine", "program", "contents", "sizes", "held", "j", "i", "c"]
theorem sc_run : FnScope sc_runN ["machine", "program", "contents"] (defScope s_run) := ⟨rfl, rfl, rfl, by decide +kernel, rfl, by decide +kernel, by decide +kernel⟩
theorem fn_run {f : Addr} {fd : FuncData} (D : DefAt K mg "run" s_run ["machine", "program", "contents"] f fd) (T : Blt mg) : FnOk P w K mg base CX0 1 f fd ["machine", "program", "contents"] spRun := by
  refine D.fn.ok sc_run (fun vs H Q E h => ?_) (fun cdv A outer s H vs Q E hr h => ?_)
  · obtain ⟨m, l, h, ss, ws, prog, hs, rfl, _⟩ := h
    rfl
  · obtain ⟨m, l, h, ss, ws, prog, hs, rfl, imm, ok, iml, dok, p1000, imh, co, k⟩ := h
    refine ⟨_, (pss_cons (ps_set (i := 3) sc_run.nd rfl (.inl rfl) (pe_ix (ix_tupK K rfl) (pv 0) pe_int (fun _ _ => rfl)))
      (pss_cons (ps_set (i := 4) sc_run.nd rfl (.inl rfl) (pe_callTy (call_listK K rfl) (by rfl) T.list (by decide +kernel) (pa_cons (pv 2) pa_nil)))
      (pss_cons (ps_for PassesOwn.never rfl (pi_tupK K rfl (pv 1)) (pg_tup rfl (pgs_cons (pg_name (i := 5) sc_run.nd rfl (.inl rfl)) (pgs_cons (pg_name (i := 6) sc_run.nd rfl (.inl rfl)) (pgs_cons (pg_name (i := 7) sc_run.nd rfl (.inl rfl)) pgs_nil)))) (pss_one (ps_asg (pe_op op_mod (pe_op op_add (pe_ix (ix_listK K rfl) (pv 4) (pv 6) (fun _ _ => rfl)) (pe_op op_mulW (pv 7) (pe_ix (ix_listK K rfl) (pv 4) (pv 5) (fun _ _ => rfl)))) (pe_ix (ix_tupK K rfl) (pv 3) (pv 6) (fun _ _ => rfl))) (pg_sub (pv 4) (pv 6) set_list))))
      (pss_one (ps_ret (pe_callTy (call_tupleK K rfl) (by rfl) T.tuple (by decide +kernel) (pa_cons (pv 4) pa_nil))))))), ?_⟩
    obtain ⟨a, xs, rfl, ha, ia⟩ := id imm.tuple
    obtain ⟨b0, g0, im0⟩ := ia.get (i := 0) rfl
    obtain ⟨b, ys, rfl, hb, ib⟩ := id im0.tuple
    have ey := ib.ints
    subst ey
    obtain ⟨c, zs, rfl, hc, ic⟩ := id iml.tuple
    obtain ⟨e, us, rfl, he, ie⟩ := id imh.tuple
    have ey := ie.ints
    subst ey
    have l6 := ok.six
    refine ⟨_, rfl, a, _, 0, _, rfl, rfl, SqT.of ha, atI_nat (j := 0) g0, ?_⟩
    refine ⟨_, rfl, e, _, rfl, .inr (SqT.of he), fun g ng => ?_⟩
    have sm0 : Same H (upd H g (.lst (hs.map V.int))) := Same.new (Same.refl H) ng
    refine ⟨_, rfl, c, rfl, ⟨_, SqT.of (sm0 _ _ hc)⟩, for_tup (K := K) (a := c) (xs := zs) (fun t σ H' => ∃ v5 v6 v7 : Option V, σ = [some (.ref a), some (.ref c), some (.ref e), some (.ref b), some (.ref g), v5, v6, v7] ∧ Same H H' ∧ H' g = some (.lst ((runP ss (prog.take t) hs).map V.int)))
      ⟨none, none, none, rfl, sm0, upd_same⟩ (fun t σ H' _ ⟨_, _, _, _, z, _⟩ => SqT.of (z _ _ hc)) ?_ ?_⟩
    · rintro t y σ H1 hy ⟨v5, v6, v7, rfl, sm, hg⟩
      have lt : t < prog.length := by
        have := (List.getElem?_eq_some_iff.mp hy).1
        rw [ic.length, List.length_map] at this
        exact this
      obtain ⟨d, hd⟩ : ∃ d, prog[t]? = some d := ⟨prog[t], List.getElem?_eq_getElem lt⟩
      obtain ⟨y', e1, imd⟩ := ic.get (i := t) (d := dD d) (by rw [List.getElem?_map, hd]; rfl)
      rw [hy] at e1
      cases e1
      obtain ⟨q, ws', rfl, hq, iq⟩ := (Same.k sm imd).tuple
      have ew : ws' = [.int (d.1 : Int), .int (d.2.1 : Int), .int d.2.2] := by
        match ws', iq with
        | _, .cons (.int _) (.cons (.int _) (.cons (.int _) .nil)) => rfl
      subst ew
      have dk := dok d (List.mem_of_getElem? hd)
      obtain ⟨dj, di, dn⟩ := ok.wires.low _ dk.wire
      have co' : COk ss (runP ss (prog.take t) hs) := runP_cok ok.size co
      obtain ⟨s, hs'⟩ := get_some (ss := ss) di
      have nx := (runP_next (ss := ss) (hs := hs) hd).trans (doneI_set ok.size co' hs')
      generalize runP ss (prog.take t) hs = fs at *
      have lf := co'.len
      obtain ⟨s2, _⟩ := (ok.size s (List.mem_of_getElem? hs')).bnd
      have hsV : (ss.map V.int)[d.2.1]? = some (V.int s) := by rw [List.getElem?_map, hs']; rfl
      refine ⟨q, _, rfl, SqT.of hq, rfl, _, _, rfl, _, _, rfl, _, _, rfl, rfl, ?_⟩
      refine ⟨_, rfl, _, rfl, g, _, _, _, rfl, rfl, SqL.of hg, atI_nat (getD_get (by omega)), _, rfl, _, rfl, _, rfl, g, _, _, _, rfl, rfl, SqL.of hg, atI_nat (getD_get (by omega)), _, _, rfl, rfl, wide_mul (a := 210) (b := 110) (Nat.lt_of_le_of_lt dk.most (by decide)) (co'.most ok.size _) (by decide) (by decide) (by decide), _, _, rfl, rfl, _, rfl, _, rfl, b, _, _, _, rfl, rfl, SqT.of (sm _ _ hb), atI_nat hsV, _, _, rfl, rfl, (show (0 : Int) < s by omega), ?_⟩
      refine ⟨_, rfl, _, rfl, g, _, _, d.2.1, rfl, rfl, hg, ixN_of (by rw [List.length_map]; omega), some (.int (d.1 : Int)), some (.int (d.2.1 : Int)), some (.int d.2.2), rfl, ?_, ?_⟩
      · intro x o hx
        by_cases e : x = g
        · subst e
          rw [ng] at hx
          cases hx
        · rw [upd_ne e]
          exact sm _ _ hx
      · rw [upd_same, nx, List.map_set]
    · rintro σ H1 ⟨v5, v6, v7, rfl, sm, hg⟩
      have full : prog.take zs.length = prog := by rw [ic.length, List.length_map, List.take_length]
      rw [full] at hg
      refine ⟨_, rfl, g, _, rfl, .inl ⟨SqL.of hg, fun t nt => ?_⟩⟩
      exact k _ _ (.tup upd_same (ImAll.of_ints _ _)) (Same.new sm nt)
theorem k_run {f : Addr} {fd : FuncData} (F : Fun K "run" "run" s_run f fd) : KBinds K fd ["machine", "program", "contents"] ["contents", "program", "machine"] kg321 kg321 := by
  obtain ⟨oc, od, kV, doc, pm, an, cdv, ct, osl, rfl, lk, hcd⟩ := F.ex
  refine ⟨fun s us ws _ hl => ?_, kg321_rel⟩
  match us, ws, hl with
  | [], [a, b, c], _ => exact .of_eq rfl
theorem catJ {K : PySem.W.Frag} {a b : Addr} {xs ys : List V} {H : Hp} {Q : VK} (h : H a = some (.tup xs)) (h2 : H b = some (.tup ys)) (l : xs.length + ys.length ≤ sizeLine) (k : ∀ c H', Same H H' → H' c = some (.tup (xs ++ ys)) → Q (.ref c) H') : rCatA K (.ref a) (.ref b) H Q :=
  ⟨a, b, xs, ys, rfl, rfl, SqT.of h, SqT.of h2, l, fun e => k b H (Same.refl H) (by rw [e, List.nil_append]; exact h2), fun _ e => k a H (Same.refl H) (by rw [e, List.append_nil]; exact h), fun _ _ p n => k p _ (Same.new (Same.refl H) n) upd_same⟩
theorem ImAll.getV {H : Hp} : ∀ {vs : List V} {ds : List PyData} {i : Nat} {v : V}, ImAll H vs ds → vs[i]? = some v → ∃ d, ds[i]? = some d ∧ Im H v d
  | _, _, _, _, .nil, e => by simp at e
  | _, _, 0, _, .cons a _, e => by
    cases Option.some.inj e
    exact ⟨_, rfl, a⟩
  | _, _, i + 1, v, .cons _ b, e => by
    obtain ⟨d, h1, h2⟩ := ImAll.getV (i := i) b (by simpa using e)
    exact ⟨d, by simpa using h1, h2⟩
theorem tab_sh0J : ∀ {t : List (List Int)}, (∀ r ∈ t, r.length ≤ 100 ∧ ∀ n ∈ r, n.natAbs < 2 ^ 1900) → okAll (t.map sD) = true ∧ costAll (t.map sD) ≤ 200000 * t.length ∧ PyData.depthAll (t.map sD) ≤ 1
  | [], _ => ⟨rfl, Nat.le_refl _, Nat.zero_le _⟩
  | r :: t, h => by
    obtain ⟨a, b, c⟩ := tab_sh0J fun x hx => h x (List.mem_cons_of_mem _ hx)
    obtain ⟨l, m⟩ := h r List.mem_cons_self
    refine ⟨?_, ?_, ?_⟩
    · rw [List.map_cons]
      simp only [okAll, sD, okD, okAll_ints r m, a, Bool.and_self]
    · rw [List.map_cons]
      simp only [costAll, sD, NA.cost, costAll_ints, List.length_cons]
      omega
    · rw [List.map_cons]
      simp only [PyData.depthAll, sD, PyData.depth, depth_ints]
      omega
theorem tab_shJ {ss : List Int} {t : List (List Int)} (ok : ∀ s ∈ ss, SizeOk s) (l : ss.length ≤ 6) (h : GT ss t) : Sh (tD t) ∧ NA.cost (tD t) ≤ 2000000 ∧ (tD t).depth ≤ 10 := by
  have q := h.sh ok
  obtain ⟨a, b, c⟩ := tab_sh0J (t := t) fun r hr => ⟨by rw [q.row r hr]; omega, fun n hn => Nat.lt_trans (q.most r hr n hn) (by decide)⟩
  have lt : t.length ≤ 6 := by rw [q.len]; exact l
  have cc : NA.cost (tD t) ≤ 2000000 := by
    simp only [tD, NA.cost]
    omega
  have dd : (tD t).depth ≤ 10 := by
    simp only [tD, PyData.depth]
    omega
  exact ⟨⟨by simp only [tD, okD, a], by omega, by omega⟩, cc, dd⟩
theorem cok_shJ {ss hs : List Int} (ok : ∀ s ∈ ss, SizeOk s) (l : ss.length ≤ 6) (h : COk ss hs) : Sh (sD hs) ∧ NA.cost (sD hs) ≤ 1000000 ∧ (sD hs).depth ≤ 10 := by
  refine ⟨Sh.ints (fun n hn => ?_) (by rw [h.len]; omega), ?_, ?_⟩
  · obtain ⟨i, hi, rfl⟩ := List.getElem_of_mem hn
    obtain ⟨s, es⟩ := get_some (show i < ss.length by rw [← h.len]; exact hi)
    obtain ⟨a, b⟩ := h.low i _ s (List.getElem?_eq_getElem hi) es
    obtain ⟨_, c⟩ := (ok s (List.mem_of_getElem? es)).bnd
    exact Nat.lt_of_le_of_lt (show hs[i].natAbs ≤ 10 ^ 30 by omega) (by decide)
  · have := h.len
    simp only [sD, NA.cost, costAll_ints]
    omega
  · simp only [sD, PyData.depth, depth_ints]
    decide
theorem mach_shJ {ss : List Int} {ws : List (Nat × Nat)} (ok : MOk ss ws) : Sh (mD ss ws) ∧ NA.cost (mD ss ws) ≤ 1000000 ∧ (mD ss ws).depth ≤ 10 := by
  have l1 := ok.six
  have l2 := ok.wires.len l1
  refine ⟨Sh.mach ok, ?_, ?_⟩
  · simp only [mD, sD, NA.cost, costAll, costAll_ints, costAll_wires]
    omega
  · have := depth_wires ws
    simp only [mD, sD, PyData.depth, PyData.depthAll, depth_ints]
    omega
abbrev ShB (d : PyData) : Prop := Sh d ∧ NA.cost d ≤ 2000000 ∧ d.depth ≤ 10
theorem Sh.listN {ds : List PyData} (h : ∀ d ∈ ds, ShB d) (l : ds.length ≤ 6) : Sh (.list ds) := by
  have : ∀ ds : List PyData, (∀ d ∈ ds, ShB d) → okAll ds = true ∧ costAll ds ≤ 2000002 * ds.length ∧ PyData.depthAll ds ≤ 10 := by
    intro ds
    induction ds with
    | nil => intro _; exact ⟨rfl, Nat.le_refl _, Nat.zero_le _⟩
    | cons d ds ih =>
      intro h
      obtain ⟨a, b, c⟩ := ih fun x hx => h x (List.mem_cons_of_mem _ hx)
      obtain ⟨x, y, z⟩ := h d List.mem_cons_self
      refine ⟨?_, ?_, ?_⟩
      · simp only [okAll, x.ok, a, Bool.and_self]
      · simp only [costAll, List.length_cons]
        omega
      · simp only [PyData.depthAll]
        omega
  obtain ⟨a, b, c⟩ := this ds h
  refine ⟨by simp only [okD, a], ?_, ?_⟩
  · simp only [NA.cost]
    omega
  · simp only [PyData.depth]
    omega
theorem shaped_sD (l : List Int) : SeqAt.shaped (sD l) = true := by
  unfold SeqAt.shaped sD
  simp only [PyData.canLay0, PyData.depth, canLay_ints, depth_ints, Bool.true_and]
  decide
theorem eqv_sD : ∀ a b : List Int, PyData.eqv (sD a) (sD b) = decide (a = b) := by
  have : ∀ a b : List Int, PyData.eqvAll (a.map PyData.int) (b.map PyData.int) = decide (a = b) := by
    intro a
    induction a with
    | nil => intro b; cases b with | nil => rfl | cons _ _ => rfl
    | cons x a ih =>
      intro b
      cases b with
      | nil => rfl
      | cons y b =>
        rw [List.map_cons, List.map_cons]
        simp only [PyData.eqvAll, PyData.eqv, ih b, List.cons.injEq]
        by_cases h : x = y <;> by_cases g : a = b <;> simp [h, g]
  intro a b
  unfold sD
  simp only [PyData.eqv]
  exact this a b


def spHowOften : Sp := fun vs H Q _ => ∃ (p n : Nat), vs = [.int p, .int n] ∧ 2 ≤ p ∧ p ≤ 1000 ∧ 0 < n ∧ n < 2 ^ 4000 ∧ Q (.int (val p n : Nat)) H
abbrev sc_how_oftenN : List Str := ["p", "number", "rest", "times"]
theorem sc_how_often : FnScope sc_how_oftenN ["p", "number"] (defScope s_how_often) := ⟨rfl, rfl, rfl, by decide +kernel, rfl, by decide +kernel, by decide +kernel⟩
theorem fn_how_often {f : Addr} {fd : FuncData} (D : DefAt K mg "how_often" s_how_often ["p", "number"] f fd) : FnOk P w K mg base CX0 1 f fd ["p", "number"] spHowOften := by
  refine D.fn.ok sc_how_often (fun vs H Q E h => ?_) (fun cdv A outer s H vs Q E hr h => ?_)
  · obtain ⟨p, n, rfl, _⟩ := h
    rfl
  · obtain ⟨p, n, rfl, p2, p3, n0, n1, k⟩ := h
    refine ⟨_, (pss_cons (ps_set (i := 2) sc_how_often.nd rfl (.inl rfl) (pv 1))
      (pss_cons (ps_set (i := 3) sc_how_often.nd rfl (.inl rfl) pe_int)
      (pss_cons (ps_while PassesOwn.never (pt_cmpR op_eq (pe_op op_mod (pv 2) (pv 0)) pe_int (nomark _)) (pss_cons (ps_aug (i := 2) sc_how_often.nd rfl (.inl rfl) (pv 0) (ip_of iop_fdivW))
      (pss_one (ps_aug (i := 3) sc_how_often.nd rfl (.inl rfl) pe_int ip_add))))
      (pss_one (ps_ret (pv 3)))))), ?_⟩
    refine ⟨_, rfl, ?_⟩
    refine ⟨fun m σ H' => ∃ r t : Nat, σ = [some (.int p), some (.int n), some (.int r), some (.int t)] ∧ 0 < r ∧ r < 2 ^ 4000 ∧ t + val p r = val p n ∧ m = r ∧ H' = H, ⟨n, n, 0, rfl, n0, n1, by omega, rfl, rfl⟩, ?_⟩
    rintro m σ H' ⟨r, t, rfl, r0, r1, hv, rfl, rfl⟩
    refine ⟨_, rfl, _, rfl, _, _, rfl, rfl, (show (0 : Int) < (p : Int) by omega), rfl, _, rfl, ?_⟩
    have em : (m : Int) % (p : Int) = ((m % p : Nat) : Int) := rfl
    refine ite2 (fun h => ?_) (fun h => ?_)
    · have h0 : m % p = 0 := by
        have z := V.int.inj (of_decide_eq_true h)
        rw [em] at z
        exact Int.ofNat.inj z
      refine ⟨fun σ' H'' => ∃ r' t' : Nat, σ' = [some (.int p), some (.int n), some (.int r'), some (.int t')] ∧ 0 < r' ∧ r' < 2 ^ 4000 ∧ t' + val p r' = val p n ∧ r' < m ∧ H'' = H', fun σ' H'' ⟨r', t', e1, e2, e3, e4, e5, e6⟩ => ⟨r', e5, r', t', e1, e2, e3, e4, rfl, e6⟩, ?_⟩
      have vy := val_yes p2 r0 h0
      refine ⟨_, rfl, _, rfl, _, _, rfl, rfl, wide_div (b := 20) (by omega) (by omega) (by decide) (by decide), _, rfl, _, _, rfl, rfl, m / p, t + 1, rfl, pl_pos p2 r0 h0, Nat.lt_of_le_of_lt (Nat.div_le_self m p) r1, by omega, Nat.div_lt_self r0 p2, rfl⟩
    · have h0 : m % p ≠ 0 := fun z => h (decide_eq_true (show V.int ((m : Int) % (p : Int)) = V.int 0 from by rw [em, z]; rfl))
      rw [val_no h0] at hv
      refine ⟨_, rfl, ?_⟩
      rw [show t = val p n by omega]
      exact k
abbrev sc_depthN : List Str := ["machine", "p", "i"]
theorem sc_depth : FnScope sc_depthN ["machine", "p", "i"] (defScope s_depth) := ⟨rfl, rfl, rfl, by decide +kernel, rfl, by decide +kernel, by decide +kernel⟩
theorem fn_depth {f : Addr} {fd : FuncData} (D : DefAt K mg "depth" s_depth ["machine", "p", "i"] f fd) (c_how_often : Cal P w K mg base 1 "how_often" spHowOften) : FnOk P w K mg base CX0 2 f fd ["machine", "p", "i"] spDepth := by
  refine D.fn.ok sc_depth (fun vs H Q E h => ?_) (fun cdv A outer s H vs Q E hr h => ?_)
  · obtain ⟨v, ss, d, p, i, s, rfl, _⟩ := h
    rfl
  · obtain ⟨v, ss, d, p, i, n, rfl, im, p2, p3, hs, n0, n1, k⟩ := h
    refine ⟨_, (pss_one (ps_ret (pe_c c_how_often hr (by decide) rfl (pa_cons (pv 1) (pa_cons (pe_ix (ix_tupK K rfl) (pe_ix (ix_tupK K rfl) (pv 0) pe_int (fun _ _ => rfl)) (pv 2) (fun _ _ => rfl)) pa_nil))))), ?_⟩
    obtain ⟨a, xs, rfl, ha, ia⟩ := im.tuple
    obtain ⟨v1, g1, im1⟩ := ia.get (i := 0) rfl
    obtain ⟨b, ys, rfl, hb, ib⟩ := im1.tuple
    have ey := ib.ints
    subst ey
    have hi : (ss.map V.int)[i]? = some (V.int (n : Int)) := by rw [List.getElem?_map, hs]; rfl
    exact ⟨_, rfl, _, rfl, a, _, 0, _, rfl, rfl, SqT.of ha, atI_nat (j := 0) g1, _, rfl, b, _, i, _, rfl, rfl, SqT.of hb, atI_nat hi, p, n, rfl, p2, p3, n0, n1, k⟩
theorem k_depth {f : Addr} {fd : FuncData} (F : Fun K "depth" "depth" s_depth f fd) : KBinds K fd ["machine", "p", "i"] ["i", "p", "machine"] kg321 kg321 := by
  obtain ⟨oc, od, kV, doc, pm, an, cdv, ct, osl, rfl, lk, hcd⟩ := F.ex
  refine ⟨fun s us ws _ hl => ?_, kg321_rel⟩
  match us, ws, hl with
  | [], [a, b, c], _ => exact .of_eq rfl
abbrev sc_stepN : List Str := ["machine", "j", "i", "sizes"]
theorem sc_step : FnScope sc_stepN ["machine", "j", "i"] (defScope s_step) := ⟨rfl, rfl, rfl, by decide +kernel, rfl, by decide +kernel, by decide +kernel⟩
theorem fn_step {f : Addr} {fd : FuncData} (D : DefAt K mg "step" s_step ["machine", "j", "i"] f fd) (T_gcd : mg "gcd" = some (.builtin "math.gcd")) : FnOk P w K mg base CX0 1 f fd ["machine", "j", "i"] spStep := by
  refine D.fn.ok sc_step (fun vs H Q E h => ?_) (fun cdv A outer s H vs Q E hr h => ?_)
  · obtain ⟨v, ss, d, j, i, a, b, rfl, _⟩ := h
    rfl
  · obtain ⟨v, ss, d, j, i, x, y, rfl, im, hj, hi, y0, y1, k⟩ := h
    refine ⟨_, (pss_cons (ps_set (i := 3) sc_step.nd rfl (.inl rfl) (pe_ix (ix_tupK K rfl) (pv 0) pe_int (fun _ _ => rfl)))
      (pss_one (ps_ret (pe_op op_fdivW (pe_ix (ix_tupK K rfl) (pv 3) (pv 2) (fun _ _ => rfl)) (pe_callBfun cr_gcd rfl T_gcd (pa_cons (pe_ix (ix_tupK K rfl) (pv 3) (pv 2) (fun _ _ => rfl)) (pa_cons (pe_ix (ix_tupK K rfl) (pv 3) (pv 1) (fun _ _ => rfl)) pa_nil))))))), ?_⟩
    obtain ⟨a, xs, rfl, ha, ia⟩ := im.tuple
    obtain ⟨v1, g1, im1⟩ := ia.get (i := 0) rfl
    obtain ⟨b, ys, rfl, hb, ib⟩ := im1.tuple
    have ey := ib.ints
    subst ey
    have hi' : (ss.map V.int)[i]? = some (V.int (y : Int)) := by rw [List.getElem?_map, hi]; rfl
    have hj' : (ss.map V.int)[j]? = some (V.int (x : Int)) := by rw [List.getElem?_map, hj]; rfl
    have gp : 0 < Nat.gcd y x := gcd_pos' y0
    have gl : Nat.gcd y x < 2 ^ 4000 := Nat.lt_of_le_of_lt (Nat.le_of_dvd y0 (Nat.gcd_dvd_left y x)) y1
    refine ⟨_, rfl, a, _, 0, _, rfl, rfl, SqT.of ha, atI_nat (j := 0) g1, ?_⟩
    refine ⟨_, rfl, _, rfl, b, _, i, _, rfl, rfl, SqT.of hb, atI_nat hi', _, rfl, _, rfl, b, _, i, _, rfl, rfl, SqT.of hb, atI_nat hi', _, rfl, _, rfl, b, _, j, _, rfl, rfl, SqT.of hb, atI_nat hj', _, _, rfl, ?_⟩
    exact ⟨_, _, rfl, rfl, wide_div (b := 4000) (by show (0 : Int) < ((Nat.gcd y x : Nat) : Int); omega) (by simpa using gl) (by decide) (by decide), k⟩
theorem k_step {f : Addr} {fd : FuncData} (F : Fun K "step" "step" s_step f fd) : KBinds K fd ["machine", "j", "i"] ["i", "j", "machine"] kg321 kg321 := by
  obtain ⟨oc, od, kV, doc, pm, an, cdv, ct, osl, rfl, lk, hcd⟩ := F.ex
  refine ⟨fun s us ws _ hl => ?_, kg321_rel⟩
  match us, ws, hl with
  | [], [a, b, c], _ => exact .of_eq rfl
abbrev sc_primes_ofN : List Str := ["machine", "sizes", "p", "size"]
theorem sc_primes_of : FnScope sc_primes_ofN ["machine"] (defScope s_primes_of) := ⟨rfl, rfl, rfl, by decide +kernel, rfl, by decide +kernel, by decide +kernel⟩
def cs_primes_of : Scope := match defBody s_primes_of with
  | [_, .Return (some (.Call _ [.ListComp _ _ sc _] _ _)) _] => sc
  | _ => defScope s_primes_of
theorem any_dv (ss : List Int) (p : Int) : (ss.map fun s => decide (V.int (s % p) = V.int 0)).any id = dv ss p := by
  unfold dv
  rw [List.any_map]
  congr 1
  funext s
  exact dec_int0 _ _
theorem fn_primes_of {f aP : Addr} {fd : FuncData} (D : DefAt K mg "primes_of" s_primes_of ["machine"] f fd) (T : Blt mg) (g_P : mg "PRIMES" = some (.ref aP)) (l_P : ∀ H : Hp, SqT K H aP (PR.map V.int)) : FnOk P w K mg base CX0 1 f fd ["machine"] spPrimesOf := by
  refine D.fn.ok sc_primes_of (fun vs H Q E h => ?_) (fun cdv A outer s H vs Q E hr h => ?_)
  · obtain ⟨v, ss, d, rfl, _⟩ := h
    rfl
  · obtain ⟨v, ss, d, rfl, im, len, k⟩ := h
    refine ⟨_, (pss_cons (ps_set (i := 1) sc_primes_of.nd rfl (.inr rfl) (pe_ix (ix_tupK K rfl) (pv 0) pe_int (fun _ _ => rfl)))
      (pss_one (ps_ret (pe_callTy (call_tupleK K rfl) (by rfl) T.tuple (by decide +kernel) (pa_cons (pe_lc (own := [("p", 2)]) rfl sc_primes_of.nd (pi_tupK K rfl (pe_glob rfl g_P (show RelV (.ref aP) (.ref aP) from rfl))) (blkOk_by (N := sc_primes_ofN) (sc := defScope s_primes_of) (by decide +kernel)) (fun _ _ _ _ _ => (pg_name (i := 2) sc_primes_of.nd rfl (by first | exact .inl rfl | exact .inr rfl))) (fun _ _ _ _ _ => (pts_one (pt_val (pe_callB (cr_anyK K rfl rfl) (by rfl) T.any boot_any (pa_cons (pe_lc (own := [("size", 3)]) rfl sc_primes_of.nd (pi_tupK K rfl (pv 1)) (blkOk_by (N := sc_primes_ofN) (sc := relS cs_primes_of (defScope s_primes_of)) (by decide +kernel)) (fun _ _ _ _ _ => (pg_name (i := 3) sc_primes_of.nd rfl (by first | exact .inl rfl | exact .inr rfl))) (fun _ _ _ _ _ => pts_nil) (fun _ _ _ _ _ => (pe_cmpR op_eq (pe_op op_mod (pv 3) (pv 2)) pe_int (nomark _)))) pa_nil))))) (fun _ _ _ _ _ => (pv 2))) pa_nil))))), ?_⟩
    obtain ⟨a, xs, rfl, ha, ia⟩ := im.tuple
    obtain ⟨v1, g1, im1⟩ := ia.get (i := 0) rfl
    obtain ⟨b, ys, rfl, hb, ib⟩ := im1.tuple
    have ey := ib.ints
    subst ey
    refine ⟨_, rfl, a, _, 0, _, rfl, rfl, SqT.of ha, atI_nat (j := 0) g1, ?_⟩
    refine ⟨aP, rfl, ⟨_, l_P H⟩, fun D nD => ?_⟩
    refine lc_tup (K := K) (a := aP) (xs := PR.map V.int) (fun i H' => Same H H' ∧ H' D = some (.lst (((PR.take i).filter (dv ss)).map V.int))) ⟨Same.new (Same.refl H) nD, upd_same⟩ (fun i H' _ _ => l_P H') ?_ ?_
    · rintro i x H' hx ⟨sm, hD⟩
      obtain ⟨p, hp, rfl⟩ := map_get hx
      have p2 : (0 : Int) < p := by
        have e : (PR.all fun p => decide (0 < p)) = true := by decide
        exact of_decide_eq_true (List.all_eq_true.mp e p (List.mem_of_getElem? hp))
      refine ⟨rfl, _, rfl, b, rfl, ⟨_, SqT.of (sm _ _ hb)⟩, fun D2 nD2 => ?_⟩
      refine lc_tup (K := K) (a := b) (xs := ss.map V.int) (fun j H'' => Same H' H'' ∧ H'' D2 = some (.lst (((ss.take j).map fun s => decide (V.int (s % p) = V.int 0)).map V.bl))) ⟨Same.new (Same.refl H') nD2, upd_same⟩ (fun j H'' _ z => SqT.of (z.1 _ _ (sm _ _ hb))) ?_ ?_
      · rintro j y H2 hy ⟨sm2, hD2⟩
        obtain ⟨s, hs, rfl⟩ := map_get hy
        refine ⟨rfl, ?_⟩
        refine ⟨_, rfl, _, rfl, _, _, rfl, rfl, p2, rfl, ?_⟩
        refine ⟨_, hD2, ?_, Same.put sm2 nD2, ?_⟩
        · rw [List.length_map, List.length_map, List.length_take]
          exact small1000 (by omega)
        · rw [upd_same, take_map _ hs, List.map_append]
          rfl
      · rintro H2 ⟨sm2, hD2⟩
        have full : (ss.take (ss.map V.int).length) = ss := by rw [List.length_map, List.take_length]
        rw [full] at hD2
        have hDH : H2 D = some (.lst (((PR.take i).filter (dv ss)).map V.int)) := sm2 _ _ hD
        refine ⟨D2, _, rfl, SqL.of hD2, _, rfl, ?_⟩
        rw [any_dv]
        have tf := take_filter (dv ss) hp
        cases e : dv ss p with
        | true =>
          rw [e, if_pos rfl] at tf
          refine iteT ⟨_, rfl, _, hDH, ?_, Same.put (sm.trans sm2) nD, ?_⟩
          · rw [List.length_map]
            refine Nat.lt_of_le_of_lt (List.length_filter_le _ _) (small1000 ?_)
            rw [List.length_take]
            exact Nat.le_trans (Nat.min_le_right _ _) (by decide)
          · rw [upd_same, tf, List.map_append]
            rfl
        | false =>
          rw [e, if_neg Bool.false_ne_true, List.append_nil] at tf
          exact iteF ⟨sm.trans sm2, by rw [tf]; exact hDH⟩
    · rintro H' ⟨sm, hD⟩
      rw [List.length_map, List.take_length] at hD
      refine ⟨D, _, rfl, .inl ⟨SqL.of hD, fun t nt => ?_⟩⟩
      exact k _ _ (.tup upd_same (ImAll.of_ints _ _)) (Same.new sm nt)
theorem k_primes_of {f : Addr} {fd : FuncData} (F : Fun K "primes_of" "primes_of" s_primes_of f fd) : KBinds K fd ["machine"] ["machine"] kg1 kg1 := by
  obtain ⟨oc, od, kV, doc, pm, an, cdv, ct, osl, rfl, lk, hcd⟩ := F.ex
  refine ⟨fun s us ws _ hl => ?_, kg1_rel⟩
  match us, ws, hl with
  | [], [a], _ => exact .of_eq rfl

def spStillM : Sp := fun vs H Q _ => ∃ (m : V) (ss : List Int) (ws : List (Nat × Nat)), vs = [m] ∧ Im H m (mD ss ws) ∧ MOk ss ws ∧ ∀ (u : V) (H' : Hp), Im H' u (tD (stillI ss.length)) → Same H H' → Q u H'
def spPS : Sp := fun vs H Q _ => ∃ (a b : Addr) (r hs : List Int) (n : Nat), vs = [.ref a, .ref b] ∧ H a = some (.tup (r.map V.int)) ∧ H b = some (.tup (hs.map V.int)) ∧ r.length = n ∧ hs.length = n ∧ n ≤ 100 ∧ mostI 300 r ∧ mostI 300 hs ∧ ∀ H', Same H H' → Q (.int (dot r hs)) H'
def spMovedM : Sp := fun vs H Q _ => ∃ (m y z : V) (ss : List Int) (ws : List (Nat × Nat)) (t : List (List Int)) (hs : List Int), vs = [m, y, z] ∧ Im H m (mD ss ws) ∧ MOk ss ws ∧ Im H y (tD t) ∧ GT ss t ∧ Im H z (sD hs) ∧ COk ss hs ∧
  ∀ (u : V) (H' : Hp), Im H' u (sD (ledI ss t hs)) → Same H H' → Q u H'
def spBothM : Sp := fun vs H Q _ => ∃ (m y z : V) (ss : List Int) (ws : List (Nat × Nat)) (one other : List (List Int)), vs = [m, y, z] ∧ Im H m (mD ss ws) ∧ MOk ss ws ∧ Im H y (tD one) ∧ Im H z (tD other) ∧ GT ss one ∧ GT ss other ∧
  ∀ (u : V) (H' : Hp), Im H' u (tD (bothI ss one other)) → Same H H' → Q u H'
abbrev sc_stillN : List Str := ["machine", "registers", "i", "j"]
theorem sc_still : FnScope sc_stillN ["machine"] (defScope s_still) := ⟨rfl, rfl, rfl, by decide +kernel, rfl, by decide +kernel, by decide +kernel⟩
def cs_still : Scope := match defBody s_still with
  | [_, .Return (some (.Call _ [.ListComp _ _ sc _] _ _)) _] => sc
  | _ => defScope s_still
theorem fn_still {f : Addr} {fd : FuncData} (D : DefAt K mg "still" s_still ["machine"] f fd) (T : Blt mg) : FnOk P w K mg base CX0 1 f fd ["machine"] spStillM := by
  refine D.fn.ok sc_still (fun vs H Q E h => ?_) (fun cdv A outer s H vs Q E hr h => ?_)
  · obtain ⟨m, ss, ws, rfl, _⟩ := h
    rfl
  · obtain ⟨m, ss, ws, rfl, imm, ok, k⟩ := h
    refine ⟨_, (pss_cons (ps_set (i := 1) sc_still.nd rfl (.inr rfl) (pe_callTy cr_rangeV1 (by rfl) T.range (by decide +kernel) (pa_cons (pe_callB (call_lenK K rfl) (by rfl) T.len PySem.boot_len (pa_cons (pe_ix (ix_tupK K rfl) (pv 0) pe_int (fun _ _ => rfl)) pa_nil)) pa_nil)))
      (pss_one (ps_ret (pe_callTy (call_tupleK K rfl) (by rfl) T.tuple (by decide +kernel) (pa_cons (pe_lc (own := [("i", 2)]) rfl sc_still.nd (pi_rngVK K rfl (pv 1)) (blkOk_by (N := sc_stillN) (sc := defScope s_still) (by decide +kernel)) (fun _ _ _ _ _ => (pg_name (i := 2) sc_still.nd rfl (by first | exact .inl rfl | exact .inr rfl))) (fun _ _ _ _ _ => pts_nil) (fun _ _ _ _ _ => (pe_callTy (call_tupleK K rfl) (by rfl) T.tuple (by decide +kernel) (pa_cons (pe_lc (own := [("j", 3)]) rfl sc_still.nd (pi_rngVK K rfl (pv 1)) (blkOk_by (N := sc_stillN) (sc := relS cs_still (defScope s_still)) (by decide +kernel)) (fun _ _ _ _ _ => (pg_name (i := 3) sc_still.nd rfl (by first | exact .inl rfl | exact .inr rfl))) (fun _ _ _ _ _ => pts_nil) (fun _ _ _ _ _ => (pe_ifExp (pt_cmpR op_eq (pv 2) (pv 3) (nomark _)) pe_int pe_int))) pa_nil)))) pa_nil))))), ?_⟩
    obtain ⟨a, xs, rfl, ha, ia⟩ := id imm.tuple
    obtain ⟨b0, g0, im0⟩ := ia.get (i := 0) rfl
    obtain ⟨b, bs, rfl, hb, ib⟩ := id im0.tuple
    have ey := ib.ints
    subst ey
    have l6 := ok.six
    have lb : (ss.map V.int).length = ss.length := List.length_map ..
    refine ⟨_, rfl, a, _, 0, _, rfl, rfl, SqT.of ha, atI_nat (j := 0) g0, b, _, rfl, .inr (SqT.of hb), _, rfl, fun r nr => ?_⟩
    have sm0 : Same H (upd H r (.rng 0 ((ss.map V.int).length : Nat))) := Same.new (Same.refl H) nr
    have hr0 : (upd H r (.rng 0 ((ss.map V.int).length : Nat))) r = some (.rng 0 ((ss.map V.int).length : Nat)) := upd_same
    rw [lb] at sm0 hr0 ⊢
    generalize upd H r (.rng 0 (ss.length : Nat)) = H0 at *
    refine ⟨_, rfl, r, _, _, rfl, hr0, by omega, fun d nd => ?_⟩
    have ndH : H d = none := Same.free sm0 nd
    rw [show ((ss.length : Nat) : Int) - 0 = ((ss.length : Nat) : Int) by omega, Int.toNat_natCast]
    refine lc_range (lo := 0) (n := ss.length) (fun i H' => Same H0 H' ∧ ∃ vs : List V, H' d = some (.lst vs) ∧ ImAll H' vs (((stillI ss.length).take i).map sD)) ⟨Same.new (Same.refl H0) nd, [], upd_same, .nil⟩ ?_ ?_
    · rintro i H2 hi ⟨sm, vs, hd, ia⟩
      have lv : vs.length ≤ 100 := by
        rw [ia.length, List.length_map, List.length_take]
        omega
      refine ⟨rfl, _, rfl, r, _, _, rfl, sm _ _ hr0, by omega, fun g ng => ?_⟩
      rw [show ((ss.length : Nat) : Int) - 0 = ((ss.length : Nat) : Int) by omega, Int.toNat_natCast]
      refine lc_range (lo := 0) (n := ss.length) (fun j H' => Same H2 H' ∧ H' g = some (.lst ((((List.range ss.length).map fun j => if i = j then (1 : Int) else 0).take j).map V.int))) ⟨Same.new (Same.refl H2) ng, upd_same⟩ ?_ ?_
      · rintro j H3 hj ⟨sm3, hg⟩
        have nx : ∀ x : Int, (if i = j then (1 : Int) else 0) = x → ∃ l, H3 g = some (.lst l) ∧ l.length < sizeLine ∧ Same H2 (upd H3 g (.lst (l ++ [V.int x]))) ∧ (upd H3 g (.lst (l ++ [V.int x]))) g = some (.lst ((((List.range ss.length).map fun j => if i = j then (1 : Int) else 0).take (j + 1)).map V.int)) := fun x ex => by
          refine ⟨_, hg, small1000 (by rw [List.length_map, List.length_take]; omega), Same.put sm3 ng, ?_⟩
          rw [upd_same, ← ex, take_get (rm_get _ hj), List.map_append]
          rfl
        refine ⟨rfl, _, rfl, _, rfl, rfl, _, rfl, ite2 (fun h => ?_) (fun h => ?_)⟩
        · have e : i = j := by
            have z := V.int.inj (of_decide_eq_true h)
            omega
          exact nx 1 (if_pos e)
        · have e : i ≠ j := fun z => h (by rw [z]; exact decide_eq_true rfl)
          exact nx 0 (if_neg e)
      · rintro H3 ⟨sm3, hg⟩
        rw [rm_full] at hg
        refine ⟨g, _, rfl, .inl ⟨SqL.of hg, fun u nu => ?_⟩⟩
        have sm4 : Same H2 (upd H3 u (.tup (((List.range ss.length).map fun j => if i = j then (1 : Int) else 0).map V.int))) := Same.new sm3 nu
        have hd4 := sm4 _ _ hd
        have tk : Tk (upd H3 u (.tup (((List.range ss.length).map fun j => if i = j then (1 : Int) else 0).map V.int))) (upd (upd H3 u (.tup (((List.range ss.length).map fun j => if i = j then (1 : Int) else 0).map V.int))) d (.lst (vs ++ [.ref u]))) := (Tk.refl _).put hd4
        refine ⟨_, hd4, small1000 (by omega), Same.put (sm.trans sm4) nd, _, upd_same, ?_⟩
        unfold stillI
        rw [take_get (rm_get _ hi), List.map_append]
        exact ((ia.k (Tk.same sm4)).k tk).append (.cons (Im.k (.tup upd_same (ImAll.of_ints _ _)) tk) .nil)
    · rintro H2 ⟨sm, vs, hd, ia⟩
      unfold stillI at ia
      rw [rm_full] at ia
      refine ⟨d, _, rfl, .inl ⟨SqL.of hd, fun u nu => k _ _ (.tup upd_same (ia.k ((Tk.refl H2).new nu))) (Same.new (sm0.trans sm) nu)⟩⟩
theorem k_still {f : Addr} {fd : FuncData} (F : Fun K "still" "still" s_still f fd) : KBinds K fd ["machine"] ["machine"] kg1 kg1 := by
  obtain ⟨oc, od, kV, doc, pm, an, cdv, ct, osl, rfl, lk, hcd⟩ := F.ex
  refine ⟨fun s us ws _ hl => ?_, kg1_rel⟩
  match us, ws, hl with
  | [], [a], _ => exact .of_eq rfl
abbrev sc_product_sumN : List Str := ["row", "column", "entry", "rest"]
theorem sc_product_sum : FnScope sc_product_sumN ["row", "column"] (defScope s_product_sum) := ⟨rfl, rfl, rfl, by decide +kernel, rfl, by decide +kernel, by decide +kernel⟩
theorem ok_ps {f : Addr} {fd : FuncData} (D : DefAt K mg "product_sum" s_product_sum ["row", "column"] f fd) (T : Blt mg) (T_zip : mg "zip" = none) (T_sum : mg "sum" = none) : Cal P w K mg base 1 "product_sum" spPS := by
  refine cal_of D sc_product_sum (fun vs H Q E h => ?_) (fun cdv A outer s H vs Q E hr h => ?_)
  · obtain ⟨a, b, r, hs, n, rfl, _⟩ := h
    rfl
  · obtain ⟨a, e, r, hs, n, rfl, ha, he, rl, lh, n100, rm, mh, k⟩ := h
    refine ⟨_, (pss_one (ps_ret (pe_callB (cr_sumK K rfl rfl) (by rfl) T_sum (by decide +kernel) (pa_cons (pe_lc (own := [("entry", 2), ("rest", 3)]) rfl sc_product_sum.nd (pi_zipG K rfl .t .t (by rfl) T_zip (pa_cons (pv 0) (pa_cons (pv 1) pa_nil))) (blkOk_by (N := sc_product_sumN) (sc := defScope s_product_sum) (by decide +kernel)) (fun _ _ _ _ _ => (pg_tupK (n := 2) K rfl rfl (pgs_cons (pg_name (i := 2) sc_product_sum.nd rfl (by first | exact .inl rfl | exact .inr rfl)) (pgs_cons (pg_name (i := 3) sc_product_sum.nd rfl (by first | exact .inl rfl | exact .inr rfl)) pgs_nil)))) (fun _ _ _ _ _ => pts_nil) (fun _ _ _ _ _ => (pe_op op_mulW (pv 2) (pv 3)))) pa_nil)))), ?_⟩
    refine ⟨_, rfl, _, rfl, a, e, _, _, rfl, SqS.of_t ha, SqS.of_t he, fun g ng => ?_⟩
    refine lc_it (walk_zipG (n := n) (by rw [List.length_map, List.length_map]; omega)) (fun j H' => Same H H' ∧ H' g = some (.lst (((List.zipWith (fun e h => e * h) r hs).take j).map V.int))) ⟨Same.new (Same.refl H) ng, upd_same⟩ (fun j H' _ z => ⟨SqS.of_t (z.1 _ _ ha), SqS.of_t (z.1 _ _ he)⟩) ?_ ?_
    · rintro j y H4 H5 hj ⟨sm4, hg⟩ ⟨T2, y1, y2, rfl, nT2, rfl, f1, f2⟩
      obtain ⟨en, hen, rfl⟩ := map_get f1
      obtain ⟨ho, hho, rfl⟩ := map_get f2
      have w := mul_wide (rm en (List.mem_of_getElem? hen)) (mh ho (List.mem_of_getElem? hho)) (by decide)
      refine ⟨T2, _, rfl, SqT.of upd_same, rfl, _, _, rfl, _, _, rfl, rfl, rfl, ?_⟩
      refine ⟨_, rfl, _, rfl, _, _, rfl, rfl, w, _, keepN hg nT2, small1000 (by rw [List.length_map, List.length_take]; omega), Same.put (Same.new sm4 nT2) ng, ?_⟩
      rw [upd_same, take_get (zw_get (f := fun e h : Int => e * h) hen hho), List.map_append]
      rfl
    · rintro H4 ⟨sm4, hg⟩
      have full : (List.zipWith (fun e h : Int => e * h) r hs).take n = List.zipWith (fun e h => e * h) r hs := List.take_of_length_le (Nat.le_of_eq (zw_len rl lh))
      rw [full] at hg
      exact ⟨g, _, rfl, SqL.of hg, k H4 sm4⟩
abbrev sc_movedN : List Str := ["machine", "table", "contents", "size", "row"]
theorem sc_moved : FnScope sc_movedN ["machine", "table", "contents"] (defScope s_moved) := ⟨rfl, rfl, rfl, by decide +kernel, rfl, by decide +kernel, by decide +kernel⟩
theorem fn_moved {f : Addr} {fd : FuncData} (D : DefAt K mg "moved" s_moved ["machine", "table", "contents"] f fd) (T : Blt mg) (T_zip : mg "zip" = none) (c_product_sum : Cal P w K mg base 1 "product_sum" spPS) : FnOk P w K mg base CX0 2 f fd ["machine", "table", "contents"] spMovedM := by
  refine D.fn.ok sc_moved (fun vs H Q E h => ?_) (fun cdv A outer s H vs Q E hr h => ?_)
  · obtain ⟨m, y, z, ss, ws, t, hs, rfl, _⟩ := h
    rfl
  · obtain ⟨m, y, z, ss, ws, t, hs, rfl, imm, ok, imy, gt, imz, ch, k⟩ := h
    refine ⟨_, (pss_one (ps_ret (pe_callTy (call_tupleK K rfl) (by rfl) T.tuple (by decide +kernel) (pa_cons (pe_lc (own := [("size", 3), ("row", 4)]) rfl sc_moved.nd (pi_zipG K rfl .t .t (by rfl) T_zip (pa_cons (pe_ix (ix_tupK K rfl) (pv 0) pe_int (fun _ _ => rfl)) (pa_cons (pv 1) pa_nil))) (blkOk_by (N := sc_movedN) (sc := defScope s_moved) (by decide +kernel)) (fun _ _ _ _ _ => (pg_tupK (n := 2) K rfl rfl (pgs_cons (pg_name (i := 3) sc_moved.nd rfl (by first | exact .inl rfl | exact .inr rfl)) (pgs_cons (pg_name (i := 4) sc_moved.nd rfl (by first | exact .inl rfl | exact .inr rfl)) pgs_nil)))) (fun _ _ _ _ _ => pts_nil) (fun _ _ _ _ _ => (pe_op op_mod (pe_c c_product_sum hr (by decide) rfl (pa_cons (pv 4) (pa_cons (pv 2) pa_nil))) (pv 3)))) pa_nil)))), ?_⟩
    obtain ⟨a0, xs, rfl, ha0, ia⟩ := id imm.tuple
    obtain ⟨b0, g0, im0⟩ := ia.get (i := 0) rfl
    obtain ⟨b, bs, rfl, hb, ib⟩ := im0.tuple
    have ey := ib.ints
    subst ey
    obtain ⟨c, cs, rfl, hc, ic⟩ := imy.tuple
    obtain ⟨e, es, rfl, he, ie⟩ := imz.tuple
    have ey := ie.ints
    subst ey
    have tsh := gt.sh ok.size
    have l6 := ok.six
    have lc0 : cs.length = ss.length := by rw [ic.length, List.length_map, tsh.len]
    refine ⟨_, rfl, a0, _, 0, _, rfl, rfl, SqT.of ha0, atI_nat (j := 0) g0, _, rfl, b, c, _, _, rfl, SqS.of_t hb, SqS.of_t hc, fun d nd => ?_⟩
    refine lc_it (walk_zipG (n := ss.length) (by rw [List.length_map]; omega)) (fun i H' => Same H H' ∧ H' d = some (.lst (((ledI ss t hs).take i).map V.int))) ⟨Same.new (Same.refl H) nd, upd_same⟩ (fun i H' _ z => ⟨SqS.of_t (z.1 _ _ hb), SqS.of_t (z.1 _ _ hc)⟩) ?_ ?_
    · rintro i x H2 H3 hi ⟨sm, hd⟩ ⟨T1, x1, x2, rfl, nT, rfl, e2, e1⟩
      obtain ⟨s, hs', rfl⟩ := map_get e2
      obtain ⟨s2, _⟩ := (ok.size s (List.mem_of_getElem? hs')).bnd
      obtain ⟨r, hr'⟩ : ∃ r, t[i]? = some r := ⟨t[i]'(by rw [tsh.len]; exact hi), List.getElem?_eq_getElem _⟩
      obtain ⟨a, e1', ha⟩ := Im.row (H := H) ic hr'
      rw [show cs[i]? = some x2 from e1] at e1'
      cases e1'
      have rl := tsh.row r (List.mem_of_getElem? hr')
      have rm := tsh.most r (List.mem_of_getElem? hr')
      have sm3 : Same H (upd H2 T1 (.tup [.int s, .ref a])) := Same.new sm nT
      have hd3 : (upd H2 T1 (.tup [.int s, .ref a])) d = some (.lst (((ledI ss t hs).take i).map V.int)) := keepN hd nT
      refine ⟨T1, _, rfl, SqT.of upd_same, rfl, _, _, rfl, _, _, rfl, rfl, rfl, ?_⟩
      generalize upd H2 T1 (.tup [.int s, .ref a]) = H3 at *
      refine ⟨_, rfl, _, rfl, a, e, r, hs, ss.length, rfl, sm3 _ _ ha, sm3 _ _ he, rl, ch.len, by omega, rm, cok_mostR ok.size ch, fun H4 sm4 => ?_⟩
      refine ⟨_, rfl, _, _, rfl, rfl, (show (0 : Int) < s by omega), _, sm4 _ _ hd3, small1000 (by rw [List.length_map, List.length_take]; omega), Same.put (sm3.trans sm4) nd, ?_⟩
      unfold ledI
      rw [upd_same, take_get (zw_get (f := fun (row : List Int) (s : Int) => dot row hs % s) hr' hs'), List.map_append]
      rfl
    · rintro H2 ⟨sm, hd⟩
      have full : (ledI ss t hs).take ss.length = ledI ss t hs := List.take_of_length_le (Nat.le_of_eq (zw_len tsh.len rfl))
      rw [full] at hd
      exact ⟨d, _, rfl, .inl ⟨SqL.of hd, fun u nu => k _ _ (.tup upd_same (ImAll.of_ints _ _)) (Same.new sm nu)⟩⟩
theorem k_moved {f : Addr} {fd : FuncData} (F : Fun K "moved" "moved" s_moved f fd) : KBinds K fd ["machine", "table", "contents"] ["contents", "table", "machine"] kg321 kg321 := by
  obtain ⟨oc, od, kV, doc, pm, an, cdv, ct, osl, rfl, lk, hcd⟩ := F.ex
  refine ⟨fun s us ws _ hl => ?_, kg321_rel⟩
  match us, ws, hl with
  | [], [a, b, c], _ => exact .of_eq rfl
abbrev sc_bothN : List Str := ["machine", "one", "other", "columns", "size", "row", "column"]
theorem sc_both : FnScope sc_bothN ["machine", "one", "other"] (defScope s_both) := ⟨rfl, rfl, rfl, by decide +kernel, rfl, by decide +kernel, by decide +kernel⟩
def cs_both : Scope := match defBody s_both with
  | [_, .Return (some (.Call _ [.ListComp _ _ sc _] _ _)) _] => sc
  | _ => defScope s_both
theorem colOf_ints (rows : List (Addr × List Int)) (j : Nat) (h : ∀ r ∈ rows, j < r.2.length) : colOf (rows.map fun r => (r.1, r.2.map V.int)) j = (colI (rows.map (·.2)) j).map V.int := by
  unfold colOf colI
  rw [List.map_map, List.map_map, List.map_map]
  refine List.map_congr_left fun r hr => ?_
  show (r.2.map V.int).getD j .non = V.int (r.2.getD j 0)
  rw [List.getD_eq_getElem?_getD, List.getD_eq_getElem?_getD, List.getElem?_map, List.getElem?_eq_getElem (h r hr)]
  rfl
theorem im_rows {H : Hp} : ∀ {vs : List V} {t : List (List Int)}, ImAll H vs (t.map sD) → ∃ as : List Addr, vs = as.map V.ref ∧ as.length = t.length ∧ ∀ (i : Nat) (a : Addr) (r : List Int), as[i]? = some a → t[i]? = some r → H a = some (.tup (r.map V.int))
  | [], [], _ => ⟨[], rfl, rfl, fun i a r h => by simp at h⟩
  | v :: vs, r :: t, h => by
    cases h with
    | cons a b =>
      obtain ⟨as, e1, e2, e3⟩ := im_rows b
      obtain ⟨x, xs, rfl, hx, ix⟩ := a.tuple
      have ey := ix.ints
      subst ey
      refine ⟨x :: as, by rw [e1]; rfl, by rw [List.length_cons, List.length_cons, e2], fun i a' r' h1 h2 => ?_⟩
      cases i with
      | zero =>
        cases Option.some.inj h1
        cases Option.some.inj h2
        exact hx
      | succ i => exact e3 i a' r' (by simpa using h1) (by simpa using h2)
theorem fn_both {f : Addr} {fd : FuncData} (D : DefAt K mg "both" s_both ["machine", "one", "other"] f fd) (T : Blt mg) (T_zip : mg "zip" = none) (c_product_sum : Cal P w K mg base 1 "product_sum" spPS) : FnOk P w K mg base CX0 2 f fd ["machine", "one", "other"] spBothM := by
  refine D.fn.ok sc_both (fun vs H Q E h => ?_) (fun cdv A outer s H vs Q E hr h => ?_)
  · obtain ⟨m, y, z, ss, ws, one, other, rfl, _⟩ := h
    rfl
  · obtain ⟨m, y, z, ss, ws, one, other, rfl, imm, ok, imy, imz, gt1, gt2, k⟩ := h
    refine ⟨_, (pss_cons (ps_set (i := 3) sc_both.nd rfl (.inr rfl) (pe_listZipS K rfl rfl (by rfl) T.list (by rfl) T_zip (pv 1)))
      (pss_one (ps_ret (pe_callTy (call_tupleK K rfl) (by rfl) T.tuple (by decide +kernel) (pa_cons (pe_lc (own := [("size", 4), ("row", 5)]) rfl sc_both.nd (pi_zipG K rfl .t .t (by rfl) T_zip (pa_cons (pe_ix (ix_tupK K rfl) (pv 0) pe_int (fun _ _ => rfl)) (pa_cons (pv 2) pa_nil))) (blkOk_by (N := sc_bothN) (sc := defScope s_both) (by decide +kernel)) (fun _ _ _ _ _ => (pg_tupK (n := 2) K rfl rfl (pgs_cons (pg_name (i := 4) sc_both.nd rfl (by first | exact .inl rfl | exact .inr rfl)) (pgs_cons (pg_name (i := 5) sc_both.nd rfl (by first | exact .inl rfl | exact .inr rfl)) pgs_nil)))) (fun _ _ _ _ _ => pts_nil) (fun _ _ _ _ _ => (pe_callTy (call_tupleK K rfl) (by rfl) T.tuple (by decide +kernel) (pa_cons (pe_lc (own := [("column", 6)]) rfl sc_both.nd (pi_listK K rfl (pv 3)) (blkOk_by (N := sc_bothN) (sc := relS cs_both (defScope s_both)) (by decide +kernel)) (fun _ _ _ _ _ => (pg_name (i := 6) sc_both.nd rfl (by first | exact .inl rfl | exact .inr rfl))) (fun _ _ _ _ _ => pts_nil) (fun _ _ _ _ _ => (pe_op op_mod (pe_c c_product_sum hr (by decide) rfl (pa_cons (pv 5) (pa_cons (pv 6) pa_nil))) (pv 4)))) pa_nil)))) pa_nil))))), ?_⟩
    obtain ⟨a0, xs, rfl, ha0, ia⟩ := id imm.tuple
    obtain ⟨b0, g0, im0⟩ := ia.get (i := 0) rfl
    obtain ⟨b, bs, rfl, hb, ib⟩ := im0.tuple
    have ey := ib.ints
    subst ey
    obtain ⟨c, cs, rfl, hc, ic⟩ := imy.tuple
    obtain ⟨e, es, rfl, he, ie⟩ := imz.tuple
    have ts1 := gt1.sh ok.size
    have ts2 := gt2.sh ok.size
    have l6 := ok.six
    have l1 := ok.one
    have le0 : es.length = ss.length := by rw [ie.length, List.length_map, ts2.len]
    obtain ⟨as, rfl, las, has⟩ := im_rows ic
    have lz : (as.zip one).length = ss.length := by rw [List.length_zip, las, ts1.len]; omega
    have rowsEq : ((as.zip one).map fun r => (r.1, r.2.map V.int)).map (fun r => V.ref r.1) = as.map V.ref := by
      rw [List.map_map]
      have : (as.zip one).map (·.1) = as := List.map_fst_zip (by omega)
      conv => rhs; rw [← this]
      rw [List.map_map]
      rfl
    refine ⟨_, rfl, c, (as.zip one).map (fun r => (r.1, r.2.map V.int)), ss.length, rfl, by rw [rowsEq]; exact SqT.of hc, fun r hr => ?_, by omega, by omega, ?_, by rw [List.length_map, lz]; exact l6, fun cl l H1 lcl sm1 nl ncl hl hcl => ?_⟩
    · obtain ⟨x, hx, rfl⟩ := List.mem_map.mp hr
      obtain ⟨i, hi, rfl⟩ := List.getElem_of_mem hx
      have hi' : i < one.length := by rw [ts1.len]; omega
      rw [List.getElem_zip]
      refine ⟨SqT.of (has i _ _ (List.getElem?_eq_getElem _) (List.getElem?_eq_getElem hi')), ?_⟩
      show ((one[i]).map V.int).length = _
      rw [List.length_map]
      exact ts1.row _ (List.getElem_mem hi')
    · intro z
      have := congrArg List.length z
      rw [List.length_map, lz, List.length_nil] at this
      omega
    have hcol : ∀ (j : Nat) (b : Addr), cl[j]? = some b → H1 b = some (.tup ((colI one j).map V.int)) := fun j b hj => by
      have lj : j < ss.length := by rw [← lcl]; exact (List.getElem?_eq_some_iff.mp hj).1
      rw [hcl j b hj, colOf_ints _ _ fun r hr => ?_, List.map_snd_zip (by omega)]
      obtain ⟨i, hi, rfl⟩ := List.getElem_of_mem hr
      rw [List.getElem_zip]
      show j < (one[i]'(by rw [ts1.len]; omega)).length
      rw [ts1.row _ (List.getElem_mem _)]
      exact lj
    refine ⟨_, rfl, a0, _, 0, _, rfl, rfl, SqT.of (sm1 _ _ ha0), atI_nat (j := 0) g0, _, rfl, b, e, _, _, rfl, SqS.of_t (sm1 _ _ hb), SqS.of_t (sm1 _ _ he), fun D nD => ?_⟩
    have nDH : H D = none := Same.free sm1 nD
    refine lc_it (walk_zipG (n := ss.length) (by rw [List.length_map]; omega)) (fun i H' => Same H1 H' ∧ ∃ vs : List V, H' D = some (.lst vs) ∧ ImAll H' vs (((bothI ss one other).take i).map sD)) ⟨Same.new (Same.refl H1) nD, [], upd_same, .nil⟩ (fun i H' _ z => ⟨SqS.of_t (z.1 _ _ (sm1 _ _ hb)), SqS.of_t (z.1 _ _ (sm1 _ _ he))⟩) ?_ ?_
    · rintro i x H2 H3 hi ⟨sm, vs, hD, iv⟩ ⟨T1, x1, x2, rfl, nT, rfl, e2, e1⟩
      have lv : vs.length ≤ 100 := by
        rw [iv.length, List.length_map, List.length_take]
        omega
      obtain ⟨s, hs', rfl⟩ := map_get e2
      obtain ⟨s2, _⟩ := (ok.size s (List.mem_of_getElem? hs')).bnd
      obtain ⟨r, hr'⟩ : ∃ r, other[i]? = some r := ⟨other[i]'(by rw [ts2.len]; exact hi), List.getElem?_eq_getElem _⟩
      obtain ⟨a, e1', ha⟩ := Im.row (H := H) ie hr'
      rw [show es[i]? = some x2 from e1] at e1'
      cases e1'
      have rl := ts2.row r (List.mem_of_getElem? hr')
      have rm := ts2.most r (List.mem_of_getElem? hr')
      have sm3 : Same H1 (upd H2 T1 (.tup [.int s, .ref a])) := Same.new sm nT
      have iv3 := iv.k ((Tk.refl H2).new (o := .tup [.int s, .ref a]) nT)
      have hD3 : (upd H2 T1 (.tup [.int s, .ref a])) D = some (.lst vs) := keepN hD nT
      refine ⟨T1, _, rfl, SqT.of upd_same, rfl, _, _, rfl, _, _, rfl, rfl, rfl, ?_⟩
      generalize upd H2 T1 (.tup [.int s, .ref a]) = H3 at *
      refine ⟨_, rfl, l, rfl, ⟨_, SqL.of (sm3 _ _ hl)⟩, fun g ng => ?_⟩
      refine lc_list (K := K) (a := l) (xs := cl.map V.ref) (fun j H' => Same H3 H' ∧ H' g = some (.lst ((((List.range ss.length).map fun j => dot r (colI one j) % s).take j).map V.int))) ⟨Same.new (Same.refl H3) ng, upd_same⟩ (fun j H' _ z => SqL.of (z.1 _ _ (sm3 _ _ hl))) ?_ ?_
      · rintro j y H4 hy ⟨sm4, hg⟩
        obtain ⟨cb, hcb, rfl⟩ := map_get hy
        have lj : j < ss.length := by rw [← lcl]; exact (List.getElem?_eq_some_iff.mp hcb).1
        have sm4H := (sm1.trans sm3).trans sm4
        have cl' : (colI one j).length = ss.length := by unfold colI; rw [List.length_map, ts1.len]
        have cm : mostI 300 (colI one j) := fun n hn => by
          unfold colI at hn
          obtain ⟨rr, hrr, rfl⟩ := List.mem_map.mp hn
          exact getD_most (ts1.most rr hrr) j
        refine ⟨rfl, _, rfl, _, rfl, a, cb, r, colI one j, ss.length, rfl, sm4H _ _ ha, (sm3.trans sm4) _ _ (hcol j cb hcb), rl, cl', by omega, rm, cm, fun H5 sm5 => ?_⟩
        refine ⟨_, rfl, _, _, rfl, rfl, (show (0 : Int) < s by omega), _, sm5 _ _ hg, small1000 (by rw [List.length_map, List.length_take]; omega), Same.put (sm4.trans sm5) ng, ?_⟩
        rw [upd_same, take_get (rm_get (fun j => dot r (colI one j) % s) lj), List.map_append]
        rfl
      · rintro H4 ⟨sm4, hg⟩
        rw [List.length_map, lcl, rm_full] at hg
        refine ⟨g, _, rfl, .inl ⟨SqL.of hg, fun u nu => ?_⟩⟩
        have sm5 : Same H3 (upd H4 u (.tup (((List.range ss.length).map fun j => dot r (colI one j) % s).map V.int))) := Same.new sm4 nu
        have hD5 := sm5 _ _ hD3
        generalize hU : upd H4 u (.tup (((List.range ss.length).map fun j => dot r (colI one j) % s).map V.int)) = H5 at *
        have hu5 : H5 u = some (.tup (((List.range ss.length).map fun j => dot r (colI one j) % s).map V.int)) := by rw [← hU]; exact upd_same
        have tk : Tk H5 (upd H5 D (.lst (vs ++ [.ref u]))) := (Tk.refl _).put hD5
        refine ⟨_, hD5, small1000 (by omega), Same.put (sm3.trans sm5) nD, vs ++ [.ref u], upd_same, ?_⟩
        rw [take_get (both_get hr' hs'), List.map_append]
        exact ((iv3.k (Tk.same sm5)).k tk).append (.cons (Im.k (.tup hu5 (ImAll.of_ints _ _)) tk) .nil)
    · rintro H2 ⟨sm, vs, hD, iv⟩
      have full : (bothI ss one other).take ss.length = bothI ss one other := List.take_of_length_le (Nat.le_of_eq (both_sq gt2.sq).len)
      rw [full] at iv
      refine ⟨D, _, rfl, .inl ⟨SqL.of hD, fun u nu => ?_⟩⟩
      exact k _ _ (.tup upd_same (iv.k ((Tk.refl H2).new nu))) (Same.new (sm1.trans sm) nu)
theorem k_both {f : Addr} {fd : FuncData} (F : Fun K "both" "both" s_both f fd) : KBinds K fd ["machine", "one", "other"] ["other", "one", "machine"] kg321 kg321 := by
  obtain ⟨oc, od, kV, doc, pm, an, cdv, ct, osl, rfl, lk, hcd⟩ := F.ex
  refine ⟨fun s us ws _ hl => ?_, kg321_rel⟩
  match us, ws, hl with
  | [], [a, b, c], _ => exact .of_eq rfl

def spTabOfM : Sp := fun vs H Q _ => ∃ (m y : V) (ss : List Int) (ws : List (Nat × Nat)) (l : List (Nat × Nat × Int)), vs = [m, y] ∧ Im H m (mD ss ws) ∧ MOk ss ws ∧ Im H y (pD l) ∧ (∀ d ∈ l, DOk ss ws d) ∧ l.length ≤ 1100 ∧
  ∀ (u : V) (H' : Hp), Im H' u (tD (tabI ss l)) → Same H H' → Q u H'
def spDeedTab : Sp := fun vs H Q _ => ∃ (m y : V) (ss : List Int) (ws : List (Nat × Nat)) (d : Nat × Nat × Int), vs = [m, y] ∧ Im H m (mD ss ws) ∧ MOk ss ws ∧ Im H y (dD d) ∧ DOk ss ws d ∧
  ∀ (u : V) (H' : Hp), Im H' u (tD (deedI ss d)) → Same H H' → Q u H'
def kg21b {α : Type} : List α → List α → List α
  | [], [a, b] => [b, a]
  | _, _ => []
theorem kg21b_rel {vs zs : List V} {us ws : List Value} (h1 : Vals vs us) (h2 : Vals zs ws) : Vals (kg21b vs zs) (kg21b us ws) := by
  cases h1 with
  | cons _ _ => exact .nil
  | nil =>
    cases h2 with
    | nil => exact .nil
    | cons a h2 =>
      cases h2 with
      | nil => exact .nil
      | cons b h2 =>
        cases h2 with
        | nil => exact .cons b (.cons a .nil)
        | cons _ _ => exact .nil
abbrev sc_table_ofN : List Str := ["machine", "program", "sizes", "rows", "j", "i", "c", "row", "kept", "given"]
theorem sc_table_of : FnScope sc_table_ofN ["machine", "program"] (defScope s_table_of) := ⟨rfl, rfl, rfl, by decide +kernel, rfl, by decide +kernel, by decide +kernel⟩
theorem fn_table_of {f : Addr} {fd : FuncData} (D : DefAt K mg "table_of" s_table_of ["machine", "program"] f fd) (T : Blt mg) (T_zip : mg "zip" = none) (c_still : Cal P w K mg base 1 "still" spStillM) : FnOk P w K mg base CX0 2 f fd ["machine", "program"] spTabOfM := by
  refine D.fn.ok sc_table_of (fun vs H Q E h => ?_) (fun cdv A outer s H vs Q E hr h => ?_)
  · obtain ⟨m, y, ss, ws, l, rfl, _⟩ := h
    rfl
  · obtain ⟨m, y, ss, wsM, l, rfl, imm, mok, imy, dok, l1100, k⟩ := h
    have ok := mok.size
    have l100 : ss.length ≤ 100 := Nat.le_trans mok.six (by decide)
    have dl : ∀ d ∈ l, DIn ss d := fun d hd => (dok d hd).din mok
    have dm : ∀ d ∈ l, d.2.2.natAbs ≤ 10 ^ 60 := fun d hd => (dok d hd).most
    refine ⟨_, (pss_cons (ps_set (i := 2) sc_table_of.nd rfl (.inr rfl) (pe_ix (ix_tupK K rfl) (pv 0) pe_int (fun _ _ => rfl)))
      (pss_cons (ps_setLc (i := 3) (own := [("row", 7)]) rfl sc_table_of.nd rfl rfl (sw_true rfl rfl rfl (by decide +kernel)) (pi_tupK K rfl (pe_c c_still hr (by decide) rfl (pa_cons (pv 0) pa_nil))) (blkOk_by (N := sc_table_ofN) (sc := defScope s_table_of) (by decide +kernel)) (fun _ _ _ _ _ => (pg_name (i := 7) sc_table_of.nd rfl (by first | exact .inl rfl | exact .inr rfl))) (fun _ _ _ _ _ => pts_nil) (fun _ _ _ _ _ => (pe_callTy (call_listK K rfl) (by rfl) T.list (by decide +kernel) (pa_cons (pv 7) pa_nil))))
      (pss_cons (ps_for PassesOwn.never rfl (pi_tupK K rfl (pv 1)) (pg_tup rfl (pgs_cons (pg_name (i := 4) sc_table_of.nd rfl (.inl rfl)) (pgs_cons (pg_name (i := 5) sc_table_of.nd rfl (.inr rfl)) (pgs_cons (pg_name (i := 6) sc_table_of.nd rfl (.inr rfl)) pgs_nil)))) (pss_one (ps_asg (pe_lc (own := [("kept", 8), ("given", 9)]) rfl sc_table_of.nd (pi_zipG K rfl .l .l (by rfl) T_zip (pa_cons (pe_ix (ix_listK K rfl) (pv 3) (pv 5) (fun _ _ => rfl)) (pa_cons (pe_ix (ix_listK K rfl) (pv 3) (pv 4) (fun _ _ => rfl)) pa_nil))) (blkOk_by (N := sc_table_ofN) (sc := defScope s_table_of) (by decide +kernel)) (fun _ _ _ _ _ => (pg_tupK (n := 2) K rfl rfl (pgs_cons (pg_name (i := 8) sc_table_of.nd rfl (by first | exact .inl rfl | exact .inr rfl)) (pgs_cons (pg_name (i := 9) sc_table_of.nd rfl (by first | exact .inl rfl | exact .inr rfl)) pgs_nil)))) (fun _ _ _ _ _ => pts_nil) (fun _ _ _ _ _ => (pe_op op_mod (pe_op op_add (pv 8) (pe_op op_mulW (pv 6) (pv 9))) (pe_ix (ix_tupK K rfl) (pv 2) (pv 5) (fun _ _ => rfl))))) (pg_sub (pv 3) (pv 5) set_list))))
      (pss_one (ps_ret (pe_callTy (call_tupleK K rfl) (by rfl) T.tuple (by decide +kernel) (pa_cons (pe_lc (own := [("row", 7)]) rfl sc_table_of.nd (pi_listK K rfl (pv 3)) (blkOk_by (N := sc_table_ofN) (sc := defScope s_table_of) (by decide +kernel)) (fun _ _ _ _ _ => (pg_name (i := 7) sc_table_of.nd rfl (by first | exact .inl rfl | exact .inr rfl))) (fun _ _ _ _ _ => pts_nil) (fun _ _ _ _ _ => (pe_callTy (call_tupleK K rfl) (by rfl) T.tuple (by decide +kernel) (pa_cons (pv 7) pa_nil)))) pa_nil))))))), ?_⟩
    obtain ⟨a0, xs0, rfl, ha0, ia0⟩ := id imm.tuple
    obtain ⟨b0, g0, im0⟩ := ia0.get (i := 0) rfl
    obtain ⟨b, bs, rfl, hb, ib⟩ := id im0.tuple
    have ey := ib.ints
    subst ey
    obtain ⟨c, cs, rfl, hc, ic⟩ := imy.tuple
    refine ⟨_, rfl, a0, _, 0, _, rfl, rfl, SqT.of ha0, atI_nat (j := 0) g0, ?_⟩
    refine ⟨_, rfl, _, ss, wsM, rfl, imm, mok, fun u H1 iu sm1 => ?_⟩
    obtain ⟨e, es, rfl, he, ie⟩ := iu.tuple
    have el : es.length = ss.length := by rw [ie.length, List.length_map, (still_sq _).len]
    refine ⟨e, rfl, ⟨_, SqT.of he⟩, fun R nR => ?_⟩
    have nRH : H R = none := Same.free sm1 nR
    have nRb : R ≠ b := fun z => by rw [z, sm1 _ _ hb] at nR; cases nR
    refine lc_tup (K := K) (a := e) (xs := es) (fun i H' => Same H1 H' ∧ ∃ rs : List Addr, Rws b b R H' rs ((stillI ss.length).take i) ∧ ∀ a ∈ rs, H1 a = none) ⟨Same.new (Same.refl H1) nR, [], ⟨upd_same, rfl, fun i a z => by simp at z, List.nodup_nil, fun a z => by cases z⟩, fun a z => by cases z⟩ (fun i H' _ z => SqT.of (z.1 _ _ he)) ?_ ?_
    · rintro i v H2 hv ⟨sm, rs, rw1, fr⟩
      have li : i < ss.length := by rw [← el]; exact (List.getElem?_eq_some_iff.mp hv).1
      obtain ⟨r, hr', rl⟩ := (still_sq ss.length).get li
      obtain ⟨a, e1, ha⟩ := Im.row ie hr'
      rw [hv] at e1
      cases e1
      have lr : rs.length ≤ 100 := by
        rw [rw1.len, List.length_take]
        omega
      refine ⟨rfl, _, rfl, a, _, rfl, .inr (SqT.of (sm _ _ ha)), fun g ng => ?_⟩
      have sg : Same H2 (upd H2 g (.lst (r.map V.int))) := Same.new (Same.refl H2) ng
      have rw3 := rw1.same sg
      have gR : g ≠ R := fun z => by rw [z, rw1.top] at ng; cases ng
      have gN : g ∉ rs := fun m => by
        obtain ⟨i, hi, e⟩ := List.getElem_of_mem m
        obtain ⟨r, _, h2⟩ := rw1.row i g (by rw [List.getElem?_eq_getElem hi, e])
        rw [h2] at ng
        cases ng
      refine ⟨_, rw3.top, small1000 (by rw [List.length_map]; omega), Same.put (sm.trans sg) nR, rs ++ [g], ?_, fun a ha => ?_⟩
      · rw [take_get hr']
        have hbg : g ≠ b := fun z => by rw [z, (sm1.trans sm) _ _ hb] at ng; cases ng
        exact rw3.put ⟨nRb, nRb⟩ upd_same gN ⟨gR, hbg, hbg⟩
      · rcases List.mem_append.mp ha with ha | ha
        · exact fr a ha
        · rw [List.mem_singleton.mp ha]
          exact Same.free sm ng
    rintro H2 ⟨sm2, rs, rw2, fr⟩
    rw [show (stillI ss.length).take es.length = stillI ss.length by rw [el]; exact List.take_of_length_le (Nat.le_of_eq (still_sq _).len)] at rw2
    have s02 := sm1.trans sm2
    refine ⟨_, rfl, c, rfl, ⟨_, SqT.of (s02 _ _ hc)⟩, for_tup (K := K) (a := c) (xs := cs) (fun t σ H' => ∃ (v3 v4 v5 : Option V) (rs : List Addr), σ = [some (.ref a0), some (.ref c), some (.ref b), some (.ref R), v3, v4, v5, none, none, none] ∧ Same H H' ∧ Rws b b R H' rs (tabI ss (l.take t)) ∧ ∀ a ∈ rs, H a = none)
      ⟨none, none, none, rs, rfl, s02, rw2, fun a ha => Same.free sm1 (fr a ha)⟩ (fun t σ H' _ ⟨_, _, _, _, _, z, _⟩ => SqT.of (z _ _ hc)) ?_ ?_⟩
    · rintro t y σ H3 hy ⟨v3, v4, v5, rs, rfl, sm3, rw3, fr3⟩
      have lt : t < l.length := by
        have := (List.getElem?_eq_some_iff.mp hy).1
        rw [ic.length, List.length_map] at this
        exact this
      obtain ⟨d, hd⟩ : ∃ d, l[t]? = some d := ⟨l[t], List.getElem?_eq_getElem lt⟩
      have dm' := List.mem_of_getElem? hd
      have dd := dl d dm'
      obtain ⟨y', e1, imd⟩ := ic.get (i := t) (d := dD d) (by rw [List.getElem?_map, hd]; rfl)
      rw [hy] at e1
      cases e1
      obtain ⟨e2, ws, rfl, he2, ie2⟩ := (Same.k sm3 imd).tuple
      have ew : ws = [.int (d.1 : Int), .int (d.2.1 : Int), .int d.2.2] := by
        match ws, ie2 with
        | _, .cons (.int _) (.cons (.int _) (.cons (.int _) .nil)) => rfl
      subst ew
      have gt := tabI_gt ok (l := l.take t) fun x hx => dl x (List.mem_of_mem_take hx)
      have lrs : rs.length = ss.length := by rw [rw3.len, gt.sq.len]
      obtain ⟨a1, ea1⟩ : ∃ a, rs[d.2.1]? = some a := ⟨rs[d.2.1]'(by rw [lrs]; exact dd.li), List.getElem?_eq_getElem _⟩
      obtain ⟨a2, ea2⟩ : ∃ a, rs[d.1]? = some a := ⟨rs[d.1]'(by rw [lrs]; exact dd.lj), List.getElem?_eq_getElem _⟩
      obtain ⟨r1, er1, ha1⟩ := rw3.row _ _ ea1
      obtain ⟨r2, er2, ha2⟩ := rw3.row _ _ ea2
      have l1 := gt.sq.row r1 (List.mem_of_getElem? er1)
      have l2 := gt.sq.row r2 (List.mem_of_getElem? er2)
      have m2 := (gt.sh ok).most r2 (List.mem_of_getElem? er2)
      obtain ⟨s, es⟩ := get_some dd.li
      obtain ⟨s2, s30⟩ := (ok s (List.mem_of_getElem? es)).bnd
      have esV : (ss.map V.int)[d.2.1]? = some (.int s) := by rw [List.getElem?_map, es]; rfl
      refine ⟨e2, _, rfl, SqT.of he2, rfl, _, _, rfl, _, _, rfl, _, _, rfl, rfl, ?_⟩
      refine ⟨_, rfl, _, rfl, R, _, d.2.1, _, rfl, rfl, SqL.of rw3.top, atI_nat (by rw [List.getElem?_map, ea1]; rfl), _, rfl, _, rfl, R, _, d.1, _, rfl, rfl, SqL.of rw3.top, atI_nat (by rw [List.getElem?_map, ea2]; rfl), a1, a2, _, _, rfl, SqS.of_l ha1, SqS.of_l ha2, fun g ng => ?_⟩
      refine lc_it (walk_zipG (n := ss.length) (by rw [List.length_map, List.length_map, l1, l2, Nat.min_self])) (fun i H' => Same H3 H' ∧ H' g = some (.lst (((rowI s d.2.2 r1 r2).take i).map V.int))) ⟨Same.new (Same.refl H3) ng, upd_same⟩ (fun i H' _ z => ⟨SqS.of_l (z.1 _ _ ha1), SqS.of_l (z.1 _ _ ha2)⟩) ?_ ?_
      · rintro i x H4 H5 hi ⟨sm4, hg⟩ ⟨T1, x1, x2, rfl, nT, rfl, f1, f2⟩
        obtain ⟨n1, hn1, rfl⟩ := map_get f1
        obtain ⟨n2, hn2, rfl⟩ := map_get f2
        have wd : CMulW d.2.2 n2 := mul_wide (A := 200) (B := 300) (Nat.lt_of_le_of_lt (dm d dm') (by decide)) (m2 n2 (List.mem_of_getElem? hn2)) (by decide)
        refine ⟨T1, _, rfl, SqT.of upd_same, rfl, _, _, rfl, _, _, rfl, rfl, rfl, ?_⟩
        refine ⟨_, rfl, _, rfl, _, rfl, _, _, rfl, rfl, wd, _, _, rfl, rfl, _, rfl, _, rfl, b, _, d.2.1, _, rfl, rfl, SqT.of (Same.new (sm3.trans sm4) nT _ _ hb), atI_nat esV, _, _, rfl, rfl, (show (0 : Int) < s by omega), _, keepN hg nT, small1000 (by rw [List.length_map, List.length_take]; omega), Same.put (Same.new sm4 nT) ng, ?_⟩
        rw [upd_same, take_get (show (rowI s d.2.2 r1 r2)[i]? = some ((n1 + d.2.2 * n2) % s) from zw_get (f := fun item mate => (item + d.2.2 * mate) % s) hn1 hn2), List.map_append]
        rfl
      · rintro H4 ⟨sm4, hg⟩
        rw [List.take_of_length_le (Nat.le_of_eq (rowI_len l1 l2))] at hg
        have rw4 := rw3.same sm4
        have gR : g ≠ R := fun z => by rw [z, rw3.top] at ng; cases ng
        have gb : g ≠ b := fun z => by rw [z, sm3 _ _ hb] at ng; cases ng
        have gN : g ∉ rs := fun m => by
          obtain ⟨i, hi, e⟩ := List.getElem_of_mem m
          obtain ⟨r, _, h2⟩ := rw3.row i g (by rw [List.getElem?_eq_getElem hi, e])
          rw [h2] at ng
          cases ng
        refine ⟨_, rfl, _, rfl, R, _, _, d.2.1, rfl, rfl, rw4.top, ixN_of (by rw [List.length_map, lrs]; exact dd.li), ?_⟩
        refine ⟨_, _, _, rs.set d.2.1 g, rfl, Same.put (sm3.trans sm4) nRH, ?_, fun a ha => ?_⟩
        · have := rw4.swap (i := d.2.1) (by rw [lrs]; exact dd.li) hg gN ⟨gR, gb, gb⟩
          rw [tabI_next hd, ← made_both ok gt dd]
          unfold madeI
          rw [List.getD_eq_getElem?_getD, List.getD_eq_getElem?_getD, List.getD_eq_getElem?_getD, es, er1, er2]
          exact this
        · rcases List.mem_or_eq_of_mem_set ha with m | m
          · exact fr3 a m
          · rw [m]
            exact Same.free sm3 ng
    · rintro σ H3 ⟨v3, v4, v5, rs, rfl, sm3, rw3, fr3⟩
      rw [show l.take cs.length = l by rw [ic.length, List.length_map, List.take_length]] at rw3
      have gt := tabI_gt ok dl
      have lr : rs.length ≤ 100 := by rw [rw3.len, gt.sq.len]; exact l100
      refine ⟨_, rfl, R, rfl, ⟨_, SqL.of rw3.top⟩, fun d nd => ?_⟩
      refine lc_list (K := K) (a := R) (xs := rs.map V.ref) (fun i H' => Same H3 H' ∧ ∃ vs : List V, H' d = some (.lst vs) ∧ ImAll H' vs (((tabI ss l).take i).map sD)) ⟨Same.new (Same.refl H3) nd, [], upd_same, .nil⟩ (fun i H' _ z => SqL.of (z.1 _ _ rw3.top)) ?_ ?_
      · rintro i x H5 hx ⟨sm5, vs, hd, ia⟩
        obtain ⟨a, ea, rfl⟩ := map_get hx
        obtain ⟨r, er, ha⟩ := rw3.row i a ea
        have lv : vs.length ≤ 100 := by
          rw [ia.length, List.length_map, List.length_take, gt.sq.len]
          omega
        refine ⟨rfl, _, rfl, a, _, rfl, .inl ⟨SqL.of (sm5 _ _ ha), fun u nu => ?_⟩⟩
        have hd5 := keepN (o' := .tup (r.map V.int)) hd nu
        have tk : Tk (upd H5 u (.tup (r.map V.int))) (upd (upd H5 u (.tup (r.map V.int))) d (.lst (vs ++ [.ref u]))) := (Tk.refl _).put hd5
        refine ⟨_, hd5, small1000 (by omega), Same.put (Same.new sm5 nu) nd, _, upd_same, ?_⟩
        rw [take_get er, List.map_append]
        exact ((ia.k ((Tk.refl H5).new nu)).k tk).append (.cons (Im.k (.tup upd_same (ImAll.of_ints _ _)) tk) .nil)
      · rintro H5 ⟨sm5, vs, hd, ia⟩
        rw [show (tabI ss l).take (rs.map V.ref).length = tabI ss l by rw [List.length_map, rw3.len, List.take_length]] at ia
        exact ⟨d, _, rfl, .inl ⟨SqL.of hd, fun u nu => k _ _ (.tup upd_same (ia.k ((Tk.refl H5).new nu))) (sm3.trans (Same.new sm5 nu))⟩⟩
theorem tab_one1 {ss : List Int} {d : Nat × Nat × Int} (h : DIn ss d) (ok : ∀ s ∈ ss, SizeOk s) : tabI ss [d] = deedI ss d := still_both (GT.deed ok h).sq (GT.deed ok h).low
def spBackM : Sp := fun vs H Q _ => ∃ (y : V) (l : List (Nat × Nat × Int)), vs = [y] ∧ Im H y (pD l) ∧ l.length ≤ 1100 ∧ (∀ d ∈ l, d.2.2.natAbs ≤ 10 ^ 60) ∧ ∀ (u : V) (H' : Hp), Im H' u (pD (backI l)) → Same H H' → Q u H'
theorem backI_rev (l : List (Nat × Nat × Int)) : backI l = l.reverse.map fun d => (d.1, d.2.1, -d.2.2) := by
  unfold backI
  rw [List.map_reverse]
theorem backI_lenB (l : List (Nat × Nat × Int)) : (backI l).length = l.length := by
  unfold backI
  rw [List.length_reverse, List.length_map]
theorem ImAll.rev {H : Hp} : ∀ {vs : List V} {ds : List PyData}, ImAll H vs ds → ImAll H vs.reverse ds.reverse
  | _, _, .nil => .nil
  | _, _, .cons a b => by
    rw [List.reverse_cons, List.reverse_cons]
    exact (ImAll.rev b).append (.cons a .nil)
abbrev sc_backwardN : List Str := ["program", "j", "i", "c"]
theorem sc_backward : FnScope sc_backwardN ["program"] (defScope s_backward) := ⟨rfl, rfl, rfl, by decide +kernel, rfl, by decide +kernel, by decide +kernel⟩
theorem fn_backward {f : Addr} {fd : FuncData} (D : DefAt K mg "backward" s_backward ["program"] f fd) (T : Blt mg) : FnOk P w K mg base CX0 1 f fd ["program"] spBackM := by
  refine D.fn.ok sc_backward (fun vs H Q E h => ?_) (fun cdv A outer s H vs Q E hr h => ?_)
  · obtain ⟨y, l, rfl, _⟩ := h
    rfl
  · obtain ⟨y, l, rfl, imy, l1100, dm, k⟩ := h
    refine ⟨_, (pss_one (ps_ret (pe_callTy (call_tupleK K rfl) (by rfl) T.tuple (by decide +kernel) (pa_cons (pe_lc (own := [("j", 1), ("i", 2), ("c", 3)]) rfl sc_backward.nd (pi_tupK K rfl (pe_revT K rfl (pv 0) (pe_m1 pe_int))) (blkOk_by (N := sc_backwardN) (sc := defScope s_backward) (by decide +kernel)) (fun _ _ _ _ _ => (pg_tupK (n := 3) K rfl rfl (pgs_cons (pg_name (i := 1) sc_backward.nd rfl (by first | exact .inl rfl | exact .inr rfl)) (pgs_cons (pg_name (i := 2) sc_backward.nd rfl (by first | exact .inl rfl | exact .inr rfl)) (pgs_cons (pg_name (i := 3) sc_backward.nd rfl (by first | exact .inl rfl | exact .inr rfl)) pgs_nil))))) (fun _ _ _ _ _ => pts_nil) (fun _ _ _ _ _ => (pe_tup (pa_cons (pv 1) (pa_cons (pv 2) (pa_cons (pe_un un_neg (pv 3)) pa_nil)))))) pa_nil)))), ?_⟩
    obtain ⟨a, xs, rfl, ha, ia⟩ := imy.tuple
    have lx : xs.length = l.length := by rw [ia.length, List.length_map]
    refine ⟨_, rfl, a, xs, rfl, SqT.of ha, fun r nr => ?_⟩
    have s1 : Same H (upd H r (.tup xs.reverse)) := Same.new (Same.refl H) nr
    have hr1 : (upd H r (.tup xs.reverse)) r = some (.tup xs.reverse) := upd_same
    have ir : ImAll (upd H r (.tup xs.reverse)) xs.reverse (l.reverse.map dD) := by
      rw [List.map_reverse]
      exact (ia.k (Tk.same s1)).rev
    generalize upd H r (.tup xs.reverse) = H1 at *
    refine ⟨r, rfl, ⟨_, SqT.of hr1⟩, fun D nD => ?_⟩
    refine lc_tup (K := K) (a := r) (xs := xs.reverse) (fun i H' => Same H1 H' ∧ ∃ vs : List V, H' D = some (.lst vs) ∧ ImAll H' vs (((backI l).take i).map dD)) ⟨Same.new (Same.refl H1) nD, [], upd_same, .nil⟩ (fun i H' _ z => SqT.of (z.1 _ _ hr1)) ?_ ?_
    · rintro i x H2 hx ⟨sm, vs, hD, iv⟩
      obtain ⟨dx, hdx, imx⟩ := ImAll.getV ir hx
      obtain ⟨d, hd, rfl⟩ := map_get hdx
      have hb : (backI l)[i]? = some (d.1, d.2.1, -d.2.2) := by rw [backI_rev, List.getElem?_map, hd]; rfl
      have lv : vs.length ≤ 1100 := by
        rw [iv.length, List.length_map, List.length_take, backI_lenB]
        omega
      obtain ⟨q, ws, rfl, hq, iq⟩ := (Same.k sm imx).tuple
      have ew : ws = [.int (d.1 : Int), .int (d.2.1 : Int), .int d.2.2] := by
        match ws, iq with
        | _, .cons (.int _) (.cons (.int _) (.cons (.int _) .nil)) => rfl
      subst ew
      refine ⟨q, _, rfl, SqT.of hq, rfl, _, _, rfl, _, _, rfl, _, _, rfl, rfl, rfl, ?_⟩
      refine ⟨_, rfl, _, rfl, _, rfl, _, rfl, by show 3 ≤ sizeLine; decide, fun t nt => ?_⟩
      have hD3 : (upd H2 t (.tup [.int (d.1 : Int), .int (d.2.1 : Int), .int (-d.2.2)])) D = some (.lst vs) := keepN hD nt
      have tk : Tk (upd H2 t (.tup [.int (d.1 : Int), .int (d.2.1 : Int), .int (-d.2.2)])) (upd (upd H2 t (.tup [.int (d.1 : Int), .int (d.2.1 : Int), .int (-d.2.2)])) D (.lst (vs ++ [.ref t]))) := (Tk.refl _).put hD3
      refine ⟨_, hD3, Nat.lt_of_le_of_lt lv (by decide), Same.put (Same.new sm nt) nD, _, upd_same, ?_⟩
      rw [take_get hb, List.map_append]
      exact ((iv.k ((Tk.refl H2).new nt)).k tk).append (.cons (Im.k (.tup upd_same (.cons (.int _) (.cons (.int _) (.cons (.int _) .nil)))) tk) .nil)
    · rintro H2 ⟨sm, vs, hD, iv⟩
      rw [List.length_reverse, lx, ← backI_lenB l, List.take_length] at iv
      exact ⟨D, _, rfl, .inl ⟨SqL.of hD, fun u nu => k _ _ (.tup upd_same (iv.k ((Tk.refl H2).new nu))) (s1.trans (Same.new sm nu))⟩⟩
theorem k_backward {f : Addr} {fd : FuncData} (F : Fun K "backward" "backward" s_backward f fd) : KBinds K fd ["program"] ["program"] kg1 kg1 := by
  obtain ⟨oc, od, kV, doc, pm, an, cdv, ct, osl, rfl, lk, hcd⟩ := F.ex
  refine ⟨fun s us ws _ hl => ?_, kg1_rel⟩
  match us, ws, hl with
  | [], [a], _ => exact .of_eq rfl
theorem shareV {c : Bool} {ta tb : TE} {σ : L2.St} {H : Hp} {Q : VK} {N : V → Hp → Prop} (h1 : (∀ u H', N u H' → Q u H') → ta σ H Q) (h2 : (∀ u H', N u H' → Q u H') → tb σ H Q) (rest : ∀ u H', N u H' → Q u H') : if c = true then ta σ H Q else tb σ H Q := by
  cases c with
  | true => exact iteT (h1 rest)
  | false => exact iteF (h2 rest)
theorem iteSK {c A B : Prop} [Decidable c] (hc : c) (h : A) : if decide c = true then A else B := by
  rw [decide_eq_true hc]
  exact iteT h
theorem qSK {c : Prop} [Decidable c] (hc : c) {Q : VK} {H : Hp} (h : Q (.bl true) H) : Q (.bl (decide c)) H := by
  rw [decide_eq_true hc]
  exact h
theorem cut_toK (xs : List V) (n : Nat) : cutV xs none (some (n : Int)) = xs.take n := by
  unfold cutV
  rw [HT.sIx_none, HT.sIx_nat, List.drop_zero, Nat.sub_zero, ← List.take_take, List.take_length]
theorem slT_anyK {K : PySem.W.Frag} {a : Addr} {xs : List V} {lo hi : Option Int} {H : Hp} {Q : VK} (h : H a = some (.tup xs)) (k : ∀ c H', Same H H' → H' c = some (.tup (cutV xs lo hi)) → Q (.ref c) H') : rSlA K (.ref a) lo hi H Q := by
  refine ⟨a, xs, rfl, SqT.of h, fun e => k a H (Same.refl H) ?_, fun _ p n => k p _ (Same.new (Same.refl H) n) upd_same⟩
  rw [h]
  unfold cutV
  rw [e.1, e.2, List.drop_zero, Nat.sub_zero, List.take_length]
theorem ImAll.takeK {H : Hp} : ∀ (n : Nat) {vs : List V} {ds : List PyData}, ImAll H vs ds → ImAll H (vs.take n) (ds.take n)
  | 0, _, _, _ => .nil
  | _ + 1, _, _, .nil => .nil
  | n + 1, _, _, .cons a b => .cons a (ImAll.takeK n b)
def spIsRun : Sp := fun vs H Q _ => ∃ (p q : Addr) (m y : V) (ss : List Int) (ws : List (Nat × Nat)) (l : List (Nat × Nat × Int)), vs = [.ref p, m, y] ∧ Pt H p q ∧ Im H m (mD ss ws) ∧ MOk ss ws ∧ Im H y (pD l) ∧ (∀ d ∈ l, DOk ss ws d) ∧ l.length ≤ 20 ∧ ∀ H', Pt H' p q → Kp p q H H' → Q (.bl true) H'
theorem prog_shK {ss : List Int} {ws : List (Nat × Nat)} (ok : MOk ss ws) : ∀ {l : List (Nat × Nat × Int)}, (∀ d ∈ l, d.1 < 1000 ∧ d.2.1 < 1000 ∧ d.2.2.natAbs ≤ 10 ^ 60) → okAll (l.map dD) = true ∧ costAll (l.map dD) ≤ 6000 * l.length ∧ PyData.depthAll (l.map dD) ≤ 1
  | [], _ => ⟨rfl, Nat.le_refl _, Nat.zero_le _⟩
  | d :: l, h => by
    obtain ⟨a, b, c⟩ := prog_shK ok fun x hx => h x (List.mem_cons_of_mem _ hx)
    obtain ⟨w1, w2, w3⟩ := h d List.mem_cons_self
    have sm : ∀ n : Nat, n < 1000 → (n : Int).natAbs < 2 ^ 1900 := fun n hn => by
      rw [Int.natAbs_natCast]
      exact Nat.lt_trans hn (by decide)
    have big : d.2.2.natAbs < 2 ^ 1900 := Nat.lt_of_le_of_lt w3 (by decide)
    refine ⟨?_, ?_, ?_⟩
    · rw [List.map_cons]
      simp only [okAll, dD, okD, a, decide_eq_true (small_log (sm d.1 w1)), decide_eq_true (small_log (sm d.2.1 w2)), decide_eq_true (small_log big), Bool.and_self]
    · rw [List.map_cons]
      simp only [costAll, dD, NA.cost, List.length_cons]
      omega
    · rw [List.map_cons]
      simp only [PyData.depthAll, dD, PyData.depth]
      omega
theorem prog_shB {ss : List Int} {ws : List (Nat × Nat)} (ok : MOk ss ws) {l : List (Nat × Nat × Int)} (h : ∀ d ∈ l, DOk ss ws d) (n : l.length ≤ 300) : ShB (pD l) := by
  have six := ok.six
  obtain ⟨a, b, c⟩ := prog_shK ok (l := l) fun d hd => by
    obtain ⟨w1, w2, _⟩ := ok.wires.low _ (h d hd).wire
    exact ⟨by omega, by omega, (h d hd).most⟩
  refine ⟨⟨by simp only [pD, okD, a], ?_, ?_⟩, ?_, ?_⟩
  · simp only [pD, NA.cost]
    omega
  · simp only [pD, PyData.depth]
    omega
  · simp only [pD, NA.cost]
    omega
  · simp only [pD, PyData.depth]
    omega
theorem cok_shB {ss hs : List Int} (ok : ∀ s ∈ ss, SizeOk s) (l : ss.length ≤ 6) (h : COk ss hs) : ShB (sD hs) := by
  obtain ⟨x, y, z⟩ := cok_shJ ok l h
  exact ⟨x, by omega, z⟩
theorem sh_twoK {a b : PyData} (x : ShB a) (y : ShB b) : Sh (.list [a, b]) := Sh.listN (fun d hd => by
  rcases List.mem_cons.mp hd with rfl | hd
  · exact x
  · rw [List.mem_singleton.mp hd]
    exact y) (by show 2 ≤ 6; decide)
theorem sh_threeK {a b c : PyData} (x : ShB a) (y : ShB b) (z : ShB c) : Sh (.list [a, b, c]) := Sh.listN (fun d hd => by
  rcases List.mem_cons.mp hd with rfl | hd
  · exact x
  rcases List.mem_cons.mp hd with rfl | hd
  · exact y
  · rw [List.mem_singleton.mp hd]
    exact z) (by show 3 ≤ 6; decide)
theorem back_dokK {ss : List Int} {ws : List (Nat × Nat)} {l : List (Nat × Nat × Int)} (h : ∀ d ∈ l, DOk ss ws d) : ∀ d ∈ backI l, DOk ss ws d := fun d hd => by
  unfold backI at hd
  obtain ⟨x, hx, rfl⟩ := List.mem_map.mp (List.mem_reverse.mp hd)
  have k := h x hx
  obtain ⟨c, e, f, g, st⟩ := k.step
  refine ⟨k.wire, by show (-x.2.2).natAbs ≤ _; rw [Int.natAbs_neg]; exact k.most, c, e, f, g, ?_⟩
  exact Int.dvd_neg.mpr st
theorem mach_shB {ss : List Int} {ws : List (Nat × Nat)} (ok : MOk ss ws) : ShB (mD ss ws) := by
  obtain ⟨x, y, z⟩ := mach_shJ ok
  exact ⟨x, by omega, z⟩
theorem eqv_sDK (a : List Int) : PyData.eqv (sD a) (sD a) = true := by rw [eqv_sD]; exact decide_eq_true rfl
/-- what _law_run tells of contents, or of what is alike -/
theorem runI_eq {ss : List Int} {ws : List (Nat × Nat)} (ok : MOk ss ws) {l : List (Nat × Nat × Int)} (dok : ∀ d ∈ l, DOk ss ws d) {hs ns : List Int} (ch : COk ss hs) (g : Cg ss hs ns) : runI ss l ns = runP ss l hs :=
  (runP_eq ok.size (fun d hd => (dok d hd).din ok) ch g).symm
theorem dok_low {ss : List Int} {ws : List (Nat × Nat)} (ok : MOk ss ws) {l : List (Nat × Nat × Int)} (dok : ∀ d ∈ l, DOk ss ws d) : ∀ d ∈ l, d.1 < ss.length ∧ d.2.1 < ss.length ∧ d.2.2.natAbs ≤ 10 ^ 60 := fun d hd => by
  obtain ⟨a, b, _⟩ := ok.wires.low _ (dok d hd).wire
  exact ⟨a, b, (dok d hd).most⟩
theorem cok_most5 {ss hs : List Int} (ok : ∀ s ∈ ss, SizeOk s) (h : COk ss hs) : mostI 5000 hs := fun n hn => Nat.lt_of_lt_of_le (cok_mostR ok h n hn) (Nat.pow_le_pow_right (by decide) (by decide))
theorem tyI : ClsV (V.ty "int") (.type "int") := .ty _
theorem tyB : ClsV (V.ty "bool") (.type "bool") := .ty _
theorem tyT : ClsV (V.ty "tuple") (.type "tuple") := .ty _
theorem isI_eq (d : PyData) : (isIB d && !isB d) = isI d := by cases d <;> rfl
abbrev sc_is_an_integerN : List Str := ["value"]
theorem sc_is_an_integer : FnScope sc_is_an_integerN ["value"] (defScope s_is_an_integer) := ⟨rfl, rfl, rfl, by decide +kernel, rfl, by decide +kernel, by decide +kernel⟩
def spInt : Sp := fun vs H Q _ => ∃ (v : V) (d : PyData), vs = [v] ∧ Dv An H v d ∧ Q (.bl (isI d)) H
theorem ok_isint {f : Addr} {fd : FuncData} (D : DefAt K mg "is_an_integer" s_is_an_integer ["value"] f fd) (T : Blt mg) : Cal P w K mg base 1 "is_an_integer" spInt := by
  refine cal_of D sc_is_an_integer (fun vs H Q E h => ?_) (fun cdv A outer s H vs Q E hr h => ?_)
  · obtain ⟨v, d, rfl, _⟩ := h
    rfl
  · obtain ⟨v, d, rfl, hd, k⟩ := h
    refine ⟨_, (pss_one (ps_ret (pe_and (pe_callB (call_isiK' K rfl) (by rfl) T.isinstance (by decide +kernel) (pa_cons (pv 0) (pa_cons (pe_bltn (v := .ty "int") (u := .type "int") (by rfl) T.int (by decide +kernel) rfl) pa_nil))) (pe_one (pe_not (pe_callB (call_isiK' K rfl) (by rfl) T.isinstance (by decide +kernel) (pa_cons (pv 0) (pa_cons (pe_bltn (v := .ty "bool") (u := .type "bool") (by rfl) T.bool (by decide +kernel) rfl) pa_nil)))))))), ?_⟩
    rw [← isI_eq] at k
    refine ⟨_, rfl, _, _, _, _, _, rfl, tyI, hd.ty, kit_int K d, _, rfl, ?_⟩
    cases h1 : isIB d with
    | false =>
      rw [h1] at k
      exact iteF k
    | true =>
      rw [h1] at k
      exact iteT ⟨_, rfl, _, _, _, _, _, rfl, tyB, hd.ty, kit_bool K d, _, rfl, k⟩
abbrev sc_is_belowN : List Str := ["value", "bound"]
theorem sc_is_below : FnScope sc_is_belowN ["value", "bound"] (defScope s_is_below) := ⟨rfl, rfl, rfl, by decide +kernel, rfl, by decide +kernel, by decide +kernel⟩
def spBel : Sp := fun vs H Q _ => ∃ (v : V) (d : PyData) (m : Nat), vs = [v, .int m] ∧ Dv An H v d ∧ Q (.bl (isBl m d)) H
theorem isBl_no {d : PyData} (m : Nat) (h : isI d = false) : isBl m d = false := by cases d <;> first | rfl | cases h
theorem ok_isbelow {f : Addr} {fd : FuncData} (D : DefAt K mg "is_below" s_is_below ["value", "bound"] f fd) (c_is_an_integer : Cal P w K mg base 1 "is_an_integer" spInt) : Cal P w K mg base 2 "is_below" spBel := by
  refine cal_of D sc_is_below (fun vs H Q E h => ?_) (fun cdv A outer s H vs Q E hr h => ?_)
  · obtain ⟨v, d, m, rfl, _⟩ := h
    rfl
  · obtain ⟨v, d, m, rfl, hd, k⟩ := h
    refine ⟨_, (pss_one (ps_ret (pe_and (pe_c c_is_an_integer hr (by decide) rfl (pa_cons (pv 0) pa_nil)) (pe_one (pe_chain op_le op_lt pe_int (pv 0) (pv 1)))))), ?_⟩
    refine ⟨_, rfl, v, d, rfl, hd, _, rfl, ?_⟩
    cases h1 : isI d with
    | false =>
      rw [isBl_no m h1] at k
      exact iteF k
    | true =>
      refine iteT ?_
      obtain ⟨i, rfl, rfl⟩ := hd.int h1
      simp only [isBl] at k
      refine ⟨_, rfl, _, _, rfl, rfl, _, rfl, ?_⟩
      refine ite2 (fun h2 => ⟨_, rfl, _, _, rfl, rfl, ?_⟩) (fun h2 => ?_)
      · rw [h2] at k
        exact k
      · rw [show decide ((0 : Int) ≤ i) = false by simpa using h2] at k
        exact k
theorem Dg.dv {N : Addr → Prop} {H : Hp} {v : V} {d : PyData} (h : Dg N H v d) : Dv N H v d := .inl h
theorem Dg.tuple {N : Addr → Prop} {H : Hp} {v : V} {ds : List PyData} (h : Dg N H v (.tuple ds)) : ∃ a xs, v = .ref a ∧ H a = some (.tup xs) ∧ DgAll N H xs ds := by
  cases h with
  | tup a b => exact ⟨_, _, rfl, a, b⟩
theorem isT_ex {d : PyData} (h : isT d = true) : ∃ ds, d = .tuple ds := by
  cases d with
  | tuple ds => exact ⟨ds, rfl⟩
  | _ => cases h
theorem isBl_int {m : Nat} {d : PyData} (h : isBl m d = true) : isI d = true := by cases d <;> first | rfl | cases h

def spIntE : Sp := fun vs H Q _ => ∃ (v : V) (d : PyData) (N : Addr → Prop), vs = [v] ∧ De N H v d ∧ Q (.bl (isI d)) H
theorem ok_isintE {f : Addr} {fd : FuncData} (D : DefAt K mg "is_an_integer" s_is_an_integer ["value"] f fd) (T : Blt mg) : Cal P w K mg base 1 "is_an_integer" spIntE := by
  refine cal_of D sc_is_an_integer (fun vs H Q E h => ?_) (fun cdv A outer s H vs Q E hr h => ?_)
  · obtain ⟨v, d, N, rfl, _⟩ := h
    rfl
  · obtain ⟨v, d, N, rfl, hd, k⟩ := h
    refine ⟨_, (pss_one (ps_ret (pe_and (pe_callB (call_isiK' K rfl) (by rfl) T.isinstance (by decide +kernel) (pa_cons (pv 0) (pa_cons (pe_bltn (v := .ty "int") (u := .type "int") (by rfl) T.int (by decide +kernel) rfl) pa_nil))) (pe_one (pe_not (pe_callB (call_isiK' K rfl) (by rfl) T.isinstance (by decide +kernel) (pa_cons (pv 0) (pa_cons (pe_bltn (v := .ty "bool") (u := .type "bool") (by rfl) T.bool (by decide +kernel) rfl) pa_nil)))))))), ?_⟩
    rw [← isI_eq] at k
    refine ⟨_, rfl, _, _, _, _, _, rfl, tyI, hd.ty, kit_int K d, _, rfl, ?_⟩
    cases h1 : isIB d with
    | false =>
      rw [h1] at k
      exact iteF k
    | true =>
      rw [h1] at k
      exact iteT ⟨_, rfl, _, _, _, _, _, rfl, tyB, hd.ty, kit_bool K d, _, rfl, k⟩
theorem iteNF {c A B : Prop} [Decidable c] (hc : ¬ c) (h : A) : if (!decide c) = true then A else B := by
  rw [decide_eq_false hc]
  exact iteT h
theorem sz_nat {ss : List Int} (ok : ∀ s ∈ ss, SizeOk s) {i : Nat} (h : i < ss.length) : ∃ y : Nat, ss[i]? = some (y : Int) ∧ 2 ≤ y ∧ y ≤ 10 ^ 30 ∧ (ss.getD i 0).toNat = y := by
  obtain ⟨s, es⟩ := get_some h
  obtain ⟨s2, s3⟩ := (ok s (List.mem_of_getElem? es)).bnd
  refine ⟨s.toNat, ?_, by omega, by omega, ?_⟩
  · rw [es, Int.toNat_of_nonneg (by omega)]
  · rw [List.getD_eq_getElem?_getD, es]
    rfl

def entB (ss : List Int) (i j : Nat) (x : PyData) : Bool :=
  isBl (ss.getD i 0).toNat x && (decide (i = j) || (match x with | .int n => decide (n % ((stp (ss.getD j 0).toNat (ss.getD i 0).toNat : Nat) : Int) = 0) | _ => false))
def isRow (n : Nat) : PyData → Bool
  | .tuple l => decide (l.length = n)
  | _ => false
def isForm (n : Nat) : PyData → Bool
  | .tuple l => decide (l.length = n) && l.all (isRow n)
  | _ => false
def atD (rows : List PyData) (i j : Nat) : PyData := match rows.getD i .none with
  | .tuple l => l.getD j .none
  | _ => .none
def eE (i j : Nat) : PyData := .tuple [.str "entry", .int (i : Int), .int (j : Int)]
/-- what is wrong first -/
inductive Terr (ss : List Int) : PyData → PyData → Prop
  | form {d : PyData} : isForm ss.length d = false → Terr ss d (.str "form")
  | entry {rows : List PyData} {i j : Nat} : isForm ss.length (.tuple rows) = true → i < ss.length → j < ss.length →
      (∀ i' j', i' < ss.length → j' < ss.length → (i' < i ∨ (i' = i ∧ j' < j)) → entB ss i' j' (atD rows i' j') = true) → entB ss i j (atD rows i j) = false → Terr ss (.tuple rows) (eE i j)
  | none {rows : List PyData} : isForm ss.length (.tuple rows) = true → (∀ i' j', i' < ss.length → j' < ss.length → entB ss i' j' (atD rows i' j') = true) → Terr ss (.tuple rows) .none
theorem Terr.det {ss : List Int} {d e e' : PyData} (a : Terr ss d e) (b : Terr ss d e') : e = e' := by
  cases a with
  | form h =>
    cases b with
    | form _ => rfl
    | entry h' _ _ _ _ => rw [h] at h'; cases h'
    | none h' _ => rw [h] at h'; cases h'
  | entry h i1 j1 f g =>
    rename_i i j
    cases b with
    | form h' => rw [h] at h'; cases h'
    | entry h' i2 j2 f' g' =>
      rename_i i' j'
      by_cases c1 : i' < i ∨ (i' = i ∧ j' < j)
      · rw [f i' j' i2 j2 c1] at g'; cases g'
      by_cases c2 : i < i' ∨ (i = i' ∧ j < j')
      · rw [f' i j i1 j1 c2] at g; cases g
      have e1 : i = i' := by omega
      have e2 : j = j' := by omega
      rw [e1, e2]
    | none _ f' => rw [f' i j i1 j1] at g; cases g
  | none h f =>
    cases b with
    | form h' => rw [h] at h'; cases h'
    | entry h' i2 j2 f' g' => rw [f _ _ i2 j2] at g'; cases g'
    | none _ _ => rfl
theorem row_dec (ds : List PyData) (n : Nat) : (((ds.length : Nat) : Int) == (n : Int)) = isRow n (.tuple ds) := by
  simp only [isRow]
  by_cases z : ds.length = n
  · rw [z, decide_eq_true rfl]
    exact beq_self_eq_true _
  · rw [decide_eq_false z]
    exact beq_eq_false_iff_ne.mpr (fun q => z (by omega))
abbrev sc_is_rowN : List Str := ["value", "many"]
theorem sc_is_row : FnScope sc_is_rowN ["value", "many"] (defScope s_is_row) := ⟨rfl, rfl, rfl, by decide +kernel, rfl, by decide +kernel, by decide +kernel⟩
def spIsRow : Sp := fun vs H Q _ => ∃ (v : V) (d : PyData) (n : Nat), vs = [v, .int n] ∧ Dv An H v d ∧ Q (.bl (isRow n d)) H
theorem ok_isrow {f : Addr} {fd : FuncData} (D : DefAt K mg "is_row" s_is_row ["value", "many"] f fd) (T : Blt mg) : Cal P w K mg base 1 "is_row" spIsRow := by
  refine cal_of D sc_is_row (fun vs H Q E h => ?_) (fun cdv A outer s H vs Q E hr h => ?_)
  · obtain ⟨v, d, n, rfl, _⟩ := h
    rfl
  · obtain ⟨v, d, n, rfl, hd, k⟩ := h
    refine ⟨_, (pss_one (ps_ret (pe_and (pe_callB (call_isiK' K rfl) (by rfl) T.isinstance (by decide +kernel) (pa_cons (pv 0) (pa_cons (pe_bltn (v := .ty "tuple") (u := .type "tuple") (by rfl) T.tuple (by decide +kernel) rfl) pa_nil))) (pe_one (pe_cmpR op_eq (pe_callB (call_lenK K rfl) (by rfl) T.len PySem.boot_len (pa_cons (pv 0) pa_nil)) (pv 1) (nomark _)))))), ?_⟩
    refine ⟨_, rfl, _, _, _, _, _, rfl, tyT, hd.ty, kit_tup K d, _, rfl, ?_⟩
    cases h1 : isT d with
    | false =>
      have e : isRow n d = false := by cases d <;> first | rfl | cases h1
      rw [e] at k
      exact iteF k
    | true =>
      obtain ⟨a, xs, ds, rfl, rfl, ha, hs⟩ := hd.tuple h1
      have e : decide (V.int ((xs.length : Nat) : Int) = V.int (n : Int)) = isRow n (.tuple ds) := by
        rw [hs.length, dec_int]
        exact row_dec ds n
      refine iteT ⟨_, rfl, a, _, rfl, .inr (SqT.of ha), _, rfl, rfl, ?_⟩
      rw [e]
      exact k
theorem at_get {rows l : List PyData} {i j : Nat} {x : PyData} (h : rows[i]? = some (.tuple l)) (h2 : l[j]? = some x) : atD rows i j = x := by
  unfold atD
  rw [List.getD_eq_getElem?_getD, h]
  show l.getD j .none = x
  rw [List.getD_eq_getElem?_getD, h2]
  rfl
theorem row_of {n : Nat} {d : PyData} (h : isRow n d = true) : ∃ l, d = .tuple l ∧ l.length = n := by
  cases d with
  | tuple l => exact ⟨l, rfl, of_decide_eq_true h⟩
  | _ => cases h
theorem form_of {n : Nat} {d : PyData} (h : isForm n d = true) : ∃ rows, d = .tuple rows ∧ rows.length = n ∧ ∀ r ∈ rows, isRow n r = true := by
  cases d with
  | tuple l =>
    simp only [isForm, Bool.and_eq_true, decide_eq_true_eq, List.all_eq_true] at h
    exact ⟨l, rfl, h.1, h.2⟩
  | _ => cases h
theorem form_no {n : Nat} {d : PyData} (h : isRow n d = false) : isForm n d = false := by
  cases d with
  | tuple l =>
    simp only [isRow] at h
    simp only [isForm, h, Bool.false_and]
  | _ => rfl
abbrev sc_is_entryN : List Str := ["machine", "i", "j", "value"]
theorem sc_is_entry : FnScope sc_is_entryN ["machine", "i", "j", "value"] (defScope s_is_entry) := ⟨rfl, rfl, rfl, by decide +kernel, rfl, by decide +kernel, by decide +kernel⟩
def spIsEnt : Sp := fun vs H Q _ => ∃ (m v : V) (ss : List Int) (ws : List (Nat × Nat)) (i j : Nat) (d : PyData), vs = [m, .int i, .int j, v] ∧ Im H m (mD ss ws) ∧ (∀ s ∈ ss, SizeOk s) ∧ i < ss.length ∧ j < ss.length ∧ Dv An H v d ∧ Q (.bl (entB ss i j d)) H
theorem ok_isent {f : Addr} {fd : FuncData} (D : DefAt K mg "is_entry" s_is_entry ["machine", "i", "j", "value"] f fd) (T : Blt mg) (c_is_below : Cal P w K mg base 2 "is_below" spBel) (c_step : Cal P w K mg base 1 "step" spStep) : Cal P w K mg base 3 "is_entry" spIsEnt := by
  refine cal_of D sc_is_entry (fun vs H Q E h => ?_) (fun cdv A outer s H vs Q E hr h => ?_)
  · obtain ⟨m, v, ss, ws, i, j, d, rfl, _⟩ := h
    rfl
  · obtain ⟨m, v, ss, ws, i, j, d, rfl, im, ok, hi, hj, hd, k⟩ := h
    refine ⟨_, (pss_cons (ps_if (pt_not (pt_val (pe_c c_is_below hr (by decide) rfl (pa_cons (pv 3) (pa_cons (pe_ix (ix_tupK K rfl) (pe_ix (ix_tupK K rfl) (pv 0) pe_int (fun _ _ => rfl)) (pv 1) (fun _ _ => rfl)) pa_nil))))) (pss_one (ps_ret pe_bl)) pss_nil)
      (pss_one (ps_ret (pe_or (pe_cmpR op_eq (pv 1) (pv 2) (nomark _)) (pe_one (pe_cmpR op_eq (pe_op op_mod (pv 3) (pe_c c_step hr (by decide) rfl (pa_cons (pv 0) (pa_cons (pv 2) (pa_cons (pv 1) pa_nil))))) pe_int (nomark _))))))), ?_⟩
    obtain ⟨a, xs, rfl, ha, ia⟩ := id im.tuple
    obtain ⟨b0, g0, im0⟩ := ia.get (i := 0) rfl
    obtain ⟨b, ys, rfl, hb, ib⟩ := id im0.tuple
    have ey := ib.ints
    subst ey
    obtain ⟨y, ey, y2, y3, yn⟩ := sz_nat ok hi
    obtain ⟨x, ex, x2, x3, xn⟩ := sz_nat ok hj
    have hiV : (ss.map V.int)[i]? = some (V.int (y : Int)) := by rw [List.getElem?_map, ey]; rfl
    unfold entB at k
    rw [yn, xn] at k
    refine ⟨_, rfl, _, rfl, a, _, 0, _, rfl, rfl, SqT.of ha, atI_nat (j := 0) g0, _, rfl, b, _, i, _, rfl, rfl, SqT.of hb, atI_nat hiV, v, d, y, rfl, hd, _, rfl, ?_⟩
    cases h1 : isBl y d with
    | false =>
      rw [h1] at k
      exact iteT k
    | true =>
      rw [h1] at k
      obtain ⟨n, rfl, rfl⟩ := hd.int (isBl_int h1)
      refine iteF ⟨_, rfl, _, rfl, rfl, _, rfl, ?_⟩
      rw [Bool.true_and] at k
      by_cases e : i = j
      · rw [decide_eq_true e, Bool.true_or] at k
        subst e
        exact iteSK rfl k
      · rw [decide_eq_false e, Bool.false_or] at k
        rw [decide_eq_false (fun z => e (by have := V.int.inj z; omega))]
        refine iteF ⟨_, rfl, _, rfl, _, rfl, _, rfl, _, ss, _, j, i, x, y, rfl, im, ex, ey, by omega, Nat.lt_of_le_of_lt y3 (by decide), _, _, rfl, rfl, ?_, rfl, ?_⟩
        · have := stp_pos (a := x) (b := y) (by omega)
          show (0 : Int) < ((stp x y : Nat) : Int)
          omega
        · have e2 : decide (V.int (n % ((stp x y : Nat) : Int)) = V.int 0) = decide (n % ((stp x y : Nat) : Int) = 0) := by
            by_cases z : n % ((stp x y : Nat) : Int) = 0
            · rw [z]; rfl
            · rw [decide_eq_false z, decide_eq_false (fun q => z (V.int.inj q))]
          rw [e2]
          exact k
def kg21c {α : Type} : List α → List α → List α
  | [], [a, b] => [b, a]
  | _, _ => []
theorem kg21c_rel {vs zs : List V} {us ws : List Value} (h1 : Vals vs us) (h2 : Vals zs ws) : Vals (kg21c vs zs) (kg21c us ws) := by
  cases h1 with
  | cons _ _ => exact .nil
  | nil =>
    cases h2 with
    | nil => exact .nil
    | cons a h2 =>
      cases h2 with
      | nil => exact .nil
      | cons b h2 =>
        cases h2 with
        | nil => exact .cons b (.cons a .nil)
        | cons _ _ => exact .nil
abbrev sc_entry_errorN : List Str := ["machine", "rows", "i", "row", "j", "entry"]
theorem sc_entry_error : FnScope sc_entry_errorN ["machine", "rows"] (defScope s_entry_error) := ⟨rfl, rfl, rfl, by decide +kernel, rfl, by decide +kernel, by decide +kernel⟩
def spEnts : Sp := fun vs H Q _ => ∃ (m v : V) (ss : List Int) (ws : List (Nat × Nat)) (rows : List PyData), vs = [m, v] ∧ Im H m (mD ss ws) ∧ MOk ss ws ∧ Dv An H v (.tuple rows) ∧ isForm ss.length (.tuple rows) = true ∧ ∀ (u : V) (e : PyData) (H' : Hp), Terr ss (.tuple rows) e → Im H' u e → Same H H' → Q u H'
theorem ok_ents {f : Addr} {fd : FuncData} (D : DefAt K mg "entry_error" s_entry_error ["machine", "rows"] f fd) (T : Blt mg) (c_is_entry : Cal P w K mg base 3 "is_entry" spIsEnt) : Cal P w K mg base 4 "entry_error" spEnts := by
  refine cal_of D sc_entry_error (fun vs H Q E h => ?_) (fun cdv A outer s H vs Q E hr h => ?_)
  · obtain ⟨m, v, ss, ws, rows, rfl, _⟩ := h
    rfl
  · obtain ⟨m, v, ss, ws, rows, rfl, im, ok, hd, hf, k⟩ := h
    refine ⟨_, (pss_cons (ps_for PassesOwn.never rfl (pi_enumTK K rfl (by rfl) T.enumerate (pa_cons (pv 1) pa_nil)) (pg_tup rfl (pgs_cons (pg_name (i := 2) sc_entry_error.nd rfl (.inl rfl)) (pgs_cons (pg_name (i := 3) sc_entry_error.nd rfl (.inl rfl)) pgs_nil))) (pss_one (ps_if (pt_cmpR op_notN (pv 3) pe_non (nomark _)) (pss_one (ps_for PassesOwn.never rfl (pi_enumTK K rfl (by rfl) T.enumerate (pa_cons (pv 3) pa_nil)) (pg_tup rfl (pgs_cons (pg_name (i := 4) sc_entry_error.nd rfl (.inl rfl)) (pgs_cons (pg_name (i := 5) sc_entry_error.nd rfl (.inl rfl)) pgs_nil))) (pss_one (ps_if (pt_not (pt_val (pe_c c_is_entry hr (by decide) rfl (pa_cons (pv 0) (pa_cons (pv 2) (pa_cons (pv 4) (pa_cons (pv 5) pa_nil))))))) (pss_one (ps_ret (pe_tup (pa_cons pe_str (pa_cons (pv 2) (pa_cons (pv 4) pa_nil)))))) pss_nil)))) pss_nil)))
      (pss_one (ps_ret pe_non))), ?_⟩
    obtain ⟨a, xs, rfl, ha, ia⟩ := id im.tuple
    have l6 := ok.six
    obtain ⟨c, zs, ds, rfl, e0, hc, hs⟩ := hd.tuple rfl
    cases e0
    obtain ⟨_, z1, lr, rok⟩ := form_of hf
    cases z1
    have lz : zs.length = rows.length := hs.length
    refine ⟨_, rfl, c, zs, rfl, SqT.of hc, for_it walk_enumT (fun t σ H' => ∃ v3 v4 v5 v6 : Option V, σ = [some (.ref a), some (.ref c), v3, v4, v5, v6] ∧ Same H H' ∧ ∀ i' j', i' < t → j' < ss.length → entB ss i' j' (atD rows i' j') = true)
      ⟨none, none, none, none, rfl, Same.refl H, fun _ _ z => absurd z (Nat.not_lt_zero _)⟩ (fun t σ H' _ ⟨_, _, _, _, _, z, _⟩ => SqT.of (z _ _ hc)) ?_ ?_⟩
    · rintro t x σ H3 H4 ht ⟨v3, v4, v5, v6, rfl, s3, al⟩ ⟨T1, x1, x2, rfl, nT, rfl, e1, e2⟩
      cases e1
      obtain ⟨dr, hdr, dgr⟩ := hs.get e2
      obtain ⟨l, rfl, ll⟩ := row_of (rok dr (List.mem_of_getElem? hdr))
      obtain ⟨ar, vs, rfl, har, hvs⟩ := dgr.tuple
      have ti : t < ss.length := by omega
      have s4 : Same H (upd H3 T1 (.tup [.int (t : Nat), .ref ar])) := Same.new s3 nT
      refine ⟨T1, _, rfl, SqT.of upd_same, rfl, _, _, rfl, _, _, rfl, rfl, ?_⟩
      generalize upd H3 T1 (.tup [.int (t : Nat), .ref ar]) = H4 at *
      have lv : vs.length = ss.length := by rw [hvs.length, ll]
      refine ⟨_, rfl, rfl, _, rfl, ?_⟩
      refine iteT ⟨_, rfl, ar, vs, rfl, SqT.of (s4 _ _ har), for_it walk_enumT (fun u σ H' => ∃ v5 v6 : Option V, σ = [some (.ref a), some (.ref c), some (.int (t : Nat)), some (.ref ar), v5, v6] ∧ Same H H' ∧ ∀ j', j' < u → entB ss t j' (atD rows t j') = true)
        ⟨v5, v6, rfl, s4, fun _ z => absurd z (Nat.not_lt_zero _)⟩ (fun t σ H' _ ⟨_, _, _, z, _⟩ => SqT.of (z _ _ har)) ?_ ?_⟩
      · rintro u y σ H5 H6 hu' ⟨v5, v6, rfl, s5, al2⟩ ⟨T2, y1, y2, rfl, nT2, rfl, f1, f2⟩
        cases f1
        obtain ⟨de, hde, dge⟩ := hvs.get f2
        have uj : u < ss.length := by omega
        have s6 : Same H (upd H5 T2 (.tup [.int (u : Nat), y2])) := Same.new s5 nT2
        refine ⟨T2, _, rfl, SqT.of upd_same, rfl, _, _, rfl, _, _, rfl, rfl, ?_⟩
        generalize upd H5 T2 (.tup [.int (u : Nat), y2]) = H6 at *
        have ea : atD rows t u = de := at_get hdr hde
        refine ⟨_, rfl, _, rfl, _, rfl, _, rfl, _, y2, ss, ws, t, u, de, rfl, Same.k s6 im, ok.size, ti, uj, ((dge.any).k (Ks.same s6)).dv, _, rfl, ?_⟩
        cases h3 : entB ss t u de with
        | false =>
          refine iteT ⟨_, rfl, _, rfl, by show 3 ≤ sizeLine; decide, fun t9 nt9 => ?_⟩
          refine k _ (eE t u) _ (.entry hf ti uj (fun i' j' hi' hj' hlt => ?_) (by rw [ea]; exact h3)) (.tup upd_same (.cons (.str _) (.cons (.int _) (.cons (.int _) .nil)))) (Same.new s6 nt9)
          rcases hlt with hlt | ⟨rfl, hlt⟩
          · exact al i' j' hlt hj'
          · exact al2 j' hlt
        | true =>
          refine iteF ⟨_, _, rfl, s6, fun j' hj' => ?_⟩
          by_cases z : j' < u
          · exact al2 j' z
          · have : j' = u := by omega
            subst this
            rw [ea]
            exact h3
      · rintro σ H5 ⟨v5, v6, rfl, s5, al2⟩
        refine ⟨_, _, _, _, rfl, s5, fun i' j' hi' hj' => ?_⟩
        by_cases z : i' < t
        · exact al i' j' z hj'
        · have : i' = t := by omega
          subst this
          exact al2 j' (by omega)
    · rintro σ H3 ⟨v3, v4, v5, v6, rfl, s3, al⟩
      exact k _ _ _ (.none hf fun i' j' hi' hj' => al i' j' (by omega) hj') .non s3
abbrev sc_table_errorN : List Str := ["machine", "value", "many", "row"]
theorem sc_table_error : FnScope sc_table_errorN ["machine", "value"] (defScope s_table_error) := ⟨rfl, rfl, rfl, by decide +kernel, rfl, by decide +kernel, by decide +kernel⟩
def spTerr : Sp := fun vs H Q _ => ∃ (m v : V) (ss : List Int) (ws : List (Nat × Nat)) (d : PyData), vs = [m, v] ∧ Im H m (mD ss ws) ∧ MOk ss ws ∧ Dv An H v d ∧ (∀ rows, d = .tuple rows → rows.length ≤ 100) ∧ ∀ (u : V) (e : PyData) (H' : Hp), Terr ss d e → Im H' u e → Same H H' → Q u H'
theorem fn_terr {f : Addr} {fd : FuncData} (D : DefAt K mg "table_error" s_table_error ["machine", "value"] f fd) (T : Blt mg) (c_is_row : Cal P w K mg base 1 "is_row" spIsRow) (c_entry_error : Cal P w K mg base 4 "entry_error" spEnts) : FnOk P w K mg base CX0 5 f fd ["machine", "value"] spTerr := by
  refine D.fn.ok sc_table_error (fun vs H Q E h => ?_) (fun cdv A outer s H vs Q E hr h => ?_)
  · obtain ⟨m, v, ss, ws, d, rfl, _⟩ := h
    rfl
  · obtain ⟨m, v, ss, ws, d, rfl, im, ok, hd, l100, k⟩ := h
    refine ⟨_, (pss_cons (ps_set (i := 2) sc_table_error.nd rfl (.inr rfl) (pe_callB (call_lenK K rfl) (by rfl) T.len PySem.boot_len (pa_cons (pe_ix (ix_tupK K rfl) (pv 0) pe_int (fun _ _ => rfl)) pa_nil)))
      (pss_cons (ps_if (PW.pt (pw_or (pt_not (pt_val (pe_c c_is_row hr (by decide) rfl (pa_cons (pv 1) (pa_cons (pv 2) pa_nil))))) (pw_or1 (pt_not (pt_val (pe_callB (cr_allK K rfl rfl) (by rfl) T.all boot_all (pa_cons (pe_lc (own := [("row", 3)]) rfl sc_table_error.nd (pi_tupK K rfl (pv 1)) (blkOk_by (N := sc_table_errorN) (sc := defScope s_table_error) (by decide +kernel)) (fun _ _ _ _ _ => (pg_name (i := 3) sc_table_error.nd rfl (by first | exact .inl rfl | exact .inr rfl))) (fun _ _ _ _ _ => pts_nil) (fun _ _ _ _ _ => (pe_c c_is_row hr (by decide) rfl (pa_cons (pv 3) (pa_cons (pv 2) pa_nil))))) pa_nil))))))) (pss_one (ps_ret pe_str)) pss_nil)
      (pss_one (ps_ret (pe_c c_entry_error hr (by decide) rfl (pa_cons (pv 0) (pa_cons (pv 1) pa_nil))))))), ?_⟩
    obtain ⟨a, xs, rfl, ha, ia⟩ := id im.tuple
    obtain ⟨b0, g0, im0⟩ := ia.get (i := 0) rfl
    obtain ⟨b, ys, rfl, hb, ib⟩ := id im0.tuple
    have ey := ib.ints
    subst ey
    have l6 := ok.six
    refine ⟨_, rfl, a, _, 0, _, rfl, rfl, SqT.of ha, atI_nat (j := 0) g0, b, _, rfl, .inr (SqT.of hb), ?_⟩
    rw [List.length_map]
    refine ⟨_, rfl, _, rfl, v, d, ss.length, rfl, hd, _, rfl, ?_⟩
    cases h1 : isRow ss.length d with
    | false =>
      exact iteT (iteT (k _ _ _ (.form (form_no h1)) (.str _) (Same.refl H)))
    | true =>
      obtain ⟨rows, rfl, lr⟩ := row_of h1
      obtain ⟨c, zs, ds, rfl, e0, hc, hs⟩ := hd.tuple rfl
      cases e0
      refine iteF ⟨_, rfl, c, rfl, ⟨_, SqT.of hc⟩, fun D nD => ?_⟩
      refine lc_tup (K := K) (a := c) (xs := zs) (fun i H' => Same H H' ∧ H' D = some (.lst (((rows.take i).map (isRow ss.length)).map V.bl))) ⟨Same.new (Same.refl H) nD, upd_same⟩ (fun i H' _ z => SqT.of (z.1 _ _ hc)) ?_ ?_
      · rintro i x H2 hx ⟨sm, hD⟩
        obtain ⟨dx, hdx, dgx⟩ := hs.get hx
        refine ⟨rfl, _, rfl, _, rfl, x, dx, ss.length, rfl, ((dgx.any).k (Ks.same sm)).dv, ?_⟩
        have lt := (List.getElem?_eq_some_iff.mp hdx).1
        refine ⟨_, hD, small1000 (by rw [List.length_map, List.length_map, List.length_take]; omega), Same.put sm nD, ?_⟩
        rw [upd_same, take_get hdx, List.map_append, List.map_append]
        rfl
      rintro H2 ⟨sm, hD⟩
      have full : rows.take zs.length = rows := by rw [hs.length, List.take_length]
      rw [full] at hD
      refine ⟨D, _, rfl, SqL.of hD, _, rfl, ?_⟩
      cases h2 : (rows.map (isRow ss.length)).all id with
      | false =>
        refine iteT (k _ _ _ (.form ?_) (.str _) sm)
        rw [List.all_map] at h2
        have h3 : rows.all (isRow ss.length) = false := h2
        simp only [isForm, h3, Bool.and_false]
      | true =>
        refine iteF ?_
        have hf : isForm ss.length (.tuple rows) = true := by
          rw [List.all_map] at h2
          simp only [isForm, lr, decide_true, Bool.true_and]
          exact h2
        obtain ⟨_, z1, _, rok⟩ := form_of hf
        cases z1
        exact ⟨_, rfl, _, rfl, _, _, ss, ws, rows, rfl, Same.k sm im, ok, .inl (.tup (sm _ _ hc) ((hs.k (Ks.same sm)))), hf, fun u e H' t iu s' => k u e H' t iu (sm.trans s')⟩
def rbl (n : Nat) (ds : List PyData) : List Int := (ds.filter fun d => !isRow n d).map fun _ => 1
theorem rbl_next {n : Nat} {ds : List PyData} {i : Nat} {d : PyData} (h : ds[i]? = some d) : rbl n (ds.take (i + 1)) = rbl n (ds.take i) ++ (if isRow n d = true then [] else [1]) := by
  unfold rbl
  rw [take_filter _ h, List.map_append]
  cases isRow n d <;> rfl
theorem rbl_len (n : Nat) (ds : List PyData) : (rbl n ds).length ≤ ds.length := by
  unfold rbl
  rw [List.length_map]
  exact List.length_filter_le _ _
theorem rbl_nil (n : Nat) : ∀ ds : List PyData, (rbl n ds).isEmpty = ds.all (isRow n)
  | [] => rfl
  | d :: ds => by
    have ih := rbl_nil n ds
    unfold rbl at ih ⊢
    rw [List.filter_cons, List.all_cons]
    cases h : isRow n d with
    | true => simpa using ih
    | false => rfl
theorem ent_no (ss : List Int) (i j : Nat) {d : PyData} (h : isI d = false) : entB ss i j d = false := by
  unfold entB
  rw [isBl_no _ h]
  rfl
theorem k_terr {f : Addr} {fd : FuncData} (F : Fun K "table_error" "table_error" s_table_error f fd) : KBinds K fd ["machine", "value"] ["value", "machine"] kg21c kg21c := by
  obtain ⟨oc, od, kV, doc, pm, an, cdv, ct, osl, rfl, lk, hcd⟩ := F.ex
  refine ⟨fun s us ws _ hl => ?_, kg21c_rel⟩
  match us, ws, hl with
  | [], [a, b], _ => exact .of_eq rfl
def spDue : Sp := fun vs H Q _ => ∃ (m v : V) (ss : List Int) (d : PyData), vs = [m, v] ∧ Im H m (sD ss) ∧ (∀ s ∈ ss, SizeOk s) ∧ ss.length ≤ 6 ∧ Dv An H v d ∧ (∀ rows, d = .tuple rows → rows.length ≤ 100) ∧ ∀ (u : V) (e : PyData) (H' : Hp), Terr ss d e → Im H' u e → Same H H' → Q u H'
theorem ImAll.getVB {H : Hp} {vs : List V} {ds : List PyData} {i : Nat} {v : V} (h : ImAll H vs ds) (e : vs[i]? = some v) : ∃ d, ds[i]? = some d ∧ Im H v d := by
  have lt := (List.getElem?_eq_some_iff.mp e).1
  have lt2 : i < ds.length := by rw [← h.length]; exact lt
  obtain ⟨v', q1, q2⟩ := h.get (i := i) (List.getElem?_eq_getElem lt2)
  rw [e] at q1
  cases q1
  exact ⟨_, List.getElem?_eq_getElem lt2, q2⟩
def isTri : PyData → Bool
  | .tuple l => decide (l.length = 3) && l.all isI
  | _ => false
def hasW (ws : List (Nat × Nat)) (j i : Int) : Bool := ws.any fun w => decide ((w.1 : Int) = j) && decide ((w.2 : Int) = i)
def stI (ss : List Int) (w : Nat × Nat) : Nat := stp (ss.getD w.1 0).toNat (ss.getD w.2 0).toNat
def derr (ss : List Int) (ws : List (Nat × Nat)) : PyData → PyData
  | .tuple [.int j, .int i, .int c] => if hasW ws j i = true then (if c.natAbs > 10 ^ 60 ∨ c % ((stI ss (j.toNat, i.toNat) : Nat) : Int) ≠ 0 then .str "factor" else .none) else .str "wire"
  | _ => .str "form"
theorem derr_no {ss : List Int} {ws : List (Nat × Nat)} {d : PyData} (h : isTri d = false) : derr ss ws d = .str "form" := by
  unfold derr
  split
  · simp [isTri, isI] at h
  · rfl
/-- the steps of the wires, as a dict -/
def stepsK (ss : List Int) (ws : List (Nat × Nat)) : List (List Key × V) := ws.map fun w => ([.inl (w.1 : Int), .inl (w.2 : Int)], .int (stI ss w : Int))
theorem val_steps (ss : List Int) (j i : Int) : ∀ ws : List (Nat × Nat), valV (stepsK ss ws) [.inl j, .inl i] = if hasW ws j i = true then some (.int (stI ss (j.toNat, i.toNat) : Int)) else none
  | [] => rfl
  | w :: ws => by
    have ih := val_steps ss j i ws
    unfold stepsK hasW at ih ⊢
    rw [List.map_cons, List.any_cons]
    by_cases e : (w.1 : Int) = j ∧ (w.2 : Int) = i
    · obtain ⟨rfl, rfl⟩ := e
      rw [valV_pos rfl, decide_eq_true rfl, decide_eq_true rfl]
      rfl
    · rw [valV_neg (fun z => e ⟨by injection z with z1 z2; injection z1, by injection z with z1 z2; injection z2 with z3 z4; injection z3⟩), ih]
      have : (decide ((w.1 : Int) = j) && decide ((w.2 : Int) = i)) = false := by
        rw [Bool.and_eq_false_iff]
        by_cases e1 : (w.1 : Int) = j
        · exact .inr (decide_eq_false fun z => e ⟨e1, z⟩)
        · exact .inl (decide_eq_false e1)
      rw [this, Bool.false_or]
theorem steps_fresh {ss : List Int} {n : Nat} {ws : List (Nat × Nat)} (h : WOk n ws) {i : Nat} {w : Nat × Nat} (e : ws[i]? = some w) : valV (stepsK ss (ws.take i)) [.inl (w.1 : Int), .inl (w.2 : Int)] = none := by
  rw [val_steps, if_neg]
  intro z
  obtain ⟨x, hx, hz⟩ := List.any_eq_true.mp z
  rw [Bool.and_eq_true, decide_eq_true_eq, decide_eq_true_eq] at hz
  have asc := h.asc
  rw [← List.take_append_drop i ws] at asc
  have lt := (List.pairwise_append.mp asc).2.2 x hx w (List.mem_of_getElem? (i := 0) (by rw [List.getElem?_drop]; exact e))
  unfold wlt at lt
  omega
abbrev sc_steps_ofN : List Str := ["machine", "j", "i"]
theorem sc_steps_of : FnScope sc_steps_ofN ["machine"] (defScope s_steps_of) := ⟨rfl, rfl, rfl, by decide +kernel, rfl, by decide +kernel, by decide +kernel⟩
def spSteps : Sp := fun vs H Q _ => ∃ (m : V) (ss : List Int) (ws : List (Nat × Nat)), vs = [m] ∧ Im H m (mD ss ws) ∧ MOk ss ws ∧ ∀ (D : Addr) (H' : Hp), H' D = some (.dT (stepsK ss ws)) → Same H H' → Q (.ref D) H'
theorem ok_steps {f : Addr} {fd : FuncData} (D : DefAt K mg "steps_of" s_steps_of ["machine"] f fd) (T : Blt mg) (c_step : Cal P w K mg base 1 "step" spStep) : Cal P w K mg base 2 "steps_of" spSteps := by
  refine cal_of D sc_steps_of (fun vs H Q E h => ?_) (fun cdv A outer s H vs Q E hr h => ?_)
  · obtain ⟨m, ss, ws, rfl, _⟩ := h
    rfl
  · obtain ⟨m, ss, ws, rfl, im, ok, k⟩ := h
    refine ⟨_, (pss_one (ps_ret (pe_dcT (own := [("j", 1), ("i", 2)]) rfl sc_steps_of.nd (pi_tupK K rfl (pe_ix (ix_tupK K rfl) (pv 0) pe_int (fun _ _ => rfl))) (blkOk_by (N := sc_steps_ofN) (sc := defScope s_steps_of) (by decide +kernel)) (hu_of hr) (fun _ _ _ _ _ => (pg_tupK (n := 2) K rfl rfl (pgs_cons (pg_name (i := 1) sc_steps_of.nd rfl (by first | exact .inl rfl | exact .inr rfl)) (pgs_cons (pg_name (i := 2) sc_steps_of.nd rfl (by first | exact .inl rfl | exact .inr rfl)) pgs_nil)))) (fun _ _ _ _ _ => pts_nil) (fun _ _ _ _ _ => (pe_tup (pa_cons (pv 1) (pa_cons (pv 2) pa_nil)))) (fun _ _ _ _ _ => (pe_c c_step hr (by decide) rfl (pa_cons (pv 0) (pa_cons (pv 1) (pa_cons (pv 2) pa_nil)))))))), ?_⟩
    obtain ⟨a, xs, rfl, ha, ia⟩ := id im.tuple
    obtain ⟨c0, g1, iw⟩ := ia.get (i := 1) rfl
    obtain ⟨c, zs, rfl, hc, ic⟩ := id iw.tuple
    have lw := ok.wires.len ok.six
    have lz : zs.length = ws.length := by rw [ic.length, List.length_map]
    refine ⟨_, rfl, a, _, 1, _, rfl, rfl, SqT.of ha, atI_nat (j := 1) g1, c, rfl, ⟨_, SqT.of hc⟩, fun D nD => dcT_tup (K := K) (a := c) (xs := zs) (fun i H' => Same H H' ∧ H' D = some (.dT (stepsK ss (ws.take i)))) ⟨Same.new (Same.refl H) nD, upd_same⟩ (fun i H' _ z => SqT.of (z.1 _ _ hc)) ?_ ?_⟩
    · rintro i x H2 hx ⟨sm, hD⟩
      obtain ⟨dx, hdx, imx⟩ := ImAll.getVB ic hx
      obtain ⟨w', hw, rfl⟩ := map_get hdx
      obtain ⟨q, us, rfl, hq, iq⟩ := (Same.k sm imx).tuple
      have ew : us = [.int (w'.1 : Int), .int (w'.2 : Int)] := by
        match us, iq with
        | _, .cons (.int _) (.cons (.int _) .nil) => rfl
      subst ew
      obtain ⟨wl1, wl2, _⟩ := ok.wires.low _ (List.mem_of_getElem? hw)
      obtain ⟨xj, ej, x2, x3, xn⟩ := sz_nat ok.size wl1
      obtain ⟨yi, ei, y2, y3, yn⟩ := sz_nat ok.size wl2
      refine ⟨q, _, rfl, SqT.of hq, rfl, _, _, rfl, _, _, rfl, rfl, rfl, ?_⟩
      refine ⟨_, rfl, _, rfl, by show 2 ≤ sizeLine; decide, fun t nt => ?_⟩
      have s3 : Same H (upd H2 t (.tup [.int (w'.1 : Int), .int (w'.2 : Int)])) := Same.new sm nt
      refine ⟨_, rfl, _, rfl, _, rfl, _, ss, _, w'.1, w'.2, xj, yi, rfl, Same.k s3 im, ej, ei, by omega, Nat.lt_of_le_of_lt y3 (by decide), ?_⟩
      refine ⟨_, [.inl (w'.1 : Int), .inl (w'.2 : Int)], t, rfl, upd_same, keepN hD nt, ?_, Same.put s3 nD, ?_⟩
      · unfold stepsK
        rw [List.length_map, List.length_take]
        exact Nat.lt_of_le_of_lt (show _ ≤ 1000 by omega) (by decide)
      · rw [upd_same, putK_new _ (steps_fresh ok.wires hw), take_get hw]
        unfold stepsK stI
        rw [List.map_append, List.map_cons, List.map_nil, xn, yn]
    · rintro H2 ⟨sm, hD⟩
      rw [lz, List.take_length] at hD
      exact k D H2 hD sm
abbrev sc_deed_faultN : List Str := ["steps", "value", "j", "i", "c", "item"]
theorem sc_deed_fault : FnScope sc_deed_faultN ["steps", "value"] (defScope s_deed_fault) := ⟨rfl, rfl, rfl, by decide +kernel, rfl, by decide +kernel, by decide +kernel⟩
def spFault : Sp := fun vs H Q _ => ∃ (D : Addr) (v : V) (ss : List Int) (ws : List (Nat × Nat)) (d : PyData) (N : Addr → Prop), vs = [.ref D, v] ∧ H D = some (.dT (stepsK ss ws)) ∧ MOk ss ws ∧ De N H v d ∧ ∀ (u : V) (H' : Hp), Im H' u (derr ss ws d) → Same H H' → Q u H'
theorem ok_fault {tF : Tok} {f : Addr} {fd : FuncData} (D : DefAt K mg "deed_fault" s_deed_fault ["steps", "value"] f fd) (T : Blt mg) (T_abs : mg "abs" = none) (g_F : mg "MAX_FACTOR" = some (.int (10 ^ 60) tF)) (c_is_an_integer : Cal P w K mg base 1 "is_an_integer" spIntE) : Cal P w K mg base 2 "deed_fault" spFault := by
  refine cal_of D sc_deed_fault (fun vs H Q E h => ?_) (fun cdv A outer s H vs Q E hr h => ?_)
  · obtain ⟨D0, v, ss, ws, d, N, rfl, _⟩ := h
    rfl
  · obtain ⟨D0, v, ss, ws, d, N, rfl, hD0, ok, hd, k⟩ := h
    refine ⟨_, (pss_cons (ps_if (PW.pt (pw_or (pt_not (pt_val (pe_callB (call_isiK' K rfl) (by rfl) T.isinstance (by decide +kernel) (pa_cons (pv 1) (pa_cons (pe_bltn (v := .ty "tuple") (u := .type "tuple") (by rfl) T.tuple (by decide +kernel) rfl) pa_nil))))) (pw_or (pt_cmpR op_ne (pe_callB (call_lenK K rfl) (by rfl) T.len PySem.boot_len (pa_cons (pv 1) pa_nil)) pe_int (nomark _)) (pw_or1 (pt_not (pt_val (pe_callB (cr_allK K rfl rfl) (by rfl) T.all boot_all (pa_cons (pe_lc (own := [("item", 5)]) rfl sc_deed_fault.nd (pi_tupK K rfl (pv 1)) (blkOk_by (N := sc_deed_faultN) (sc := defScope s_deed_fault) (by decide +kernel)) (fun _ _ _ _ _ => (pg_name (i := 5) sc_deed_fault.nd rfl (by first | exact .inl rfl | exact .inr rfl))) (fun _ _ _ _ _ => pts_nil) (fun _ _ _ _ _ => (pe_c c_is_an_integer hr (by decide) rfl (pa_cons (pv 5) pa_nil)))) pa_nil)))))))) (pss_one (ps_ret pe_str)) pss_nil)
      (pss_cons (ps_asg (pv 1) (pg_tup rfl (pgs_cons (pg_name (i := 2) sc_deed_fault.nd rfl (.inl rfl)) (pgs_cons (pg_name (i := 3) sc_deed_fault.nd rfl (.inl rfl)) (pgs_cons (pg_name (i := 4) sc_deed_fault.nd rfl (.inl rfl)) pgs_nil)))))
      (pss_cons (ps_if (pt_cmp (pc_dnotin (hu_of hr) (pe_tup (pa_cons (pv 2) (pa_cons (pv 3) pa_nil))) (pv 0))) (pss_one (ps_ret pe_str)) pss_nil)
      (pss_cons (ps_if (PW.pt (pw_or (pt_cmpR op_gt (pe_callB call_abs (by rfl) T_abs (by decide +kernel) (pa_cons (pv 4) pa_nil)) (pe_glob rfl g_F (show RelV (.int (10 ^ 60)) _ from ⟨_, rfl⟩)) (nomark _)) (pw_or1 (pt_cmpR op_ne (pe_op op_mod (pv 4) (pe_dget (hu_of hr) (pv 0) (pe_tup (pa_cons (pv 2) (pa_cons (pv 3) pa_nil))) (fun _ _ => rfl))) pe_int (nomark _))))) (pss_one (ps_ret pe_str)) pss_nil)
      (pss_one (ps_ret pe_non)))))), ?_⟩
    refine ⟨_, rfl, _, _, _, _, _, rfl, tyT, hd.ty, kit_tup K d, _, rfl, ?_⟩
    cases h0 : isT d with
    | false =>
      rw [derr_no (by cases d <;> first | rfl | cases h0)] at k
      exact iteT (iteT (k _ _ (.str _) (Same.refl H)))
    | true =>
    obtain ⟨a, xs, ds, rfl, rfl, ha, hs⟩ := hd.tuple h0
    have lx := hs.length
    refine iteF ⟨_, rfl, a, _, rfl, .inr (SqT.of ha), rfl, _, rfl, ?_⟩
    rw [lx, dec_int]
    by_cases l3 : ds.length = 3
    case neg =>
      rw [derr_no (by simp only [isTri, decide_eq_false l3, Bool.false_and])] at k
      rw [show (((ds.length : Nat) : Int) == (3 : Int)) = false from beq_eq_false_iff_ne.mpr (by omega)]
      exact iteT (iteT (k _ _ (.str _) (Same.refl H)))
    rw [l3]
    refine iteF ⟨_, rfl, a, rfl, ⟨_, SqT.of ha⟩, fun D nD => ?_⟩
    refine lc_tup (K := K) (a := a) (xs := xs) (fun i H' => Same H H' ∧ H' D = some (.lst (((ds.take i).map isI).map V.bl))) ⟨Same.new (Same.refl H) nD, upd_same⟩ (fun i H' _ z => SqT.of (z.1 _ _ ha)) ?_ ?_
    · rintro i x H2 hx ⟨sm, hD⟩
      obtain ⟨dx, hdx, dgx⟩ := hs.get hx
      refine ⟨rfl, _, rfl, x, dx, N, rfl, dgx.s sm, _, hD, small1000 (by rw [List.length_map, List.length_map, List.length_take]; omega), Same.put sm nD, ?_⟩
      rw [upd_same, take_get hdx, List.map_append, List.map_append]
      rfl
    rintro H2 ⟨sm, hD⟩
    rw [lx, List.take_length] at hD
    refine ⟨D, _, rfl, SqL.of hD, _, rfl, ?_⟩
    cases h2 : (ds.map isI).all id with
    | false =>
      have h3 : ds.all isI = false := by rw [List.all_map] at h2; exact h2
      rw [derr_no (by simp only [isTri, h3, Bool.and_false])] at k
      exact iteT (k _ _ (.str _) sm)
    | true =>
    refine iteF ?_
    obtain ⟨j, i, c, rfl, rfl⟩ : ∃ j i c : Int, ds = [.int j, .int i, .int c] ∧ xs = [.int j, .int i, .int c] := by
      have h3 : ds.all isI = true := by rw [List.all_map] at h2; exact h2
      match ds, l3, hs, h3 with
      | [d1, d2, d3], _, .cons q1 (.cons q2 (.cons q3 .nil)), h3 =>
        simp only [List.all_cons, List.all_nil, Bool.and_true, Bool.and_eq_true] at h3
        obtain ⟨j, rfl, rfl⟩ := q1.int_of h3.1
        obtain ⟨i, rfl, rfl⟩ := q2.int_of h3.2.1
        obtain ⟨c, rfl, rfl⟩ := q3.int_of h3.2.2
        exact ⟨j, i, c, rfl, rfl⟩
    refine ⟨_, rfl, a, _, rfl, SqT.of (sm _ _ ha), rfl, _, _, rfl, _, _, rfl, _, _, rfl, rfl, ?_⟩
    refine ⟨_, rfl, _, rfl, by show 2 ≤ sizeLine; decide, fun t nt => ⟨_, rfl, D0, _, rfl, DGet.t (k := [.inl j, .inl i]) (keepN (sm _ _ hD0) nt) upd_same, _, rfl, ?_⟩⟩
    have s3 : Same H (upd H2 t (.tup [.int j, .int i])) := Same.new sm nt
    generalize upd H2 t (.tup [.int j, .int i]) = H3 at *
    rw [val_steps]
    simp only [derr] at k
    cases hw : hasW ws j i with
    | false =>
      rw [hw, if_neg Bool.false_ne_true] at k
      rw [if_neg Bool.false_ne_true]
      exact iteT (k _ _ (.str _) s3)
    | true =>
    rw [hw, if_pos rfl] at k
    rw [if_pos rfl]
    refine iteF ⟨_, rfl, _, rfl, _, _, rfl, rfl, _, rfl, ?_⟩
    have ab : (if c < 0 then -c else c) = (c.natAbs : Int) := by split <;> omega
    rw [ab]
    have sp : (0 : Int) < (stI ss (j.toNat, i.toNat) : Int) := by
      obtain ⟨w', hw', hz⟩ := List.any_eq_true.mp hw
      rw [Bool.and_eq_true, decide_eq_true_eq, decide_eq_true_eq] at hz
      obtain ⟨wl1, wl2, _⟩ := ok.wires.low _ hw'
      obtain ⟨yi, ei, y2, y3, yn⟩ := sz_nat ok.size wl2
      have e2 : i.toNat = w'.2 := by omega
      have := stp_pos (a := (ss.getD j.toNat 0).toNat) (b := yi) (by omega)
      unfold stI
      show (0 : Int) < ((stp (ss.getD j.toNat 0).toNat (ss.getD i.toNat 0).toNat : Nat) : Int)
      rw [e2, yn]
      omega
    by_cases big : c.natAbs > 10 ^ 60
    · rw [if_pos (.inl big)] at k
      exact iteSK (show (10 ^ 60 : Int) < (c.natAbs : Int) by omega) (iteT (k _ _ (.str _) s3))
    · rw [decide_eq_false (show ¬ (10 ^ 60 : Int) < (c.natAbs : Int) by omega)]
      refine iteF ⟨_, rfl, _, rfl, _, rfl, _, rfl, by show 2 ≤ sizeLine; decide, fun t2 nt2 => ⟨D0, _, rfl, (by have z := DGet.t (k := [.inl j, .inl i]) (b := t2) (H := upd H3 t2 (.tup [.int j, .int i])) (keepN (s3 _ _ hD0) nt2) upd_same; rw [val_steps, hw, if_pos rfl] at z; exact z), _, _, rfl, rfl, sp, rfl, _, rfl, ?_⟩⟩
      have s4 : Same H (upd H3 t2 (.tup [.int j, .int i])) := Same.new s3 nt2
      by_cases md : c % ((stI ss (j.toNat, i.toNat) : Nat) : Int) = 0
      · rw [if_neg (by rintro (z | z); exact big z; exact z md)] at k
        exact iteNS (congrArg V.int md) (k _ _ .non s4)
      · rw [if_pos (.inr md)] at k
        exact iteNF (fun z => md (V.int.inj z)) (k _ _ (.str _) s4)
/-- what is wrong first with a program -/
inductive Perr (ss : List Int) (ws : List (Nat × Nat)) : PyData → PyData → Prop
  | form {d : PyData} (h : isT d = false) : Perr ss ws d (.str "form")
  | deed {l : List PyData} {i : Nat} {x : PyData} (e : l[i]? = some x) (before : ∀ (i' : Nat) (y : PyData), i' < i → l[i']? = some y → derr ss ws y = .none) (bad : derr ss ws x ≠ .none) : Perr ss ws (.tuple l) (.tuple [.str "deed", .int (i : Int)])
  | none {l : List PyData} (all : ∀ (i : Nat) (y : PyData), l[i]? = some y → derr ss ws y = .none) : Perr ss ws (.tuple l) .none
theorem Perr.det {ss : List Int} {ws : List (Nat × Nat)} {d e e' : PyData} (a : Perr ss ws d e) (b : Perr ss ws d e') : e = e' := by
  cases a with
  | form h => cases b with
    | form _ => rfl
    | deed _ _ _ => cases h
    | none _ => cases h
  | deed e1 f1 g1 =>
    rename_i i x
    cases b with
    | form h => cases h
    | deed e2 f2 g2 =>
      rename_i i' x'
      by_cases c1 : i' < i
      · exact absurd (f1 _ _ c1 e2) g2
      by_cases c2 : i < i'
      · exact absurd (f2 _ _ c2 e1) g1
      have : i = i' := by omega
      rw [this]
    | none al => exact absurd (al _ _ e1) g1
  | none al =>
    cases b with
    | form h => cases h
    | deed e2 f2 g2 => exact absurd (al _ _ e2) g2
    | none _ => rfl
theorem derr_non {H : Hp} {u : V} {ss : List Int} {ws : List (Nat × Nat)} {d : PyData} (h : Im H u (derr ss ws d)) : decide (u = V.non) = true ↔ derr ss ws d = .none := by
  constructor
  · intro z
    have e := of_decide_eq_true z
    subst e
    generalize derr ss ws d = x at h
    cases h
    rfl
  · intro z
    rw [z] at h
    cases h
    rfl
def cD (_ : PyData) : Prop := True
def cP (d : PyData) : Prop := ∀ l, d = .tuple l → l.length ≤ 2000
def spJudge (C : PyData → Prop) (F : List Int → List (Nat × Nat) → PyData → PyData → Prop) : Sp := fun vs H Q _ => ∃ (m v : V) (ss : List Int) (ws : List (Nat × Nat)) (d : PyData) (N : Addr → Prop), vs = [m, v] ∧ Im H m (mD ss ws) ∧ MOk ss ws ∧ De N H v d ∧ C d ∧ ∀ (u : V) (e : PyData) (H' : Hp), F ss ws d e → Im H' u e → Same H H' → Q u H'
def spJudgeF : Sp := fun vs H Q _ => ∃ (m v : V) (ss : List Int) (ws : List (Nat × Nat)) (d : PyData) (N : Addr → Prop) (first : Nat), vs = [m, v, .int (first : Int)] ∧ Im H m (mD ss ws) ∧ MOk ss ws ∧ De N H v d ∧ cP d ∧ first ≤ 2000 ∧ (∀ l, d = .tuple l → first ≤ l.length ∧ ∀ (i : Nat) (y : PyData), i < first → l[i]? = some y → derr ss ws y = .none) ∧ ∀ (u : V) (e : PyData) (H' : Hp), Perr ss ws d e → Im H' u e → Same H H' → Q u H'
abbrev sc_program_error_fromN : List Str := ["machine", "value", "first", "steps", "place"]
theorem sc_program_error_from : FnScope sc_program_error_fromN ["machine", "value", "first"] (defScope s_program_error_from) := ⟨rfl, rfl, rfl, by decide +kernel, rfl, by decide +kernel, by decide +kernel⟩
theorem ok_pfrom {tM : Tok} {f : Addr} {fd : FuncData} (D : DefAt K mg "program_error_from" s_program_error_from ["machine", "value", "first"] f fd) (T : Blt mg) (g_M : mg "MAX_DEEDS" = some (.int 1000000 tM)) (c_steps_of : Cal P w K mg base 2 "steps_of" spSteps) (c_deed_fault : Cal P w K mg base 2 "deed_fault" spFault) : Cal P w K mg base 3 "program_error_from" spJudgeF := by
  refine cal_of D sc_program_error_from (fun vs H Q E h => ?_) (fun cdv A outer s H vs Q E hr h => ?_)
  · obtain ⟨m, v, ss, ws, d, N, first, rfl, _⟩ := h
    rfl
  · obtain ⟨m, v, ss, ws, d, N, first, rfl, im, ok, hd, ln, f2, fs, k⟩ := h
    refine ⟨_, (pss_cons (ps_if (PW.pt (pw_or (pt_not (pt_val (pe_callB (call_isiK' K rfl) (by rfl) T.isinstance (by decide +kernel) (pa_cons (pv 1) (pa_cons (pe_bltn (v := .ty "tuple") (u := .type "tuple") (by rfl) T.tuple (by decide +kernel) rfl) pa_nil))))) (pw_or1 (pt_cmpR op_gt (pe_callB (call_lenK K rfl) (by rfl) T.len PySem.boot_len (pa_cons (pv 1) pa_nil)) (pe_glob rfl g_M (show RelV (.int 1000000) _ from ⟨_, rfl⟩)) (nomark _))))) (pss_one (ps_ret pe_str)) pss_nil)
      (pss_cons (ps_set (i := 3) sc_program_error_from.nd rfl (.inl rfl) (pe_c c_steps_of hr (by decide) rfl (pa_cons (pv 0) pa_nil)))
      (pss_cons (ps_for PassesOwn.never rfl (pi_range2 (by rfl) T.range (pa_cons (pv 2) (pa_cons (pe_callB (call_lenK K rfl) (by rfl) T.len PySem.boot_len (pa_cons (pv 1) pa_nil)) pa_nil))) (pg_name (i := 4) sc_program_error_from.nd rfl (.inl rfl)) (pss_one (ps_if (pt_cmpR op_notN (pe_c c_deed_fault hr (by decide) rfl (pa_cons (pv 3) (pa_cons (pe_ix (ix_tupK K rfl) (pv 1) (pv 4) (fun _ _ => rfl)) pa_nil))) pe_non (nomark _)) (pss_one (ps_ret (pe_tup (pa_cons pe_str (pa_cons (pv 4) pa_nil))))) pss_nil)))
      (pss_one (ps_ret pe_non))))), ?_⟩
    refine ⟨_, rfl, _, _, _, _, _, rfl, tyT, hd.ty, kit_tup K d, _, rfl, ?_⟩
    cases h0 : isT d with
    | false => exact iteT (iteT (k _ _ _ (.form h0) (.str _) (Same.refl H)))
    | true =>
    obtain ⟨a, xs, l, rfl, rfl, ha, hs⟩ := hd.tuple h0
    have lx := hs.length
    have l1 := ln l rfl
    obtain ⟨fl, fn⟩ := fs l rfl
    refine iteF ⟨_, rfl, a, _, rfl, .inr (SqT.of ha), _, _, rfl, rfl, _, rfl, ?_⟩
    rw [decide_eq_false (show ¬ (1000000 : Int) < (xs.length : Int) by omega)]
    refine iteF ?_
    refine ⟨_, rfl, _, ss, ws, rfl, im, ok, fun D1 H1 h1 s1 => ?_⟩
    refine ⟨_, rfl, _, rfl, a, xs, rfl, .inr (SqT.of (s1 _ _ ha)), (first : Int), _, rfl, ⟨by omega, by omega, by omega, by omega⟩, for_range (lo := (first : Int)) (n := ((xs.length : Nat) - (first : Int) : Int).toNat) (fun t σ H' => ∃ v4 : Option V, σ = [some m, some (.ref a), some (.int (first : Int)), some (.ref D1), v4] ∧ Same H1 H' ∧ ∀ (i' : Nat) (y : PyData), i' < first + t → l[i']? = some y → derr ss ws y = .none)
      ⟨none, rfl, Same.refl H1, fun i' y z e => fn i' y (by omega) e⟩ ?_ ?_⟩
    · rintro t σ H2 ht ⟨v4, rfl, sm, al⟩
      have lt : first + t < l.length := by omega
      obtain ⟨dx, hdx⟩ : ∃ dx, l[first + t]? = some dx := ⟨_, List.getElem?_eq_getElem lt⟩
      have ltx : first + t < xs.length := by omega
      obtain ⟨x2, e2⟩ : ∃ x, xs[first + t]? = some x := ⟨_, List.getElem?_eq_getElem ltx⟩
      obtain ⟨dx', hdx', dgx⟩ := hs.get e2
      rw [hdx] at hdx'
      cases hdx'
      have s4 : Same H H2 := s1.trans sm
      rw [show (first : Int) + (t : Int) = ((first + t : Nat) : Int) by omega]
      refine ⟨_, rfl, _, rfl, _, rfl, a, xs, _, _, rfl, rfl, SqT.of (s4 _ _ ha), atI_nat e2, D1, x2, ss, ws, dx, N, rfl, sm _ _ h1, ok, dgx.s s4, fun u H5 iu s5 => ⟨rfl, _, rfl, ?_⟩⟩
      have nn := derr_non iu
      by_cases e0 : derr ss ws dx = .none
      · rw [nn.mpr e0]
        refine iteF ⟨_, rfl, sm.trans s5, fun i' y hi hy => ?_⟩
        by_cases z : i' < first + t
        · exact al i' y z hy
        · have : i' = first + t := by omega
          subst this
          rw [hdx] at hy
          cases hy
          exact e0
      · rw [show decide (u = V.non) = false from Bool.eq_false_iff.mpr fun z => e0 (nn.mp z)]
        refine iteT ⟨_, rfl, by show 2 ≤ sizeLine; decide, fun t9 nt9 => ?_⟩
        exact k _ _ _ (.deed hdx al e0) (.tup upd_same (.cons (.str _) (.cons (.int _) .nil))) (Same.new (s4.trans s5) nt9)
    · rintro σ H2 ⟨v4, rfl, sm, al⟩
      exact k _ _ _ (.none fun i y e => al i y (by have := (List.getElem?_eq_some_iff.mp e).1; omega) e) .non (s1.trans sm)
abbrev sc_program_errorN : List Str := ["machine", "value"]
theorem sc_program_error : FnScope sc_program_errorN ["machine", "value"] (defScope s_program_error) := ⟨rfl, rfl, rfl, by decide +kernel, rfl, by decide +kernel, by decide +kernel⟩
theorem fn_perr {f : Addr} {fd : FuncData} (D : DefAt K mg "program_error" s_program_error ["machine", "value"] f fd) (c_program_error_from : Cal P w K mg base 3 "program_error_from" spJudgeF) : FnOk P w K mg base CX0 4 f fd ["machine", "value"] (spJudge cP Perr) := by
  refine D.fn.ok sc_program_error (fun vs H Q E h => ?_) (fun cdv A outer s H vs Q E hr h => ?_)
  · obtain ⟨m, v, ss, ws, d, N, rfl, _⟩ := h
    rfl
  · obtain ⟨m, v, ss, ws, d, N, rfl, im, ok, hd, ln, k⟩ := h
    refine ⟨_, (pss_one (ps_ret (pe_c c_program_error_from hr (by decide) rfl (pa_cons (pv 0) (pa_cons (pv 1) (pa_cons pe_int pa_nil)))))), ?_⟩
    exact ⟨_, rfl, _, rfl, m, v, ss, ws, d, N, 0, rfl, im, ok, hd, ln, by decide, fun l _ => ⟨Nat.zero_le _, fun i y z => absurd z (Nat.not_lt_zero _)⟩, k⟩
def kg21d {α : Type} : List α → List α → List α
  | [], [a, b] => [b, a]
  | _, _ => []
theorem kg21d_rel {vs zs : List V} {us ws : List Value} (h1 : Vals vs us) (h2 : Vals zs ws) : Vals (kg21d vs zs) (kg21d us ws) := by
  cases h1 with
  | cons _ _ => exact .nil
  | nil =>
    cases h2 with
    | nil => exact .nil
    | cons a h2 =>
      cases h2 with
      | nil => exact .nil
      | cons b h2 =>
        cases h2 with
        | nil => exact .cons b (.cons a .nil)
        | cons _ _ => exact .nil
theorem k_perr {f : Addr} {fd : FuncData} (F : Fun K "program_error" "program_error" s_program_error f fd) : KBinds K fd ["machine", "value"] ["value", "machine"] kg21d kg21d := by
  obtain ⟨oc, od, kV, doc, pm, an, cdv, ct, osl, rfl, lk, hcd⟩ := F.ex
  refine ⟨fun s us ws _ hl => ?_, kg21d_rel⟩
  match us, ws, hl with
  | [], [a, b], _ => exact .of_eq rfl

theorem newFacts {H H1 : Hp} {t : Addr} {o : HO} (e : upd H t o = H1) (n : H t = none) : Same H H1 ∧ H1 t = some o := by
  subst e
  exact ⟨Same.new (Same.refl H) n, upd_same⟩
theorem ifS_shareU {tt : TT} {ta tb : TS} {D : Ends} {σ : L2.St} {H : Hp} {N : L2.St → Hp → Prop} (h : (∀ σ' H', N σ' H' → tb D σ' H') → tSeq (tIfS tt ta tNext) tb D σ H) (rest : ∀ σ' H', N σ' H' → tb D σ' H') : tSeq (tIfS tt ta tNext) tb D σ H := h rest
theorem dec_int1 (x y : Int) : decide (V.int x = V.int y) = decide (x = y) := by
  by_cases z : x = y
  · rw [z, decide_eq_true rfl, decide_eq_true rfl]
  · rw [decide_eq_false z, decide_eq_false (fun q => z (V.int.inj q))]
theorem row_at {r : List Int} {j : Nat} (h : j < r.length) : (r.map V.int)[j]? = some (.int (r.getD j 0)) := by
  rw [List.getElem?_map, List.getD_eq_getElem?_getD, List.getElem?_eq_getElem h]
  rfl
theorem ixN_ofU {n j : Nat} (h : j < n) : ixN n (j : Int) = some j := by
  unfold ixN
  simp [h]
theorem upd_twiceU {H : Hp} {a : Addr} {o u : HO} : upd (upd H a o) a u = upd H a u := by
  funext b
  by_cases e : b = a
  · rw [e, upd_same, upd_same]
  · rw [upd_ne e, upd_ne e, upd_ne e]
abbrev sc_row_with_entryN : List Str := ["rows", "first", "k", "at"]
theorem sc_row_with_entry : FnScope sc_row_with_entryN ["rows", "first", "k"] (defScope s_row_with_entry) := ⟨rfl, rfl, rfl, by decide +kernel, rfl, by decide +kernel, by decide +kernel⟩
def spRwe : Sp := fun vs H Q _ => ∃ (R : Addr) (rs : List Addr) (t : List (List Int)) (m c first k : Nat), vs = [.ref R, .int first, .int k] ∧ Ll R H rs t ∧ Rc m c t ∧ first ≤ m ∧ k < c ∧ m ≤ 1000 ∧
  ((∀ i, first ≤ i → i < m → en t i k = 0) → Q .non H) ∧ (∀ a, first ≤ a → a < m → en t a k ≠ 0 → (∀ i, first ≤ i → i < a → en t i k = 0) → Q (.int (a : Int)) H)
theorem ok_rwe {f : Addr} {fd : FuncData} (D : DefAt K mg "row_with_entry" s_row_with_entry ["rows", "first", "k"] f fd) (T : Blt mg) : Cal P w K mg base 1 "row_with_entry" spRwe := by
  refine cal_of D sc_row_with_entry (fun vs H Q E h => ?_) (fun cdv A outer s H vs Q E hr h => ?_)
  · obtain ⟨R, rs, t, m, c, first, k, rfl, _⟩ := h
    rfl
  · obtain ⟨R, rs, t, m, c, first, k, rfl, hL, hR, fm, kc, m1, q0, q1⟩ := h
    refine ⟨_, (pss_cons (ps_for PassesOwn.never rfl (pi_range2 (by rfl) T.range (pa_cons (pv 1) (pa_cons (pe_callB (call_lenK K rfl) (by rfl) T.len PySem.boot_len (pa_cons (pv 0) pa_nil)) pa_nil))) (pg_name (i := 3) sc_row_with_entry.nd rfl (.inl rfl)) (pss_one (ps_if (pt_cmpR op_ne (pe_ix (ix_listK K rfl) (pe_ix (ix_listK K rfl) (pv 0) (pv 3) (fun _ _ => rfl)) (pv 2) (fun _ _ => rfl)) pe_int (nomark _)) (pss_one (ps_ret (pv 3))) pss_nil)))
      (pss_one (ps_ret pe_non))), ?_⟩
    have lrs : rs.length = m := by rw [hL.len, hR.len]
    refine ⟨_, rfl, _, rfl, R, _, rfl, .inl (SqL.of hL.top), (first : Int), _, rfl, ⟨by omega, by omega, by rw [List.length_map]; omega, by rw [List.length_map]; omega⟩, for_range (lo := (first : Int)) (n := ((((rs.map V.ref).length : Nat) : Int) - (first : Int)).toNat) (fun i σ H' => ∃ v3 : Option V, σ = [some (.ref R), some (.int (first : Int)), some (.int (k : Int)), v3] ∧ H' = H ∧ ∀ i', first ≤ i' → i' < first + i → en t i' k = 0)
      ⟨none, rfl, rfl, fun i' h1 h2 => absurd h2 (by omega)⟩ ?_ ?_⟩
    · rintro i σ H' hi ⟨v3, rfl, rfl, al⟩
      rw [List.length_map] at hi
      have lt : first + i < m := by omega
      obtain ⟨r, er, lr⟩ := hR.get lt
      obtain ⟨a, ha, hav, hr⟩ := hL.at er
      rw [show (first : Int) + (i : Int) = ((first + i : Nat) : Int) by omega]
      refine ⟨_, rfl, _, rfl, R, _, _, _, rfl, rfl, SqL.of hL.top, atI_nat hav, _, rfl, a, _, k, _, rfl, rfl, SqL.of hr, atI_nat (row_at (by omega)), rfl, _, rfl, ?_⟩
      rw [← en_of er, dec_int1]
      by_cases z : en t (first + i) k = 0
      · rw [decide_eq_true z]
        refine iteF ⟨_, rfl, rfl, fun i' h1 h2 => ?_⟩
        by_cases e : i' = first + i
        · rw [e]
          exact z
        · exact al i' h1 (by omega)
      · rw [decide_eq_false z]
        exact iteT ⟨_, rfl, q1 (first + i) (by omega) lt z (fun i' h1 h2 => al i' h1 h2)⟩
    · rintro σ H' ⟨v3, rfl, rfl, al⟩
      rw [List.length_map] at al
      exact q0 fun i' h1 h2 => al i' h1 (by omega)
abbrev sc_determinantN : List Str := ["square", "rows", "many", "sign", "last", "k", "at", "i", "j", "row"]
theorem sc_determinant : FnScope sc_determinantN ["square"] (defScope s_determinant) := ⟨rfl, rfl, rfl, by decide +kernel, rfl, by decide +kernel, by decide +kernel⟩
def spDet : Sp := fun vs H Q _ => ∃ (v : Addr) (rs : List Addr) (t : List (List Int)) (n B : Nat), vs = [.ref v] ∧ Ll v H rs t ∧ Sq n t ∧ n ≤ 100 ∧ (∀ i j, i < n → j < n → (en t i j).natAbs ≤ B) ∧ (∀ m, m ≤ n → bnd B m < 2 ^ 4000) ∧ ∀ H', Same H H' → Q (.int (det n (en t))) H'
theorem ok_det {f : Addr} {fd : FuncData} (D : DefAt K mg "determinant" s_determinant ["square"] f fd) (T : Blt mg) (c_row_with_entry : Cal P w K mg base 1 "row_with_entry" spRwe) : Cal P w K mg base 2 "determinant" spDet := by
  refine cal_of D sc_determinant (fun vs H Q E h => ?_) (fun cdv A outer s H vs Q E hr h => ?_)
  · obtain ⟨v, rs, t, n, B, rfl, _⟩ := h
    rfl
  · obtain ⟨v, rs0, t0, n, B, rfl, hL0, sq0, n1, bB, bb, k⟩ := h
    refine ⟨_, (pss_cons (ps_setLc (i := 1) (own := [("row", 9)]) rfl sc_determinant.nd rfl rfl (sw_true rfl rfl rfl (by decide +kernel)) (pi_listK K rfl (pv 0)) (blkOk_by (N := sc_determinantN) (sc := defScope s_determinant) (by decide +kernel)) (fun _ _ _ _ _ => (pg_name (i := 9) sc_determinant.nd rfl (by first | exact .inl rfl | exact .inr rfl))) (fun _ _ _ _ _ => pts_nil) (fun _ _ _ _ _ => (pe_callTy (call_listK K rfl) (by rfl) T.list (by decide +kernel) (pa_cons (pv 9) pa_nil))))
      (pss_cons (ps_set (i := 2) sc_determinant.nd rfl (.inl rfl) (pe_callB (call_lenK K rfl) (by rfl) T.len PySem.boot_len (pa_cons (pv 1) pa_nil)))
      (pss_cons (ps_set (i := 3) sc_determinant.nd rfl (.inl rfl) pe_int)
      (pss_cons (ps_set (i := 4) sc_determinant.nd rfl (.inl rfl) pe_int)
      (pss_cons (ps_for PassesOwn.never rfl (pi_range1 (by rfl) T.range (pa_cons (pv 2) pa_nil)) (pg_name (i := 5) sc_determinant.nd rfl (.inl rfl)) (pss_cons (ps_set (i := 6) sc_determinant.nd rfl (.inl rfl) (pe_c c_row_with_entry hr (by decide) rfl (pa_cons (pv 1) (pa_cons (pv 5) (pa_cons (pv 5) pa_nil)))))
      (pss_cons (ps_if (pt_cmpR op_isN (pv 6) pe_non (nomark _)) (pss_one (ps_ret pe_int)) pss_nil)
      (pss_cons (ps_if (pt_cmpR op_ne (pv 6) (pv 5) (nomark _)) (pss_cons (ps_asg (pe_tup (pa_cons (pe_ix (ix_listK K rfl) (pv 1) (pv 6) (fun _ _ => rfl)) (pa_cons (pe_ix (ix_listK K rfl) (pv 1) (pv 5) (fun _ _ => rfl)) pa_nil))) (pg_tup rfl (pgs_cons (pg_sub (pv 1) (pv 5) set_list) (pgs_cons (pg_sub (pv 1) (pv 6) set_list) pgs_nil))))
      (pss_one (ps_set (i := 3) sc_determinant.nd rfl (.inl rfl) (pe_un un_neg (pv 3))))) pss_nil)
      (pss_cons (ps_for PassesOwn.never rfl (pi_range2 (by rfl) T.range (pa_cons (pe_op op_add (pv 5) pe_int) (pa_cons (pv 2) pa_nil))) (pg_name (i := 7) sc_determinant.nd rfl (.inl rfl)) (pss_one (ps_for PassesOwn.never rfl (pi_range2 (by rfl) T.range (pa_cons (pe_op op_add (pv 5) pe_int) (pa_cons (pv 2) pa_nil))) (pg_name (i := 8) sc_determinant.nd rfl (.inl rfl)) (pss_one (ps_asg (pe_op op_fdivZ (pe_op op_sub (pe_op op_mulW (pe_ix (ix_listK K rfl) (pe_ix (ix_listK K rfl) (pv 1) (pv 5) (fun _ _ => rfl)) (pv 5) (fun _ _ => rfl)) (pe_ix (ix_listK K rfl) (pe_ix (ix_listK K rfl) (pv 1) (pv 7) (fun _ _ => rfl)) (pv 8) (fun _ _ => rfl))) (pe_op op_mulW (pe_ix (ix_listK K rfl) (pe_ix (ix_listK K rfl) (pv 1) (pv 7) (fun _ _ => rfl)) (pv 5) (fun _ _ => rfl)) (pe_ix (ix_listK K rfl) (pe_ix (ix_listK K rfl) (pv 1) (pv 5) (fun _ _ => rfl)) (pv 8) (fun _ _ => rfl)))) (pv 4)) (pg_sub (pe_ix (ix_listK K rfl) (pv 1) (pv 7) (fun _ _ => rfl)) (pv 8) set_list))))))
      (pss_one (ps_set (i := 4) sc_determinant.nd rfl (.inl rfl) (pe_ix (ix_listK K rfl) (pe_ix (ix_listK K rfl) (pv 1) (pv 5) (fun _ _ => rfl)) (pv 5) (fun _ _ => rfl)))))))))
      (pss_one (ps_ret (pe_op op_mulW (pv 3) (pv 4))))))))), ?_⟩
    have lr0 : rs0.length = n := by rw [hL0.len, sq0.len]
    refine ⟨_, rfl, v, rfl, ⟨_, SqL.of hL0.top⟩, fun R nR => ?_⟩
    refine lc_list (K := K) (a := v) (xs := rs0.map V.ref) (fun i H' => Same H H' ∧ ∃ rs : List Addr, Rw R H' rs (t0.take i) ∧ ∀ a ∈ rs, H a = none) ⟨Same.new (Same.refl H) nR, [], ⟨⟨upd_same, rfl, fun i a z => by simp at z⟩, List.nodup_nil, fun a z => by cases z⟩, fun a z => by cases z⟩ (fun i H' _ z => SqL.of (z.1 _ _ hL0.top)) ?_ ?_
    · rintro i x H1 hx ⟨sm, rs, hw, fr⟩
      obtain ⟨a, ha, rfl⟩ := map_get hx
      obtain ⟨r, er, hra⟩ := hL0.row i a ha
      have il := (List.getElem?_eq_some_iff.mp ha).1
      refine ⟨rfl, _, rfl, a, _, rfl, .inl (SqL.of (sm _ _ hra)), fun g ng => ?_⟩
      generalize qg : upd H1 g (HO.lst _) = H2
      obtain ⟨s2, h2⟩ := newFacts qg ng
      have w2 := hw.same s2
      have ngR : g ≠ R := fun e => by
        rw [e, hw.top] at ng
        cases ng
      have lrs : rs.length = i := by
        rw [hw.len, List.length_take]
        have := (List.getElem?_eq_some_iff.mp er).1
        omega
      refine ⟨_, w2.top, small1000 (by rw [List.length_map]; omega), Same.put (sm.trans s2) nR, rs ++ [g], ?_, fun b hb => ?_⟩
      · rw [take_get2 er]
        exact w2.put h2 (fun m => by
          obtain ⟨j, lj, ej⟩ := List.getElem_of_mem m
          obtain ⟨r', _, z⟩ := hw.row j g (by rw [List.getElem?_eq_getElem lj, ej])
          rw [ng] at z
          cases z) ngR
      · rcases List.mem_append.mp hb with hb | hb
        · exact fr b hb
        · rw [List.mem_singleton.mp hb]
          exact Same.free sm ng
    rintro H1 ⟨sm1, rs1, hw1, fr1⟩
    rw [List.length_map, lr0, ← sq0.len, List.take_length] at hw1
    have lr1 : rs1.length = n := by rw [hw1.len, sq0.len]
    refine ⟨_, rfl, R, _, rfl, .inl (SqL.of hw1.top), ?_⟩
    rw [List.length_map, lr1]
    refine ⟨_, rfl, _, rfl, by omega, by omega, for_range (lo := 0) (n := ((n : Nat) : Int).toNat) (fun k σ H' => ∃ (v5 v6 v7 v8 : Option V) (rs : List Addr) (t : List (List Int)) (sgn last : Int) (A : Mx), σ = [some (.ref v), some (.ref R), some (.int (n : Int)), some (.int sgn), some (.int last), v5, v6, v7, v8, none] ∧ Same H H' ∧ Rw R H' rs t ∧ (∀ a ∈ rs, H a = none) ∧ Bar n k B (en t0) t sgn last A)
      ⟨none, none, none, none, rs1, t0, 1, 1, en t0, rfl, sm1, hw1, fr1, Bar.start sq0 bB⟩ ?_ ?_⟩
    · rintro k' σ H2 hk ⟨v5, v6, v7, v8, rs, t, sgn, last, A', rfl, sm, hw, fr, bar⟩
      have kn : k' < n := by omega
      have bl : ∀ i j, k' ≤ i → i < n → k' ≤ j → j < n → (en t i j).natAbs < 2 ^ 4000 := fun i j h1 h2 h3 h4 => by
        rw [bar.ent i j h1 h2 h3 h4]
        exact Nat.lt_of_le_of_lt (brd_bound bar.bA kn h2 h4) (bb (k' + 1) (by omega))
      rw [show (0 : Int) + (k' : Int) = ((k' : Nat) : Int) by omega]
      refine ⟨_, rfl, _, rfl, _, rfl, R, rs, t, n, n, k', k', rfl, hw.toLl, bar.sq.rc, by omega, kn, by omega, fun z => ?_, fun a ka an ne _ => ?_⟩
      · refine ⟨_, rfl, rfl, _, rfl, iteT ?_⟩
        rw [← bar.none kn z]
        exact k H2 sm
      refine ⟨_, rfl, rfl, _, rfl, iteF ?_⟩
      unfold tNext
      dsimp only
      refine ifS_shareU (N := fun σ' H' => ∃ (rs : List Addr) (t : List (List Int)) (sgn : Int) (A : Mx), σ' = [some (.ref v), some (.ref R), some (.int (n : Int)), some (.int sgn), some (.int last), some (.int (k' : Int)), some (.int (a : Int)), v7, v8, none] ∧ Same H H' ∧ Rw R H' rs t ∧ (∀ a ∈ rs, H a = none) ∧ Bar n k' B (en t0) t sgn last A ∧ en t k' k' ≠ 0) (fun rest => ?_) ?_
      · refine ⟨_, rfl, _, rfl, rfl, _, rfl, ?_⟩
        rw [dec_int1]
        by_cases e : (a : Int) = (k' : Int)
        · have e' : a = k' := by omega
          subst e'
          rw [decide_eq_true rfl]
          exact iteF (rest _ _ ⟨rs, t, sgn, A', rfl, sm, hw, fr, bar, ne⟩)
        · rw [decide_eq_false e]
          obtain ⟨x, ex, _⟩ := bar.sq.rc.get kn
          obtain ⟨y, ey, _⟩ := bar.sq.rc.get an
          obtain ⟨p1, hp1, hv1, _⟩ := hw.toLl.at ex
          obtain ⟨p2, hp2, hv2, _⟩ := hw.toLl.at ey
          refine iteT ⟨_, rfl, _, rfl, R, _, _, _, rfl, rfl, SqL.of hw.top, atI_nat hv2, _, rfl, _, rfl, R, _, _, _, rfl, rfl, SqL.of hw.top, atI_nat hv1, by show 2 ≤ sizeLine; decide, fun tp ntp => ?_⟩
          generalize qt : upd H2 tp (HO.tup _) = H3
          obtain ⟨s3, h3⟩ := newFacts qt ntp
          have w3 := hw.same s3
          have lrs : rs.length = n := by rw [hw.len, bar.sq.len]
          refine ⟨tp, _, rfl, SqT.of h3, rfl, _, _, rfl, _, rfl, _, rfl, R, _, _, k', rfl, rfl, w3.top, ixN_ofU (by rw [List.length_map]; omega), _, _, rfl, _, rfl, _, rfl, R, _, _, a, rfl, rfl, upd_same, ixN_ofU (by rw [List.length_set, List.length_map]; omega), rfl, ?_⟩
          rw [upd_twiceU]
          have w4 := w3.turn hp1 hp2 ex ey
          refine ⟨_, rfl, _, rfl, ?_⟩
          refine rest _ _ ⟨swL rs k' a p1 p2, swL t k' a x y, -sgn, swp A' k' a, rfl, Same.put (sm.trans s3) nR, w4, fun b hb => ?_, bar.turn (by omega) an ex ey, ?_⟩
          · unfold swL at hb
            rcases List.mem_or_eq_of_mem_set hb with m | m
            · rcases List.mem_or_eq_of_mem_set m with m | m
              · exact fr b m
              · rw [m]
                exact fr _ (List.mem_of_getElem? hp2)
            · rw [m]
              exact fr _ (List.mem_of_getElem? hp1)
          · rw [en_swL ex ey, if_neg (by omega), if_pos rfl]
            exact ne
      rintro σ4 H4 ⟨rs2, t2, sg2, A2, rfl, sm2, hw2, fr2, bar2, ne2⟩
      have bl2 : ∀ i j, k' ≤ i → i < n → k' ≤ j → j < n → (en t2 i j).natAbs < 2 ^ 4000 := fun i j h1 h2 h3 h4 => by
        rw [bar2.ent i j h1 h2 h3 h4]
        exact Nat.lt_of_le_of_lt (brd_bound bar2.bA kn h2 h4) (bb (k' + 1) (by omega))
      have llast : last.natAbs < 2 ^ 4000 := by
        rw [bar2.la]
        exact Nat.lt_of_le_of_lt (det_bound fun r c hr hc => bar2.bA r c (by omega) (by omega)) (bb k' (by omega))
      have lnz := bar2.last_ne
      have lr2 : rs2.length = n := by rw [hw2.len, bar2.sq.len]
      refine ⟨_, rfl, _, _, rfl, rfl, _, rfl, (k' : Int) + 1, _, rfl, ⟨by omega, by omega, by omega, by omega⟩, for_range (lo := (k' : Int) + 1) (n := ((n : Int) - ((k' : Int) + 1)).toNat) (fun d σ H' => ∃ (v7 v8 : Option V) (u : List (List Int)), σ = [some (.ref v), some (.ref R), some (.int (n : Int)), some (.int sg2), some (.int last), some (.int (k' : Int)), some (.int (a : Int)), v7, v8, none] ∧ Same H H' ∧ Rw R H' rs2 u ∧ Sq n u ∧
          (∀ i j, i < n → j < n → en u i j = if k' < i ∧ i < k' + 1 + d ∧ k' < j then (en t2 k' k' * en t2 i j - en t2 i k' * en t2 k' j).fdiv last else en t2 i j))
        ⟨v7, v8, t2, rfl, sm2, hw2, bar2.sq, fun i j hi hj => by rw [if_neg (by omega)]⟩ ?_ ?_⟩
      · rintro d σ H5 hd ⟨v7, v8, u, rfl, sm5, hw5, squ, eu⟩
        have il : k' + 1 + d < n := by omega
        rw [show (k' : Int) + 1 + (d : Int) = ((k' + 1 + d : Nat) : Int) by omega]
        generalize hi9 : k' + 1 + d = i at *
        refine ⟨_, rfl, _, _, rfl, rfl, _, rfl, (k' : Int) + 1, _, rfl, ⟨by omega, by omega, by omega, by omega⟩, for_range (lo := (k' : Int) + 1) (n := ((n : Int) - ((k' : Int) + 1)).toNat) (fun e σ H' => ∃ (v8 : Option V) (u2 : List (List Int)), σ = [some (.ref v), some (.ref R), some (.int (n : Int)), some (.int sg2), some (.int last), some (.int (k' : Int)), some (.int (a : Int)), some (.int (i : Int)), v8, none] ∧ Same H H' ∧ Rw R H' rs2 u2 ∧ Sq n u2 ∧
            (∀ i' j, i' < n → j < n → en u2 i' j = if i' = i ∧ k' < j ∧ j < k' + 1 + e then (en t2 k' k' * en t2 i j - en t2 i k' * en t2 k' j).fdiv last else en u i' j))
          ⟨v8, u, rfl, sm5, hw5, squ, fun i' j hi' hj => by rw [if_neg (by omega)]⟩ ?_ ?_⟩
        · rintro e σ H6 he ⟨v8, u2, rfl, sm6, hw6, squ2, eu2⟩
          have jl : k' + 1 + e < n := by omega
          rw [show (k' : Int) + 1 + (e : Int) = ((k' + 1 + e : Nat) : Int) by omega]
          generalize hj9 : k' + 1 + e = j at *
          obtain ⟨rk, erk, lrk⟩ := squ2.rc.get kn
          obtain ⟨ri, eri, lri⟩ := squ2.rc.get il
          obtain ⟨pk, hpk, hvk, hrk⟩ := hw6.toLl.at erk
          obtain ⟨pi, hpi, hvi, hri⟩ := hw6.toLl.at eri
          have ekk : rk.getD k' 0 = en t2 k' k' := by rw [← en_of erk, eu2 _ _ kn kn, if_neg (by omega), eu _ _ kn kn, if_neg (by omega)]
          have ekj : rk.getD j 0 = en t2 k' j := by rw [← en_of erk, eu2 _ _ kn jl, if_neg (by omega), eu _ _ kn jl, if_neg (by omega)]
          have eik : ri.getD k' 0 = en t2 i k' := by rw [← en_of eri, eu2 _ _ il kn, if_neg (by omega), eu _ _ il kn, if_neg (by omega)]
          have eij : ri.getD j 0 = en t2 i j := by rw [← en_of eri, eu2 _ _ il jl, if_neg (by omega), eu _ _ il jl, if_neg (by omega)]
          have b1 := bl2 k' k' (Nat.le_refl _) kn (Nat.le_refl _) kn
          have b2 := bl2 i j (by omega) il (by omega) jl
          have b3 := bl2 i k' (by omega) il (Nat.le_refl _) kn
          have b4 := bl2 k' j (Nat.le_refl _) kn (by omega) jl
          refine ⟨_, rfl, _, rfl, R, _, _, _, rfl, rfl, SqL.of hw6.top, atI_nat hvk, _, rfl, pk, _, k', _, rfl, rfl, SqL.of hrk, atI_nat (row_at (by omega)), _, rfl, _, rfl, R, _, _, _, rfl, rfl, SqL.of hw6.top, atI_nat hvi, _, rfl, pi, _, j, _, rfl, rfl, SqL.of hri, atI_nat (row_at (by omega)), _, _, rfl, rfl, wide_mul (a := 4000) (b := 4000) (by rw [ekk]; exact b1) (by rw [eij]; exact b2) (by decide) (by decide) (by decide),
            _, rfl, _, rfl, R, _, _, _, rfl, rfl, SqL.of hw6.top, atI_nat hvi, _, rfl, pi, _, k', _, rfl, rfl, SqL.of hri, atI_nat (row_at (by omega)), _, rfl, _, rfl, R, _, _, _, rfl, rfl, SqL.of hw6.top, atI_nat hvk, _, rfl, pk, _, j, _, rfl, rfl, SqL.of hrk, atI_nat (row_at (by omega)), _, _, rfl, rfl, wide_mul (a := 4000) (b := 4000) (by rw [eik]; exact b3) (by rw [ekj]; exact b4) (by decide) (by decide) (by decide),
            _, _, rfl, rfl, _, rfl, _, _, rfl, rfl, div_z (b := 4000) lnz llast (by decide) (by decide), _, rfl, _, rfl, R, _, _, _, rfl, rfl, SqL.of hw6.top, atI_nat hvi, _, rfl, pi, _, _, j, rfl, rfl, hri, ixN_ofU (by rw [List.length_map]; omega), ?_⟩
          have w7 := hw6.set hpi (ri.set j ((en t2 k' k' * en t2 i j - en t2 i k' * en t2 k' j).fdiv last))
          rw [List.map_set] at w7
          rw [ekk, ekj, eik, eij]
          refine ⟨_, _, rfl, Same.put sm6 (fr2 _ (List.mem_of_getElem? hpi)), w7, (squ2.rc.set i (by rw [List.length_set]; exact lri)).sq, fun i' j' hi' hj' => ?_⟩
          rw [en_set (by rw [squ2.len]; exact il)]
          by_cases q1 : i' = i
          · subst q1
            rw [if_pos rfl, getD_setI (by omega)]
            by_cases q2 : j' = j
            · subst q2
              rw [if_pos rfl, if_pos (by omega)]
            · rw [if_neg q2, ← en_of eri, eu2 _ _ il hj']
              by_cases q3 : k' < j' ∧ j' < j
              · rw [if_pos (by omega), if_pos (by omega)]
              · rw [if_neg (by omega), if_neg (by omega)]
          · rw [if_neg q1, eu2 _ _ hi' hj', if_neg (by omega), if_neg (by omega)]
        · rintro σ H6 ⟨v8, u2, rfl, sm6, hw6, squ2, eu2⟩
          refine ⟨_, _, u2, rfl, sm6, hw6, squ2, fun i' j hi' hj => ?_⟩
          rw [eu2 _ _ hi' hj, eu _ _ hi' hj]
          by_cases q1 : i' = i
          · subst q1
            by_cases q2 : k' < j
            · rw [if_pos (by omega), if_pos (by omega)]
            · rw [if_neg (by omega), if_neg (by omega), if_neg (by omega)]
          · rw [if_neg (by omega)]
            by_cases q2 : k' < i' ∧ i' < i ∧ k' < j
            · rw [if_pos q2, if_pos (by omega)]
            · rw [if_neg q2, if_neg (by omega)]
      · rintro σ H5 ⟨v7, v8, u, rfl, sm5, hw5, squ, eu⟩
        obtain ⟨rk, erk, lrk⟩ := squ.rc.get kn
        obtain ⟨pk, hpk, hvk, hrk⟩ := hw5.toLl.at erk
        have ekk : rk.getD k' 0 = en t2 k' k' := by rw [← en_of erk, eu _ _ kn kn, if_neg (by omega)]
        refine ⟨_, rfl, _, rfl, R, _, _, _, rfl, rfl, SqL.of hw5.top, atI_nat hvk, _, rfl, pk, _, k', _, rfl, rfl, SqL.of hrk, atI_nat (row_at (by omega)), ?_⟩
        rw [ekk]
        refine ⟨_, _, _, _, rs2, u, sg2, en t2 k' k', A2, rfl, sm5, hw5, fr2, bar2.next kn ne2 squ fun i j h1 h2 h3 h4 => ?_⟩
        rw [eu i j h2 h4, if_pos (by omega)]
    · rintro σ H2 ⟨v5, v6, v7, v8, rs, t, sgn, last, A', rfl, sm, hw, fr, bar⟩
      rw [show ((n : Nat) : Int).toNat = n by omega] at bar
      have z := bar.fin
      refine ⟨_, rfl, _, rfl, _, _, rfl, rfl, wide_mul (a := 2) (b := 4000) (by rcases bar.s1 with s | s <;> rw [s] <;> decide) ?_ (by decide) (by decide) (by decide), ?_⟩
      · rw [bar.la]
        exact Nat.lt_of_le_of_lt (det_bound bar.bA) (bb n (Nat.le_refl n))
      · show Q (.int (sgn * last)) H2
        rw [z]
        exact k H2 sm

theorem iteSKu {c A B : Prop} [Decidable c] (hc : c) (h : A) : if decide c = true then A else B := by
  rw [decide_eq_true hc]
  exact iteT h
theorem iteSKn {c A B : Prop} [Decidable c] (hc : ¬ c) (h : B) : if decide c = true then A else B := by
  rw [decide_eq_false hc]
  exact iteF h
theorem iteNFu {c A B : Prop} [Decidable c] (hc : ¬ c) (h : A) : if (!decide c) = true then A else B := by
  rw [decide_eq_false hc]
  exact iteT h
abbrev sc_inverseN : List Str := ["number", "modulus", "ahead", "behind", "found", "coming", "times"]
theorem sc_inverse : FnScope sc_inverseN ["number", "modulus"] (defScope s_inverse) := ⟨rfl, rfl, rfl, by decide +kernel, rfl, by decide +kernel, by decide +kernel⟩
def spInv : Sp := fun vs H Q _ => ∃ (n m : Nat), vs = [.int n, .int m] ∧ 0 < m ∧ m < 2 ^ 1000 ∧ Nat.gcd m n = 1 ∧ ∀ (r : Nat) (H' : Hp), r < m → (m : Int) ∣ (n : Int) * (r : Int) - 1 → Same H H' → Q (.int (r : Int)) H'
theorem ok_inv {f : Addr} {fd : FuncData} (D : DefAt K mg "inverse" s_inverse ["number", "modulus"] f fd) : Cal P w K mg base 1 "inverse" spInv := by
  refine cal_of D sc_inverse (fun vs H Q E h => ?_) (fun cdv A outer s H vs Q E hr h => ?_)
  · obtain ⟨n, m, rfl, _⟩ := h
    rfl
  · obtain ⟨n, m, rfl, m0, m1, g, k⟩ := h
    refine ⟨_, (pss_cons (ps_par (i := 2) (j := 3) rfl sc_inverse.nd rfl rfl (by decide) rfl rfl (pa_cons (pv 1) (pa_cons (pe_op op_mod (pv 0) (pv 1)) pa_nil)) (by rfl))
      (pss_cons (ps_asg (pe_tup (pa_cons pe_int (pa_cons pe_int pa_nil))) (pg_tup rfl (pgs_cons (pg_name (i := 4) sc_inverse.nd rfl (.inl rfl)) (pgs_cons (pg_name (i := 5) sc_inverse.nd rfl (.inl rfl)) pgs_nil))))
      (pss_cons (ps_while PassesOwn.never (pt_cmpR op_ne (pv 3) pe_int (nomark _)) (pss_cons (ps_set (i := 6) sc_inverse.nd rfl (.inl rfl) (pe_op op_fdivW (pv 2) (pv 3)))
      (pss_cons (ps_par (i := 2) (j := 3) rfl sc_inverse.nd rfl rfl (by decide) rfl rfl (pa_cons (pv 3) (pa_cons (pe_op op_sub (pv 2) (pe_op op_mulW (pv 6) (pv 3))) pa_nil)) (by rfl))
      (pss_one (ps_par (i := 4) (j := 5) rfl sc_inverse.nd rfl rfl (by decide) rfl rfl (pa_cons (pv 5) (pa_cons (pe_op op_sub (pv 4) (pe_op op_mulW (pv 6) (pv 5))) pa_nil)) (by rfl))))))
      (pss_one (ps_ret (pe_op op_mod (pv 4) (pv 1))))))), ?_⟩
    refine ⟨_, rfl, _, rfl, _, rfl, _, _, rfl, rfl, (by omega : (0 : Int) < (m : Int)), _, _, rfl, by show 2 ≤ sizeLine; decide, fun t nt => ⟨t, _, rfl, SqT.of upd_same, rfl, _, _, rfl, _, _, rfl, rfl, ?_⟩⟩
    generalize qt : upd H t (HO.tup _) = H0
    obtain ⟨s0, _⟩ := newFacts qt nt
    refine ⟨fun b σ H' => ∃ (v6 : Option V) (a : Nat) (f c : Int), σ = [some (.int n), some (.int m), some (.int (a : Int)), some (.int (b : Int)), some (.int f), some (.int c), v6] ∧ Eu m n a b f c ∧ 0 < a ∧ a ≤ m ∧ b ≤ m ∧ H' = H0, ⟨n % m, none, m, 0, 1, rfl, Eu.start m0, m0, Nat.le_refl _, Nat.le_of_lt (Nat.mod_lt _ m0), rfl⟩, ?_⟩
    rintro b σ H' ⟨v6, a, f, c, rfl, eu, a0, am, bm, rfl⟩
    refine ⟨_, rfl, rfl, _, rfl, ?_⟩
    by_cases hb : b = 0
    · subst hb
      refine iteNS rfl ?_
      refine ⟨_, rfl, _, rfl, _, _, rfl, rfl, (by omega : (0 : Int) < (m : Int)), ?_⟩
      have z := eu.fin g
      have e0 := Int.emod_nonneg f (show (m : Int) ≠ 0 by omega)
      have e1 := Int.emod_lt_of_pos f (show (0 : Int) < (m : Int) by omega)
      obtain ⟨r, hr'⟩ : ∃ r : Nat, f % (m : Int) = (r : Int) := ⟨(f % (m : Int)).toNat, by omega⟩
      show Q (.int (f % (m : Int))) _
      rw [hr'] at e1 ⊢
      refine k r _ (by omega) ?_ s0
      have d := mod_sub f (m : Int)
      rw [hr'] at d
      have d2 : (m : Int) ∣ ((r : Int) - f) * (n : Int) := Int.dvd_trans d (Int.dvd_mul_right _ _)
      have d3 := Int.dvd_add d2 z
      rw [Int.sub_mul, show ∀ x y z : Int, x - y + (y - z) = x - z from fun x y z => by omega, Int.mul_comm] at d3
      exact d3
    · refine iteNFu (fun z => hb (by have := V.int.inj z; omega)) ?_
      have b0 : 0 < b := by omega
      have le : a / b * b ≤ a := Nat.div_mul_le_self a b
      have sm : ∀ x : Nat, x ≤ m → x < 2 ^ 1000 := fun x h => by omega
      have ei : (a : Int) / (b : Int) = ((a / b : Nat) : Int) := rfl
      refine ⟨fun σ' H'' => ∃ (v6 : Option V) (a' b' : Nat) (f' c' : Int), σ' = [some (.int n), some (.int m), some (.int (a' : Int)), some (.int (b' : Int)), some (.int f'), some (.int c'), v6] ∧ Eu m n a' b' f' c' ∧ 0 < a' ∧ a' ≤ m ∧ b' ≤ m ∧ b' < b ∧ H'' = H', fun σ' H'' ⟨v6, a', b', f', c', e1, e2, e3, e4, e5, e6, e7⟩ => ⟨b', e6, v6, a', f', c', e1, e2, e3, e4, e5, e7⟩, ?_⟩
      refine ⟨_, rfl, _, rfl, _, _, rfl, rfl, wide_div (b := 1000) (by omega) (by rw [Int.natAbs_natCast]; exact sm b bm) (by decide) (by decide), ?_⟩
      dsimp only
      rw [ei]
      refine ⟨_, rfl, _, rfl, _, rfl, _, rfl, _, _, rfl, rfl, wide_mul (a := 1000) (b := 1000) (by rw [Int.natAbs_natCast]; exact sm _ (by exact Nat.le_trans (Nat.div_le_self _ _) am)) (by rw [Int.natAbs_natCast]; exact sm b bm) (by decide) (by decide) (by decide), _, _, rfl, rfl, _, _, rfl, ?_⟩
      refine ⟨_, rfl, _, rfl, _, rfl, _, rfl, _, _, rfl, rfl, wide_mul (a := 1000) (b := 1000) (by rw [Int.natAbs_natCast]; exact sm _ (by exact Nat.le_trans (Nat.div_le_self _ _) am)) (sm _ eu.bc) (by decide) (by decide) (by decide), _, _, rfl, rfl, _, _, rfl, ?_⟩
      have nx := eu.next b0
      have lt : a - a / b * b < b := by
        have := Nat.div_add_mod a b
        have m2 := Nat.mod_lt a b0
        rw [Nat.mul_comm] at this
        omega
      refine ⟨some (V.int ((a / b : Nat) : Int)), b, a - a / b * b, c, f - ((a / b : Nat) : Int) * c, ?_, nx, b0, bm, by omega, lt, rfl⟩
      rw [Int.natCast_sub le, Int.natCast_mul]
      rfl
abbrev sc_power_ofN : List Str := ["base", "times", "found", "_"]
theorem sc_power_of : FnScope sc_power_ofN ["base", "times"] (defScope s_power_of) := ⟨rfl, rfl, rfl, by decide +kernel, rfl, by decide +kernel, by decide +kernel⟩
def spPow : Sp := fun vs H Q _ => ∃ (b t : Nat), vs = [.int b, .int t] ∧ b ≤ 1000 ∧ t ≤ 1000 ∧ Q (.int ((b ^ t : Nat) : Int)) H
theorem pow_small {b t : Nat} (hb : b ≤ 1000) (ht : t ≤ 1000) : b ^ t < 2 ^ 11000 := by
  have a : b ^ t ≤ (2 ^ 10) ^ t := Nat.pow_le_pow_left (by omega) t
  rw [← Nat.pow_mul] at a
  exact Nat.lt_of_le_of_lt a (Nat.pow_lt_pow_right (by decide) (by omega))
theorem ok_pow {f : Addr} {fd : FuncData} (D : DefAt K mg "power_of" s_power_of ["base", "times"] f fd) (T : Blt mg) : Cal P w K mg base 1 "power_of" spPow := by
  refine cal_of D sc_power_of (fun vs H Q E h => ?_) (fun cdv A outer s H vs Q E hr h => ?_)
  · obtain ⟨b, t, rfl, _⟩ := h
    rfl
  · obtain ⟨b, t, rfl, hb, ht, k⟩ := h
    refine ⟨_, (pss_cons (ps_set (i := 2) sc_power_of.nd rfl (.inl rfl) pe_int)
      (pss_cons (ps_for PassesOwn.never rfl (pi_range1 (by rfl) T.range (pa_cons (pv 1) pa_nil)) (pg_name (i := 3) sc_power_of.nd rfl (.inl rfl)) (pss_one (ps_aug (i := 2) sc_power_of.nd rfl (.inl rfl) (pv 0) (ip_of iop_mulW))))
      (pss_one (ps_ret (pv 2))))), ?_⟩
    refine ⟨_, rfl, _, rfl, by omega, by omega, for_range (lo := 0) (n := ((t : Nat) : Int).toNat) (fun i σ H' => ∃ v3 : Option V, σ = [some (.int b), some (.int t), some (.int ((b ^ i : Nat) : Int)), v3] ∧ H' = H) ⟨none, rfl, rfl⟩ ?_ ?_⟩
    · rintro i σ H' hi ⟨v3, rfl, rfl⟩
      refine ⟨_, rfl, _, rfl, _, _, rfl, rfl, wide_mul (a := 11000) (b := 11) (by rw [Int.natAbs_natCast]; exact pow_small hb (by omega)) (by rw [Int.natAbs_natCast]; omega) (by decide) (by decide) (by decide), some (V.int (0 + (i : Int))), ?_, rfl⟩
      rw [Nat.pow_succ, Int.natCast_mul]
      rfl
    · rintro σ H' ⟨v3, rfl, rfl⟩
      refine ⟨_, rfl, ?_⟩
      rw [show ((t : Nat) : Int).toNat = t by omega]
      exact k
def SzN (y p : Nat) : Prop := 0 < y ∧ y ≤ 10 ^ 30 ∧ p ∈ PRn
theorem val_small {y p : Nat} (h : SzN y p) : val p y ≤ 99 := by
  obtain ⟨y0, y1, hp⟩ := h
  refine Nat.le_of_not_lt fun h => ?_
  have d := (pow_dvd_val (PRn_two hp) (val p y) y y0).mpr (Nat.le_refl _)
  have l1 := Nat.le_of_dvd y0 d
  have l2 : 2 ^ 100 ≤ p ^ val p y := Nat.le_trans (Nat.pow_le_pow_right (by decide) h) (Nat.pow_le_pow_left (PRn_two hp) _)
  have l3 : (10 ^ 30 : Nat) < 2 ^ 100 := by decide
  omega
abbrev sc_whole_powerN : List Str := ["machine", "p", "i"]
theorem sc_whole_power : FnScope sc_whole_powerN ["machine", "p", "i"] (defScope s_whole_power) := ⟨rfl, rfl, rfl, by decide +kernel, rfl, by decide +kernel, by decide +kernel⟩
def spWhole : Sp := fun vs H Q _ => ∃ (v : V) (ss : List Int) (d : PyData) (p i s : Nat), vs = [v, .int p, .int i] ∧ Im H v (.tuple [sD ss, d]) ∧ ss[i]? = some (s : Int) ∧ SzN s p ∧ Q (.int ((p ^ val p s : Nat) : Int)) H
theorem ok_whole {f : Addr} {fd : FuncData} (D : DefAt K mg "whole_power" s_whole_power ["machine", "p", "i"] f fd) (c_depth : Cal P w K mg base 2 "depth" spDepth) (c_power_of : Cal P w K mg base 1 "power_of" spPow) : Cal P w K mg base 3 "whole_power" spWhole := by
  refine cal_of D sc_whole_power (fun vs H Q E h => ?_) (fun cdv A outer s H vs Q E hr h => ?_)
  · obtain ⟨v, ss, d, p, i, s, rfl, _⟩ := h
    rfl
  · obtain ⟨v, ss, d, p, i, s, rfl, im, es, z, k⟩ := h
    refine ⟨_, (pss_one (ps_ret (pe_c c_power_of hr (by decide) rfl (pa_cons (pv 1) (pa_cons (pe_c c_depth hr (by decide) rfl (pa_cons (pv 0) (pa_cons (pv 1) (pa_cons (pv 2) pa_nil)))) pa_nil))))), ?_⟩
    have p2 := PRn_two z.2.2
    have p3 := PRn_le z.2.2
    have v99 := val_small z
    exact ⟨_, rfl, _, rfl, _, rfl, _, rfl, v, ss, d, p, i, s, rfl, im, p2, by omega, es, z.1, Nat.lt_of_le_of_lt z.2.1 (by decide), p, val p s, rfl, by omega, by omega, k⟩
abbrev sc_part_ofN : List Str := ["machine", "p", "i", "size", "power", "others"]
theorem sc_part_of : FnScope sc_part_ofN ["machine", "p", "i"] (defScope s_part_of) := ⟨rfl, rfl, rfl, by decide +kernel, rfl, by decide +kernel, by decide +kernel⟩
def spPart : Sp := fun vs H Q _ => ∃ (v : V) (ss : List Int) (d : PyData) (p i s : Nat), vs = [v, .int p, .int i] ∧ Im H v (.tuple [sD ss, d]) ∧ ss[i]? = some (s : Int) ∧ SzN s p ∧
  ∀ (u : Nat) (H' : Hp), u < s → (ppw p (val p s) ∣ (u : Int) - 1) → (∀ q ∈ PRn, q ≠ p → ppw q (val q s) ∣ (u : Int)) → Same H H' → Q (.int (u : Int)) H'
theorem ok_part {f : Addr} {fd : FuncData} (D : DefAt K mg "part_of" s_part_of ["machine", "p", "i"] f fd) (c_whole_power : Cal P w K mg base 3 "whole_power" spWhole) (c_inverse : Cal P w K mg base 1 "inverse" spInv) : Cal P w K mg base 4 "part_of" spPart := by
  refine cal_of D sc_part_of (fun vs H Q E h => ?_) (fun cdv A outer s H vs Q E hr h => ?_)
  · obtain ⟨v, ss, d, p, i, s, rfl, _⟩ := h
    rfl
  · obtain ⟨v, ss, d, p, i, s, rfl, im, es, z, k⟩ := h
    refine ⟨_, (pss_cons (ps_set (i := 3) sc_part_of.nd rfl (.inl rfl) (pe_ix (ix_tupK K rfl) (pe_ix (ix_tupK K rfl) (pv 0) pe_int (fun _ _ => rfl)) (pv 2) (fun _ _ => rfl)))
      (pss_cons (ps_set (i := 4) sc_part_of.nd rfl (.inl rfl) (pe_c c_whole_power hr (by decide) rfl (pa_cons (pv 0) (pa_cons (pv 1) (pa_cons (pv 2) pa_nil)))))
      (pss_cons (ps_set (i := 5) sc_part_of.nd rfl (.inl rfl) (pe_op op_fdivW (pv 3) (pv 4)))
      (pss_one (ps_ret (pe_op op_mod (pe_op op_mulW (pv 5) (pe_c c_inverse hr (by decide) rfl (pa_cons (pv 5) (pa_cons (pv 4) pa_nil)))) (pv 3))))))), ?_⟩
    obtain ⟨a, xs, rfl, ha, ia⟩ := id im.tuple
    obtain ⟨v1, g1, im1⟩ := ia.get (i := 0) rfl
    obtain ⟨b, ys, rfl, hb, ib⟩ := id im1.tuple
    have ey := ib.ints
    subst ey
    have hi : (ss.map V.int)[i]? = some (V.int (s : Int)) := by rw [List.getElem?_map, es]; rfl
    obtain ⟨s0, s1, hp⟩ := id z
    have p2 := PRn_two hp
    have dv : p ^ val p s ∣ s := (pow_dvd_val p2 _ s s0).mpr (Nat.le_refl _)
    have pw0 : 0 < p ^ val p s := Nat.pow_pos (by omega)
    have pw1 : p ^ val p s ≤ s := Nat.le_of_dvd s0 dv
    have big : (10 ^ 30 : Nat) < 2 ^ 1000 := by decide
    have cop := part_cop hp s0 rfl
    have ei : (s : Int) / ((p ^ val p s : Nat) : Int) = ((s / p ^ val p s : Nat) : Int) := rfl
    refine ⟨_, rfl, a, _, 0, _, rfl, rfl, SqT.of ha, atI_nat (j := 0) g1, _, rfl, b, _, i, _, rfl, rfl, SqT.of hb, atI_nat hi, _, rfl, _, rfl, _, rfl, _, ss, d, p, i, s, rfl, im, es, z, ?_⟩
    refine ⟨_, rfl, _, rfl, _, _, rfl, rfl, wide_div (b := 1000) (by omega) (by rw [Int.natAbs_natCast]; omega) (by decide) (by decide), ?_⟩
    dsimp only
    rw [ei]
    have ol : s / p ^ val p s ≤ s := Nat.div_le_self _ _
    refine ⟨_, rfl, _, rfl, _, rfl, s / p ^ val p s, p ^ val p s, rfl, pw0, by omega, cop, fun u H1 um hu s1' => ?_⟩
    refine ⟨_, _, rfl, rfl, wide_mul (a := 1000) (b := 1000) (by rw [Int.natAbs_natCast]; omega) (by rw [Int.natAbs_natCast]; omega) (by decide) (by decide) (by decide), _, rfl, _, _, rfl, rfl, (by omega : (0 : Int) < (s : Int)), ?_⟩
    obtain ⟨q1, q2⟩ := part_ok hp s0 rfl hu
    exact k (s / p ^ val p s * u % s) _ (Nat.mod_lt _ s0) q1 q2 s1'

def sqI (t : List (List Int)) (I : List Nat) : List (List Int) := I.map fun i => I.map fun j => en t i j
theorem sqI_sq (t : List (List Int)) (I : List Nat) : Sq I.length (sqI t I) := ⟨by unfold sqI; rw [List.length_map], fun r hr => by
  unfold sqI at hr
  obtain ⟨i, _, rfl⟩ := List.mem_map.mp hr
  rw [List.length_map]⟩
theorem sqI_en (t : List (List Int)) {I : List Nat} {r c : Nat} (hr : r < I.length) (hc : c < I.length) : en (sqI t I) r c = blk t I r c := by
  have e : (sqI t I)[r]? = some (I.map fun j => en t (I.getD r 0) j) := by
    unfold sqI
    rw [List.getElem?_map, List.getD_eq_getElem?_getD, List.getElem?_eq_getElem hr]
    rfl
  rw [en_of e, List.getD_eq_getElem?_getD, List.getElem?_map]
  unfold blk
  rw [List.getD_eq_getElem?_getD (l := I) (i := c), List.getElem?_eq_getElem hc]
  rfl
theorem take_mapU {α β : Type} {l : List α} {i : Nat} {x : α} (f : α → β) (h : l[i]? = some x) : (l.take (i + 1)).map f = (l.take i).map f ++ [f x] := take_map f h
abbrev sc_square_ofN : List Str := ["table", "registers", "i", "j"]
theorem sc_square_of : FnScope sc_square_ofN ["table", "registers"] (defScope s_square_of) := ⟨rfl, rfl, rfl, by decide +kernel, rfl, by decide +kernel, by decide +kernel⟩
def cs_square_of : Scope := match defBody s_square_of with
  | [.Return (some (.ListComp _ _ sc _)) _] => sc
  | _ => defScope s_square_of
def spSq : Sp := fun vs H Q _ => ∃ (m : V) (a : Addr) (t : List (List Int)) (n : Nat) (I : List Nat), vs = [m, .ref a] ∧ Im H m (tD t) ∧ Sq n t ∧ H a = some (.lst (I.map fun (i : Nat) => V.int i)) ∧ (∀ i ∈ I, i < n) ∧ I.length ≤ 100 ∧
  ∀ (R : Addr) (rs : List Addr) (H' : Hp), Rw R H' rs (sqI t I) → Same H H' → Q (.ref R) H'
theorem tD_rows {H : Hp} {m : V} {t : List (List Int)} (h : Im H m (tD t)) : ∃ (c : Addr) (cs : List V), m = .ref c ∧ H c = some (.tup cs) ∧ cs.length = t.length ∧ ∀ (i : Nat) (r : List Int), t[i]? = some r → ∃ b, cs[i]? = some (.ref b) ∧ H b = some (.tup (r.map V.int)) := by
  obtain ⟨c, cs, rfl, hc, ic⟩ := h.tuple
  refine ⟨c, cs, rfl, hc, by rw [ic.length, List.length_map], fun i r er => ?_⟩
  obtain ⟨v, g, iv⟩ := ic.get (i := i) (d := sD r) (by rw [List.getElem?_map, er]; rfl)
  obtain ⟨b, ys, rfl, hb, ib⟩ := iv.tuple
  have ey := ib.ints
  subst ey
  exact ⟨b, g, hb⟩
theorem ok_sq {f : Addr} {fd : FuncData} (D : DefAt K mg "square_of" s_square_of ["table", "registers"] f fd) (T : Blt mg) : Cal P w K mg base 1 "square_of" spSq := by
  refine cal_of D sc_square_of (fun vs H Q E h => ?_) (fun cdv A outer s H vs Q E hr h => ?_)
  · obtain ⟨m, a, t, n, I, rfl, _⟩ := h
    rfl
  · obtain ⟨m, a, t, n, I, rfl, im, sq, ha, hI, l1, k⟩ := h
    refine ⟨_, (pss_one (ps_ret (pe_lc (own := [("i", 2)]) rfl sc_square_of.nd (pi_listK K rfl (pv 1)) (blkOk_by (N := sc_square_ofN) (sc := defScope s_square_of) (by decide +kernel)) (fun _ _ _ _ _ => (pg_name (i := 2) sc_square_of.nd rfl (by first | exact .inl rfl | exact .inr rfl))) (fun _ _ _ _ _ => pts_nil) (fun _ _ _ _ _ => (pe_lc (own := [("j", 3)]) rfl sc_square_of.nd (pi_listK K rfl (pv 1)) (blkOk_by (N := sc_square_ofN) (sc := relS cs_square_of (defScope s_square_of)) (by decide +kernel)) (fun _ _ _ _ _ => (pg_name (i := 3) sc_square_of.nd rfl (by first | exact .inl rfl | exact .inr rfl))) (fun _ _ _ _ _ => pts_nil) (fun _ _ _ _ _ => (pe_ix (ix_tupK K rfl) (pe_ix (ix_tupK K rfl) (pv 0) (pv 2) (fun _ _ => rfl)) (pv 3) (fun _ _ => rfl)))))))), ?_⟩
    obtain ⟨c, cs, rfl, hc, lc, rows⟩ := tD_rows im
    have gv : ∀ {i : Nat} {x : V}, (I.map fun (i : Nat) => V.int i)[i]? = some x → ∃ y : Nat, I[i]? = some y ∧ x = .int (y : Int) := fun {i x} h => map_get h
    refine ⟨_, rfl, a, rfl, ⟨_, SqL.of ha⟩, fun R nR => ?_⟩
    refine lc_list (K := K) (a := a) (xs := I.map fun (i : Nat) => V.int i) (fun i H' => Same H H' ∧ ∃ rs : List Addr, Rw R H' rs ((sqI t I).take i)) ⟨Same.new (Same.refl H) nR, [], ⟨⟨upd_same, rfl, fun i a z => by simp at z⟩, List.nodup_nil, fun a z => by cases z⟩⟩ (fun i H' _ z => SqL.of (z.1 _ _ ha)) ?_ ?_
    · rintro i x H1 hx ⟨sm, rs, hw⟩
      obtain ⟨y, ey, rfl⟩ := gv hx
      have il := (List.getElem?_eq_some_iff.mp ey).1
      obtain ⟨r, er, lr⟩ := sq.get (hI y (List.mem_of_getElem? ey))
      obtain ⟨b, gb, hb⟩ := rows y r er
      refine ⟨rfl, _, rfl, a, rfl, ⟨_, SqL.of (sm _ _ ha)⟩, fun g ng => ?_⟩
      refine lc_list (K := K) (a := a) (xs := I.map fun (i : Nat) => V.int i) (fun j H' => Same H1 H' ∧ H' g = some (.lst (((I.take j).map fun j => en t y j).map V.int))) ⟨Same.new (Same.refl H1) ng, upd_same⟩ (fun j H' _ z => SqL.of (z.1 _ _ (sm _ _ ha))) ?_ ?_
      · rintro j x2 H2 hx2 ⟨sm2, hg⟩
        obtain ⟨z, ez, rfl⟩ := gv hx2
        have jl := (List.getElem?_eq_some_iff.mp ez).1
        have zl := hI z (List.mem_of_getElem? ez)
        have s12 := sm.trans sm2
        refine ⟨rfl, _, rfl, _, rfl, c, _, y, _, rfl, rfl, SqT.of (s12 _ _ hc), atI_nat gb, _, rfl, b, _, z, _, rfl, rfl, SqT.of (s12 _ _ hb), atI_nat (row_at (by omega)), _, hg, small1000 (by rw [List.length_map, List.length_map, List.length_take]; omega), Same.put sm2 ng, ?_⟩
        rw [upd_same, take_map _ ez, List.map_append, ← en_of er]
        rfl
      · rintro H2 ⟨sm2, hg⟩
        rw [List.length_map, List.take_length] at hg
        have w2 := hw.same sm2
        have ngR : g ≠ R := fun e => by
          rw [e, hw.top] at ng
          cases ng
        have lrs : rs.length = i := by
          rw [hw.len, List.length_take, (sqI_sq t I).len]
          omega
        refine ⟨_, w2.top, small1000 (by rw [List.length_map]; omega), Same.put (sm.trans sm2) nR, rs ++ [g], ?_⟩
        have e2 : (sqI t I)[i]? = some (I.map fun j => en t y j) := by
          unfold sqI
          rw [List.getElem?_map, ey]
          rfl
        rw [take_get2 e2]
        exact w2.put hg (fun m => by
          obtain ⟨j, lj, ej⟩ := List.getElem_of_mem m
          obtain ⟨r', _, z⟩ := hw.row j g (by rw [List.getElem?_eq_getElem lj, ej])
          rw [ng] at z
          cases z) ngR
    · rintro H1 ⟨sm, rs, hw⟩
      rw [List.length_map, ← (sqI_sq t I).len, List.take_length] at hw
      exact k R rs H1 hw sm
def lessI (x p : Int) (r1 r2 : List Int) : List Int := List.zipWith (fun e t => (e - x * t) % p) r1 r2
abbrev sc_row_lessN : List Str := ["row", "times", "other", "p", "entry", "taken"]
theorem sc_row_less : FnScope sc_row_lessN ["row", "times", "other", "p"] (defScope s_row_less) := ⟨rfl, rfl, rfl, by decide +kernel, rfl, by decide +kernel, by decide +kernel⟩
def spLess : Sp := fun vs H Q _ => ∃ (a b : Addr) (r1 r2 : List Int) (x p : Int), vs = [.ref a, .int x, .ref b, .int p] ∧ H a = some (.lst (r1.map V.int)) ∧ H b = some (.lst (r2.map V.int)) ∧ r1.length = r2.length ∧ r1.length ≤ 500 ∧ 0 < p ∧ x.natAbs < 2 ^ 1000 ∧ (∀ y ∈ r2, y.natAbs < 2 ^ 1000) ∧
  ∀ (g : Addr) (H' : Hp), H g = none → H' g = some (.lst ((lessI x p r1 r2).map V.int)) → Same H H' → Q (.ref g) H'
theorem ok_less {f : Addr} {fd : FuncData} (D : DefAt K mg "row_less" s_row_less ["row", "times", "other", "p"] f fd) (T : Blt mg) (T_zip : mg "zip" = none) : Cal P w K mg base 1 "row_less" spLess := by
  refine cal_of D sc_row_less (fun vs H Q E h => ?_) (fun cdv A outer s H vs Q E hr h => ?_)
  · obtain ⟨a, b, r1, r2, x, p, rfl, _⟩ := h
    rfl
  · obtain ⟨a, b, r1, r2, x, p, rfl, ha, hb, l12, l1, p0, hx, hy, k⟩ := h
    refine ⟨_, (pss_one (ps_ret (pe_lc (own := [("entry", 4), ("taken", 5)]) rfl sc_row_less.nd (pi_zipG K rfl .l .l (by rfl) T_zip (pa_cons (pv 0) (pa_cons (pv 2) pa_nil))) (blkOk_by (N := sc_row_lessN) (sc := defScope s_row_less) (by decide +kernel)) (fun _ _ _ _ _ => (pg_tupK (n := 2) K rfl rfl (pgs_cons (pg_name (i := 4) sc_row_less.nd rfl (by first | exact .inl rfl | exact .inr rfl)) (pgs_cons (pg_name (i := 5) sc_row_less.nd rfl (by first | exact .inl rfl | exact .inr rfl)) pgs_nil)))) (fun _ _ _ _ _ => pts_nil) (fun _ _ _ _ _ => (pe_op op_mod (pe_op op_sub (pv 4) (pe_op op_mulW (pv 1) (pv 5))) (pv 3)))))), ?_⟩
    refine ⟨_, rfl, _, rfl, a, b, _, _, rfl, SqS.of_l ha, SqS.of_l hb, fun g ng => ?_⟩
    have ll : (lessI x p r1 r2).length = r1.length := by
      unfold lessI
      rw [List.length_zipWith]
      omega
    refine lc_it (walk_zipG (n := r1.length) (by rw [List.length_map, List.length_map]; omega)) (fun i H' => Same H H' ∧ H' g = some (.lst (((lessI x p r1 r2).take i).map V.int))) ⟨Same.new (Same.refl H) ng, upd_same⟩ (fun i H' _ z => ⟨SqS.of_l (z.1 _ _ ha), SqS.of_l (z.1 _ _ hb)⟩) ?_ ?_
    · rintro i v H1 H2 hi ⟨sm, hg⟩ ⟨T2, y1, y2, rfl, nT2, rfl, f1, f2⟩
      obtain ⟨e, he, rfl⟩ := map_get f1
      obtain ⟨d, hd, rfl⟩ := map_get f2
      refine ⟨T2, _, rfl, SqT.of upd_same, rfl, _, _, rfl, _, _, rfl, rfl, rfl, ?_⟩
      refine ⟨_, rfl, _, rfl, _, rfl, _, _, rfl, rfl, wide_mul (a := 1000) (b := 1000) hx (hy d (List.mem_of_getElem? hd)) (by decide) (by decide) (by decide), _, _, rfl, rfl, _, rfl, _, _, rfl, rfl, p0, _, keepN hg nT2, small1000 (by rw [List.length_map, List.length_take]; omega), Same.put (Same.new sm nT2) ng, ?_⟩
      have ez : (lessI x p r1 r2)[i]? = some ((e - x * d) % p) := by
        unfold lessI
        rw [List.getElem?_zipWith, he, hd]
      rw [upd_same, take_get2 ez, List.map_append]
      rfl
    · rintro H1 ⟨sm, hg⟩
      rw [← ll, List.take_length] at hg
      exact k g H1 ng hg sm

abbrev sc_inverse_squareN : List Str := ["square", "p", "many", "i", "rows", "k", "at", "unit", "row", "entry", "j"]
theorem sc_inverse_square : FnScope sc_inverse_squareN ["square", "p"] (defScope s_inverse_square) := ⟨rfl, rfl, rfl, by decide +kernel, rfl, by decide +kernel, by decide +kernel⟩
def cs_inverse_square : Scope := match defBody s_inverse_square with
  | [_, .Assign _ (.ListComp _ _ sc _) _, _, _] => sc
  | _ => defScope s_inverse_square
def spInvSq : Sp := fun vs H Q _ => ∃ (a : Addr) (rs : List Addr) (t : List (List Int)) (n p : Nat) (B : Mx), vs = [.ref a, .int p] ∧ Ll a H rs t ∧ Sq n t ∧ n ≤ 100 ∧ p ∈ PRn ∧ Inj p n (en t) ∧ (∀ i j, i < n → j < n → (p : Int) ∣ (if i = j then 1 else 0) - sumF n fun x => en t i x * B x j) ∧
  ∀ (R : Addr) (rs' : List Addr) (u : List (List Int)) (H' : Hp), Rw R H' rs' u → Sq n u → (∀ i j, i < n → j < n → (p : Int) ∣ en u i j - B i j) → (∀ i j, i < n → j < n → 0 ≤ en u i j ∧ en u i j < p) → H R = none → (∀ b ∈ rs', H b = none) → Same H H' → Q (.ref R) H'
def augI (p : Int) (n : Nat) (t : List (List Int)) (i : Nat) : List Int := ((List.range n).map fun j => en t i j % p) ++ (List.range n).map fun j => if j = i then 1 else 0
theorem augI_len (p : Int) (n : Nat) (t : List (List Int)) (i : Nat) : (augI p n t i).length = n + n := by
  unfold augI
  rw [List.length_append, List.length_map, List.length_map, List.length_range]
theorem aug_rc (p : Int) (n : Nat) (t : List (List Int)) : Rc n (n + n) ((List.range n).map (augI p n t)) := ⟨by rw [List.length_map, List.length_range], fun r hr => by
  obtain ⟨i, _, rfl⟩ := List.mem_map.mp hr
  exact augI_len p n t i⟩
theorem aug_at {p : Int} {n : Nat} {t : List (List Int)} {i : Nat} (hi : i < n) : ((List.range n).map (augI p n t))[i]? = some (augI p n t i) := by
  rw [List.getElem?_map, List.getElem?_eq_getElem (by rw [List.length_range]; exact hi), List.getElem_range]
  rfl
theorem aug_l {p : Int} {n : Nat} {t : List (List Int)} {i j : Nat} (hi : i < n) (hj : j < n) : en ((List.range n).map (augI p n t)) i j = en t i j % p := by
  rw [en_of (aug_at hi), List.getD_eq_getElem?_getD]
  unfold augI
  rw [List.getElem?_append_left (by rw [List.length_map, List.length_range]; exact hj), List.getElem?_map, List.getElem?_eq_getElem (by rw [List.length_range]; exact hj), List.getElem_range]
  rfl
theorem aug_r {p : Int} {n : Nat} {t : List (List Int)} {i j : Nat} (hi : i < n) (hj : j < n) : en ((List.range n).map (augI p n t)) i (n + j) = if j = i then 1 else 0 := by
  rw [en_of (aug_at hi), List.getD_eq_getElem?_getD]
  unfold augI
  rw [List.getElem?_append_right (by rw [List.length_map, List.length_range]; omega), List.length_map, List.length_range, show n + j - n = j by omega, List.getElem?_map, List.getElem?_eq_getElem (by rw [List.length_range]; exact hj), List.getElem_range]
  rfl
theorem cut_dropU (xs : List V) (j : Nat) : cutV xs (some (j : Int)) none = xs.drop j := by
  unfold cutV
  rw [HT.sIx_none, HT.sIx_nat]
  by_cases h : j ≤ xs.length
  · rw [Nat.min_eq_left h]
    exact List.take_of_length_le (by rw [List.length_drop]; omega)
  · rw [Nat.min_eq_right (by omega), List.drop_of_length_le (Nat.le_refl _), List.drop_of_length_le (by omega)]
    simp
theorem noPartU {σ : L2.St} {H : Hp} {Q : Option Int → Hp → Prop} (h : Q none H) : tNoPart σ H Q := h
theorem mod_one {p x u : Int} (p2 : 2 ≤ p) (h : p ∣ x * u - 1) : (u * x) % p = 1 := by
  have e : u * x % p = 1 % p := mod_congr (by rw [Int.mul_comm]; exact h)
  rw [e]
  exact Int.emod_eq_of_lt (by decide) (by omega)
theorem fresh_not {R g : Addr} {H : Hp} {rs : List Addr} {t : List (List Int)} (h : Rw R H rs t) (n : H g = none) : g ∉ rs ∧ g ≠ R := by
  refine ⟨fun m => ?_, fun e => ?_⟩
  · obtain ⟨j, lj, ej⟩ := List.getElem_of_mem m
    obtain ⟨r', _, z⟩ := h.row j g (by rw [List.getElem?_eq_getElem lj, ej])
    rw [n] at z
    cases z
  · rw [e, h.top] at n
    cases n
theorem ok_invsq {f : Addr} {fd : FuncData} (D : DefAt K mg "inverse_square" s_inverse_square ["square", "p"] f fd) (T : Blt mg) (c_row_with_entry : Cal P w K mg base 1 "row_with_entry" spRwe) (c_inverse : Cal P w K mg base 1 "inverse" spInv) (c_row_less : Cal P w K mg base 1 "row_less" spLess) : Cal P w K mg base 2 "inverse_square" spInvSq := by
  refine cal_of D sc_inverse_square (fun vs H Q E h => ?_) (fun cdv A outer s H vs Q E hr h => ?_)
  · obtain ⟨a, rs, t, n, p, B, rfl, _⟩ := h
    rfl
  · obtain ⟨a, rs0, t0, n, p, B, rfl, hL, sq0, n1, hp, inj0, inv0, k⟩ := h
    refine ⟨_, (pss_cons (ps_set (i := 2) sc_inverse_square.nd rfl (.inr rfl) (pe_callB (call_lenK K rfl) (by rfl) T.len PySem.boot_len (pa_cons (pv 0) pa_nil)))
      (pss_cons (ps_setLc (i := 4) (own := [("i", 3)]) rfl sc_inverse_square.nd rfl rfl (sw_true rfl rfl rfl (by decide +kernel)) (pi_range1 (by rfl) T.range (pa_cons (pv 2) pa_nil)) (blkOk_by (N := sc_inverse_squareN) (sc := defScope s_inverse_square) (by decide +kernel)) (fun _ _ _ _ _ => (pg_name (i := 3) sc_inverse_square.nd rfl (by first | exact .inl rfl | exact .inr rfl))) (fun _ _ _ _ _ => pts_nil) (fun _ _ _ _ _ => (pe_op op_cat (pe_lc (own := [("entry", 9)]) rfl sc_inverse_square.nd (pi_listK K rfl (pe_ix (ix_listK K rfl) (pv 0) (pv 3) (fun _ _ => rfl))) (blkOk_by (N := sc_inverse_squareN) (sc := relS cs_inverse_square (defScope s_inverse_square)) (by decide +kernel)) (fun _ _ _ _ _ => (pg_name (i := 9) sc_inverse_square.nd rfl (by first | exact .inl rfl | exact .inr rfl))) (fun _ _ _ _ _ => pts_nil) (fun _ _ _ _ _ => (pe_op op_mod (pv 9) (pv 1)))) (pe_lc (own := [("j", 10)]) rfl sc_inverse_square.nd (pi_range1 (by rfl) T.range (pa_cons (pv 2) pa_nil)) (blkOk_by (N := sc_inverse_squareN) (sc := relS cs_inverse_square (defScope s_inverse_square)) (by decide +kernel)) (fun _ _ _ _ _ => (pg_name (i := 10) sc_inverse_square.nd rfl (by first | exact .inl rfl | exact .inr rfl))) (fun _ _ _ _ _ => pts_nil) (fun _ _ _ _ _ => (pe_ifExp (pt_cmpR op_eq (pv 10) (pv 3) (nomark _)) pe_int pe_int))))))
      (pss_cons (ps_for PassesOwn.never rfl (pi_range1 (by rfl) T.range (pa_cons (pv 2) pa_nil)) (pg_name (i := 5) sc_inverse_square.nd rfl (.inl rfl)) (pss_cons (ps_set (i := 6) sc_inverse_square.nd rfl (.inl rfl) (pe_c c_row_with_entry hr (by decide) rfl (pa_cons (pv 4) (pa_cons (pv 5) (pa_cons (pv 5) pa_nil)))))
      (pss_cons (ps_asg (pe_tup (pa_cons (pe_ix (ix_listK K rfl) (pv 4) (pv 6) (fun _ _ => rfl)) (pa_cons (pe_ix (ix_listK K rfl) (pv 4) (pv 5) (fun _ _ => rfl)) pa_nil))) (pg_tup rfl (pgs_cons (pg_sub (pv 4) (pv 5) set_list) (pgs_cons (pg_sub (pv 4) (pv 6) set_list) pgs_nil))))
      (pss_cons (ps_set (i := 7) sc_inverse_square.nd rfl (.inr rfl) (pe_c c_inverse hr (by decide) rfl (pa_cons (pe_ix (ix_listK K rfl) (pe_ix (ix_listK K rfl) (pv 4) (pv 5) (fun _ _ => rfl)) (pv 5) (fun _ _ => rfl)) (pa_cons (pv 1) pa_nil))))
      (pss_cons (ps_asg (pe_lc (own := [("entry", 9)]) rfl sc_inverse_square.nd (pi_listK K rfl (pe_ix (ix_listK K rfl) (pv 4) (pv 5) (fun _ _ => rfl))) (blkOk_by (N := sc_inverse_squareN) (sc := defScope s_inverse_square) (by decide +kernel)) (fun _ _ _ _ _ => (pg_name (i := 9) sc_inverse_square.nd rfl (by first | exact .inl rfl | exact .inr rfl))) (fun _ _ _ _ _ => pts_nil) (fun _ _ _ _ _ => (pe_op op_mod (pe_op op_mulW (pv 7) (pv 9)) (pv 1)))) (pg_sub (pv 4) (pv 5) set_list))
      (pss_one (ps_for PassesOwn.never rfl (pi_range1 (by rfl) T.range (pa_cons (pv 2) pa_nil)) (pg_name (i := 3) sc_inverse_square.nd rfl (.inl rfl)) (pss_one (ps_if (pt_cmpR op_ne (pv 3) (pv 5) (nomark _)) (pss_one (ps_asg (pe_c c_row_less hr (by decide) rfl (pa_cons (pe_ix (ix_listK K rfl) (pv 4) (pv 3) (fun _ _ => rfl)) (pa_cons (pe_ix (ix_listK K rfl) (pe_ix (ix_listK K rfl) (pv 4) (pv 3) (fun _ _ => rfl)) (pv 5) (fun _ _ => rfl)) (pa_cons (pe_ix (ix_listK K rfl) (pv 4) (pv 5) (fun _ _ => rfl)) (pa_cons (pv 1) pa_nil))))) (pg_sub (pv 4) (pv 3) set_list))) pss_nil)))))))))
      (pss_one (ps_ret (pe_lc (own := [("row", 8)]) rfl sc_inverse_square.nd (pi_listK K rfl (pv 4)) (blkOk_by (N := sc_inverse_squareN) (sc := defScope s_inverse_square) (by decide +kernel)) (fun _ _ _ _ _ => (pg_name (i := 8) sc_inverse_square.nd rfl (by first | exact .inl rfl | exact .inr rfl))) (fun _ _ _ _ _ => pts_nil) (fun _ _ _ _ _ => (pe_slice (sl_listK K rfl) (pv 8) (po_some (pv 2)) po_none)))))))), ?_⟩
    have prm := Prm.of hp
    have p2 := PRn_two hp
    have p97 := PRn_le hp
    have lr0 : rs0.length = n := by rw [hL.len, sq0.len]
    refine ⟨_, rfl, a, _, rfl, .inl (SqL.of hL.top), ?_⟩
    rw [List.length_map, lr0]
    refine ⟨_, rfl, _, rfl, by omega, by omega, fun R nR => ?_⟩
    refine lc_range (lo := 0) (n := ((n : Nat) : Int).toNat) (fun i H' => Same H H' ∧ ∃ rs : List Addr, Rw R H' rs (((List.range n).map (augI p n t0)).take i) ∧ ∀ b ∈ rs, H b = none) ⟨Same.new (Same.refl H) nR, [], ⟨⟨upd_same, rfl, fun i a z => by simp at z⟩, List.nodup_nil, fun a z => by cases z⟩, fun b z => by cases z⟩ ?_ ?_
    · rintro i H1 hi ⟨sm, rs, hw, fr⟩
      have il : i < n := by omega
      rw [show (0 : Int) + (i : Int) = ((i : Nat) : Int) by omega]
      obtain ⟨r, er, lr⟩ := sq0.get il
      obtain ⟨b, _, gb, hb⟩ := (hL.same sm).at er
      refine ⟨rfl, _, rfl, _, rfl, a, _, i, _, rfl, rfl, SqL.of (sm _ _ hL.top), atI_nat gb, b, rfl, ⟨_, SqL.of hb⟩, fun g ng => ?_⟩
      refine lc_list (K := K) (a := b) (xs := r.map V.int) (fun j H' => Same H1 H' ∧ H' g = some (.lst ((((List.range n).map fun j => en t0 i j % (p : Int)).take j).map V.int))) ⟨Same.new (Same.refl H1) ng, upd_same⟩ (fun j H' _ z => SqL.of (z.1 _ _ hb)) ?_ ?_
      · rintro j x2 H2 hx2 ⟨sm2, hg⟩
        obtain ⟨z, ez, rfl⟩ := map_get hx2
        have jl := (List.getElem?_eq_some_iff.mp ez).1
        refine ⟨rfl, _, rfl, _, rfl, _, _, rfl, rfl, (by omega : (0 : Int) < (p : Int)), _, hg, small1000 (by rw [List.length_map, List.length_take, List.length_map, List.length_range]; omega), Same.put sm2 ng, ?_⟩
        have e2 : ((List.range n).map fun j => en t0 i j % (p : Int))[j]? = some (z % (p : Int)) := by
          rw [List.getElem?_map, List.getElem?_eq_getElem (by rw [List.length_range]; omega), List.getElem_range]
          show some (en t0 i j % (p : Int)) = _
          rw [en_of er, List.getD_eq_getElem?_getD, ez]
          rfl
        rw [upd_same, take_get2 e2, List.map_append]
        rfl
      rintro H2 ⟨sm2, hg⟩
      rw [List.length_map, lr, show ((List.range n).map fun j => en t0 i j % (p : Int)).take n = (List.range n).map fun j => en t0 i j % (p : Int) from List.take_of_length_le (by rw [List.length_map, List.length_range]; exact Nat.le_refl n)] at hg
      refine ⟨_, rfl, _, rfl, by omega, by omega, fun g2 ng2 => ?_⟩
      refine lc_range (lo := 0) (n := ((n : Nat) : Int).toNat) (fun j H' => Same H2 H' ∧ H' g2 = some (.lst ((((List.range n).map fun j => if j = i then (1 : Int) else 0).take j).map V.int))) ⟨Same.new (Same.refl H2) ng2, upd_same⟩ ?_ ?_
      · rintro j H3 hj ⟨sm3, hg3⟩
        have jl : j < n := by omega
        rw [show (0 : Int) + (j : Int) = ((j : Nat) : Int) by omega]
        have e2 : ((List.range n).map fun j => if j = i then (1 : Int) else 0)[j]? = some (if j = i then 1 else 0) := by
          rw [List.getElem?_map, List.getElem?_eq_getElem (by rw [List.length_range]; omega), List.getElem_range]
          rfl
        refine ⟨rfl, _, rfl, _, rfl, rfl, _, rfl, ?_⟩
        rw [dec_int1]
        by_cases q : j = i
        · rw [if_pos q] at e2
          rw [decide_eq_true (show (j : Int) = (i : Int) by omega)]
          refine iteT ⟨_, hg3, small1000 (by rw [List.length_map, List.length_take, List.length_map, List.length_range]; omega), Same.put sm3 ng2, ?_⟩
          rw [upd_same, take_get2 e2, List.map_append]
          rfl
        · rw [if_neg q] at e2
          rw [decide_eq_false (show ¬ (j : Int) = (i : Int) by omega)]
          refine iteF ⟨_, hg3, small1000 (by rw [List.length_map, List.length_take, List.length_map, List.length_range]; omega), Same.put sm3 ng2, ?_⟩
          rw [upd_same, take_get2 e2, List.map_append]
          rfl
      rintro H3 ⟨sm3, hg3⟩
      rw [show ((n : Nat) : Int).toNat = n by omega, show ((List.range n).map fun j => if j = i then (1 : Int) else 0).take n = (List.range n).map fun j => if j = i then (1 : Int) else 0 from List.take_of_length_le (by rw [List.length_map, List.length_range]; exact Nat.le_refl n)] at hg3
      refine ⟨g, g2, _, _, rfl, rfl, sm3 _ _ hg, hg3, ?_, fun g4 ng4 => ?_⟩
      · rw [List.length_map, List.length_map, List.length_map, List.length_map, List.length_range]
        exact Nat.le_trans (show n + n ≤ 200 by omega) (by decide)
      generalize q4 : upd H3 g4 (HO.lst _) = H4
      obtain ⟨s4, h4⟩ := newFacts q4 ng4
      have s14 := (sm2.trans sm3).trans s4
      have w4 := hw.same s14
      have lrs : rs.length = i := by
        rw [hw.len, List.length_take, List.length_map, List.length_range]
        omega
      have n1' : H1 g4 = none := Same.free (sm2.trans sm3) ng4
      obtain ⟨f1, f2⟩ := fresh_not hw n1'
      refine ⟨_, w4.top, small1000 (by rw [List.length_map]; omega), Same.put (sm.trans s14) nR, rs ++ [g4], ?_, fun b hb => ?_⟩
      · rw [take_get2 (aug_at (p := p) (t := t0) il)]
        refine w4.put ?_ f1 f2
        rw [h4, ← List.map_append]
        rfl
      · rcases List.mem_append.mp hb with hb | hb
        · exact fr b hb
        · rw [List.mem_singleton.mp hb]
          exact Same.free sm n1'
    rintro H1 ⟨sm1, rs1, hw1, fr1⟩
    rw [show ((n : Nat) : Int).toNat = n by omega, show ((List.range n).map (augI p n t0)).take n = (List.range n).map (augI p n t0) from List.take_of_length_le (by rw [List.length_map, List.length_range]; exact Nat.le_refl n)] at hw1
    have gj0 : GJ n 0 (p : Int) B ((List.range n).map (augI p n t0)) := GJ.start prm (aug_rc p n t0) (fun i j hi hj => aug_l hi hj) (fun i j hi hj => aug_r hi hj) inv0 inj0
    refine ⟨_, rfl, _, rfl, by omega, by omega, for_range (lo := 0) (n := ((n : Nat) : Int).toNat) (fun k σ H' => ∃ (v3 v5 v6 v7 : Option V) (rs : List Addr) (t : List (List Int)), σ = [some (.ref a), some (.int p), some (.int (n : Int)), v3, some (.ref R), v5, v6, v7, none, none, none] ∧ Same H H' ∧ Rw R H' rs t ∧ (∀ b ∈ rs, H b = none) ∧ GJ n k (p : Int) B t)
      ⟨none, none, none, none, rs1, _, rfl, sm1, hw1, fr1, gj0⟩ ?_ ?_⟩
    · rintro k' σ H2 hk ⟨v3, v5, v6, v7, rs, t, rfl, sm, hw, fr, gj⟩
      have kn : k' < n := by omega
      rw [show (0 : Int) + (k' : Int) = ((k' : Nat) : Int) by omega]
      refine ⟨_, rfl, _, rfl, _, rfl, R, rs, t, n, n + n, k', k', rfl, hw.toLl, gj.rc, by omega, by omega, by omega, fun z => ?_, fun at' ka an ne _ => ?_⟩
      · obtain ⟨i, i1, i2, i3⟩ := gj.pivot prm kn
        exact absurd (z i i1 i2) i3
      obtain ⟨x, ex, _⟩ := gj.rc.get kn
      obtain ⟨y, ey, _⟩ := gj.rc.get an
      obtain ⟨p1, hp1, hv1, _⟩ := hw.toLl.at ex
      obtain ⟨q1, hq1, hv2, _⟩ := hw.toLl.at ey
      have lrs : rs.length = n := by rw [hw.len, gj.rc.len]
      refine ⟨_, rfl, _, rfl, R, _, _, _, rfl, rfl, SqL.of hw.top, atI_nat hv2, _, rfl, _, rfl, R, _, _, _, rfl, rfl, SqL.of hw.top, atI_nat hv1, by show 2 ≤ sizeLine; decide, fun tp ntp => ?_⟩
      generalize qt : upd H2 tp (HO.tup _) = H3
      obtain ⟨s3, h3⟩ := newFacts qt ntp
      have w3 := hw.same s3
      refine ⟨tp, _, rfl, SqT.of h3, rfl, _, _, rfl, _, rfl, _, rfl, R, _, _, k', rfl, rfl, w3.top, ixN_ofU (by rw [List.length_map]; omega), _, _, rfl, _, rfl, _, rfl, R, _, _, at', rfl, rfl, upd_same, ixN_ofU (by rw [List.length_set, List.length_map]; omega), rfl, ?_⟩
      rw [upd_twiceU]
      have w4 := w3.turn hp1 hq1 ex ey
      have g4 := gj.turn kn ka an ex ey
      have fr4 : ∀ b ∈ swL rs k' at' p1 q1, H b = none := fun b hb => by
        unfold swL at hb
        rcases List.mem_or_eq_of_mem_set hb with m | m
        · rcases List.mem_or_eq_of_mem_set m with m | m
          · exact fr b m
          · rw [m]
            exact fr _ (List.mem_of_getElem? hq1)
        · rw [m]
          exact fr _ (List.mem_of_getElem? hp1)
      have ne4 : en (swL t k' at' x y) k' k' ≠ 0 := by
        rw [en_swL ex ey]
        by_cases q : k' = at'
        · rw [if_pos q]
          rw [← q] at ne
          exact ne
        · rw [if_neg q, if_pos rfl]
          exact ne
      have sm4 : Same H (upd H3 R (.lst (swL (rs.map V.ref) k' at' (.ref p1) (.ref q1)))) := Same.put (sm.trans s3) nR
      generalize swL rs k' at' p1 q1 = rs4 at *
      generalize swL t k' at' x y = t4 at *
      have q4 : upd H3 R (.lst (((rs.map V.ref).set k' (.ref q1)).set at' (.ref p1))) = upd H3 R (.lst (swL (rs.map V.ref) k' at' (.ref p1) (.ref q1))) := rfl
      rw [q4]
      generalize upd H3 R (.lst (swL (rs.map V.ref) k' at' (.ref p1) (.ref q1))) = H4 at *
      obtain ⟨x4, ex4, lx4⟩ := g4.rc.get kn
      obtain ⟨a4, ha4, hv4, hr4⟩ := w4.toLl.at ex4
      obtain ⟨lo1, lo2⟩ := g4.low k' k' kn (by omega)
      have gx : x4.getD k' 0 = en t4 k' k' := (en_of ex4 k').symm
      obtain ⟨e4, he4⟩ : ∃ e : Nat, en t4 k' k' = (e : Int) := ⟨(en t4 k' k').toNat, by omega⟩
      have cop : Nat.gcd p e4 = 1 := PRn_cop hp fun d => by
        have := Nat.le_of_dvd (by omega) d
        omega
      refine ⟨_, rfl, _, rfl, R, _, _, _, rfl, rfl, SqL.of w4.top, atI_nat hv4, _, rfl, a4, _, k', _, rfl, rfl, SqL.of hr4, atI_nat (row_at (by omega)), _, rfl, ?_⟩
      rw [gx, he4]
      refine ⟨e4, p, rfl, by omega, Nat.lt_of_le_of_lt p97 (by decide), cop, fun u H5 up hu s5 => ?_⟩
      have w5 := w4.same s5
      have hr5 := s5 _ _ hr4
      refine ⟨_, rfl, _, rfl, R, _, _, _, rfl, rfl, SqL.of w5.top, atI_nat hv4, a4, rfl, ⟨_, SqL.of hr5⟩, fun g ng => ?_⟩
      refine lc_list (K := K) (a := a4) (xs := x4.map V.int) (fun j H' => Same H5 H' ∧ H' g = some (.lst (((x4.map fun e => (u : Int) * e % (p : Int)).take j).map V.int))) ⟨Same.new (Same.refl H5) ng, upd_same⟩ (fun j H' _ z => SqL.of (z.1 _ _ hr5)) ?_ ?_
      · rintro j x2 H6 hx2 ⟨sm6, hg⟩
        obtain ⟨z, ez, rfl⟩ := map_get hx2
        have jl := (List.getElem?_eq_some_iff.mp ez).1
        have zb := g4.low k' j kn (by omega)
        have ezz : en t4 k' j = z := by
          rw [en_of ex4, List.getD_eq_getElem?_getD, ez]
          rfl
        rw [ezz] at zb
        refine ⟨rfl, _, rfl, _, rfl, _, _, rfl, rfl, wide_mul (a := 100) (b := 100) (by rw [Int.natAbs_natCast]; exact Nat.lt_of_lt_of_le up (by exact Nat.le_trans p97 (by decide))) (by exact Nat.lt_of_lt_of_le (show z.natAbs < 97 by omega) (by decide)) (by decide) (by decide) (by decide), _, rfl, _, _, rfl, rfl, (by omega : (0 : Int) < (p : Int)), _, hg, small1000 (by rw [List.length_map, List.length_take, List.length_map]; omega), Same.put sm6 ng, ?_⟩
        have e2 : (x4.map fun e => (u : Int) * e % (p : Int))[j]? = some ((u : Int) * z % (p : Int)) := by
          rw [List.getElem?_map, ez]
          rfl
        rw [upd_same, take_get2 e2, List.map_append]
        rfl
      rintro H6 ⟨sm6, hg⟩
      rw [List.length_map, show (x4.map fun e => (u : Int) * e % (p : Int)).take x4.length = x4.map fun e => (u : Int) * e % (p : Int) from List.take_of_length_le (by rw [List.length_map]; exact Nat.le_refl _)] at hg
      have w6 := w5.same sm6
      have lrs4 : rs4.length = n := by rw [w4.len, g4.rc.len]
      obtain ⟨nf1, nf2⟩ := fresh_not w5 ng
      refine ⟨_, rfl, _, rfl, R, _, _, k', rfl, rfl, w6.top, ixN_ofU (by rw [List.length_map]; omega), ?_⟩
      have w7 := w6.swap (i := k') (by omega) hg nf1 nf2
      have xg : ∀ c, c < n + n → (x4.map fun e => (u : Int) * e % (p : Int)).getD c 0 = ((u : Int) * en t4 k' c + 0 * en t4 k' c) % (p : Int) := fun c hc => by
        rw [Int.zero_mul, Int.add_zero, List.getD_eq_getElem?_getD, List.getElem?_map, en_of ex4, List.getD_eq_getElem?_getD, List.getElem?_eq_getElem (by omega)]
        rfl
      have nu : ¬ (p : Int) ∣ (u : Int) := fun d => by
        have z := Int.dvd_sub (Int.dvd_trans d (Int.dvd_mul_left (e4 : Int) (u : Int))) hu
        rw [Int.sub_sub_self] at z
        exact prm.one z
      have g7 := g4.op prm kn kn (a := (u : Int)) (b := 0) nu (fun _ => rfl) (r := x4.map fun e => (u : Int) * e % (p : Int)) (by rw [List.length_map]; exact lx4) xg (fun c hc => by
        rw [g4.unit k' c kn hc, if_neg (by omega), Int.mul_zero, Int.mul_zero, Int.add_zero, Int.zero_emod])
      have one7 : en (t4.set k' (x4.map fun e => (u : Int) * e % (p : Int))) k' k' = 1 := by
        rw [en_set (by rw [g4.rc.len]; exact kn), if_pos rfl, xg k' (by omega), Int.zero_mul, Int.add_zero, he4]
        exact mod_one (by omega) hu
      have sm7 : Same H (upd H6 R (.lst ((rs4.map V.ref).set k' (.ref g)))) := Same.put ((sm4.trans s5).trans sm6) nR
      have fr7 : ∀ b ∈ rs4.set k' g, H b = none := fun b hb => by
        rcases List.mem_or_eq_of_mem_set hb with m | m
        · exact fr4 b m
        · rw [m]
          exact Same.free (sm4.trans s5) ng
      generalize rs4.set k' g = rs7 at *
      generalize t4.set k' (x4.map fun e => (u : Int) * e % (p : Int)) = t7 at *
      generalize upd H6 R (.lst ((rs4.map V.ref).set k' (.ref g))) = H7 at *
      refine ⟨_, rfl, _, rfl, by omega, by omega, for_range (lo := 0) (n := ((n : Nat) : Int).toNat) (fun i σ H' => ∃ (v3 : Option V) (rs : List Addr) (t : List (List Int)), σ = [some (.ref a), some (.int p), some (.int (n : Int)), v3, some (.ref R), some (.int (k' : Int)), some (.int (at' : Int)), some (.int (u : Int)), none, none, none] ∧ Same H H' ∧ Rw R H' rs t ∧ (∀ b ∈ rs, H b = none) ∧ GJ n k' (p : Int) B t ∧ en t k' k' = 1 ∧ ∀ i', i' < i → i' ≠ k' → en t i' k' = 0)
        ⟨v3, rs7, t7, rfl, sm7, w7, fr7, g7, one7, fun i' h _ => absurd h (Nat.not_lt_zero _)⟩ ?_ ?_⟩
      · rintro i σ H8 hi ⟨v3, rs8, t8, rfl, sm8, w8, fr8, g8, one8, z8⟩
        have il : i < n := by omega
        rw [show (0 : Int) + (i : Int) = ((i : Nat) : Int) by omega]
        refine ⟨_, rfl, _, rfl, rfl, _, rfl, ?_⟩
        rw [dec_int1]
        by_cases q : i = k'
        · rw [decide_eq_true (show (i : Int) = (k' : Int) by omega)]
          exact iteF ⟨_, rs8, t8, rfl, sm8, w8, fr8, g8, one8, fun i' h1 h2 => z8 i' (by omega) h2⟩
        rw [decide_eq_false (show ¬ (i : Int) = (k' : Int) by omega)]
        obtain ⟨ri, eri, lri⟩ := g8.rc.get il
        obtain ⟨rk, erk, lrk⟩ := g8.rc.get kn
        obtain ⟨ai, hai, hvi, hri⟩ := w8.toLl.at eri
        obtain ⟨ak, hak, hvk, hrk⟩ := w8.toLl.at erk
        have lrs8 : rs8.length = n := by rw [w8.len, g8.rc.len]
        have eik : ri.getD k' 0 = en t8 i k' := (en_of eri k').symm
        have bik := g8.low i k' il (by omega)
        refine iteT ⟨_, rfl, _, rfl, R, _, _, _, rfl, rfl, SqL.of w8.top, atI_nat hvi, _, rfl, _, rfl, R, _, _, _, rfl, rfl, SqL.of w8.top, atI_nat hvi, _, rfl, ai, _, k', _, rfl, rfl, SqL.of hri, atI_nat (row_at (by omega)), _, rfl, _, rfl, R, _, _, _, rfl, rfl, SqL.of w8.top, atI_nat hvk, _, rfl, ?_⟩
        rw [eik]
        refine ⟨ai, ak, ri, rk, _, _, rfl, hri, hrk, by omega, by omega, by omega, Nat.lt_of_lt_of_le (show (en t8 i k').natAbs < 97 by omega) (by decide), fun y hy => ?_, fun g9 H9 ng9 hg9 s9 => ?_⟩
        · obtain ⟨c, lc, ec⟩ := List.getElem_of_mem hy
          have z := g8.low k' c kn (by omega)
          have ez : en t8 k' c = y := by
            rw [en_of erk, List.getD_eq_getElem?_getD, List.getElem?_eq_getElem lc, ec]
            rfl
          rw [ez] at z
          exact Nat.lt_of_lt_of_le (show y.natAbs < 97 by omega) (by decide)
        have w9 := w8.same s9
        obtain ⟨m1, m2⟩ := fresh_not w8 ng9
        refine ⟨_, rfl, _, rfl, R, _, _, i, rfl, rfl, w9.top, ixN_ofU (by rw [List.length_map]; omega), ?_⟩
        have wA := w9.swap (i := i) (by omega) hg9 m1 m2
        have ll : (lessI (en t8 i k') (p : Int) ri rk).length = n + n := by
          unfold lessI
          rw [List.length_zipWith]
          omega
        have rg : ∀ c, c < n + n → (lessI (en t8 i k') (p : Int) ri rk).getD c 0 = (1 * en t8 i c + (-en t8 i k') * en t8 k' c) % (p : Int) := fun c hc => by
          have a1 : ri[c]? = some (en t8 i c) := by
            rw [en_of eri, List.getD_eq_getElem?_getD, List.getElem?_eq_getElem (by omega)]
            rfl
          have a2 : rk[c]? = some (en t8 k' c) := by
            rw [en_of erk, List.getD_eq_getElem?_getD, List.getElem?_eq_getElem (by omega)]
            rfl
          unfold lessI
          rw [List.getD_eq_getElem?_getD, List.getElem?_zipWith, a1, a2]
          show (en t8 i c - en t8 i k' * en t8 k' c) % (p : Int) = _
          rw [Int.one_mul, Int.neg_mul, Int.sub_eq_add_neg]
        have gA := g8.op prm il kn (a := 1) (b := -en t8 i k') prm.one (fun e => absurd e (Ne.symm q)) ll rg (fun c hc => by
          have lo := g8.low i c il (by omega)
          rw [g8.unit k' c kn hc, if_neg (by omega), Int.mul_zero, Int.add_zero, Int.one_mul, ← g8.unit i c il hc]
          exact Int.emod_eq_of_lt lo.1 lo.2)
        refine ⟨_, rs8.set i g9, t8.set i (lessI (en t8 i k') (p : Int) ri rk), rfl, Same.put (sm8.trans s9) nR, wA, fun b hb => ?_, gA, ?_, fun i' h1 h2 => ?_⟩
        · rcases List.mem_or_eq_of_mem_set hb with m | m
          · exact fr8 b m
          · rw [m]
            exact Same.free sm8 ng9
        · rw [en_set (by rw [g8.rc.len]; exact il), if_neg (Ne.symm q)]
          exact one8
        · rw [en_set (by rw [g8.rc.len]; exact il)]
          by_cases e : i' = i
          · rw [if_pos e, rg k' (by omega), one8, Int.one_mul, Int.mul_one, Int.add_right_neg, Int.zero_emod]
          · rw [if_neg e]
            exact z8 i' (by omega) h2
      · rintro σ H8 ⟨v3, rs8, t8, rfl, sm8, w8, fr8, g8, one8, z8⟩
        refine ⟨_, _, _, _, rs8, t8, rfl, sm8, w8, fr8, g8.next fun i hi => ?_⟩
        by_cases e : i = k'
        · rw [if_pos e, e]
          exact one8
        · rw [if_neg e]
          exact z8 i (by omega) e
    · rintro σ H2 ⟨v3, v5, v6, v7, rs, t, rfl, sm, hw, fr, gj⟩
      rw [show ((n : Nat) : Int).toNat = n by omega] at gj
      have lrs : rs.length = n := by rw [hw.len, gj.rc.len]
      refine ⟨_, rfl, R, rfl, ⟨_, SqL.of hw.top⟩, fun R2 nR2 => ?_⟩
      refine lc_list (K := K) (a := R) (xs := rs.map V.ref) (fun i H' => Same H2 H' ∧ ∃ rs2 : List Addr, (∀ b ∈ rs2, H b = none) ∧ Rw R2 H' rs2 ((t.map fun r => r.drop n).take i)) ⟨Same.new (Same.refl H2) nR2, [], (fun b h => nomatch h), ⟨⟨upd_same, rfl, fun i a z => by simp at z⟩, List.nodup_nil, fun a z => by cases z⟩⟩ (fun i H' _ z => SqL.of (z.1 _ _ hw.top)) ?_ ?_
      · rintro i x H3 hx ⟨s3, rs2, fr2, w2⟩
        obtain ⟨b, hb, rfl⟩ := map_get hx
        obtain ⟨r, er, hr2⟩ := hw.row i b hb
        have il := (List.getElem?_eq_some_iff.mp er).1
        refine ⟨rfl, _, rfl, _, rfl, _, rfl, noPartU ⟨b, _, rfl, SqL.of (s3 _ _ hr2), fun g ng => ?_⟩⟩
        rw [cut_dropU, ← List.map_drop]
        generalize qg : upd H3 g (HO.lst _) = H4
        obtain ⟨s4, h4⟩ := newFacts qg ng
        have w4 := w2.same s4
        obtain ⟨m1, m2⟩ := fresh_not w2 ng
        have l2 : rs2.length = i := by
          rw [w2.len, List.length_take, List.length_map]
          omega
        have e2 : (t.map fun r => r.drop n)[i]? = some (r.drop n) := by rw [List.getElem?_map, er]; rfl
        refine ⟨_, w4.top, small1000 (by rw [List.length_map]; have := gj.rc.len; omega), Same.put (s3.trans s4) nR2, rs2 ++ [g], (fun b hb => (List.mem_append.mp hb).elim (fr2 b) fun m => by rw [List.mem_singleton.mp m]; exact Same.free (sm.trans s3) ng), ?_⟩
        rw [take_get2 e2]
        exact w4.put h4 m1 m2
      · rintro H3 ⟨s3, rs2, fr2, w2⟩
        rw [List.length_map, lrs, show (t.map fun r => r.drop n).take n = t.map fun r => r.drop n from List.take_of_length_le (by rw [List.length_map, gj.rc.len]; exact Nat.le_refl n)] at w2
        have eu : ∀ i j, i < n → j < n → en (t.map fun r => r.drop n) i j = en t i (n + j) := fun i j hi hj => by
          obtain ⟨r, er, lr⟩ := gj.rc.get hi
          have e2 : (t.map fun r => r.drop n)[i]? = some (r.drop n) := by rw [List.getElem?_map, er]; rfl
          rw [en_of e2, en_of er, List.getD_eq_getElem?_getD, List.getElem?_drop, List.getD_eq_getElem?_getD]
        refine k R2 rs2 _ H3 w2 ⟨by rw [List.length_map]; exact gj.rc.len, fun r hr' => ?_⟩ (fun i j hi hj => ?_) (fun i j hi hj => ?_) (Same.free sm nR2) fr2 (sm.trans s3)
        · obtain ⟨r0, h0, rfl⟩ := List.mem_map.mp hr'
          rw [List.length_drop, gj.rc.row r0 h0]
          omega
        · rw [eu i j hi hj]
          exact gj.fin hi hj
        · rw [eu i j hi hj]
          exact gj.low i (n + j) hi (by omega)

def kvsL (es : List Nat) (as : List Addr) : List (Key × V) := List.zipWith (fun (e : Nat) (a : Addr) => ((.inl (e : Int) : Key), V.ref a)) es as
theorem kv_some {e : Nat} {v : V} : ∀ {es : List Nat} {as : List Addr}, valV (kvsL es as) (.inl (e : Int)) = some v → ∃ (k : Nat) (a : Addr), es[k]? = some e ∧ as[k]? = some a ∧ v = .ref a
  | [], _, h => by simp [kvsL, valV] at h
  | _ :: _, [], h => by simp [kvsL, valV] at h
  | x :: es, a :: as, h => by
    by_cases q : x = e
    · subst q
      have z : valV (kvsL (x :: es) (a :: as)) (.inl (x : Int)) = some (.ref a) := valV_pos rfl
      rw [z] at h
      cases h
      exact ⟨0, a, rfl, rfl, rfl⟩
    · have z : valV (kvsL (x :: es) (a :: as)) (.inl (e : Int)) = valV (kvsL es as) (.inl (e : Int)) := valV_neg fun w => q (by
        injection w with w
        omega)
      rw [z] at h
      obtain ⟨k, a', h1, h2, h3⟩ := kv_some h
      exact ⟨k + 1, a', h1, h2, h3⟩
theorem kv_none {e : Nat} : ∀ {es : List Nat} {as : List Addr}, es.length = as.length → valV (kvsL es as) (.inl (e : Int)) = none → e ∉ es
  | [], _, _, _ => by simp
  | x :: es, a :: as, hl, h => by
    by_cases q : x = e
    · subst q
      have z : valV (kvsL (x :: es) (a :: as)) (.inl (x : Int)) = some (.ref a) := valV_pos rfl
      rw [z] at h
      cases h
    · have z : valV (kvsL (x :: es) (a :: as)) (.inl (e : Int)) = valV (kvsL es as) (.inl (e : Int)) := valV_neg fun w => q (by
        injection w with w
        omega)
      rw [z] at h
      have ih := kv_none (es := es) (as := as) (by simpa using hl) h
      simp only [List.mem_cons, not_or]
      exact ⟨Ne.symm q, ih⟩
theorem kv_get {e : Nat} {a : Addr} : ∀ {es : List Nat} {as : List Addr} {k : Nat}, es.Nodup → es[k]? = some e → as[k]? = some a → valV (kvsL es as) (.inl (e : Int)) = some (.ref a)
  | [], _, k, _, h, _ => by simp at h
  | _ :: _, [], k, _, _, h => by simp at h
  | x :: es, b :: as, 0, _, h1, h2 => by
    simp at h1 h2
    subst h1 h2
    exact valV_pos rfl
  | x :: es, b :: as, k + 1, nd, h1, h2 => by
    obtain ⟨n1, n2⟩ := List.nodup_cons.mp nd
    have m : e ∈ es := List.mem_of_getElem? (show es[k]? = some e by simpa using h1)
    have z : valV (kvsL (x :: es) (b :: as)) (.inl (e : Int)) = valV (kvsL es as) (.inl (e : Int)) := valV_neg fun w => n1 (by
      injection w with w
      have : x = e := by omega
      rw [this]
      exact m)
    rw [z]
    exact kv_get n2 (by simpa using h1) (by simpa using h2)
theorem kvs_snoc {es : List Nat} {as : List Addr} (e : Nat) (a : Addr) (h : es.length = as.length) : kvsL (es ++ [e]) (as ++ [a]) = kvsL es as ++ [((.inl (e : Int) : Key), V.ref a)] := by
  unfold kvsL
  rw [List.zipWith_append h]
  rfl
theorem kvs_fst : ∀ {es : List Nat} {as : List Addr}, es.length = as.length → (kvsL es as).map (·.1) = (es.map fun (e : Nat) => (e : Int)).map Sum.inl
  | [], _, _ => rfl
  | x :: es, a :: as, h => by
    show (Sum.inl (x : Int) : Key) :: (kvsL es as).map (·.1) = Sum.inl (x : Int) :: (es.map fun (e : Nat) => (e : Int)).map Sum.inl
    rw [kvs_fst (es := es) (as := as) (by simpa using h)]
theorem kvs_len {es : List Nat} {as : List Addr} (h : es.length = as.length) : (kvsL es as).length = es.length := by
  unfold kvsL
  rw [List.length_zipWith]
  omega
def pre (ss : List Int) (p i e : Nat) : List Nat := (List.range i).filter fun j => decide (ev ss p j = e)
theorem pre_full (ss : List Int) (p e : Nat) : pre ss p ss.length e = layer ss p e := rfl
theorem pre_succ (ss : List Int) (p i e : Nat) : pre ss p (i + 1) e = pre ss p i e ++ if ev ss p i = e then [i] else [] := by
  unfold pre
  rw [List.range_succ, List.filter_append]
  congr 1
  by_cases h : ev ss p i = e
  · rw [if_pos h]
    simp [h]
  · rw [if_neg h]
    simp [h]
theorem pre_len (ss : List Int) (p i e : Nat) : (pre ss p i e).length ≤ i := by
  unfold pre
  have := List.length_filter_le (fun j => decide (ev ss p j = e)) (List.range i)
  rw [List.length_range] at this
  exact this
/-- the dict while it is filled -/
structure Lay (ss : List Int) (p : Nat) (F : Addr) (H0 H : Hp) (i : Nat) (es : List Nat) (as : List Addr) : Prop where
  top : H F = some (.dK (kvsL es as))
  len : es.length = as.length
  nd : es.Nodup
  nda : as.Nodup
  off : ∀ a ∈ as, a ≠ F ∧ H0 a = none
  row : ∀ (k : Nat) (e : Nat) (a : Addr), es[k]? = some e → as[k]? = some a → H a = some (.lst ((pre ss p i e).map fun (j : Nat) => V.int j))
  all : ∀ j, j < i → ev ss p j ∈ es
  few : es.length ≤ i
theorem nodup_inj {α : Type} {l : List α} (nd : l.Nodup) {i j : Nat} {a : α} (h1 : l[i]? = some a) (h2 : l[j]? = some a) : i = j := by
  obtain ⟨l1, e1⟩ := List.getElem?_eq_some_iff.mp h1
  obtain ⟨l2, e2⟩ := List.getElem?_eq_some_iff.mp h2
  rcases Nat.lt_trichotomy i j with q | q | q
  · exact absurd (e1.trans e2.symm) (List.pairwise_iff_getElem.mp nd i j l1 l2 q)
  · exact q
  · exact absurd (e2.trans e1.symm) (List.pairwise_iff_getElem.mp nd j i l2 l1 q)
def spLayers : Sp := fun vs H Q _ => ∃ (m : V) (ss : List Int) (d : PyData) (p : Nat), vs = [m, .int p] ∧ Im H m (.tuple [sD ss, d]) ∧ (∀ s ∈ ss, SizeOk s) ∧ ss.length ≤ 6 ∧ p ∈ PRn ∧
  ∀ (R : Addr) (rs : List Addr) (es : List Nat) (H' : Hp), Ll R H' rs (es.map fun e => (layer ss p e).map fun (i : Nat) => (i : Int)) → es.Nodup → (∀ e ∈ es, 0 < e) → (∀ e, 0 < e → layer ss p e ≠ [] → e ∈ es) → es.length ≤ 6 → H R = none → (∀ b ∈ rs, H b = none) → Same H H' → Q (.ref R) H'
abbrev sc_layersN : List Str := ["machine", "p", "found", "i", "e"]
theorem sc_layers : FnScope sc_layersN ["machine", "p"] (defScope s_layers) := ⟨rfl, rfl, rfl, by decide +kernel, rfl, by decide +kernel, by decide +kernel⟩
theorem ok_layers {f : Addr} {fd : FuncData} (D : DefAt K mg "layers" s_layers ["machine", "p"] f fd) (T : Blt mg) (T_sorted : mg "sorted" = none) (c_depth : Cal P w K mg base 2 "depth" spDepth) : Cal P w K mg base 3 "layers" spLayers := by
  refine cal_of D sc_layers (fun vs H Q E h => ?_) (fun cdv A outer s H vs Q E hr h => ?_)
  · obtain ⟨m, ss, d, p, rfl, _⟩ := h
    rfl
  · obtain ⟨m, ss, d, p, rfl, im, ok, l6, hp, k⟩ := h
    refine ⟨_, (pss_cons (ps_set (i := 2) sc_layers.nd rfl (.inr rfl) pe_dnewK)
      (pss_cons (ps_for PassesOwn.never rfl (pi_range1 (by rfl) T.range (pa_cons (pe_callB (call_lenK K rfl) (by rfl) T.len PySem.boot_len (pa_cons (pe_ix (ix_tupK K rfl) (pv 0) pe_int (fun _ _ => rfl)) pa_nil)) pa_nil)) (pg_name (i := 3) sc_layers.nd rfl (.inl rfl)) (pss_one (ps_expr (pe_bm PySem.F.plainAttrs_list PySem.F.slot_list_append PySem.F.type_list_append mt_append (pe_dsetd (pv 2) (pe_c c_depth hr (by decide) rfl (pa_cons (pv 0) (pa_cons (pv 1) (pa_cons (pv 3) pa_nil)))) (pe_lst pa_nil) ⟨rfl, rfl, rfl, rfl⟩) (pa_cons (pv 3) pa_nil)))))
      (pss_one (ps_ret (pe_lc (own := [("e", 4)]) rfl sc_layers.nd (pi_listK K rfl (pe_callB (call_sortedDI rfl) (by rfl) T_sorted (by decide +kernel) (pa_cons (pv 2) pa_nil))) (blkOk_by (N := sc_layersN) (sc := defScope s_layers) (by decide +kernel)) (fun _ _ _ _ _ => (pg_name (i := 4) sc_layers.nd rfl (by first | exact .inl rfl | exact .inr rfl))) (fun _ _ _ _ _ => (pts_one (pt_cmpR op_gt (pv 4) pe_int (nomark _)))) (fun _ _ _ _ _ => (pe_dget (hu_of hr) (pv 2) (pv 4) (fun _ _ => rfl)))))))), ?_⟩
    obtain ⟨a, xs, rfl, ha, ia⟩ := id im.tuple
    obtain ⟨v1, g1, im1⟩ := ia.get (i := 0) rfl
    obtain ⟨b, ys, rfl, hb, ib⟩ := id im1.tuple
    have ey := ib.ints
    subst ey
    have p2 := PRn_two hp
    have p97 := PRn_le hp
    refine fun F nF => ?_
    generalize qF : upd H F (HO.dK []) = H1
    obtain ⟨s1, hF⟩ := newFacts qF nF
    refine ⟨_, rfl, a, _, 0, _, rfl, rfl, SqT.of (s1 _ _ ha), atI_nat (j := 0) g1, b, _, rfl, .inr (SqT.of (s1 _ _ hb)), _, rfl, by rw [List.length_map]; omega, by rw [List.length_map]; omega, for_range (lo := 0) (n := _) (fun i σ H' => ∃ (v3 : Option V) (es : List Nat) (as : List Addr), σ = [some (.ref a), some (.int p), some (.ref F), v3, none] ∧ Same H H' ∧ Lay ss p F H H' i es as)
      ⟨none, [], [], rfl, s1, ⟨hF, rfl, List.nodup_nil, List.nodup_nil, (fun a h => nomatch h), (fun k e a h => by simp at h), (fun j h => absurd h (Nat.not_lt_zero _)), Nat.le_refl _⟩⟩ ?_ ?_⟩
    · rintro i σ H2 hi ⟨v3, es, as, rfl, sm, ly⟩
      rw [List.length_map] at hi
      have il : i < ss.length := by omega
      rw [show (0 : Int) + (i : Int) = ((i : Nat) : Int) by omega]
      obtain ⟨y, e1, e2, y2, y3, _⟩ := sizeN ok il
      have eev : val p y = ev ss p i := by
        unfold ev
        rw [e2, Int.toNat_natCast]
      refine ⟨_, rfl, F, rfl, .inl ⟨_, Rd.of ly.top⟩, _, rfl, _, rfl, _, rfl, _, ss, d, p, i, y, rfl, Same.k sm im, p2, by omega, e1, by omega, Nat.lt_of_le_of_lt y3 (by decide), Nat.zero_le _, fun z nz => ?_⟩
      rw [eev]
      generalize qz : upd H2 z (HO.lst _) = H3
      obtain ⟨s3, hz⟩ := newFacts qz nz
      have top3 := s3 _ _ ly.top
      have ll := kvs_len ly.len
      refine ⟨_, .inl ((ev ss p i : Nat) : Int), top3, rfl, by rw [ll]; exact Nat.lt_of_le_of_lt (show es.length ≤ 6 by have := ly.few; omega) (by decide), fun v hv => ?_, fun hn => ?_⟩
      · obtain ⟨k', a', h1, h2, rfl⟩ := kv_some hv
        have hr' := s3 _ _ (ly.row k' _ a' h1 h2)
        obtain ⟨o1, o2⟩ := ly.off a' (List.mem_of_getElem? h2)
        refine ⟨.inl ⟨rfl, _, SqL.of hr'⟩, _, rfl, a', _, _, rfl, rfl, hr', small1000 (by rw [List.length_map]; have := pre_len ss p i (ev ss p i); omega), ?_⟩
        refine ⟨_, es, as, rfl, Same.put (sm.trans s3) o2, ⟨by rw [upd_ne (Ne.symm o1)]; exact top3, ly.len, ly.nd, ly.nda, ly.off, fun k2 e a2 g1 g2 => ?_, fun j hj => ?_, by have := ly.few; omega⟩⟩
        · rw [pre_succ]
          by_cases q : a2 = a'
          · subst q
            have kk := nodup_inj ly.nda g2 h2
            subst kk
            rw [h1] at g1
            cases g1
            rw [upd_same, if_pos rfl, List.map_append]
            rfl
          · rw [upd_ne q, if_neg, List.append_nil]
            · exact s3 _ _ (ly.row k2 e a2 g1 g2)
            · intro z
              rw [← z] at g1
              have kk := nodup_inj ly.nd g1 h1
              subst kk
              rw [h2] at g2
              cases g2
              exact q rfl
        · by_cases q : j < i
          · exact ly.all j q
          · rw [show j = i by omega]
            exact List.mem_of_getElem? h1
      · have nm := kv_none ly.len hn
        have ntop : z ≠ F := fun e => by
          rw [e, ly.top] at nz
          cases nz
        have nzH : H z = none := Same.free sm nz
        rw [putK_new _ hn]
        have hz2 : (upd H3 F (.dK (kvsL es as ++ [((.inl ((ev ss p i : Nat) : Int) : Key), V.ref z)]))) z = some (.lst []) := by rw [upd_ne ntop]; exact hz
        refine ⟨.inl ⟨rfl, _, SqL.of hz2⟩, _, rfl, z, _, _, rfl, rfl, hz2, by show 0 < sizeLine; decide, ?_⟩
        have nza : z ∉ as := fun m => by
          obtain ⟨k2, lk, ek⟩ := List.getElem_of_mem m
          have g := ly.row k2 (es[k2]'(by rw [ly.len]; exact lk)) z (List.getElem?_eq_getElem _) (by rw [List.getElem?_eq_getElem lk, ek])
          rw [nz] at g
          cases g
        refine ⟨_, es ++ [ev ss p i], as ++ [z], rfl, Same.put (Same.put (sm.trans s3) nF) nzH, ⟨?_, ?_, ?_, ?_, fun a' ha' => ?_, fun k2 e a2 g1 g2 => ?_, fun j hj => ?_, ?_⟩⟩
        · rw [upd_ne (Ne.symm ntop), upd_same, kvs_snoc _ _ ly.len]
        · rw [List.length_append, List.length_append, ly.len]
          rfl
        · exact List.nodup_append.mpr ⟨ly.nd, List.pairwise_singleton _ _, fun x hx y hy e => nm (by rw [← List.mem_singleton.mp hy, ← e]; exact hx)⟩
        · exact List.nodup_append.mpr ⟨ly.nda, List.pairwise_singleton _ _, fun x hx y hy e => nza (by rw [← List.mem_singleton.mp hy, ← e]; exact hx)⟩
        · rcases List.mem_append.mp ha' with q | q
          · exact ly.off a' q
          · rw [List.mem_singleton.mp q]
            exact ⟨ntop, nzH⟩
        · by_cases q : k2 < es.length
          · rw [List.getElem?_append_left q] at g1
            rw [List.getElem?_append_left (by rw [← ly.len]; exact q)] at g2
            have n1 : a2 ≠ z := fun e => nza (by rw [← e]; exact List.mem_of_getElem? g2)
            have n2 : ev ss p i ≠ e := fun z' => nm (by rw [z']; exact List.mem_of_getElem? g1)
            obtain ⟨o1, _⟩ := ly.off a2 (List.mem_of_getElem? g2)
            rw [upd_ne n1, upd_ne o1, pre_succ, if_neg n2, List.append_nil]
            exact s3 _ _ (ly.row k2 e a2 g1 g2)
          · have lk : k2 - es.length = 0 := by
              have := (List.getElem?_eq_some_iff.mp g1).1
              rw [List.length_append, List.length_singleton] at this
              omega
            rw [List.getElem?_append_right (by omega), lk] at g1
            rw [List.getElem?_append_right (by rw [← ly.len]; omega), ← ly.len, lk] at g2
            cases g1
            cases g2
            rw [upd_same, pre_succ, if_pos rfl]
            have e0 : pre ss p i (ev ss p i) = [] := by
              unfold pre
              refine List.filter_eq_nil_iff.mpr fun j hj => ?_
              have jl := List.mem_range.mp hj
              intro z'
              exact nm (by rw [← of_decide_eq_true z']; exact ly.all j jl)
            rw [e0]
            rfl
        · by_cases q : j < i
          · exact List.mem_append_left _ (ly.all j q)
          · rw [show j = i by omega]
            exact List.mem_append_right _ List.mem_cons_self
        · rw [List.length_append, List.length_singleton]
          have := ly.few
          omega
    · rintro σ H2 ⟨v3, es, as, rfl, sm, ly⟩
      rw [List.length_map, show ((ss.length : Nat) : Int).toNat = ss.length by omega] at ly
      refine ⟨_, rfl, F, _, (es.map fun (e : Nat) => (e : Int)), rfl, Rd.of ly.top, kvs_fst ly.len, by rw [List.length_map]; have := ly.few; omega, fun ys S perm _ nS => ⟨S, rfl, ⟨_, SqL.of upd_same⟩, fun R nR => ?_⟩⟩
      generalize qS : upd H2 S (HO.lst _) = H3 at nR ⊢
      obtain ⟨s3, hS⟩ := newFacts qS nS
      have hy : ∀ y ∈ ys, ∃ e : Nat, y = (e : Int) ∧ e ∈ es := fun y hy => by
        obtain ⟨e, he, rfl⟩ := List.mem_map.mp (perm.mem_iff.mp hy)
        exact ⟨e, rfl, he⟩
      have eys : ys = (ys.map Int.toNat).map fun (e : Nat) => (e : Int) := by
        rw [List.map_map]
        refine (List.map_id' ys).symm.trans (List.map_congr_left fun y hy' => ?_)
        obtain ⟨e, rfl, _⟩ := hy y hy'
        rfl
      generalize qe : ys.map Int.toNat = es2 at eys
      have perm2 : es2.Perm es := by
        have z := perm.map Int.toNat
        rw [qe, List.map_map] at z
        have q : (es.map (Int.toNat ∘ fun (e : Nat) => (e : Int))) = es := by
          refine (List.map_congr_left fun e _ => ?_).trans (List.map_id' es)
          rfl
        rw [q] at z
        exact z
      subst eys
      have nd2 := perm2.nodup_iff.mpr ly.nd
      have few2 : es2.length ≤ 6 := by
        rw [perm2.length_eq]
        have := ly.few
        omega
      refine lc_list (K := K) (a := S) (xs := (es2.map fun (e : Nat) => (e : Int)).map V.int) (fun i H' => Same H3 H' ∧ ∃ rs : List Addr, H' R = some (.lst (rs.map V.ref)) ∧ rs.length ≤ i ∧ (∀ b ∈ rs, H b = none) ∧ Ll R H' rs (((es2.take i).filter fun e => decide (0 < e)).map fun e => (layer ss p e).map fun (i : Nat) => (i : Int))) ⟨Same.new (Same.refl H3) nR, [], upd_same, Nat.le_refl _, (fun b h => nomatch h), ⟨upd_same, rfl, fun i a z => by simp at z⟩⟩ (fun i H' _ z => SqL.of (z.1 _ _ hS)) ?_ ?_
      · rintro i x H4 hx ⟨s4, rs, hR4, lrs, frs, hL⟩
        obtain ⟨y, hy', rfl⟩ := map_get hx
        obtain ⟨e, he, rfl⟩ := map_get hy'
        have me : e ∈ es := perm2.mem_iff.mp (List.mem_of_getElem? he)
        have il := (List.getElem?_eq_some_iff.mp he).1
        refine ⟨rfl, _, rfl, _, _, rfl, rfl, _, rfl, ?_⟩
        have tk := take_filter (fun e => decide (0 < e)) he
        by_cases q : (0 : Int) < (e : Int)
        · rw [decide_eq_true q]
          rw [if_pos (decide_eq_true (show 0 < e by omega))] at tk
          obtain ⟨k2, lk, ek⟩ := List.getElem_of_mem me
          have g1 : es[k2]? = some e := by rw [List.getElem?_eq_getElem lk, ek]
          have g2 : as[k2]? = some (as[k2]'(by rw [← ly.len]; exact lk)) := List.getElem?_eq_getElem _
          have fra := (ly.off _ (List.mem_of_getElem? g2)).2
          have gv := kv_get ly.nd g1 g2
          have hrow := ly.row k2 e _ g1 g2
          rw [pre_full] at hrow
          have s24 := s3.trans s4
          have dg := DGet.k (k := .inl (e : Int)) (s24 _ _ ly.top)
          rw [gv] at dg
          generalize as[k2]'(by rw [← ly.len]; exact lk) = a2 at *
          have nRa : a2 ≠ R := fun z => by
            rw [z] at hrow
            rw [s3 _ _ hrow] at nR
            cases nR
          refine iteT ⟨_, rfl, _, rfl, F, _, rfl, dg, _, hR4, small1000 (by rw [List.length_map]; omega), Same.put s4 nR, rs ++ [a2], by rw [upd_same, List.map_append]; rfl, by rw [List.length_append, List.length_singleton]; omega, (fun b hb => (List.mem_append.mp hb).elim (frs b) fun m => by rw [List.mem_singleton.mp m]; exact fra), ?_⟩
          rw [tk, List.map_append]
          refine ⟨by rw [upd_same, List.map_append]; rfl, by rw [List.length_append, List.length_append, hL.len]; rfl, fun j b hb => ?_⟩
          by_cases qj : j < rs.length
          · rw [List.getElem?_append_left qj] at hb
            obtain ⟨r, h1, h2⟩ := hL.row j b hb
            have nb : b ≠ R := fun z => by
              rw [z, hR4] at h2
              have h3 := HO.lst.inj (Option.some.inj h2)
              obtain ⟨r0, hr0, _⟩ := hL.row j b hb
              have le := congrArg List.length h3
              cases rs with
              | nil => simp at qj
              | cons c rs =>
                cases r with
                | nil => simp at h3
                | cons c2 r => simp at h3
            exact ⟨r, by rw [List.getElem?_append_left (by rw [← hL.len]; exact qj)]; exact h1, by rw [upd_ne nb]; exact h2⟩
          · have lk2 : j - rs.length = 0 := by
              have := (List.getElem?_eq_some_iff.mp hb).1
              rw [List.length_append, List.length_singleton] at this
              omega
            rw [List.getElem?_append_right (by omega), lk2] at hb
            cases hb
            refine ⟨_, by rw [List.getElem?_append_right (by rw [← hL.len]; omega), ← hL.len, lk2]; rfl, ?_⟩
            rw [upd_ne nRa, s24 _ _ hrow, List.map_map]
            rfl
        · rw [decide_eq_false q]
          rw [if_neg (by rw [decide_eq_false (show ¬ 0 < e by omega)]; exact Bool.false_ne_true), List.append_nil] at tk
          refine iteF ⟨s4, rs, hR4, by omega, frs, ?_⟩
          rw [tk]
          exact hL
      · rintro H4 ⟨s4, rs, hR4, lrs, frs, hL⟩
        rw [List.length_map, List.length_map, List.take_length] at hL
        refine k R rs (es2.filter fun e => decide (0 < e)) H4 hL (List.Nodup.sublist List.filter_sublist nd2) (fun e he => of_decide_eq_true (List.mem_filter.mp he).2) (fun e e0 ne => ?_) (Nat.le_trans (List.length_filter_le _ _) few2) (Same.free (sm.trans s3) nR) frs ((sm.trans s3).trans s4)
        obtain ⟨j, hj⟩ := List.exists_mem_of_ne_nil _ ne
        obtain ⟨j1, j2⟩ := layer_mem.mp hj
        exact List.mem_filter.mpr ⟨perm2.mem_iff.mpr (by rw [← j2]; exact ly.all j j1), decide_eq_true e0⟩

theorem PR_nat {p : Int} (h : p ∈ PR) : ∃ q : Nat, q ∈ PRn ∧ p = (q : Int) := by
  have e : (PR.all fun p => decide (p.toNat ∈ PRn) && decide ((p.toNat : Int) = p)) = true := by decide
  have z := List.all_eq_true.mp e p h
  rw [Bool.and_eq_true, decide_eq_true_eq, decide_eq_true_eq] at z
  exact ⟨p.toNat, z.1, z.2.symm⟩
theorem nat_PR {q : Nat} (h : q ∈ PRn) : (q : Int) ∈ PR := by
  have e : (PRn.all fun q => decide ((q : Int) ∈ PR)) = true := by decide
  exact of_decide_eq_true (List.all_eq_true.mp e q h)
theorem not_due {ss : List Int} (ok : ∀ s ∈ ss, SizeOk s) {q : Nat} (hq : q ∈ PRn) (h : (q : Int) ∉ dueP ss) (i : Nat) (hi : i < ss.length) : ev ss q i = 0 := by
  obtain ⟨y, e1, e2, y2, _⟩ := sizeN ok hi
  unfold ev
  rw [e2, Int.toNat_natCast]
  refine val_no fun z => h ?_
  unfold dueP
  refine List.mem_filter.mpr ⟨nat_PR hq, ?_⟩
  unfold dv
  refine List.any_eq_true.mpr ⟨(y : Int), List.mem_of_getElem? e1, ?_⟩
  rw [decide_eq_true_eq, ← Int.natCast_emod, z]
  rfl
theorem layer_nil {ss : List Int} {p e : Nat} (h : ∀ i, i < ss.length → ev ss p i = 0) (e0 : 0 < e) : layer ss p e = [] := by
  unfold layer
  refine List.filter_eq_nil_iff.mpr fun i hi => ?_
  have il := List.mem_range.mp hi
  intro z
  have := of_decide_eq_true z
  rw [h i il] at this
  omega
/-- all squares can be undone -/
def Und (ss : List Int) (T : List (List Int)) : Prop := ∀ p ∈ PRn, ∀ e, 0 < e → ¬ (p : Int) ∣ det (layer ss p e).length (blk T (layer ss p e))
theorem layer_len (ss : List Int) (p e : Nat) : (layer ss p e).length ≤ ss.length := by
  unfold layer
  have := List.length_filter_le (fun i => decide (ev ss p i = e)) (List.range ss.length)
  rw [List.length_range] at this
  exact this
theorem bnd6 : ∀ m, m ≤ 6 → bnd (10 ^ 30) m < 2 ^ 4000 := by decide +kernel
def spCan : Sp := fun vs H Q _ => ∃ (m y : V) (ss : List Int) (ws : List (Nat × Nat)) (t : List (List Int)), vs = [m, y] ∧ Im H m (mD ss ws) ∧ MOk ss ws ∧ Im H y (tD t) ∧ GT ss t ∧ ∀ (b : Bool) (H' : Hp), (b = true ↔ Und ss t) → Same H H' → Q (.bl b) H'
theorem ll_nats {R : Addr} {H : Hp} {rs : List Addr} {Is : List (List Nat)} (h : Ll R H rs (Is.map fun I => I.map fun (i : Nat) => (i : Int))) {k : Nat} {a : Addr} (e : rs[k]? = some a) : ∃ I, Is[k]? = some I ∧ H a = some (.lst (I.map fun (i : Nat) => V.int i)) := by
  obtain ⟨r, h1, h2⟩ := h.row k a e
  obtain ⟨I, h3, rfl⟩ := map_get h1
  refine ⟨I, h3, ?_⟩
  rw [h2, List.map_map]
  rfl
abbrev sc_can_be_undoneN : List Str := ["machine", "table", "p", "registers"]
theorem sc_can_be_undone : FnScope sc_can_be_undoneN ["machine", "table"] (defScope s_can_be_undone) := ⟨rfl, rfl, rfl, by decide +kernel, rfl, by decide +kernel, by decide +kernel⟩
theorem ok_can {f : Addr} {fd : FuncData} (D : DefAt K mg "can_be_undone" s_can_be_undone ["machine", "table"] f fd) (c_primes_of : Cal P w K mg base 1 "primes_of" spPrimesOf) (c_layers : Cal P w K mg base 3 "layers" spLayers) (c_square_of : Cal P w K mg base 1 "square_of" spSq) (c_determinant : Cal P w K mg base 2 "determinant" spDet) : Cal P w K mg base 4 "can_be_undone" spCan := by
  refine cal_of D sc_can_be_undone (fun vs H Q E h => ?_) (fun cdv A outer s H vs Q E hr h => ?_)
  · obtain ⟨m, y, ss, ws, t, rfl, _⟩ := h
    rfl
  · obtain ⟨m, y, ss, ws, t, rfl, im, ok, iy, gt, k⟩ := h
    refine ⟨_, (pss_cons (ps_for PassesOwn.never rfl (pi_tupK K rfl (pe_c c_primes_of hr (by decide) rfl (pa_cons (pv 0) pa_nil))) (pg_name (i := 2) sc_can_be_undone.nd rfl (.inl rfl)) (pss_one (ps_for PassesOwn.never rfl (pi_listK K rfl (pe_c c_layers hr (by decide) rfl (pa_cons (pv 0) (pa_cons (pv 2) pa_nil)))) (pg_name (i := 3) sc_can_be_undone.nd rfl (.inl rfl)) (pss_one (ps_if (pt_cmpR op_eq (pe_op op_mod (pe_c c_determinant hr (by decide) rfl (pa_cons (pe_c c_square_of hr (by decide) rfl (pa_cons (pv 1) (pa_cons (pv 3) pa_nil))) pa_nil)) (pv 2)) pe_int (nomark _)) (pss_one (ps_ret pe_bl)) pss_nil)))))
      (pss_one (ps_ret pe_bl))), ?_⟩
    have l6 := ok.six
    refine ⟨_, rfl, _, ss, _, rfl, im, by omega, fun u H1 iu s1 => ?_⟩
    obtain ⟨a, xs, rfl, ha, ia⟩ := iu.tuple
    have ey := ia.ints
    subst ey
    refine ⟨a, rfl, ⟨_, SqT.of ha⟩, for_tup (K := K) (a := a) (xs := (dueP ss).map V.int) (fun i σ H' => ∃ v2 v3 : Option V, σ = [some m, some y, v2, v3] ∧ Same H1 H' ∧ ∀ p : Nat, p ∈ PRn → (p : Int) ∈ (dueP ss).take i → ∀ e, 0 < e → ¬ (p : Int) ∣ det (layer ss p e).length (blk t (layer ss p e)))
      ⟨none, none, rfl, Same.refl H1, fun p _ hp => by simp at hp⟩ (fun i σ H' _ ⟨_, _, _, z, _⟩ => SqT.of (z _ _ ha)) ?_ ?_⟩
    · rintro i x σ H2 hx ⟨v2, v3, rfl, s2, al⟩
      obtain ⟨p, hp, rfl⟩ := map_get hx
      have mp : p ∈ dueP ss := List.mem_of_getElem? hp
      obtain ⟨q, hq, rfl⟩ := PR_nat (List.mem_filter.mp mp).1
      have q2 := PRn_two hq
      have s12 := s1.trans s2
      refine ⟨_, rfl, _, rfl, m, ss, _, q, rfl, Same.k s12 im, ok.size, l6, hq, fun R rs es H3 hL nd pos full few _ _ s3 => ?_⟩
      refine ⟨R, rfl, ⟨_, SqL.of hL.top⟩, for_list (K := K) (a := R) (xs := rs.map V.ref) (fun j σ H' => ∃ v3 : Option V, σ = [some m, some y, some (.int (q : Int)), v3] ∧ Same H3 H' ∧ ∀ e ∈ es.take j, ¬ (q : Int) ∣ det (layer ss q e).length (blk t (layer ss q e)))
        ⟨v3, rfl, Same.refl H3, fun e he => by simp at he⟩ (fun j σ H' _ ⟨_, _, z, _⟩ => SqL.of (z _ _ hL.top)) ?_ ?_⟩
      · rintro j v σ H4 hv ⟨v3, rfl, s4, al2⟩
        obtain ⟨b, hb, rfl⟩ := map_get hv
        obtain ⟨I, hI, hbI⟩ := ll_nats (Is := es.map fun e => layer ss q e) (by rw [List.map_map]; exact hL) hb
        obtain ⟨e, he, rfl⟩ := map_get hI
        have s14 := (s12.trans s3).trans s4
        have ln := layer_len ss q e
        refine ⟨_, rfl, _, rfl, y, b, t, ss.length, layer ss q e, rfl, Same.k s14 iy, gt.sq, s4 _ _ hbI, fun i hi => (layer_mem.mp hi).1, by omega, fun R2 rs2 H5 hw s5 => ?_⟩
        refine ⟨R2, rs2, sqI t (layer ss q e), (layer ss q e).length, 10 ^ 30, rfl, hw.toLl, sqI_sq t _, by omega, fun r c hr' hc' => ?_, fun m hm => bnd6 m (by omega), fun H6 s6 => ?_⟩
        · rw [sqI_en t hr' hc']
          obtain ⟨r1, _⟩ := layer_mem.mp (getD_mem hr')
          obtain ⟨c1, _⟩ := layer_mem.mp (getD_mem hc')
          obtain ⟨z, f1, f2, z2, z3, _⟩ := sizeN ok.size r1
          have lo := gt.low _ _ _ f1 c1
          unfold blk
          omega
        have ed : det (layer ss q e).length (en (sqI t (layer ss q e))) = det (layer ss q e).length (blk t (layer ss q e)) := det_congr fun r c hr' hc' => sqI_en t hr' hc'
        rw [ed]
        refine ⟨_, rfl, _, _, rfl, rfl, (by omega : (0 : Int) < (q : Int)), rfl, _, rfl, ?_⟩
        have e0 := pos e (List.mem_of_getElem? he)
        by_cases z : det (layer ss q e).length (blk t (layer ss q e)) % (q : Int) = 0
        · refine iteSKu (congrArg V.int z) (k false _ ⟨fun h => (nomatch h), fun h => absurd (Int.dvd_of_emod_eq_zero z) (h q hq e e0)⟩ ((s14.trans s5).trans s6))
        · refine iteSKn (fun w => z (V.int.inj w)) ⟨_, rfl, (s4.trans s5).trans s6, fun e' he' => ?_⟩
          rw [take_get2 he] at he'
          rcases List.mem_append.mp he' with w | w
          · exact al2 e' w
          · rw [List.mem_singleton.mp w]
            exact fun d => z (Int.emod_eq_zero_of_dvd d)
      · rintro σ H4 ⟨v3, rfl, s4, al2⟩
        have lrs : rs.length = es.length := by rw [hL.len, List.length_map]
        rw [List.length_map, lrs, List.take_length] at al2
        refine ⟨_, _, rfl, (s2.trans s3).trans s4, fun p hp' mp2 e e0 => ?_⟩
        rw [take_get2 hp] at mp2
        rcases List.mem_append.mp mp2 with w | w
        · exact al p hp' w e e0
        · have pq : p = q := by
            have := List.mem_singleton.mp w
            omega
          subst pq
          by_cases z : layer ss p e = []
          · rw [z]
            exact (Prm.of hp').one
          · exact al2 e (full e e0 z)
    · rintro σ H2 ⟨v2, v3, rfl, s2, al⟩
      rw [List.length_map, List.take_length] at al
      refine k true H2 ⟨fun _ p hp e e0 => ?_, fun _ => rfl⟩ (s1.trans s2)
      by_cases w : (p : Int) ∈ dueP ss
      · exact al p hp w e e0
      · rw [layer_nil (not_due ok.size hp w) e0]
        exact (Prm.of hp).one

def cs_twice_less : Scope := match defBody s_twice_less with
  | [.Return (some (.Call _ [.ListComp _ _ sc _] _ _)) _] => sc
  | _ => defScope s_twice_less
def spTwl : Sp := fun vs H Q _ => ∃ (m y : V) (ss : List Int) (ws : List (Nat × Nat)) (t : List (List Int)), vs = [m, y] ∧ Im H m (mD ss ws) ∧ MOk ss ws ∧ Im H y (tD t) ∧ GT ss t ∧ ∀ (u : V) (H' : Hp), Im H' u (tD (twl ss t)) → Same H H' → Q u H'
theorem twl_at {ss : List Int} {t : List (List Int)} {i : Nat} (hi : i < ss.length) : (twl ss t)[i]? = some ((List.range ss.length).map fun j => (2 * dl i j - en t i j) % ss.getD i 0) := by
  unfold twl
  rw [List.getElem?_map, List.getElem?_eq_getElem (by rw [List.length_range]; exact hi), List.getElem_range]
  rfl
abbrev sc_twice_lessN : List Str := ["machine", "table", "size", "unmoved", "row", "kept", "entry"]
theorem sc_twice_less : FnScope sc_twice_lessN ["machine", "table"] (defScope s_twice_less) := ⟨rfl, rfl, rfl, by decide +kernel, rfl, by decide +kernel, by decide +kernel⟩
theorem ok_twl {f : Addr} {fd : FuncData} (D : DefAt K mg "twice_less" s_twice_less ["machine", "table"] f fd) (T : Blt mg) (T_zip : mg "zip" = none) (c_still : Cal P w K mg base 1 "still" spStillM) : Cal P w K mg base 2 "twice_less" spTwl := by
  refine cal_of D sc_twice_less (fun vs H Q E h => ?_) (fun cdv A outer s H vs Q E hr h => ?_)
  · obtain ⟨m, y, ss, ws, t, rfl, _⟩ := h
    rfl
  · obtain ⟨m, y, ss, ws, t, rfl, im, ok, iy, gt, k⟩ := h
    refine ⟨_, (pss_one (ps_ret (pe_callTy (call_tupleK K rfl) (by rfl) T.tuple (by decide +kernel) (pa_cons (pe_lc (own := [("size", 2), ("unmoved", 3), ("row", 4)]) rfl sc_twice_less.nd (pi_zipG3 K rfl .t .t .t (by rfl) T_zip (pa_cons (pe_ix (ix_tupK K rfl) (pv 0) pe_int (fun _ _ => rfl)) (pa_cons (pe_c c_still hr (by decide) rfl (pa_cons (pv 0) pa_nil)) (pa_cons (pv 1) pa_nil)))) (blkOk_by (N := sc_twice_lessN) (sc := defScope s_twice_less) (by decide +kernel)) (fun _ _ _ _ _ => (pg_tupK (n := 3) K rfl rfl (pgs_cons (pg_name (i := 2) sc_twice_less.nd rfl (by first | exact .inl rfl | exact .inr rfl)) (pgs_cons (pg_name (i := 3) sc_twice_less.nd rfl (by first | exact .inl rfl | exact .inr rfl)) (pgs_cons (pg_name (i := 4) sc_twice_less.nd rfl (by first | exact .inl rfl | exact .inr rfl)) pgs_nil))))) (fun _ _ _ _ _ => pts_nil) (fun _ _ _ _ _ => (pe_callTy (call_tupleK K rfl) (by rfl) T.tuple (by decide +kernel) (pa_cons (pe_lc (own := [("kept", 5), ("entry", 6)]) rfl sc_twice_less.nd (pi_zipG K rfl .t .t (by rfl) T_zip (pa_cons (pv 3) (pa_cons (pv 4) pa_nil))) (blkOk_by (N := sc_twice_lessN) (sc := relS cs_twice_less (defScope s_twice_less)) (by decide +kernel)) (fun _ _ _ _ _ => (pg_tupK (n := 2) K rfl rfl (pgs_cons (pg_name (i := 5) sc_twice_less.nd rfl (by first | exact .inl rfl | exact .inr rfl)) (pgs_cons (pg_name (i := 6) sc_twice_less.nd rfl (by first | exact .inl rfl | exact .inr rfl)) pgs_nil)))) (fun _ _ _ _ _ => pts_nil) (fun _ _ _ _ _ => (pe_op op_mod (pe_op op_sub (pe_op op_mulW pe_int (pv 5)) (pv 6)) (pv 2)))) pa_nil)))) pa_nil)))), ?_⟩
    have l6 := ok.six
    obtain ⟨a, xs, rfl, ha, ia⟩ := id im.tuple
    obtain ⟨b0, g0, im0⟩ := ia.get (i := 0) rfl
    obtain ⟨b, bs, rfl, hb, ib⟩ := id im0.tuple
    have ey := ib.ints
    subst ey
    refine ⟨_, rfl, a, _, 0, _, rfl, rfl, SqT.of ha, atI_nat (j := 0) g0, _, rfl, _, ss, ws, rfl, im, ok, fun u H1 iu s1 => ?_⟩
    obtain ⟨c, cs, rfl, hc, lc, crow⟩ := tD_rows iu
    obtain ⟨e, es, rfl, he, le, erow⟩ := tD_rows (Same.k s1 iy)
    have ls := (still_sq ss.length).len
    have lt := gt.sq.len
    refine ⟨_, rfl, b, c, e, _, _, _, rfl, SqS.of_t (s1 _ _ hb), SqS.of_t hc, SqS.of_t he, fun d nd => ?_⟩
    refine lc_it (walk_zipG3 (n := ss.length) (by rw [List.length_map]; omega)) (fun i H' => Same H1 H' ∧ ∃ vs : List V, H' d = some (.lst vs) ∧ ImAll H' vs (((twl ss t).take i).map sD)) ⟨Same.new (Same.refl H1) nd, [], upd_same, .nil⟩ (fun i H' _ z => ⟨SqS.of_t (z.1 _ _ (s1 _ _ hb)), SqS.of_t (z.1 _ _ hc), SqS.of_t (z.1 _ _ he)⟩) ?_ ?_
    · rintro i x H2 H3 hi ⟨sm, vs, hd, iv⟩ ⟨T1, x1, x2, x3, rfl, nT, rfl, e1, e2, e3⟩
      obtain ⟨s', hs, rfl⟩ := map_get e1
      obtain ⟨r1, er1, lr1⟩ := (still_sq ss.length).get hi
      obtain ⟨r2, er2, lr2⟩ := gt.sq.get hi
      obtain ⟨c1, g1, hc1⟩ := crow i r1 er1
      obtain ⟨c2, g2, hc2⟩ := erow i r2 er2
      have e2' : cs[i]? = some x2 := e2
      have e3' : es[i]? = some x3 := e3
      rw [g1] at e2'
      cases e2'
      rw [g2] at e3'
      cases e3'
      obtain ⟨z, f1, f2, z2, z3, _⟩ := sizeN ok.size hi
      rw [hs] at f1
      cases f1
      generalize qT : upd H2 T1 (HO.tup _) = H3
      obtain ⟨s3, h3⟩ := newFacts qT nT
      refine ⟨T1, _, rfl, SqT.of h3, rfl, _, _, rfl, _, _, rfl, _, _, rfl, rfl, rfl, ?_⟩
      have s13 := sm.trans s3
      refine ⟨_, rfl, _, rfl, c1, c2, _, _, rfl, SqS.of_t (s13 _ _ hc1), SqS.of_t (s13 _ _ hc2), fun g ng => ?_⟩
      refine lc_it (walk_zipG (n := ss.length) (by rw [List.length_map, List.length_map]; omega)) (fun j H' => Same H3 H' ∧ H' g = some (.lst ((((List.range ss.length).map fun j => (2 * dl i j - en t i j) % ss.getD i 0).take j).map V.int))) ⟨Same.new (Same.refl H3) ng, upd_same⟩ (fun j H' _ z => ⟨SqS.of_t (z.1 _ _ (s13 _ _ hc1)), SqS.of_t (z.1 _ _ (s13 _ _ hc2))⟩) ?_ ?_
      · rintro j v H4 H5 hj ⟨sm4, hg⟩ ⟨T2, y1, y2, rfl, nT2, rfl, q1, q2⟩
        obtain ⟨k1, hk1, rfl⟩ := map_get q1
        obtain ⟨k2, hk2, rfl⟩ := map_get q2
        have ek1 : k1 = dl i j := by
          have w := still_en hi hj
          rw [en_of er1, List.getD_eq_getElem?_getD, hk1] at w
          exact w
        have ek2 : k2 = en t i j := by
          rw [en_of er2, List.getD_eq_getElem?_getD, hk2]
          rfl
        subst ek1 ek2
        have bk : (dl i j).natAbs < 2 ^ 10 := by
          unfold dl
          split <;> decide
        refine ⟨T2, _, rfl, SqT.of upd_same, rfl, _, _, rfl, _, _, rfl, rfl, rfl, ?_⟩
        refine ⟨_, rfl, _, _, rfl, rfl, wide_mul (a := 10) (b := 10) (by decide) bk (by decide) (by decide) (by decide), _, rfl, _, _, rfl, rfl, _, rfl, _, _, rfl, rfl, (by omega : (0 : Int) < (z : Int)), _, keepN hg nT2, small1000 (by rw [List.length_map, List.length_take]; omega), Same.put (Same.new sm4 nT2) ng, ?_⟩
        have e2 : ((List.range ss.length).map fun j => (2 * dl i j - en t i j) % ss.getD i 0)[j]? = some ((2 * dl i j - en t i j) % (z : Int)) := by
          rw [List.getElem?_map, List.getElem?_eq_getElem (by rw [List.length_range]; exact hj), List.getElem_range, ← f2]
          rfl
        rw [upd_same, take_get2 e2, List.map_append]
        rfl
      · rintro H4 ⟨sm4, hg⟩
        rw [show ((List.range ss.length).map fun j => (2 * dl i j - en t i j) % ss.getD i 0).take ss.length = _ from List.take_of_length_le (by rw [List.length_map, List.length_range]; exact Nat.le_refl _)] at hg
        refine ⟨g, _, rfl, .inl ⟨SqL.of hg, fun tp ntp => ?_⟩⟩
        generalize qp : upd H4 tp (HO.tup _) = H5
        obtain ⟨s5, h5⟩ := newFacts qp ntp
        have s25 := (s3.trans sm4).trans s5
        have lv := iv.length
        rw [List.length_map, List.length_take, (twl_sq (ss := ss) t).len] at lv
        refine ⟨_, s25 _ _ hd, small1000 (by omega), Same.put (sm.trans s25) nd, _, upd_same, ?_⟩
        rw [take_get2 (twl_at hi), List.map_append]
        have tk : Tk H5 (upd H5 d (.lst (vs ++ [.ref tp]))) := (Tk.refl H5).put (s25 _ _ hd)
        exact ((iv.k (Tk.same s25)).k tk).append (.cons (.tup (tk _ _ h5) (ImAll.of_ints _ _)) .nil)
    · rintro H2 ⟨sm, vs, hd, iv⟩
      rw [← (twl_sq (ss := ss) t).len, List.take_length] at iv
      refine ⟨d, _, rfl, .inl ⟨SqL.of hd, fun tp ntp => ?_⟩⟩
      exact k _ _ (.tup upd_same (iv.k ((Tk.refl H2).new ntp))) (Same.new (s1.trans sm) ntp)

def spBothP : Sp := fun vs H Q _ => ∃ (m y z : V) (ss : List Int) (ws : List (Nat × Nat)) (one other : List (List Int)), vs = [m, y, z] ∧ Im H m (mD ss ws) ∧ MOk ss ws ∧ Im H y (tD one) ∧ Im H z (tD other) ∧ GT ss one ∧ GT ss other ∧
  ∀ (u : V) (H' : Hp), Im H' u (tD (bothI ss one other)) → Same H H' → Q u H'
def spNear : Sp := fun vs H Q _ => ∃ (m y : V) (ss : List Int) (ws : List (Nat × Nat)) (t v : List (List Int)), vs = [m, y] ∧ Im H m (mD ss ws) ∧ MOk ss ws ∧ Im H y (tD t) ∧ GT ss t ∧ GT ss v ∧ bothI ss t v = stillI ss.length ∧ bothI ss v t = stillI ss.length ∧
  ∀ (x : List (List Int)) (u : V) (H' : Hp), Im H' u (tD x) → GT ss x → Near ss v x → Same H H' → Q u H'
def spUndone : Sp := fun vs H Q _ => ∃ (m y : V) (ss : List Int) (ws : List (Nat × Nat)) (t v : List (List Int)), vs = [m, y] ∧ Im H m (mD ss ws) ∧ MOk ss ws ∧ Im H y (tD t) ∧ GT ss t ∧ GT ss v ∧ bothI ss t v = stillI ss.length ∧ bothI ss v t = stillI ss.length ∧
  ∀ (u : V) (H' : Hp), Im H' u (tD v) → Same H H' → Q u H'
/-- what is kept but for the rows that are written -/
def But (rs : List Addr) (H H' : Hp) : Prop := ∀ b o, H b = some o → b ∉ rs → H' b = some o
theorem But.refl (rs : List Addr) (H : Hp) : But rs H H := fun _ _ h _ => h
theorem But.same {rs : List Addr} {H H1 H2 : Hp} (h : But rs H H1) (k : Same H1 H2) : But rs H H2 := fun b o x n => k _ _ (h b o x n)
theorem But.pre {rs : List Addr} {H H1 H2 : Hp} (k : Same H H1) (h : But rs H1 H2) : But rs H H2 := fun b o x n => h b o (k _ _ x) n
theorem But.trans {rs : List Addr} {H H1 H2 : Hp} (a : But rs H H1) (b : But rs H1 H2) : But rs H H2 := fun c o x n => b c o (a c o x n) n
theorem But.put {rs : List Addr} {H H1 : Hp} {a : Addr} {o : HO} (h : But rs H H1) (m : a ∈ rs) : But rs H (upd H1 a o) := fun b p x n => by
  rw [upd_ne fun e => n (by rw [e]; exact m)]
  exact h b p x n
theorem not_before {α : Type} {l : List α} (nd : l.Nodup) {k : Nat} {x : α} (h : l[k]? = some x) : x ∉ l.take k := fun m => by
  obtain ⟨j, lj, ej⟩ := List.getElem_of_mem m
  have l2 : j < k := by
    rw [List.length_take] at lj
    omega
  have e2 : l[j]? = some x := by
    rw [List.getElem_take] at ej
    rw [List.length_take] at lj
    rw [List.getElem?_eq_getElem (by omega), ej]
  have := nodup_inj nd e2 h
  omega
theorem dueP_nodup (ss : List Int) : (dueP ss).Nodup := List.Nodup.sublist List.filter_sublist (by decide)
theorem und_of {ss : List Int} (ok : ∀ s ∈ ss, SizeOk s) {t v : List (List Int)} (ht : GT ss t) (hv : GT ss v) (e : bothI ss t v = stillI ss.length) : Und ss t := fun p hp E hE =>
  inj_det (Prm.of hp) (inj_of_left (B := blk v (layer ss p E)) fun _ _ hr hc => layer_inv ok ht hv e hp hE hr hc)
theorem low_gt {ss : List Int} {x : List (List Int)} (ok : ∀ s ∈ ss, SizeOk s) (sq : Sq ss.length x) (low : ∀ i j, i < ss.length → j < ss.length → 0 ≤ en x i j ∧ en x i j < ss.getD i 0) : Low ss x := fun i j s hs hj => by
  have z := low i j (List.getElem?_eq_some_iff.mp hs).1 hj
  rw [getD_of_some ok hs] at z
  exact z
theorem flat_one : ∀ n : Nat, (List.replicate n [V.int 0]).flatten = List.replicate n (V.int 0)
  | 0 => rfl
  | n + 1 => by
    rw [List.replicate_succ, List.flatten_cons, flat_one n, List.replicate_succ]
    rfl
theorem zeros_en {n i j : Nat} : en (List.replicate n (List.replicate n (0 : Int))) i j = 0 := by
  by_cases h : i < n
  · have e : (List.replicate n (List.replicate n (0 : Int)))[i]? = some (List.replicate n 0) := by rw [List.getElem?_replicate, if_pos h]
    rw [en_of e, List.getD_eq_getElem?_getD, List.getElem?_replicate]
    split <;> rfl
  · unfold en
    have e : (List.replicate n (List.replicate n (0 : Int)))[i]? = none := List.getElem?_eq_none (by rw [List.length_replicate]; omega)
    rw [List.getD_eq_getElem?_getD (l := List.replicate n (List.replicate n (0 : Int))), e]
    rfl
theorem zeros_sq (n : Nat) : Sq n (List.replicate n (List.replicate n (0 : Int))) := ⟨List.length_replicate, fun r hr => by rw [(List.mem_replicate.mp hr).2, List.length_replicate]⟩
/-- the table while it is made -/
structure Nr (ss : List Int) (v : List (List Int)) (R : Addr) (rs : List Addr) (H0 H : Hp) (dn : Nat → Nat → Nat → Prop) : Prop where
  same : Same H0 H
  ex : ∃ x, Rw R H rs x ∧ Sq ss.length x ∧ (∀ i j, i < ss.length → j < ss.length → 0 ≤ en x i j ∧ en x i j < ss.getD i 0) ∧ NearD ss v x dn
theorem Nr.congr {ss : List Int} {v : List (List Int)} {R : Addr} {rs : List Addr} {H0 H : Hp} {dn dm : Nat → Nat → Nat → Prop} (h : Nr ss v R rs H0 H dn) (e : ∀ p ∈ PRn, ∀ i j, i < ss.length → j < ss.length → 0 < ev ss p i → ev ss p i = ev ss p j → (dn p i j ↔ dm p i j)) : Nr ss v R rs H0 H dm := by
  obtain ⟨a, x, b, c, d, f⟩ := h
  exact ⟨a, x, b, c, d, f.congr e⟩
theorem Nr.keep {ss : List Int} {v : List (List Int)} {R : Addr} {rs : List Addr} {H0 H H' : Hp} {dn : Nat → Nat → Nat → Prop} (h : Nr ss v R rs H0 H dn) (k : Same H H') : Nr ss v R rs H0 H' dn := by
  obtain ⟨a, x, b, c, d, f⟩ := h
  exact ⟨a.trans k, x, b.same k, c, d, f⟩
theorem shaped_sDu (l : List Int) : (sD l).canLay0 = true ∧ (sD l).depth ≤ 1 := by
  unfold sD
  refine ⟨?_, ?_⟩
  · simp only [PyData.canLay0, canLay_ints]
  · simp only [PyData.depth, depth_ints]
    decide
theorem eqv_sDu : ∀ a b : List Int, PyData.eqv (sD a) (sD b) = decide (a = b) := by
  have : ∀ a b : List Int, PyData.eqvAll (a.map PyData.int) (b.map PyData.int) = decide (a = b) := by
    intro a
    induction a with
    | nil => intro b; cases b with | nil => rfl | cons _ _ => rfl
    | cons x a ih =>
      intro b
      cases b with
      | nil => rfl
      | cons y b =>
        rw [List.map_cons, List.map_cons]
        simp only [PyData.eqvAll, PyData.eqv, ih b, List.cons.injEq]
        by_cases h : x = y <;> by_cases g : a = b <;> simp [h, g]
  intro a b
  unfold sD
  simp only [PyData.eqv]
  exact this a b
theorem eqv_tDu : ∀ a b : List (List Int), PyData.eqv (tD a) (tD b) = decide (a = b) := by
  have : ∀ a b : List (List Int), PyData.eqvAll (a.map sD) (b.map sD) = decide (a = b) := by
    intro a
    induction a with
    | nil => intro b; cases b with | nil => rfl | cons _ _ => rfl
    | cons x a ih =>
      intro b
      cases b with
      | nil => rfl
      | cons y b =>
        rw [List.map_cons, List.map_cons]
        simp only [PyData.eqvAll, eqv_sDu, ih b, List.cons.injEq]
        by_cases h : x = y <;> by_cases g : a = b <;> simp [h, g]
  intro a b
  unfold tD
  simp only [PyData.eqv]
  exact this a b
theorem shaped_tDu (t : List (List Int)) : SeqAt.shaped (tD t) = true := by
  have : ∀ t : List (List Int), PyData.canLayAll0 (t.map sD) = true ∧ PyData.depthAll (t.map sD) ≤ 1 := by
    intro t
    induction t with
    | nil => exact ⟨rfl, by decide⟩
    | cons r t ih =>
      rw [List.map_cons]
      obtain ⟨c1, c2⟩ := shaped_sDu r
      refine ⟨?_, ?_⟩
      · simp only [PyData.canLayAll0, c1, ih.1, Bool.and_self]
      · simp only [PyData.depthAll]
        omega
  obtain ⟨c1, c2⟩ := this t
  unfold SeqAt.shaped tD
  simp only [PyData.canLay0, c1, PyData.depth, Bool.true_and]
  exact decide_eq_true (by omega)
abbrev sc_nearly_undoneN : List Str := ["machine", "table", "sizes", "rows", "p", "registers", "square", "i", "row", "unit", "j", "entry", "_"]
theorem sc_nearly_undone : FnScope sc_nearly_undoneN ["machine", "table"] (defScope s_nearly_undone) := ⟨rfl, rfl, rfl, by decide +kernel, rfl, by decide +kernel, by decide +kernel⟩
def cs_nearly_undone0 : Scope := match defBody s_nearly_undone with
  | [_, .Assign _ (.ListComp _ _ sc _) _, _, _] => sc
  | _ => defScope s_nearly_undone
theorem ok_near {f : Addr} {fd : FuncData} (D : DefAt K mg "nearly_undone" s_nearly_undone ["machine", "table"] f fd) (T : Blt mg) (T_zip : mg "zip" = none) (c_primes_of : Cal P w K mg base 1 "primes_of" spPrimesOf) (c_layers : Cal P w K mg base 3 "layers" spLayers) (c_square_of : Cal P w K mg base 1 "square_of" spSq) (c_inverse_square : Cal P w K mg base 2 "inverse_square" spInvSq) (c_part_of : Cal P w K mg base 4 "part_of" spPart) : Cal P w K mg base 5 "nearly_undone" spNear := by
  refine cal_of D sc_nearly_undone (fun vs H Q E h => ?_) (fun cdv A outer s H vs Q E hr h => ?_)
  · obtain ⟨m, y, ss, ws, t, v, rfl, _⟩ := h
    rfl
  · obtain ⟨m, y, ss, ws, t, v, rfl, im, ok, iy, gt, gv, etv, evt, k⟩ := h
    refine ⟨_, (pss_cons (ps_set (i := 2) sc_nearly_undone.nd rfl (.inr rfl) (pe_ix (ix_tupK K rfl) (pv 0) pe_int (fun _ _ => rfl)))
      (pss_cons (ps_setLc (i := 3) (own := [("_", 12)]) rfl sc_nearly_undone.nd rfl rfl (sw_true rfl rfl rfl (by decide +kernel)) (pi_tupK K rfl (pv 2)) (blkOk_by (N := sc_nearly_undoneN) (sc := defScope s_nearly_undone) (by decide +kernel)) (fun _ _ _ _ _ => (pg_name (i := 12) sc_nearly_undone.nd rfl (by first | exact .inl rfl | exact .inr rfl))) (fun _ _ _ _ _ => pts_nil) (fun _ _ _ _ _ => (pe_op op_rep (pe_lst (pa_cons pe_int pa_nil)) (pe_callB (call_lenK K rfl) (by rfl) T.len PySem.boot_len (pa_cons (pv 2) pa_nil)))))
      (pss_cons (ps_for PassesOwn.never rfl (pi_tupK K rfl (pe_c c_primes_of hr (by decide) rfl (pa_cons (pv 0) pa_nil))) (pg_name (i := 4) sc_nearly_undone.nd rfl (.inl rfl)) (pss_one (ps_for PassesOwn.never rfl (pi_listK K rfl (pe_c c_layers hr (by decide) rfl (pa_cons (pv 0) (pa_cons (pv 4) pa_nil)))) (pg_name (i := 5) sc_nearly_undone.nd rfl (.inl rfl)) (pss_cons (ps_set (i := 6) sc_nearly_undone.nd rfl (.inl rfl) (pe_c c_inverse_square hr (by decide) rfl (pa_cons (pe_c c_square_of hr (by decide) rfl (pa_cons (pv 1) (pa_cons (pv 5) pa_nil))) (pa_cons (pv 4) pa_nil))))
      (pss_one (ps_for PassesOwn.never rfl (pi_zipG K rfl .l .l (by rfl) T_zip (pa_cons (pv 5) (pa_cons (pv 6) pa_nil))) (pg_tup rfl (pgs_cons (pg_name (i := 7) sc_nearly_undone.nd rfl (.inl rfl)) (pgs_cons (pg_name (i := 8) sc_nearly_undone.nd rfl (.inl rfl)) pgs_nil))) (pss_cons (ps_set (i := 9) sc_nearly_undone.nd rfl (.inl rfl) (pe_c c_part_of hr (by decide) rfl (pa_cons (pv 0) (pa_cons (pv 4) (pa_cons (pv 7) pa_nil)))))
      (pss_one (ps_for PassesOwn.never rfl (pi_zipG K rfl .l .l (by rfl) T_zip (pa_cons (pv 5) (pa_cons (pv 8) pa_nil))) (pg_tup rfl (pgs_cons (pg_name (i := 10) sc_nearly_undone.nd rfl (.inl rfl)) (pgs_cons (pg_name (i := 11) sc_nearly_undone.nd rfl (.inl rfl)) pgs_nil))) (pss_one (ps_asg (pe_op op_mod (pe_op op_add (pe_ix (ix_listK K rfl) (pe_ix (ix_listK K rfl) (pv 3) (pv 7) (fun _ _ => rfl)) (pv 10) (fun _ _ => rfl)) (pe_op op_mulW (pv 11) (pv 9))) (pe_ix (ix_tupK K rfl) (pv 2) (pv 7) (fun _ _ => rfl))) (pg_sub (pe_ix (ix_listK K rfl) (pv 3) (pv 7) (fun _ _ => rfl)) (pv 10) set_list))))))))))))
      (pss_one (ps_ret (pe_callTy (call_tupleK K rfl) (by rfl) T.tuple (by decide +kernel) (pa_cons (pe_lc (own := [("row", 8)]) rfl sc_nearly_undone.nd (pi_listK K rfl (pv 3)) (blkOk_by (N := sc_nearly_undoneN) (sc := defScope s_nearly_undone) (by decide +kernel)) (fun _ _ _ _ _ => (pg_name (i := 8) sc_nearly_undone.nd rfl (by first | exact .inl rfl | exact .inr rfl))) (fun _ _ _ _ _ => pts_nil) (fun _ _ _ _ _ => (pe_callTy (call_tupleK K rfl) (by rfl) T.tuple (by decide +kernel) (pa_cons (pv 8) pa_nil)))) pa_nil))))))), ?_⟩
    have l6 := ok.six
    obtain ⟨a, xs, rfl, ha, ia⟩ := id im.tuple
    obtain ⟨b0, g0, im0⟩ := ia.get (i := 0) rfl
    obtain ⟨b, bs, rfl, hb, ib⟩ := id im0.tuple
    have ey := ib.ints
    subst ey
    refine ⟨_, rfl, a, _, 0, _, rfl, rfl, SqT.of ha, atI_nat (j := 0) g0, _, rfl, b, rfl, ⟨_, SqT.of hb⟩, fun R nR => ?_⟩
    refine lc_tup (K := K) (a := b) (xs := ss.map V.int) (fun i H' => Same H H' ∧ ∃ rs : List Addr, Rw R H' rs ((List.replicate ss.length (List.replicate ss.length (0 : Int))).take i) ∧ ∀ b ∈ rs, H b = none) ⟨Same.new (Same.refl H) nR, [], ⟨⟨upd_same, rfl, fun i a z => by simp at z⟩, List.nodup_nil, fun a z => by cases z⟩, fun b z => by cases z⟩ (fun i H' _ z => SqT.of (z.1 _ _ hb)) ?_ ?_
    · rintro i x H1 hx ⟨sm, rs, hw, fr⟩
      have il : i < ss.length := by
        have := (List.getElem?_eq_some_iff.mp hx).1
        rw [List.length_map] at this
        exact this
      refine ⟨rfl, ?_⟩
      unfold tYes
      refine iteT ?_
      refine ⟨by show 1 ≤ sizeLine; decide, fun z nz => ?_⟩
      generalize qz : upd H1 z (HO.lst _) = H2
      obtain ⟨s2, h2⟩ := newFacts qz nz
      have s02 := sm.trans s2
      refine ⟨_, rfl, b, _, rfl, .inr (SqT.of (s02 _ _ hb)), z, _, _, rfl, rfl, h2, by rw [List.length_map]; omega, by rw [List.length_map]; omega, Nat.le_of_lt (small1000 (show 1 * Int.toNat ((ss.map V.int).length : Int) ≤ 1000 by rw [List.length_map]; omega)), fun g ng => ?_⟩
      have eg : (List.replicate ((ss.map V.int).length : Int).toNat [V.int 0]).flatten = (List.replicate ss.length (0 : Int)).map V.int := by
        rw [List.length_map, Int.toNat_natCast, List.map_replicate]
        exact flat_one ss.length
      rw [eg]
      generalize qg : upd H2 g (HO.lst _) = H3
      obtain ⟨s3, h3⟩ := newFacts qg ng
      have w3 := (hw.same s2).same s3
      obtain ⟨m1, m2⟩ := fresh_not (hw.same s2) ng
      have lrs : rs.length = i := by
        rw [hw.len, List.length_take, List.length_replicate]
        omega
      have e2 : (List.replicate ss.length (List.replicate ss.length (0 : Int)))[i]? = some (List.replicate ss.length 0) := by rw [List.getElem?_replicate, if_pos il]
      refine ⟨_, w3.top, small1000 (by rw [List.length_map]; omega), Same.put (s02.trans s3) nR, rs ++ [g], ?_, fun b hb' => ?_⟩
      · rw [take_get2 e2]
        exact w3.put h3 m1 m2
      · rcases List.mem_append.mp hb' with q | q
        · exact fr b q
        · rw [List.mem_singleton.mp q]
          exact Same.free s02 ng
    · rintro H1 ⟨s1, rs, hw, fr⟩
      rw [List.length_map, show (List.replicate ss.length (List.replicate ss.length (0 : Int))).take ss.length = _ from List.take_of_length_le (by rw [List.length_replicate]; exact Nat.le_refl _)] at hw
      refine ⟨_, rfl, _, ss, _, rfl, Same.k s1 im, by omega, fun u H2 iu s2 => ?_⟩
      obtain ⟨pa, xs2, rfl, hpa, ipa⟩ := iu.tuple
      have ey := ipa.ints
      subst ey
      have s12 := s1.trans s2
      have nrs : pa ∉ rs := fun m => by
        obtain ⟨j, lj, ej⟩ := List.getElem_of_mem m
        obtain ⟨r', _, z⟩ := (hw.same s2).row j pa (by rw [List.getElem?_eq_getElem lj, ej])
        rw [hpa] at z
        cases z
      refine ⟨pa, rfl, ⟨_, SqT.of hpa⟩, for_tup (K := K) (a := pa) (xs := (dueP ss).map V.int) (fun i σ H' => ∃ v4 v5 v6 v7 v8 v9 v10 v11 : Option V, σ = [some (.ref a), some y, some (.ref b), some (.ref R), v4, v5, v6, v7, v8, v9, v10, v11, none] ∧ But rs H2 H' ∧ Nr ss v R rs H H' fun p _ _ => (p : Int) ∈ (dueP ss).take i) ⟨none, none, none, none, none, none, none, none, rfl, But.refl rs H2, s12, _, hw.same s2, zeros_sq _, fun i j hi hj => ?_, (NearD.start fun i j hi hj => zeros_en).congr fun p hp i j hi hj e0 ee => ⟨fun h => h.elim, fun h => by simp at h⟩⟩ (fun i σ H' _ ⟨_, _, _, _, _, _, _, _, _, bu, _⟩ => SqT.of (bu _ _ hpa nrs)) ?_ ?_⟩
      · rw [zeros_en]
        obtain ⟨z, f1, f2, z2, _⟩ := sizeN ok.size hi
        omega
      · rintro i x σ H3 hx ⟨v4, v5, v6, v7, v8, v9, v10, v11, rfl, bu, nr⟩
        obtain ⟨p, hp, rfl⟩ := map_get hx
        have mp : p ∈ dueP ss := List.mem_of_getElem? hp
        obtain ⟨q, hq, rfl⟩ := PR_nat (List.mem_filter.mp mp).1
        have q2 := PRn_two hq
        have q97 := PRn_le hq
        have qb := not_before (dueP_nodup ss) hp
        have bu0 : But rs H H3 := But.pre s12 bu
        obtain ⟨s3, x3, w3, sqx3, lowx3, nx3⟩ := id nr
        refine ⟨_, rfl, _, rfl, _, ss, _, q, rfl, Same.k s3 im, ok.size, l6, hq, fun L ls es H4 hL nd pos full few nL nls s4 => ?_⟩
        have noff : ∀ c, H3 c = none → c ∉ rs := fun c n m => by
          obtain ⟨j, lj, ej⟩ := List.getElem_of_mem m
          obtain ⟨r', _, z⟩ := w3.row j c (by rw [List.getElem?_eq_getElem lj, ej])
          rw [n] at z
          cases z
        have frs := fr
        refine ⟨L, rfl, ⟨_, SqL.of hL.top⟩, for_list (K := K) (a := L) (xs := ls.map V.ref) (fun j σ H' => ∃ v5 v6 v7 v8 v9 v10 v11 : Option V, σ = [some (.ref a), some y, some (.ref b), some (.ref R), some (.int (q : Int)), v5, v6, v7, v8, v9, v10, v11, none] ∧ But rs H4 H' ∧ Nr ss v R rs H H' fun p c _ => (p : Int) ∈ (dueP ss).take i ∨ (p = q ∧ ev ss q c ∈ es.take j))
          ⟨v5, v6, v7, v8, v9, v10, v11, rfl, But.refl rs H4, (nr.keep s4).congr fun p hp i j hi hj e0 ee => ⟨.inl, fun h => h.elim id fun h => by simp at h⟩⟩ (fun j σ H' _ ⟨_, _, _, _, _, _, _, _, bu, _⟩ => SqL.of (bu _ _ hL.top (noff _ nL))) ?_ ?_⟩
        · rintro j xv σ H5 hx5 ⟨v5, v6, v7, v8, v9, v10, v11, rfl, bu5, nr5⟩
          obtain ⟨c, hc, rfl⟩ := map_get hx5
          obtain ⟨I, hI, hcI⟩ := ll_nats (Is := es.map fun e => layer ss q e) (by rw [List.map_map]; exact hL) hc
          obtain ⟨e, he, rfl⟩ := map_get hI
          have e0 := pos e (List.mem_of_getElem? he)
          have eb := not_before nd he
          have cI5 := bu5 _ _ hcI (noff _ (nls c (List.mem_of_getElem? hc)))
          have ln := layer_len ss q e
          have s5 := nr5.same
          obtain ⟨_, x5, w5, _⟩ := id nr5
          have noff5 : ∀ c, H5 c = none → c ∉ rs := fun c n m => by
            obtain ⟨j, lj, ej⟩ := List.getElem_of_mem m
            obtain ⟨r', _, z⟩ := w5.row j c (by rw [List.getElem?_eq_getElem lj, ej])
            rw [n] at z
            cases z
          refine ⟨_, rfl, _, rfl, y, c, t, ss.length, layer ss q e, rfl, Same.k s5 iy, gt.sq, cI5, fun i hi => (layer_mem.mp hi).1, by omega, fun R2 rs2 H6 hw6 s6 => ?_⟩
          have en6 : ∀ r c, r < (layer ss q e).length → c < (layer ss q e).length → en (sqI t (layer ss q e)) r c = blk t (layer ss q e) r c := fun r c hr hc => sqI_en t hr hc
          refine ⟨_, rfl, R2, rs2, sqI t (layer ss q e), (layer ss q e).length, q, blk v (layer ss q e), rfl, hw6.toLl, sqI_sq t _, by omega, hq, inj_of_left (B := blk v (layer ss q e)) (fun r c hr hc => ?_), (fun r c hr hc => ?_), fun R3 rs3 B H7 hw7 sqB eB lowB nR3 nrs3 s7 => ?_⟩
          · have z := layer_inv ok.size gt gv etv hq e0 hr hc
            rw [show (sumF (layer ss q e).length fun x => blk v (layer ss q e) r x * en (sqI t (layer ss q e)) x c) = sumF (layer ss q e).length fun x => blk v (layer ss q e) r x * blk t (layer ss q e) x c from sumF_congr fun x hx => by rw [en6 x c hx hc]]
            exact z
          · have z := layer_inv ok.size gv gt evt hq e0 hr hc
            rw [show (sumF (layer ss q e).length fun x => en (sqI t (layer ss q e)) r x * blk v (layer ss q e) x c) = sumF (layer ss q e).length fun x => blk t (layer ss q e) r x * blk v (layer ss q e) x c from sumF_congr fun x hx => by rw [en6 r x hr hx]]
            exact z
          generalize hI9 : layer ss q e = I at *
          have mI : ∀ r i, I[r]? = some i → i < ss.length ∧ ev ss q i = e := fun r i h => by
            have z := List.mem_of_getElem? h
            rw [← hI9] at z
            exact layer_mem.mp z
          have ndI : I.Nodup := by rw [← hI9]; exact layer_nodup ss q e
          have memI : ∀ i, i < ss.length → ev ss q i = e → i ∈ I := fun i h1 h2 => by
            rw [← hI9]
            exact layer_mem.mpr ⟨h1, h2⟩
          have cI7 := s7 _ _ (s6 _ _ cI5)
          have lrs3 : rs3.length = I.length := by rw [hw7.len, sqB.len]
          have nr7 := nr5.keep (s6.trans s7)
          have offc : c ∉ rs := noff _ (nls c (List.mem_of_getElem? hc))
          have offR3 : R3 ∉ rs := noff5 _ (Same.free s6 nR3)
          have offrs3 : ∀ d ∈ rs3, d ∉ rs := fun d hd => noff5 _ (Same.free s6 (nrs3 d hd))
          refine ⟨_, rfl, _, rfl, c, R3, _, _, rfl, SqS.of_l cI7, SqS.of_l hw7.top, for_it (walk_zipG (n := I.length) (by rw [List.length_map, List.length_map]; omega)) (fun r σ H' => ∃ v7 v8 v9 v10 v11 : Option V, σ = [some (.ref a), some y, some (.ref b), some (.ref R), some (.int (q : Int)), some (.ref c), some (.ref R3), v7, v8, v9, v10, v11, none] ∧ But rs H7 H' ∧ Nr ss v R rs H H' fun p d _ => ((p : Int) ∈ (dueP ss).take i ∨ (p = q ∧ ev ss q d ∈ es.take j)) ∨ (p = q ∧ d ∈ I.take r))
            ⟨v7, v8, v9, v10, v11, rfl, But.refl rs H7, nr7.congr fun p hp i j hi hj e0 ee => ⟨.inl, fun h => h.elim id fun h => by simp at h⟩⟩ (fun r σ H' _ ⟨_, _, _, _, _, _, bu, _⟩ => ⟨SqS.of_l (bu _ _ cI7 offc), SqS.of_l (bu _ _ hw7.top offR3)⟩) ?_ ?_⟩
          · rintro r xv σ H8 H9 hr8 ⟨v7, v8, v9, v10, v11, rfl, bu8, nr8⟩ ⟨T1, x1, x2, rfl, nT, rfl, e1, e2⟩
            obtain ⟨i0, hi0, rfl⟩ := map_get (f := fun (i : Nat) => V.int i) e1
            obtain ⟨rb, hrb, rfl⟩ := map_get e2
            obtain ⟨rw3, erw, hrw⟩ := hw7.toLl.row r rb hrb
            obtain ⟨il, ie⟩ := mI r i0 hi0
            have ib := not_before ndI hi0
            have rl : r < I.length := (List.getElem?_eq_some_iff.mp hi0).1
            have lrw : rw3.length = I.length := sqB.row rw3 (List.mem_of_getElem? erw)
            generalize qt : upd H8 T1 (HO.tup _) = H9
            obtain ⟨s9, h9⟩ := newFacts qt nT
            have offrb : rb ∉ rs := offrs3 rb (List.mem_of_getElem? hrb)
            have nr9 := nr8.keep s9
            have bu9 := bu8.same s9
            refine ⟨T1, _, rfl, SqT.of h9, rfl, _, _, rfl, _, _, rfl, rfl, ?_⟩
            obtain ⟨sz, f1, f2, sz2, sz3, _⟩ := sizeN ok.size il
            have eev : val q sz = ev ss q i0 := by
              unfold ev
              rw [f2, Int.toNat_natCast]
            refine ⟨_, rfl, _, rfl, _, rfl, _, ss, _, q, i0, sz, rfl, Same.k nr9.same im, f1, ⟨by omega, sz3, hq⟩, fun un HA us u1 u2 sA => ?_⟩
            have nrA := nr9.keep sA
            have buA := bu9.same sA
            have cIA := buA _ _ cI7 offc
            have rbA := buA _ _ hrw offrb
            refine ⟨_, rfl, _, rfl, c, rb, _, _, rfl, SqS.of_l cIA, SqS.of_l rbA, for_it (walk_zipG (n := I.length) (by rw [List.length_map, List.length_map]; omega)) (fun l σ H' => ∃ v10 v11 : Option V, σ = [some (.ref a), some y, some (.ref b), some (.ref R), some (.int (q : Int)), some (.ref c), some (.ref R3), some (.int (i0 : Int)), some (.ref rb), some (.int (un : Int)), v10, v11, none] ∧ But rs HA H' ∧ Nr ss v R rs H H' fun p d d2 => (((p : Int) ∈ (dueP ss).take i ∨ (p = q ∧ ev ss q d ∈ es.take j)) ∨ (p = q ∧ d ∈ I.take r)) ∨ (p = q ∧ d = i0 ∧ d2 ∈ I.take l))
              ⟨v10, v11, rfl, But.refl rs HA, nrA.congr fun p hp i j hi hj e0 ee => ⟨.inl, fun h => h.elim id fun h => by simp at h⟩⟩ (fun l σ H' _ ⟨_, _, _, bu, _⟩ => ⟨SqS.of_l (bu _ _ cIA offc), SqS.of_l (bu _ _ rbA offrb)⟩) ?_ ?_⟩
            · rintro l xv σ HB HC hl ⟨v10, v11, rfl, buB, nrB⟩ ⟨T2, y1, y2, rfl, nT2, rfl, q1, q2'⟩
              obtain ⟨j0, hj0, rfl⟩ := map_get (f := fun (i : Nat) => V.int i) q1
              obtain ⟨ent, hent, rfl⟩ := map_get q2'
              obtain ⟨jl, je⟩ := mI l j0 hj0
              have jb := not_before ndI hj0
              have ll : l < I.length := (List.getElem?_eq_some_iff.mp hj0).1
              generalize qt2 : upd HB T2 (HO.tup _) = HC
              obtain ⟨sC, hC⟩ := newFacts qt2 nT2
              refine ⟨T2, _, rfl, SqT.of hC, rfl, _, _, rfl, _, _, rfl, rfl, ?_⟩
              obtain ⟨smC, x, wx, sqx, lowx, nx⟩ := nrB.keep sC
              have buC := buB.same sC
              obtain ⟨ri, eri, lri⟩ := sqx.rc.get il
              obtain ⟨pi, hpi, hvi, hri⟩ := wx.toLl.at eri
              have eij : ri.getD j0 0 = en x i0 j0 := (en_of eri j0).symm
              have hbC : HC b = some (.tup (ss.map V.int)) := smC _ _ hb
              have entE : en B r l = ent := by
                rw [en_of erw, List.getD_eq_getElem?_getD, hent]
                rfl
              have lowE := lowB r l rl ll
              have eqE := eB r l rl ll
              rw [entE] at lowE eqE
              have eI : I.getD r 0 = i0 := by rw [List.getD_eq_getElem?_getD, hi0]; rfl
              have eJ : I.getD l 0 = j0 := by rw [List.getD_eq_getElem?_getD, hj0]; rfl
              unfold blk at eqE
              rw [eI, eJ] at eqE
              refine ⟨_, rfl, _, rfl, R, _, _, _, rfl, rfl, SqL.of wx.top, atI_nat hvi, _, rfl, pi, _, j0, _, rfl, rfl, SqL.of hri, atI_nat (row_at (by omega)), _, rfl, _, rfl, _, _, rfl, rfl, wide_mul (a := 100) (b := 1000) (Nat.lt_of_lt_of_le (show ent.natAbs < 97 by omega) (by decide)) (by rw [Int.natAbs_natCast]; exact Nat.lt_of_lt_of_le us (Nat.le_trans sz3 (by decide))) (by decide) (by decide) (by decide), _, _, rfl, rfl, _, rfl, _, rfl, b, _, i0, _, rfl, rfl, SqT.of hbC, atI_nat (by rw [List.getElem?_map, f1]; rfl), _, _, rfl, rfl, (by omega : (0 : Int) < (sz : Int)), _, rfl, _, rfl, R, _, _, _, rfl, rfl, SqL.of wx.top, atI_nat hvi, _, rfl, pi, _, _, j0, rfl, rfl, hri, ixN_ofU (by rw [List.length_map]; omega), ?_⟩
              have w7 := wx.set hpi (ri.set j0 ((en x i0 j0 + ent * (un : Int)) % (sz : Int)))
              rw [List.map_set] at w7
              rw [eij]
              have ex' : ∀ i' j', i' < ss.length → j' < ss.length → en (x.set i0 (ri.set j0 ((en x i0 j0 + ent * (un : Int)) % (sz : Int)))) i' j' = if i' = i0 ∧ j' = j0 then (en x i0 j0 + ent * (un : Int)) % ss.getD i0 0 else en x i' j' := fun i' j' hi' hj' => by
                rw [en_set (by rw [sqx.len]; exact il), f2]
                by_cases z1 : i' = i0
                · subst z1
                  rw [if_pos rfl, getD_setI (by omega)]
                  by_cases z2 : j' = j0
                  · subst z2
                    rw [if_pos rfl, if_pos ⟨rfl, rfl⟩]
                  · rw [if_neg z2, if_neg fun h => z2 h.2, ← en_of eri]
                · rw [if_neg z1, if_neg fun h => z1 h.1]
              refine ⟨_, _, rfl, buC.put (List.mem_of_getElem? hpi), Same.put smC (fr _ (List.mem_of_getElem? hpi)), _, w7, (sqx.rc.set i0 (by rw [List.length_set]; exact lri)).sq, fun i' j' hi' hj' => ?_, ?_⟩
              · rw [ex' i' j' hi' hj']
                by_cases z : i' = i0 ∧ j' = j0
                · rw [if_pos z, z.1, f2]
                  exact ⟨Int.emod_nonneg _ (by omega), Int.emod_lt_of_pos _ (by omega)⟩
                · rw [if_neg z]
                  exact lowx i' j' hi' hj'
              · have st := nx.step ok.size hq il jl (by omega) (by omega) (fun h => ?_) (ent := ent) (unit := (un : Int)) eqE (by rw [← eev]; exact u1) (fun p hp pq => ?_) ex'
                · refine st.congr fun p hp' a' b' ha' hb' e0' ee => ?_
                  rw [take_get2 hj0]
                  refine ⟨fun h => ?_, fun h => ?_⟩
                  · rcases h with (h | h) | h
                    · exact .inl h
                    · exact .inr ⟨h.1, h.2.1, List.mem_append_left _ h.2.2⟩
                    · exact .inr ⟨h.1, h.2.1, List.mem_append_right _ (by rw [h.2.2]; exact List.mem_cons_self)⟩
                  · rcases h with h | h
                    · exact .inl (.inl h)
                    · rcases List.mem_append.mp h.2.2 with m | m
                      · exact .inl (.inr ⟨h.1, h.2.1, m⟩)
                      · exact .inr ⟨h.1, h.2.1, List.mem_singleton.mp m⟩
                · rcases h with ((h | h) | h) | h
                  · exact qb h
                  · exact eb (by rw [← ie]; exact h.2)
                  · exact ib h.2
                  · exact jb h.2.2
                · have z := u2 p hp pq
                  have ee : val p sz = ev ss p i0 := by
                    unfold ev
                    rw [f2, Int.toNat_natCast]
                  rw [← ee]
                  exact z
            · rintro σ HB ⟨v10, v11, rfl, buB, nrB⟩
              rw [List.take_length] at nrB
              refine ⟨_, _, _, _, _, rfl, buA.trans buB, nrB.congr fun p hp' k d hk hd e0' ee => ?_⟩
              rw [take_get2 hi0]
              refine ⟨fun h => ?_, fun h => ?_⟩
              · rcases h with (h | h) | h
                · exact .inl h
                · exact .inr ⟨h.1, List.mem_append_left _ h.2⟩
                · exact .inr ⟨h.1, List.mem_append_right _ (by rw [h.2.1]; exact List.mem_cons_self)⟩
              · rcases h with h | h
                · exact .inl (.inl h)
                · rcases List.mem_append.mp h.2 with m | m
                  · exact .inl (.inr ⟨h.1, m⟩)
                  · have dk := List.mem_singleton.mp m
                    refine .inr ⟨h.1, dk, memI d hd ?_⟩
                    rw [h.1, dk, ie] at ee
                    exact ee.symm
          · rintro σ H8 ⟨v7, v8, v9, v10, v11, rfl, bu8, nr8⟩
            rw [List.take_length] at nr8
            refine ⟨_, _, _, _, _, _, _, rfl, ((bu5.same s6).same s7).trans bu8, nr8.congr fun p hp' k d hk hd e0 ee => ?_⟩
            rw [take_get2 he]
            refine ⟨fun h => ?_, fun h => ?_⟩
            · rcases h with (h | h) | h
              · exact .inl h
              · exact .inr ⟨h.1, List.mem_append_left _ h.2⟩
              · obtain ⟨r', lr', er'⟩ := List.getElem_of_mem h.2
                have z := (mI r' k (by rw [List.getElem?_eq_getElem lr', er'])).2
                exact .inr ⟨h.1, List.mem_append_right _ (by rw [z]; exact List.mem_cons_self)⟩
            · rcases h with h | h
              · exact .inl (.inl h)
              · rcases List.mem_append.mp h.2 with m | m
                · exact .inl (.inr ⟨h.1, m⟩)
                · exact .inr ⟨h.1, memI k hk (List.mem_singleton.mp m)⟩
        · rintro σ H5 ⟨v5, v6, v7, v8, v9, v10, v11, rfl, bu5, nr5⟩
          have lls : ls.length = es.length := by rw [hL.len, List.length_map]
          rw [List.length_map, lls, List.take_length] at nr5
          refine ⟨_, v5, v6, v7, v8, v9, v10, v11, rfl, (bu.same s4).trans bu5, nr5.congr fun p hp' c d hc hd e0 ee => ?_⟩
          rw [take_get2 hp]
          refine ⟨fun h => List.mem_append.mpr (h.imp id fun h => by rw [h.1]; exact List.mem_cons_self), fun h => (List.mem_append.mp h).imp id fun h => ?_⟩
          have pq : p = q := by
            have := List.mem_singleton.mp h
            omega
          subst pq
          refine ⟨rfl, full _ e0 fun z => ?_⟩
          have m : c ∈ layer ss p (ev ss p c) := layer_mem.mpr ⟨hc, rfl⟩
          rw [z] at m
          cases m
      · rintro σ H3 ⟨v4, v5, v6, v7, v8, v9, v10, v11, rfl, bu, nr⟩
        rw [List.length_map, List.take_length] at nr
        obtain ⟨s3, x, w3, sqx, lowx, nx⟩ := nr
        have s3' := s3
        refine ⟨_, rfl, R, rfl, ⟨_, SqL.of w3.top⟩, fun R2 nR2 => ?_⟩
        have lr3 : rs.length = ss.length := by rw [w3.len, sqx.len]
        refine lc_list (K := K) (a := R) (xs := rs.map V.ref) (fun i H' => Same H3 H' ∧ ∃ vs : List V, H' R2 = some (.lst vs) ∧ ImAll H' vs ((x.take i).map sD)) ⟨Same.new (Same.refl H3) nR2, [], upd_same, .nil⟩ (fun i H' _ z => SqL.of (z.1 _ _ w3.top)) ?_ ?_
        · rintro i y2 H4 hy ⟨s4, vs, hR2, iv⟩
          obtain ⟨ra, hra, rfl⟩ := map_get hy
          obtain ⟨r, er, hr'⟩ := w3.row i ra hra
          have lv := iv.length
          rw [List.length_map, List.length_take, sqx.len] at lv
          refine ⟨rfl, _, rfl, ra, _, rfl, .inl ⟨SqL.of (s4 _ _ hr'), fun tp ntp => ?_⟩⟩
          generalize qp : upd H4 tp (HO.tup _) = H5
          obtain ⟨s5, h5⟩ := newFacts qp ntp
          refine ⟨_, s5 _ _ hR2, small1000 (by omega), Same.put (s4.trans s5) nR2, _, upd_same, ?_⟩
          rw [take_get2 er, List.map_append]
          have tk : Tk H5 (upd H5 R2 (.lst (vs ++ [.ref tp]))) := (Tk.refl H5).put (s5 _ _ hR2)
          exact ((iv.k (Tk.same s5)).k tk).append (.cons (.tup (tk _ _ h5) (ImAll.of_ints _ _)) .nil)
        · rintro H4 ⟨s4, vs, hR2, iv⟩
          rw [List.length_map, lr3, ← sqx.len, List.take_length] at iv
          refine ⟨R2, _, rfl, .inl ⟨SqL.of hR2, fun tp ntp => ?_⟩⟩
          have nx2 := nx.fin fun p hp i j hi hj e0 ee => Decidable.byContradiction fun h => by
            have := not_due ok.size hp h i hi
            omega
          exact k x _ _ (.tup upd_same (iv.k ((Tk.refl H4).new ntp))) ⟨sqx, low_gt ok.size sqx lowx, near_hit ok.size nx2⟩ nx2 (Same.new (s3.trans s4) ntp)
abbrev sc_undoneN : List Str := ["machine", "table", "found", "rest"]
theorem sc_undone : FnScope sc_undoneN ["machine", "table"] (defScope s_undone) := ⟨rfl, rfl, rfl, by decide +kernel, rfl, by decide +kernel, by decide +kernel⟩
theorem ok_undone {f : Addr} {fd : FuncData} (D : DefAt K mg "undone" s_undone ["machine", "table"] f fd) (c_can_be_undone : Cal P w K mg base 4 "can_be_undone" spCan) (c_nearly_undone : Cal P w K mg base 5 "nearly_undone" spNear) (c_both : Cal P w K mg base 2 "both" spBothP) (c_twice_less : Cal P w K mg base 2 "twice_less" spTwl) (c_still : Cal P w K mg base 1 "still" spStillM) : Cal P w K mg base 6 "undone" spUndone := by
  refine cal_of D sc_undone (fun vs H Q E h => ?_) (fun cdv A outer s H vs Q E hr h => ?_)
  · obtain ⟨m, y, ss, ws, t, v, rfl, _⟩ := h
    rfl
  · obtain ⟨m, y, ss, ws, t, v, rfl, im, ok, iy, gt, gv, etv, evt, k⟩ := h
    refine ⟨_, (pss_cons (ps_if (pt_not (pt_val (pe_c c_can_be_undone hr (by decide) rfl (pa_cons (pv 0) (pa_cons (pv 1) pa_nil))))) (pss_one ps_never) pss_nil)
      (pss_cons (ps_set (i := 2) sc_undone.nd rfl (.inl rfl) (pe_c c_nearly_undone hr (by decide) rfl (pa_cons (pv 0) (pa_cons (pv 1) pa_nil))))
      (pss_cons (ps_set (i := 3) sc_undone.nd rfl (.inl rfl) (pe_c c_both hr (by decide) rfl (pa_cons (pv 0) (pa_cons (pv 2) (pa_cons (pv 1) pa_nil)))))
      (pss_cons (ps_while PassesOwn.never (pt_cmpR (op_neDK K rfl hr.units) (pv 3) (pe_c c_still hr (by decide) rfl (pa_cons (pv 0) pa_nil)) (nomark _)) (pss_cons (ps_set (i := 2) sc_undone.nd rfl (.inl rfl) (pe_c c_both hr (by decide) rfl (pa_cons (pv 0) (pa_cons (pe_c c_twice_less hr (by decide) rfl (pa_cons (pv 0) (pa_cons (pv 3) pa_nil))) (pa_cons (pv 2) pa_nil)))))
      (pss_one (ps_set (i := 3) sc_undone.nd rfl (.inl rfl) (pe_c c_both hr (by decide) rfl (pa_cons (pv 0) (pa_cons (pv 2) (pa_cons (pv 1) pa_nil))))))))
      (pss_one (ps_ret (pv 2))))))), ?_⟩
    refine ⟨_, rfl, _, rfl, _, _, ss, ws, t, rfl, im, ok, iy, gt, fun bb H1 hb s1 => ?_⟩
    have eb : bb = true := hb.mpr (und_of ok.size gt gv etv)
    subst eb
    refine ⟨true, rfl, iteF ?_⟩
    unfold tNext
    dsimp only
    refine ⟨_, rfl, _, rfl, m, y, ss, ws, t, v, rfl, Same.k s1 im, ok, Same.k s1 iy, gt, gv, etv, evt, fun x u H2 iu gx nr s2 => ?_⟩
    have s12 := s1.trans s2
    refine ⟨_, rfl, _, rfl, _, rfl, m, u, y, ss, ws, x, t, rfl, Same.k s12 im, ok, iu, Same.k s12 iy, gx, gt, fun u2 H3 iu2 s3 => ?_⟩
    refine ⟨fun l σ H' => ∃ (u u2 : V) (x : List (List Int)) (n : Nat), σ = [some m, some y, some u, some u2] ∧ Same H H' ∧ Im H' u (tD x) ∧ Im H' u2 (tD (bothI ss x t)) ∧ GT ss x ∧ (∀ p ∈ PRn, Nil ss p (2 ^ n) (lft (bothI ss x t))) ∧ l + n = 8, ⟨8, u, u2, x, 0, rfl, s12.trans s3, Same.k s3 iu, iu2, gx, fun p hp => near_nil ok.size gt gv gx evt nr hp, rfl⟩, ?_⟩
    rintro l σ H4 ⟨u, u2, x, n, rfl, sm, iu, iu2, gx, nl, ln⟩
    refine ⟨_, rfl, _, rfl, m, ss, ws, rfl, Same.k sm im, ok, fun u3 H5 iu3 s5 => ?_⟩
    refine ⟨tD (bothI ss x t), tD (stillI ss.length), (Same.k s5 iu2).dp, iu3.dp, shaped_tDu _, shaped_tDu _, _, rfl, ?_⟩
    rw [eqv_tDu]
    by_cases e : bothI ss x t = stillI ss.length
    · rw [decide_eq_true e]
      refine iteF ⟨_, rfl, ?_⟩
      have xv := led_back ok.size gt gv gx etv e
      rw [xv] at iu
      exact k u H5 (Same.k s5 iu) (sm.trans s5)
    · rw [decide_eq_false e]
      have n8 : n < 8 := by
        refine Nat.lt_of_not_le fun h => e (nil_still ok.size (GT.both ok.size gx gt) (L := 2 ^ n) ?_ nl)
        exact Nat.le_trans (show 200 ≤ 2 ^ 8 by decide) (Nat.pow_le_pow_right (by decide) h)
      have g2 := GT.both ok.size gx gt
      have sm5 := sm.trans s5
      refine iteT ⟨fun σ' H'' => ∃ (u u2 : V) (x : List (List Int)) (n' : Nat), σ' = [some m, some y, some u, some u2] ∧ Same H H'' ∧ Im H'' u (tD x) ∧ Im H'' u2 (tD (bothI ss x t)) ∧ GT ss x ∧ (∀ p ∈ PRn, Nil ss p (2 ^ n') (lft (bothI ss x t))) ∧ n' = n + 1, fun σ' H'' ⟨u, u2, x, n', e1, e2, e3, e4, e5, e6, e7⟩ => ⟨l - 1, by omega, u, u2, x, n', e1, e2, e3, e4, e5, e6, by omega⟩, ?_⟩
      refine ⟨_, rfl, _, rfl, _, rfl, m, u2, ss, ws, _, rfl, Same.k sm5 im, ok, Same.k s5 iu2, g2, fun u4 H6 iu4 s6 => ?_⟩
      refine ⟨_, rfl, m, u4, u, ss, ws, _, x, rfl, Same.k (sm5.trans s6) im, ok, iu4, Same.k (s5.trans s6) iu, twl_gt ok.size g2, gx, fun u5 H7 iu5 s7 => ?_⟩
      have s67 := (sm5.trans s6).trans s7
      have gy := GT.both ok.size (twl_gt ok.size g2) gx
      refine ⟨_, rfl, _, rfl, _, rfl, m, u5, y, ss, ws, _, t, rfl, Same.k s67 im, ok, iu5, Same.k s67 iy, gy, gt, fun u6 H8 iu6 s8 => ?_⟩
      refine ⟨u5, u6, _, n + 1, rfl, s67.trans s8, Same.k s8 iu5, iu6, gy, fun p hp => ?_, rfl⟩
      rw [newton ok.size gt gx, Nat.pow_succ, Nat.mul_comm]
      exact nil_next ok.size g2 hp (nl p hp)

abbrev sc_l_madeN : List Str := ["sizes", "listed", "rows", "j", "i", "c", "row", "item", "mate"]
theorem sc_l_made : FnScope sc_l_madeN ["sizes", "listed"] (defScope s_l_made) := ⟨rfl, rfl, rfl, by decide +kernel, rfl, by decide +kernel, by decide +kernel⟩
theorem ok_made {f : Addr} {fd : FuncData} (D : DefAt K mg "_law_made" s_l_made ["sizes", "listed"] f fd) (T : Blt mg) (T_zip : mg "zip" = none) (c_l_still : Cal P w K mg base 1 "_law_still" spStill) : Cal P w K mg base 2 "_law_made" spMade := by
  refine cal_of D sc_l_made (fun vs H Q E h => ?_) (fun cdv A outer s H vs Q E hr h => ?_)
  · obtain ⟨x, y, ss, l, rfl, _⟩ := h
    rfl
  · obtain ⟨x, y, ss, l, rfl, imx, imy, ok, l100, dl, dm, k⟩ := h
    refine ⟨_, (pss_cons (ps_setLc (i := 2) (own := [("row", 6)]) rfl sc_l_made.nd rfl rfl (sw_true rfl rfl rfl (by decide +kernel)) (pi_tupK K rfl (pe_c c_l_still hr (by decide) rfl (pa_cons (pv 0) pa_nil))) (blkOk_by (N := sc_l_madeN) (sc := defScope s_l_made) (by decide +kernel)) (fun _ _ _ _ _ => (pg_name (i := 6) sc_l_made.nd rfl (by first | exact .inl rfl | exact .inr rfl))) (fun _ _ _ _ _ => pts_nil) (fun _ _ _ _ _ => (pe_callTy (call_listK K rfl) (by rfl) T.list (by decide +kernel) (pa_cons (pv 6) pa_nil))))
      (pss_cons (ps_for PassesOwn.never rfl (pi_tupK K rfl (pv 1)) (pg_tup rfl (pgs_cons (pg_name (i := 3) sc_l_made.nd rfl (.inl rfl)) (pgs_cons (pg_name (i := 4) sc_l_made.nd rfl (.inr rfl)) (pgs_cons (pg_name (i := 5) sc_l_made.nd rfl (.inr rfl)) pgs_nil)))) (pss_one (ps_asg (pe_lc (own := [("item", 7), ("mate", 8)]) rfl sc_l_made.nd (pi_zipG K rfl .l .l (by rfl) T_zip (pa_cons (pe_ix (ix_listK K rfl) (pv 2) (pv 4) (fun _ _ => rfl)) (pa_cons (pe_ix (ix_listK K rfl) (pv 2) (pv 3) (fun _ _ => rfl)) pa_nil))) (blkOk_by (N := sc_l_madeN) (sc := defScope s_l_made) (by decide +kernel)) (fun _ _ _ _ _ => (pg_tupK (n := 2) K rfl rfl (pgs_cons (pg_name (i := 7) sc_l_made.nd rfl (by first | exact .inl rfl | exact .inr rfl)) (pgs_cons (pg_name (i := 8) sc_l_made.nd rfl (by first | exact .inl rfl | exact .inr rfl)) pgs_nil)))) (fun _ _ _ _ _ => pts_nil) (fun _ _ _ _ _ => (pe_op op_mod (pe_op op_add (pv 7) (pe_op op_mulW (pv 5) (pv 8))) (pe_ix (ix_tupK K rfl) (pv 0) (pv 4) (fun _ _ => rfl))))) (pg_sub (pv 2) (pv 4) set_list))))
      (pss_one (ps_ret (pe_callTy (call_tupleK K rfl) (by rfl) T.tuple (by decide +kernel) (pa_cons (pe_lc (own := [("row", 6)]) rfl sc_l_made.nd (pi_listK K rfl (pv 2)) (blkOk_by (N := sc_l_madeN) (sc := defScope s_l_made) (by decide +kernel)) (fun _ _ _ _ _ => (pg_name (i := 6) sc_l_made.nd rfl (by first | exact .inl rfl | exact .inr rfl))) (fun _ _ _ _ _ => pts_nil) (fun _ _ _ _ _ => (pe_callTy (call_tupleK K rfl) (by rfl) T.tuple (by decide +kernel) (pa_cons (pv 6) pa_nil)))) pa_nil)))))), ?_⟩
    obtain ⟨b, bs, rfl, hb, ib⟩ := id imx.tuple
    have ey := ib.ints
    subst ey
    obtain ⟨c, cs, rfl, hc, ic⟩ := imy.tuple
    refine ⟨_, rfl, _, ss, rfl, imx, l100, fun u H1 iu sm1 => ?_⟩
    obtain ⟨e, es, rfl, he, ie⟩ := iu.tuple
    have el : es.length = ss.length := by rw [ie.length, List.length_map, (still_sq _).len]
    refine ⟨e, rfl, ⟨_, SqT.of he⟩, fun R nR => ?_⟩
    have nRH : H R = none := Same.free sm1 nR
    have nRb : R ≠ b := fun z => by rw [z, sm1 _ _ hb] at nR; cases nR
    refine lc_tup (K := K) (a := e) (xs := es) (fun i H' => Same H1 H' ∧ ∃ rs : List Addr, Rws b b R H' rs ((stillI ss.length).take i) ∧ ∀ a ∈ rs, H1 a = none) ⟨Same.new (Same.refl H1) nR, [], ⟨upd_same, rfl, fun i a z => by simp at z, List.nodup_nil, fun a z => by cases z⟩, fun a z => by cases z⟩ (fun i H' _ z => SqT.of (z.1 _ _ he)) ?_ ?_
    · rintro i v H2 hv ⟨sm, rs, rw1, fr⟩
      have li : i < ss.length := by rw [← el]; exact (List.getElem?_eq_some_iff.mp hv).1
      obtain ⟨r, hr', rl⟩ := (still_sq ss.length).get li
      obtain ⟨a, e1, ha⟩ := Im.row ie hr'
      rw [hv] at e1
      cases e1
      have lr : rs.length ≤ 100 := by
        rw [rw1.len, List.length_take]
        omega
      refine ⟨rfl, _, rfl, a, _, rfl, .inr (SqT.of (sm _ _ ha)), fun g ng => ?_⟩
      have sg : Same H2 (upd H2 g (.lst (r.map V.int))) := Same.new (Same.refl H2) ng
      have rw3 := rw1.same sg
      have gR : g ≠ R := fun z => by rw [z, rw1.top] at ng; cases ng
      have gN : g ∉ rs := fun m => by
        obtain ⟨i, hi, e⟩ := List.getElem_of_mem m
        obtain ⟨r, _, h2⟩ := rw1.row i g (by rw [List.getElem?_eq_getElem hi, e])
        rw [h2] at ng
        cases ng
      refine ⟨_, rw3.top, small1000 (by rw [List.length_map]; omega), Same.put (sm.trans sg) nR, rs ++ [g], ?_, fun a ha => ?_⟩
      · rw [take_get hr']
        have hbg : g ≠ b := fun z => by rw [z, (sm1.trans sm) _ _ hb] at ng; cases ng
        exact rw3.put ⟨nRb, nRb⟩ upd_same gN ⟨gR, hbg, hbg⟩
      · rcases List.mem_append.mp ha with ha | ha
        · exact fr a ha
        · rw [List.mem_singleton.mp ha]
          exact Same.free sm ng
    rintro H2 ⟨sm2, rs, rw2, fr⟩
    rw [show (stillI ss.length).take es.length = stillI ss.length by rw [el]; exact List.take_of_length_le (Nat.le_of_eq (still_sq _).len)] at rw2
    have s02 := sm1.trans sm2
    refine ⟨_, rfl, c, rfl, ⟨_, SqT.of (s02 _ _ hc)⟩, for_tup (K := K) (a := c) (xs := cs) (fun t σ H' => ∃ (v3 v4 v5 : Option V) (rs : List Addr), σ = [some (.ref b), some (.ref c), some (.ref R), v3, v4, v5, none, none, none] ∧ Same H H' ∧ Rws b b R H' rs (tabI ss (l.take t)) ∧ ∀ a ∈ rs, H a = none)
      ⟨none, none, none, rs, rfl, s02, rw2, fun a ha => Same.free sm1 (fr a ha)⟩ (fun t σ H' _ ⟨_, _, _, _, _, z, _⟩ => SqT.of (z _ _ hc)) ?_ ?_⟩
    · rintro t y σ H3 hy ⟨v3, v4, v5, rs, rfl, sm3, rw3, fr3⟩
      have lt : t < l.length := by
        have := (List.getElem?_eq_some_iff.mp hy).1
        rw [ic.length, List.length_map] at this
        exact this
      obtain ⟨d, hd⟩ : ∃ d, l[t]? = some d := ⟨l[t], List.getElem?_eq_getElem lt⟩
      have dm' := List.mem_of_getElem? hd
      have dd := dl d dm'
      obtain ⟨y', e1, imd⟩ := ic.get (i := t) (d := dD d) (by rw [List.getElem?_map, hd]; rfl)
      rw [hy] at e1
      cases e1
      obtain ⟨e2, ws, rfl, he2, ie2⟩ := (Same.k sm3 imd).tuple
      have ew : ws = [.int (d.1 : Int), .int (d.2.1 : Int), .int d.2.2] := by
        match ws, ie2 with
        | _, .cons (.int _) (.cons (.int _) (.cons (.int _) .nil)) => rfl
      subst ew
      have gt := tabI_gt ok (l := l.take t) fun x hx => dl x (List.mem_of_mem_take hx)
      have lrs : rs.length = ss.length := by rw [rw3.len, gt.sq.len]
      obtain ⟨a1, ea1⟩ : ∃ a, rs[d.2.1]? = some a := ⟨rs[d.2.1]'(by rw [lrs]; exact dd.li), List.getElem?_eq_getElem _⟩
      obtain ⟨a2, ea2⟩ : ∃ a, rs[d.1]? = some a := ⟨rs[d.1]'(by rw [lrs]; exact dd.lj), List.getElem?_eq_getElem _⟩
      obtain ⟨r1, er1, ha1⟩ := rw3.row _ _ ea1
      obtain ⟨r2, er2, ha2⟩ := rw3.row _ _ ea2
      have l1 := gt.sq.row r1 (List.mem_of_getElem? er1)
      have l2 := gt.sq.row r2 (List.mem_of_getElem? er2)
      have m2 := (gt.sh ok).most r2 (List.mem_of_getElem? er2)
      obtain ⟨s, es⟩ := get_some dd.li
      obtain ⟨s2, s30⟩ := (ok s (List.mem_of_getElem? es)).bnd
      have esV : (ss.map V.int)[d.2.1]? = some (.int s) := by rw [List.getElem?_map, es]; rfl
      refine ⟨e2, _, rfl, SqT.of he2, rfl, _, _, rfl, _, _, rfl, _, _, rfl, rfl, ?_⟩
      refine ⟨_, rfl, _, rfl, R, _, d.2.1, _, rfl, rfl, SqL.of rw3.top, atI_nat (by rw [List.getElem?_map, ea1]; rfl), _, rfl, _, rfl, R, _, d.1, _, rfl, rfl, SqL.of rw3.top, atI_nat (by rw [List.getElem?_map, ea2]; rfl), a1, a2, _, _, rfl, SqS.of_l ha1, SqS.of_l ha2, fun g ng => ?_⟩
      refine lc_it (walk_zipG (n := ss.length) (by rw [List.length_map, List.length_map, l1, l2, Nat.min_self])) (fun i H' => Same H3 H' ∧ H' g = some (.lst (((rowI s d.2.2 r1 r2).take i).map V.int))) ⟨Same.new (Same.refl H3) ng, upd_same⟩ (fun i H' _ z => ⟨SqS.of_l (z.1 _ _ ha1), SqS.of_l (z.1 _ _ ha2)⟩) ?_ ?_
      · rintro i x H4 H5 hi ⟨sm4, hg⟩ ⟨T1, x1, x2, rfl, nT, rfl, f1, f2⟩
        obtain ⟨n1, hn1, rfl⟩ := map_get f1
        obtain ⟨n2, hn2, rfl⟩ := map_get f2
        have wd : CMulW d.2.2 n2 := mul_wide (A := 200) (B := 300) (Nat.lt_of_le_of_lt (dm d dm') (by decide)) (m2 n2 (List.mem_of_getElem? hn2)) (by decide)
        refine ⟨T1, _, rfl, SqT.of upd_same, rfl, _, _, rfl, _, _, rfl, rfl, rfl, ?_⟩
        refine ⟨_, rfl, _, rfl, _, rfl, _, _, rfl, rfl, wd, _, _, rfl, rfl, _, rfl, _, rfl, b, _, d.2.1, _, rfl, rfl, SqT.of (Same.new (sm3.trans sm4) nT _ _ hb), atI_nat esV, _, _, rfl, rfl, (show (0 : Int) < s by omega), _, keepN hg nT, small1000 (by rw [List.length_map, List.length_take]; omega), Same.put (Same.new sm4 nT) ng, ?_⟩
        rw [upd_same, take_get (show (rowI s d.2.2 r1 r2)[i]? = some ((n1 + d.2.2 * n2) % s) from zw_get (f := fun item mate => (item + d.2.2 * mate) % s) hn1 hn2), List.map_append]
        rfl
      · rintro H4 ⟨sm4, hg⟩
        rw [List.take_of_length_le (Nat.le_of_eq (rowI_len l1 l2))] at hg
        have rw4 := rw3.same sm4
        have gR : g ≠ R := fun z => by rw [z, rw3.top] at ng; cases ng
        have gb : g ≠ b := fun z => by rw [z, sm3 _ _ hb] at ng; cases ng
        have gN : g ∉ rs := fun m => by
          obtain ⟨i, hi, e⟩ := List.getElem_of_mem m
          obtain ⟨r, _, h2⟩ := rw3.row i g (by rw [List.getElem?_eq_getElem hi, e])
          rw [h2] at ng
          cases ng
        refine ⟨_, rfl, _, rfl, R, _, _, d.2.1, rfl, rfl, rw4.top, ixN_of (by rw [List.length_map, lrs]; exact dd.li), ?_⟩
        refine ⟨_, _, _, rs.set d.2.1 g, rfl, Same.put (sm3.trans sm4) nRH, ?_, fun a ha => ?_⟩
        · have := rw4.swap (i := d.2.1) (by rw [lrs]; exact dd.li) hg gN ⟨gR, gb, gb⟩
          rw [tabI_next hd, ← made_both ok gt dd]
          unfold madeI
          rw [List.getD_eq_getElem?_getD, List.getD_eq_getElem?_getD, List.getD_eq_getElem?_getD, es, er1, er2]
          exact this
        · rcases List.mem_or_eq_of_mem_set ha with m | m
          · exact fr3 a m
          · rw [m]
            exact Same.free sm3 ng
    · rintro σ H3 ⟨v3, v4, v5, rs, rfl, sm3, rw3, fr3⟩
      rw [show l.take cs.length = l by rw [ic.length, List.length_map, List.take_length]] at rw3
      have gt := tabI_gt ok dl
      have lr : rs.length ≤ 100 := by rw [rw3.len, gt.sq.len]; exact l100
      refine ⟨_, rfl, R, rfl, ⟨_, SqL.of rw3.top⟩, fun d nd => ?_⟩
      refine lc_list (K := K) (a := R) (xs := rs.map V.ref) (fun i H' => Same H3 H' ∧ ∃ vs : List V, H' d = some (.lst vs) ∧ ImAll H' vs (((tabI ss l).take i).map sD)) ⟨Same.new (Same.refl H3) nd, [], upd_same, .nil⟩ (fun i H' _ z => SqL.of (z.1 _ _ rw3.top)) ?_ ?_
      · rintro i x H5 hx ⟨sm5, vs, hd, ia⟩
        obtain ⟨a, ea, rfl⟩ := map_get hx
        obtain ⟨r, er, ha⟩ := rw3.row i a ea
        have lv : vs.length ≤ 100 := by
          rw [ia.length, List.length_map, List.length_take, gt.sq.len]
          omega
        refine ⟨rfl, _, rfl, a, _, rfl, .inl ⟨SqL.of (sm5 _ _ ha), fun u nu => ?_⟩⟩
        have hd5 := keepN (o' := .tup (r.map V.int)) hd nu
        have tk : Tk (upd H5 u (.tup (r.map V.int))) (upd (upd H5 u (.tup (r.map V.int))) d (.lst (vs ++ [.ref u]))) := (Tk.refl _).put hd5
        refine ⟨_, hd5, small1000 (by omega), Same.put (Same.new sm5 nu) nd, _, upd_same, ?_⟩
        rw [take_get er, List.map_append]
        exact ((ia.k ((Tk.refl H5).new nu)).k tk).append (.cons (Im.k (.tup upd_same (ImAll.of_ints _ _)) tk) .nil)
      · rintro H5 ⟨sm5, vs, hd, ia⟩
        rw [show (tabI ss l).take (rs.map V.ref).length = tabI ss l by rw [List.length_map, rw3.len, List.take_length]] at ia
        exact ⟨d, _, rfl, .inl ⟨SqL.of hd, fun u nu => k _ _ (.tup upd_same (ia.k ((Tk.refl H5).new nu))) (sm3.trans (Same.new sm5 nu))⟩⟩

theorem cat_any {K : PySem.W.Frag} {a b : Addr} {xs ys : List V} {H : Hp} {Q : VK} (h : H a = some (.tup xs)) (h2 : H b = some (.tup ys)) (l : xs.length + ys.length ≤ sizeLine) (k : ∀ c H', Same H H' → H' c = some (.tup (xs ++ ys)) → Q (.ref c) H') : rCatA K (.ref a) (.ref b) H Q :=
  ⟨a, b, xs, ys, rfl, rfl, SqT.of h, SqT.of h2, l, fun e => k b H (Same.refl H) (by rw [e, List.nil_append]; exact h2), fun _ e => k a H (Same.refl H) (by rw [e, List.append_nil]; exact h), fun _ _ p n => k p _ (Same.new (Same.refl H) n) upd_same⟩
def kg21 {α : Type} : List α → List α → List α
  | [], [a, b] => [b, a]
  | _, _ => []
def spTabOf : Sp := fun vs H Q _ => ∃ (m y : V) (ss : List Int) (ws : List (Nat × Nat)) (l : List (Nat × Nat × Int)), vs = [m, y] ∧ Im H m (mD ss ws) ∧ MOk ss ws ∧ Im H y (pD l) ∧ (∀ d ∈ l, DOk ss ws d) ∧ l.length ≤ 1100 ∧
  ∀ (u : V) (H' : Hp), Im H' u (tD (tabI ss l)) → Same H H' → Q u H'
def spTabErr : Sp := fun vs H Q _ => ∃ (m y : V) (ss : List Int) (ws : List (Nat × Nat)) (t : List (List Int)), vs = [m, y] ∧ Im H m (mD ss ws) ∧ MOk ss ws ∧ Im H y (tD t) ∧ GT ss t ∧ ∀ H', Same H H' → Q .non H'
def spMovedB : Sp := fun vs H Q _ => ∃ (m y z : V) (ss : List Int) (ws : List (Nat × Nat)) (t : List (List Int)) (hs : List Int), vs = [m, y, z] ∧ Im H m (mD ss ws) ∧ MOk ss ws ∧ Im H y (tD t) ∧ GT ss t ∧ Im H z (sD hs) ∧ COk ss hs ∧
  ∀ (u : V) (H' : Hp), Im H' u (sD (ledI ss t hs)) → Same H H' → Q u H'
def spRunB : Sp := fun vs H Q _ => ∃ (m l h : V) (ss : List Int) (ws : List (Nat × Nat)) (prog : List (Nat × Nat × Int)) (hs : List Int), vs = [m, l, h] ∧ Im H m (mD ss ws) ∧ MOk ss ws ∧ Im H l (pD prog) ∧ (∀ d ∈ prog, DOk ss ws d) ∧ prog.length ≤ 1000 ∧ Im H h (sD hs) ∧ COk ss hs ∧
  ∀ (u : V) (H' : Hp), Im H' u (sD (runP ss prog hs)) → Same H H' → Q u H'
def spBack : Sp := fun vs H Q _ => ∃ (y : V) (l : List (Nat × Nat × Int)), vs = [y] ∧ Im H y (pD l) ∧ l.length ≤ 1100 ∧ (∀ d ∈ l, d.2.2.natAbs ≤ 10 ^ 60) ∧ ∀ (u : V) (H' : Hp), Im H' u (pD (backI l)) → Same H H' → Q u H'
theorem back_dok {ss : List Int} {ws : List (Nat × Nat)} {l : List (Nat × Nat × Int)} (h : ∀ d ∈ l, DOk ss ws d) : ∀ d ∈ backI l, DOk ss ws d := fun d hd => by
  unfold backI at hd
  obtain ⟨x, hx, rfl⟩ := List.mem_map.mp (List.mem_reverse.mp hd)
  have k := h x hx
  obtain ⟨c, e, f, g, st⟩ := k.step
  refine ⟨k.wire, by show (-x.2.2).natAbs ≤ _; rw [Int.natAbs_neg]; exact k.most, c, e, f, g, ?_⟩
  exact Int.dvd_neg.mpr st
theorem backI_len (l : List (Nat × Nat × Int)) : (backI l).length = l.length := by
  unfold backI
  rw [List.length_reverse, List.length_map]
theorem tab_sh0 : ∀ {t : List (List Int)}, (∀ r ∈ t, r.length ≤ 100 ∧ ∀ n ∈ r, n.natAbs < 2 ^ 1900) → okAll (t.map sD) = true ∧ costAll (t.map sD) ≤ 200000 * t.length ∧ PyData.depthAll (t.map sD) ≤ 1
  | [], _ => ⟨rfl, Nat.le_refl _, Nat.zero_le _⟩
  | r :: t, h => by
    obtain ⟨a, b, c⟩ := tab_sh0 fun x hx => h x (List.mem_cons_of_mem _ hx)
    obtain ⟨l, m⟩ := h r List.mem_cons_self
    refine ⟨?_, ?_, ?_⟩
    · rw [List.map_cons]
      simp only [okAll, sD, okD, okAll_ints r m, a, Bool.and_self]
    · rw [List.map_cons]
      simp only [costAll, sD, NA.cost, costAll_ints, List.length_cons]
      omega
    · rw [List.map_cons]
      simp only [PyData.depthAll, sD, PyData.depth, depth_ints]
      omega
theorem tab_sh {ss : List Int} {t : List (List Int)} (ok : ∀ s ∈ ss, SizeOk s) (l : ss.length ≤ 6) (h : GT ss t) : Sh (tD t) ∧ NA.cost (tD t) ≤ 2000000 ∧ (tD t).depth ≤ 10 := by
  have q := h.sh ok
  obtain ⟨a, b, c⟩ := tab_sh0 (t := t) fun r hr => ⟨by rw [q.row r hr]; omega, fun n hn => Nat.lt_trans (q.most r hr n hn) (by decide)⟩
  have lt : t.length ≤ 6 := by rw [q.len]; exact l
  have cc : NA.cost (tD t) ≤ 2000000 := by
    simp only [tD, NA.cost]
    omega
  have dd : (tD t).depth ≤ 10 := by
    simp only [tD, PyData.depth]
    omega
  exact ⟨⟨by simp only [tD, okD, a], by omega, by omega⟩, cc, dd⟩
theorem sh_l2 {a b : PyData} (x : Sh a) (y : Sh b) (ca : NA.cost a ≤ 4000000) (cb : NA.cost b ≤ 4000000) (da : a.depth ≤ 50) (db : b.depth ≤ 50) : Sh (.list [a, b]) := Sh.pair x y ca cb da db
theorem sh_l3 {a b c : PyData} (x : Sh a) (y : Sh b) (z : Sh c) (ca : NA.cost a ≤ 4000000) (cb : NA.cost b ≤ 4000000) (cc : NA.cost c ≤ 4000000) (da : a.depth ≤ 50) (db : b.depth ≤ 50) (dc : c.depth ≤ 50) : Sh (.list [a, b, c]) := by
  refine ⟨?_, ?_, ?_⟩
  · simp only [okD, okAll, x.ok, y.ok, z.ok, Bool.and_self]
  · simp only [NA.cost, costAll]
    omega
  · simp only [PyData.depth, PyData.depthAll]
    omega
theorem tabs2 {ss : List Int} {t u : List (List Int)} (ok : ∀ s ∈ ss, SizeOk s) (l : ss.length ≤ 6) (h : GT ss t) (g : GT ss u) : Sh (.list [tD t, tD u]) := by
  obtain ⟨a, b, c⟩ := tab_sh ok l h
  obtain ⟨d, e, f⟩ := tab_sh ok l g
  exact sh_l2 a d (by omega) (by omega) (by omega) (by omega)
theorem tabs3 {ss : List Int} {t u v : List (List Int)} (ok : ∀ s ∈ ss, SizeOk s) (l : ss.length ≤ 6) (h : GT ss t) (g : GT ss u) (i : GT ss v) : Sh (.list [tD t, tD u, tD v]) := by
  obtain ⟨a, b, c⟩ := tab_sh ok l h
  obtain ⟨d, e, f⟩ := tab_sh ok l g
  obtain ⟨j, k, m⟩ := tab_sh ok l i
  exact sh_l3 a d j (by omega) (by omega) (by omega) (by omega) (by omega) (by omega)
theorem mach_cost {ss : List Int} {ws : List (Nat × Nat)} (h : MOk ss ws) : NA.cost (mD ss ws) ≤ 1000000 ∧ (mD ss ws).depth ≤ 50 := by
  have l1 := h.six
  have l2 := h.wires.len l1
  refine ⟨?_, ?_⟩
  · simp only [mD, sD, NA.cost, costAll, costAll_ints, costAll_wires]
    omega
  · have := depth_wires ws
    simp only [mD, sD, PyData.depth, PyData.depthAll, depth_ints]
    omega
theorem sh_prog {ss : List Int} {ws : List (Nat × Nat)} (ok : MOk ss ws) : ∀ {l : List (Nat × Nat × Int)}, (∀ d ∈ l, DOk ss ws d) → okAll (l.map dD) = true ∧ costAll (l.map dD) ≤ 6000 * l.length ∧ PyData.depthAll (l.map dD) ≤ 1
  | [], _ => ⟨rfl, Nat.le_refl _, Nat.zero_le _⟩
  | d :: l, h => by
    obtain ⟨a, b, c⟩ := sh_prog ok fun x hx => h x (List.mem_cons_of_mem _ hx)
    have hd := h d List.mem_cons_self
    obtain ⟨w1, w2, _⟩ := ok.wires.low _ hd.wire
    have six := ok.six
    have sm : ∀ n : Nat, n < 1000 → (n : Int).natAbs < 2 ^ 1900 := fun n hn => by
      rw [Int.natAbs_natCast]
      exact Nat.lt_trans hn (by decide)
    have big : d.2.2.natAbs < 2 ^ 1900 := Nat.lt_of_le_of_lt hd.most (by decide)
    refine ⟨?_, ?_, ?_⟩
    · rw [List.map_cons]
      simp only [okAll, dD, okD, a, decide_eq_true (small_log (sm d.1 (by omega))), decide_eq_true (small_log (sm d.2.1 (by omega))), decide_eq_true (small_log big), Bool.and_self]
    · rw [List.map_cons]
      simp only [costAll, dD, NA.cost, List.length_cons]
      omega
    · rw [List.map_cons]
      simp only [PyData.depthAll, dD, PyData.depth]
      omega
theorem cok_sh {ss hs : List Int} (ok : ∀ s ∈ ss, SizeOk s) (l : ss.length ≤ 1000) (h : COk ss hs) : Sh (sD hs) := by
  refine Sh.ints (fun n hn => ?_) (by rw [h.len]; exact l)
  obtain ⟨i, hi, rfl⟩ := List.getElem_of_mem hn
  obtain ⟨s, es⟩ := get_some (show i < ss.length by rw [← h.len]; exact hi)
  obtain ⟨a, b⟩ := h.low i _ s (List.getElem?_eq_getElem hi) es
  obtain ⟨_, c⟩ := (ok s (List.mem_of_getElem? es)).bnd
  exact Nat.lt_of_le_of_lt (show hs[i].natAbs ≤ 10 ^ 30 by omega) (by decide)
theorem prog_sh {ss : List Int} {ws : List (Nat × Nat)} (ok : MOk ss ws) {l : List (Nat × Nat × Int)} (h : ∀ d ∈ l, DOk ss ws d) (n : l.length ≤ 500) : Sh (pD l) ∧ NA.cost (pD l) ≤ 4000000 ∧ (pD l).depth ≤ 50 := by
  obtain ⟨a, b, c⟩ := sh_prog ok h
  have cp : NA.cost (pD l) ≤ 4000000 := by
    simp only [pD, NA.cost]
    omega
  have dp : (pD l).depth ≤ 50 := by
    simp only [pD, PyData.depth]
    omega
  exact ⟨⟨by simp only [pD, okD, a], by omega, by omega⟩, cp, dp⟩
def spRight : Sp := fun vs H Q _ => ∃ (p q : Addr) (m x y : V) (ss : List Int) (ws : List (Nat × Nat)) (l1 l2 : List (Nat × Nat × Int)), vs = [.ref p, m, x, y] ∧ Pt H p q ∧ Im H m (mD ss ws) ∧ MOk ss ws ∧ Im H x (pD l1) ∧ Im H y (pD l2) ∧ (∀ d ∈ l1, DOk ss ws d) ∧ (∀ d ∈ l2, DOk ss ws d) ∧ l1.length ≤ 400 ∧ l2.length ≤ 400 ∧
  ∀ H', Pt H' p q → Kp p q H H' → Q (.bl true) H'
abbrev sc_l_is_rightN : List Str := ["pot", "machine", "one", "other", "sizes", "kept", "first", "last", "told", "turn", "held", "back"]
theorem sc_l_is_right : FnScope sc_l_is_rightN ["pot", "machine", "one", "other"] (defScope s_l_is_right) := ⟨rfl, rfl, rfl, by decide +kernel, rfl, by decide +kernel, by decide +kernel⟩
theorem ok_right {f : Addr} {fd : FuncData} (F : Fun K "_law_is_right" "_law_is_right" s_l_is_right f fd) (T : Blt mg) (c_l_contents : Cal P w K mg base 3 "_law_contents" spContents) (c_l_made : Cal P w K mg base 2 "_law_made" spMade) (c_l_both : Cal P w K mg base 1 "_law_both" spBoth) (c_l_still : Cal P w K mg base 1 "_law_still" spStill)
    (c_table_of : Cal P w K mg base 4 "table_of" spTabOf) (k_table_of_pm : CalK P w K mg base 4 "table_of" spTabOf ["program", "machine"] kg21) (c_table_error : Cal P w K mg base 5 "table_error" spTabErr) (c_both : Cal P w K mg base 3 "both" spBothP) (c_moved : Cal P w K mg base 3 "moved" spMovedB) (c_run : Cal P w K mg base 3 "run" spRunB) (c_backward : Cal P w K mg base 2 "backward" spBack) (c_undone : Cal P w K mg base 6 "undone" spUndone) : GFn P w K mg base 7 f fd ["pot", "machine", "one", "other"] spRight := by
  refine gfn_of F sc_l_is_right (fun vs H Q E h => ?_) (fun cdv A outer s H vs Q E hcd0 hg hr h => ?_)
  · obtain ⟨p, q, m, x, y, ss, ws, l1, l2, rfl, _⟩ := h
    rfl
  · obtain ⟨p, q, m, x, y, ss, ws, l1, l2, rfl, hP, imm, ok, ix, iy, d1, d2, n1, n2, k⟩ := h
    refine ⟨_, (pss_cons (ps_set (i := 4) sc_l_is_right.nd rfl (.inl rfl) (pe_ix (ix_tupK K rfl) (pv 1) pe_int (fun _ _ => rfl)))
      (pss_cons (ps_par3 (i := 5) (j := 6) (l := 7) rfl sc_l_is_right.nd rfl rfl rfl (by decide) (by decide) (by decide) rfl rfl rfl (pa_cons (pe_callB (call_reprK K rfl hg hr) (by rfl) T.repr boot_repr (pa_cons (pe_lst (pa_cons (pv 1) (pa_cons (pv 2) (pa_cons (pv 3) pa_nil)))) pa_nil)) (pa_cons (pe_c c_l_made hr (by decide) rfl (pa_cons (pv 4) (pa_cons (pv 2) pa_nil))) (pa_cons (pe_c c_l_made hr (by decide) rfl (pa_cons (pv 4) (pa_cons (pv 3) pa_nil))) pa_nil))) (by rfl))
      (pss_cons (ps_set (i := 8) sc_l_is_right.nd rfl (.inl rfl) (pe_lst (pa_cons (pe_c c_table_of hr (by decide) rfl (pa_cons (pv 1) (pa_cons (pv 2) pa_nil))) (pa_cons (pe_ck k_table_of_pm hr (by decide) rfl (pk_cons (pv 2) (pk_cons (pv 1) pk_nil))) (pa_cons (pe_c c_table_of hr (by decide) rfl (pa_cons (pv 1) (pa_cons (pv 3) pa_nil))) pa_nil)))))
      (pss_cons (ps_if (PW.pt (pw_or (pt_cmpR op_ne (pe_callB (call_reprK K rfl hg hr) (by rfl) T.repr boot_repr (pa_cons (pv 8) pa_nil)) (pe_callB (call_reprK K rfl hg hr) (by rfl) T.repr boot_repr (pa_cons (pe_lst (pa_cons (pv 6) (pa_cons (pv 6) (pa_cons (pv 7) pa_nil)))) pa_nil)) (nomark _)) (pw_or1 (pt_cmpR op_notN (pe_c c_table_error hr (by decide) rfl (pa_cons (pv 1) (pa_cons (pv 6) pa_nil))) pe_non (nomark _))))) (pss_one (ps_ret pe_bl)) pss_nil)
      (pss_cons (ps_if (pt_cmpR op_ne (pe_callB (call_reprK K rfl hg hr) (by rfl) T.repr boot_repr (pa_cons (pe_lst (pa_cons (pe_c c_table_of hr (by decide) rfl (pa_cons (pv 1) (pa_cons (pe_op op_catA (pv 2) (pv 3)) pa_nil))) (pa_cons (pe_c c_both hr (by decide) rfl (pa_cons (pv 1) (pa_cons (pv 6) (pa_cons (pv 7) pa_nil)))) pa_nil))) pa_nil)) (pe_callB (call_reprK K rfl hg hr) (by rfl) T.repr boot_repr (pa_cons (pe_op op_rep (pe_lst (pa_cons (pe_c c_l_both hr (by decide) rfl (pa_cons (pv 4) (pa_cons (pv 6) (pa_cons (pv 7) pa_nil)))) pa_nil)) pe_int) pa_nil)) (nomark _)) (pss_one (ps_ret pe_bl)) pss_nil)
      (pss_cons (ps_for PassesOwn.never rfl (pi_range1 (by rfl) T.range (pa_cons pe_int pa_nil)) (pg_name (i := 9) sc_l_is_right.nd rfl (.inl rfl)) (pss_cons (ps_set (i := 10) sc_l_is_right.nd rfl (.inl rfl) (pe_c c_l_contents hr (by decide) rfl (pa_cons (pv 0) (pa_cons (pv 4) pa_nil))))
      (pss_one (ps_if (pt_cmpR op_ne (pe_callB (call_reprK K rfl hg hr) (by rfl) T.repr boot_repr (pa_cons (pe_c c_moved hr (by decide) rfl (pa_cons (pv 1) (pa_cons (pe_ix (ix_listK K rfl) (pv 8) pe_int (fun _ _ => rfl)) (pa_cons (pv 10) pa_nil)))) pa_nil)) (pe_callB (call_reprK K rfl hg hr) (by rfl) T.repr boot_repr (pa_cons (pe_c c_run hr (by decide) rfl (pa_cons (pv 1) (pa_cons (pv 2) (pa_cons (pv 10) pa_nil)))) pa_nil)) (nomark _)) (pss_one (ps_ret pe_bl)) pss_nil))))
      (pss_cons (ps_set (i := 11) sc_l_is_right.nd rfl (.inl rfl) (pe_c c_table_of hr (by decide) rfl (pa_cons (pv 1) (pa_cons (pe_c c_backward hr (by decide) rfl (pa_cons (pv 2) pa_nil)) pa_nil))))
      (pss_cons (ps_if (pt_cmpR op_ne (pe_callB (call_reprK K rfl hg hr) (by rfl) T.repr boot_repr (pa_cons (pe_lst (pa_cons (pv 11) (pa_cons (pe_c c_l_both hr (by decide) rfl (pa_cons (pv 4) (pa_cons (pv 6) (pa_cons (pv 11) pa_nil)))) pa_nil))) pa_nil)) (pe_callB (call_reprK K rfl hg hr) (by rfl) T.repr boot_repr (pa_cons (pe_lst (pa_cons (pe_c c_undone hr (by decide) rfl (pa_cons (pv 1) (pa_cons (pv 6) pa_nil))) (pa_cons (pe_c c_l_still hr (by decide) rfl (pa_cons (pv 4) pa_nil)) pa_nil))) pa_nil)) (nomark _)) (pss_one (ps_ret pe_bl)) pss_nil)
      (pss_one (ps_ret (pe_cmpR op_eq (pe_callB (call_reprK K rfl hg hr) (by rfl) T.repr boot_repr (pa_cons (pe_lst (pa_cons (pv 1) (pa_cons (pv 2) (pa_cons (pv 3) pa_nil)))) pa_nil)) (pv 5) (nomark _)))))))))))), ?_⟩
    obtain ⟨a, xs, rfl, ha, ia⟩ := id imm.tuple
    obtain ⟨b0, g0, im0⟩ := ia.get (i := 0) rfl
    obtain ⟨ax, wx, rfl, hax, iax⟩ := id ix.tuple
    obtain ⟨ay, wy, rfl, hay, iay⟩ := id iy.tuple
    have lwx : wx.length ≤ 400 := by rw [iax.length, List.length_map]; exact n1
    have lwy : wy.length ≤ 400 := by rw [iay.length, List.length_map]; exact n2
    have l6 := ok.six
    have e1 : ∀ d ∈ l1, DIn ss d := fun d hd => (d1 d hd).din ok
    have e2 : ∀ d ∈ l2, DIn ss d := fun d hd => (d2 d hd).din ok
    have t1 := tabI_gt ok.size e1
    have t2 := tabI_gt ok.size e2
    obtain ⟨m1, m2⟩ := mach_cost ok
    obtain ⟨p1, p2, p3⟩ := prog_sh ok d1 (by omega)
    obtain ⟨r1, r2, r3⟩ := prog_sh ok d2 (by omega)
    have sh3 : Sh (.list [mD ss ws, pD l1, pD l2]) := sh_l3 (Sh.mach ok) p1 r1 (by omega) p2 r2 m2 p3 r3
    refine ⟨_, rfl, a, _, 0, _, rfl, rfl, SqT.of ha, atI_nat (j := 0) g0, ?_⟩
    refine ⟨_, rfl, _, rfl, _, rfl, by show 3 ≤ sizeLine; decide, fun z1 nz1 => ?_⟩
    have s1 : Same H (upd H z1 (.lst [.ref a, .ref ax, .ref ay])) := Same.new (Same.refl H) nz1
    refine ⟨_, _, rfl, .lst (SqL.of upd_same) (.cons (Same.k s1 imm).dp (.cons (Same.k s1 ix).dp (.cons (Same.k s1 iy).dp .nil))), sh3, ?_⟩
    refine ⟨_, rfl, _, rfl, _, _, ss, l1, rfl, Same.k s1 im0, Same.k s1 ix, ok.size, by omega, e1, fun d hd => (d1 d hd).most, fun u1 H2 i1 sm2 => ?_⟩
    have s2 := s1.trans sm2
    refine ⟨_, rfl, _, rfl, _, _, ss, l2, rfl, Same.k s2 im0, Same.k s2 iy, ok.size, by omega, e2, fun d hd => (d2 d hd).most, fun u2 H3 i2 sm3 => ⟨_, _, _, rfl, ?_⟩⟩
    have s3 := s2.trans sm3
    have j1 := Same.k sm3 i1
    refine ⟨_, rfl, _, rfl, _, _, ss, ws, l1, rfl, Same.k s3 imm, ok, Same.k s3 ix, d1, by omega, fun v1 H4 o1 sm4 => ?_⟩
    have s4 := s3.trans sm4
    refine ⟨_, rfl, _, rfl, _, _, ss, ws, l1, rfl, Same.k s4 imm, ok, Same.k s4 ix, d1, by omega, fun v2 H5 o2 sm5 => ?_⟩
    have s5 := s4.trans sm5
    refine ⟨_, rfl, _, rfl, _, _, ss, ws, l2, rfl, Same.k s5 imm, ok, Same.k s5 iy, d2, by omega, fun v3 H6 o3 sm6 => ⟨by show 3 ≤ sizeLine; decide, fun z2 nz2 => ?_⟩⟩
    have s67 : Same H6 (upd H6 z2 (.lst [v1, v2, v3])) := Same.new (Same.refl H6) nz2
    have s36 := (sm4.trans sm5).trans sm6
    have s37 := s36.trans s67
    have q1 := Same.k ((sm5.trans sm6).trans s67) o1
    have q2 := Same.k (sm6.trans s67) o2
    have q3 := Same.k s67 o3
    have hz2 : (upd H6 z2 (.lst [v1, v2, v3])) z2 = some (.lst [v1, v2, v3]) := upd_same
    have f1 := Same.k s37 j1
    have f2 := Same.k s37 i2
    have s7 := s3.trans s37
    generalize upd H6 z2 (.lst [v1, v2, v3]) = H7 at *
    refine ⟨_, rfl, _, _, rfl, .lst (SqL.of hz2) (.cons q1.dp (.cons q2.dp (.cons q3.dp .nil))), tabs3 ok.size l6 t1 t1 t2, ?_⟩
    refine ⟨_, rfl, _, rfl, _, rfl, by show 3 ≤ sizeLine; decide, fun z3 nz3 => ?_⟩
    have s8 : Same H7 (upd H7 z3 (.lst [u1, u1, u2])) := Same.new (Same.refl H7) nz3
    refine ⟨_, _, rfl, .lst (SqL.of upd_same) (.cons (Same.k s8 f1).dp (.cons (Same.k s8 f1).dp (.cons (Same.k s8 f2).dp .nil))), tabs3 ok.size l6 t1 t1 t2, rfl, _, rfl, iteNS rfl ?_⟩
    generalize upd H7 z3 (.lst [u1, u1, u2]) = H8 at *
    have s08 := s7.trans s8
    refine ⟨_, rfl, _, rfl, _, _, ss, ws, _, rfl, Same.k s08 imm, ok, Same.k s8 f1, t1, fun H9 sm9 => ?_⟩
    refine ⟨rfl, _, rfl, iteNS rfl ?_⟩
    have s09 := s08.trans sm9
    have s89 := s8.trans sm9
    refine ⟨_, rfl, _, rfl, _, rfl, cat_any (s09 _ _ hax) (s09 _ _ hay) (Nat.le_trans (show wx.length + wy.length ≤ 800 by omega) (by decide)) fun c HA smA hA => ?_⟩
    have s0A := s09.trans smA
    have iA : Im HA (.ref c) (pD (l1 ++ l2)) := .tup hA (by rw [List.map_append]; exact (iax.k (Tk.same s0A)).append (iay.k (Tk.same s0A)))
    have dA : ∀ d ∈ l1 ++ l2, DOk ss ws d := fun d hd => by
      rcases List.mem_append.mp hd with h | h
      · exact d1 d h
      · exact d2 d h
    refine ⟨_, _, ss, ws, l1 ++ l2, rfl, Same.k s0A imm, ok, iA, dA, by rw [List.length_append]; omega, fun w1 HB iw1 smB => ?_⟩
    rw [tab_app ok.size e1 e2] at iw1
    have s0B := s0A.trans smB
    have s8B := (s89.trans smA).trans smB
    have tB := GT.both ok.size t1 t2
    refine ⟨_, rfl, _, rfl, _, rfl, _, _, _, ss, ws, _, _, rfl, Same.k s0B imm, ok, Same.k s8B f1, Same.k s8B f2, t1, t2, fun w2 HC iw2 smC => ⟨by show 2 ≤ sizeLine; decide, fun z4 nz4 => ?_⟩⟩
    have sCD : Same HC (upd HC z4 (.lst [w1, w2])) := Same.new (Same.refl HC) nz4
    refine ⟨_, _, rfl, .lst (SqL.of upd_same) (.cons (Same.k (smC.trans sCD) iw1).dp (.cons (Same.k sCD iw2).dp .nil)), tabs2 ok.size l6 tB tB, ?_⟩
    have s0D := (s0B.trans smC).trans sCD
    have s8D := (s8B.trans smC).trans sCD
    generalize upd HC z4 (.lst [w1, w2]) = HD at *
    refine ⟨_, rfl, _, rfl, _, rfl, _, _, _, ss, _, _, rfl, Same.k s0D im0, Same.k s8D f1, Same.k s8D f2, ok.size, by omega, t1.sh ok.size, t2.sh ok.size, fun w3 HE iw3 smE => ⟨by show 1 ≤ sizeLine; decide, fun z5 nz5 => ?_⟩⟩
    refine ⟨z5, 2, _, rfl, rfl, upd_same, by decide, by decide, by show 1 * 2 ≤ sizeLine; decide, fun z6 nz6 => ?_⟩
    have sEF : Same HE (upd (upd HE z5 (.lst [w3])) z6 (.lst (List.replicate (2 : Int).toNat [w3]).flatten)) := Same.new (Same.new (Same.refl HE) nz5) nz6
    have iw := Same.k sEF iw3
    refine ⟨_, _, rfl, .lst (SqL.of upd_same) (.cons iw.dp (.cons iw.dp .nil)), tabs2 ok.size l6 tB tB, rfl, _, rfl, iteNS rfl ?_⟩
    have s0F := (s0D.trans smE).trans sEF
    have s8F := (s8D.trans smE).trans sEF
    generalize upd (upd HE z5 (.lst [w3])) z6 (.lst (List.replicate (2 : Int).toNat [w3]).flatten) = HF at *
    have PF := hP.same s0F
    have hz7 : HF z2 = some (.lst [v1, v2, v3]) := s8F _ _ hz2
    have nz : z2 ≠ p ∧ z2 ≠ q := by
      refine ⟨fun e => ?_, fun e => ?_⟩
      · obtain ⟨ys, hp⟩ := PF.lp
        have r := s8F _ _ hz2
        have := (hP.same s3).same s36 |>.np nz2
        exact this.1 e
      · have := (hP.same s3).same s36 |>.np nz2
        exact this.2 e
    have o1F := Same.k s8F q1
    have f1F := Same.k s8F f1
    refine ⟨2, rfl, by decide, by decide, for_range (lo := 0) (n := 2) (fun _ σ H' => ∃ v9 v10 : Option V, σ = [some (.ref p), some (.ref a), some (.ref ax), some (.ref ay), some b0, some (.str (PyData.list [mD ss ws, pD l1, pD l2]).shown), some u1, some u2, some (.ref z2), v9, v10, none] ∧ Pt H' p q ∧ Kp p q HF H')
      ⟨none, none, rfl, PF, Kp.refl p q HF⟩ ?_ ?_⟩
    · rintro t σ G1 ht ⟨v9, v10, rfl, PG, kG⟩
      have tG := kG.tk PF
      have imG := (Same.k s0F imm).k tG
      refine ⟨_, rfl, _, rfl, p, q, _, ss, rfl, PG, (Same.k s0F im0).k tG, ok.size, by omega, fun hv hs G2 ih ch P2 k2 => ?_⟩
      have t2G := k2.tk PG
      have imG2 := imG.k t2G
      refine ⟨_, rfl, _, rfl, z2, _, 0, _, rfl, rfl, SqL.of (k2 _ _ nz.1 nz.2 (kG _ _ nz.1 nz.2 hz7)), atI_nat (j := 0) rfl, _, rfl, _, _, _, ss, ws, _, hs, rfl, imG2, ok, (o1F.k tG).k t2G, t1, ih, ch, fun r1 G3 ir1 sm3 => ?_⟩
      have cr := t1.led ok.size ch
      refine ⟨_, _, rfl, ir1.dp, cok_sh ok.size (by omega) cr, ?_⟩
      refine ⟨_, rfl, _, rfl, _, rfl, _, _, _, ss, ws, l1, hs, rfl, Same.k sm3 imG2, ok, Same.k sm3 (((Same.k s0F ix).k tG).k t2G), d1, by omega, Same.k sm3 ih, ch, fun r2 G4 ir2 sm4 => ?_⟩
      rw [led_tab ok.size e1 ch]
      rw [led_tab ok.size e1 ch] at cr
      exact ⟨_, _, rfl, ir2.dp, cok_sh ok.size (by omega) cr, rfl, _, rfl, iteNS rfl ⟨_, _, rfl, (P2.same sm3).same sm4, ((kG.trans k2).trans (Kp.same sm3)).trans (Kp.same sm4)⟩⟩
    · rintro σ G1 ⟨v9, v10, rfl, PG, kG⟩
      have tG := kG.tk PF
      have imG := (Same.k s0F imm).k tG
      have im0G := (Same.k s0F im0).k tG
      have ixG := (Same.k s0F ix).k tG
      have iyG := (Same.k s0F iy).k tG
      have fG := f1F.k tG
      have kH : Kp p q H G1 := (Kp.same s0F).trans kG
      have tb := tabI_gt ok.size (back_din e1)
      refine ⟨_, rfl, _, rfl, _, l1, rfl, ixG, by omega, fun d hd => (d1 d hd).most, fun w4 G2 iw4 sm2' => ?_⟩
      refine ⟨_, _, ss, ws, backI l1, rfl, Same.k sm2' imG, ok, iw4, back_dok d1, by rw [backI_len]; omega, fun w5 G3 iw5 sm3' => ?_⟩
      have g3 := sm2'.trans sm3'
      refine ⟨_, rfl, _, rfl, _, rfl, _, rfl, _, _, _, ss, _, _, rfl, Same.k g3 im0G, Same.k g3 fG, iw5, ok.size, by omega, t1.sh ok.size, tb.sh ok.size, fun w6 G4 iw6 sm4' => ⟨by show 2 ≤ sizeLine; decide, fun z7 nz7 => ?_⟩⟩
      rw [tab_back ok.size e1] at iw6
      have gst := GT.still ok.size
      have sG5 : Same G4 (upd G4 z7 (.lst [w5, w6])) := Same.new (Same.refl G4) nz7
      refine ⟨_, _, rfl, .lst (SqL.of upd_same) (.cons (Same.k (sm4'.trans sG5) iw5).dp (.cons (Same.k sG5 iw6).dp .nil)), tabs2 ok.size l6 tb gst, ?_⟩
      have g5 := (g3.trans sm4').trans sG5
      generalize upd G4 z7 (.lst [w5, w6]) = G5 at *
      refine ⟨_, rfl, _, rfl, _, _, ss, ws, _, _, rfl, Same.k g5 imG, ok, Same.k g5 fG, t1, tb, tab_back ok.size e1, back_tab ok.size e1, fun w7 G6 iw7 sm6' => ?_⟩
      have g6 := g5.trans sm6'
      refine ⟨_, rfl, _, ss, rfl, Same.k g6 im0G, by omega, fun w8 G7 iw8 sm7' => ⟨by show 2 ≤ sizeLine; decide, fun z8 nz8 => ?_⟩⟩
      have sG8 : Same G7 (upd G7 z8 (.lst [w7, w8])) := Same.new (Same.refl G7) nz8
      refine ⟨_, _, rfl, .lst (SqL.of upd_same) (.cons (Same.k (sm7'.trans sG8) iw7).dp (.cons (Same.k sG8 iw8).dp .nil)), tabs2 ok.size l6 tb gst, rfl, _, rfl, iteNS rfl ?_⟩
      have g8 := (g6.trans sm7').trans sG8
      generalize upd G7 z8 (.lst [w7, w8]) = G8 at *
      refine ⟨_, rfl, _, rfl, _, rfl, by show 3 ≤ sizeLine; decide, fun z9 nz9 => ?_⟩
      have g9 : Same G1 (upd G8 z9 (.lst [.ref a, .ref ax, .ref ay])) := Same.new g8 nz9
      refine ⟨_, _, rfl, .lst (SqL.of upd_same) (.cons (Same.k g9 imG).dp (.cons (Same.k g9 ixG).dp (.cons (Same.k g9 iyG).dp .nil))), sh3, _, rfl, rfl, ?_⟩
      have kk := k _ (PG.same g9) (kH.trans (Kp.same g9))
      rw [decide_eq_true rfl]
      exact kk

def spLongG : Sp := fun vs H Q _ => ∃ (p q : Addr), vs = [.ref p] ∧ Pt H p q ∧ ∀ H', Pt H' p q → Q (.bl true) H'
def spProgErr : Sp := fun vs H Q _ => ∃ (m y : V) (ss : List Int) (ws : List (Nat × Nat)) (l : List (Nat × Nat × Int)), vs = [m, y] ∧ Im H m (mD ss ws) ∧ MOk ss ws ∧ Im H y (pD l) ∧ (∀ d ∈ l, DOk ss ws d) ∧ l.length ≤ 1100 ∧ ∀ H', Same H H' → Q .non H'
def szV (v : V) : Bool := okV v && (match v with | .int i => decide (2 ≤ i) | _ => false)
theorem szV_of {v : V} (h : szV v = true) : ∃ n : Int, v = .int n ∧ SizeOk n := by
  unfold szV at h
  rw [Bool.and_eq_true] at h
  obtain ⟨m, rfl, m1, m2, m3⟩ := okV_of h.1
  have : 2 ≤ (m : Int) := of_decide_eq_true h.2
  exact ⟨m, rfl, m, rfl, by omega, m2, m3⟩
theorem pick_sz {v : V} : ∀ {l : List V}, l.all szV = true → v ∈ l → ∃ n : Int, v = .int n ∧ SizeOk n := fun h m => szV_of (List.all_eq_true.mp h v m)
theorem ne_of_len {vs : List V} {n : Nat} (h : vs.length = n + 1) : vs ≠ [] := by
  intro z; rw [z] at h; cases h
theorem two_mok {s t : Int} (a : SizeOk s) (b : SizeOk t) : MOk [s, t] [(0, 1), (1, 0)] := by
  refine ⟨by show 1 ≤ 2; decide, by show 2 ≤ 6; decide, fun x hx => ?_, ⟨.cons (fun w hw => ?_) (.cons (fun w hw => by cases hw) .nil), fun w hw => ?_⟩⟩
  · rcases List.mem_cons.mp hx with e | hx
    · rw [e]; exact a
    · rw [List.mem_singleton.mp hx]; exact b
  · rw [List.mem_singleton.mp hw]
    exact .inl (by decide)
  · rcases List.mem_cons.mp hw with e | hw
    · rw [e]; exact ⟨by show 0 < 2; decide, by show 1 < 2; decide, by decide⟩
    · rw [List.mem_singleton.mp hw]; exact ⟨by show 1 < 2; decide, by show 0 < 2; decide, by decide⟩
theorem one_mok {s t : Int} (a : SizeOk s) (b : SizeOk t) : MOk [s, t] [(1, 0)] := by
  refine ⟨by show 1 ≤ 2; decide, by show 2 ≤ 6; decide, fun x hx => ?_, ⟨.cons (fun w hw => by cases hw) .nil, fun w hw => ?_⟩⟩
  · rcases List.mem_cons.mp hx with e | hx
    · rw [e]; exact a
    · rw [List.mem_singleton.mp hx]; exact b
  · rw [List.mem_singleton.mp hw]; exact ⟨by show 1 < 2; decide, by show 0 < 2; decide, by decide⟩
theorem ImAll.rep {H : Hp} {vs : List V} {ds : List PyData} (h : ImAll H vs ds) : ∀ n : Nat, ImAll H (List.replicate n vs).flatten (List.replicate n ds).flatten
  | 0 => .nil
  | n + 1 => by
    rw [List.replicate_succ, List.replicate_succ, List.flatten_cons, List.flatten_cons]
    exact h.append (ImAll.rep h n)
theorem map_rep {α β : Type} (f : α → β) (l : List α) : ∀ n : Nat, (List.replicate n (l.map f)).flatten = ((List.replicate n l).flatten).map f
  | 0 => rfl
  | n + 1 => by rw [List.replicate_succ, List.replicate_succ, List.flatten_cons, List.flatten_cons, List.map_append, map_rep f l n]
theorem mem_rep {α : Type} {l : List α} {x : α} : ∀ {n : Nat}, x ∈ (List.replicate n l).flatten → x ∈ l
  | 0, h => by cases h
  | n + 1, h => by
    rw [List.replicate_succ, List.flatten_cons] at h
    rcases List.mem_append.mp h with h | h
    · exact h
    · exact mem_rep h
theorem len_rep {α : Type} (l : List α) : ∀ n : Nat, ((List.replicate n l).flatten).length = n * l.length
  | 0 => by rw [Nat.zero_mul]; rfl
  | n + 1 => by rw [List.replicate_succ, List.flatten_cons, List.length_append, len_rep l n, Nat.succ_mul, Nat.add_comm]
theorem mach2 {H : Hp} {s t : Int} {t1 t2 t3 t4 t5 : Addr} (n1 : H t1 = none) (n2 : (upd H t1 (.tup [.int s, .int t])) t2 = none) (n3 : (upd (upd H t1 (.tup [.int s, .int t])) t2 (.tup [.int 0, .int 1])) t3 = none) (n4 : (upd (upd (upd H t1 (.tup [.int s, .int t])) t2 (.tup [.int 0, .int 1])) t3 (.tup [.int 1, .int 0])) t4 = none)
    (n5 : (upd (upd (upd (upd H t1 (.tup [.int s, .int t])) t2 (.tup [.int 0, .int 1])) t3 (.tup [.int 1, .int 0])) t4 (.tup [.ref t2, .ref t3])) t5 = none) :
    Im (upd (upd (upd (upd (upd H t1 (.tup [.int s, .int t])) t2 (.tup [.int 0, .int 1])) t3 (.tup [.int 1, .int 0])) t4 (.tup [.ref t2, .ref t3])) t5 (.tup [.ref t1, .ref t4])) (.ref t5) (mD [s, t] [(0, 1), (1, 0)]) :=
  .tup upd_same (.cons (.tup (keepN (keepN (keepN (keepN upd_same n2) n3) n4) n5) (.cons (.int _) (.cons (.int _) .nil))) (.cons (.tup (keepN upd_same n5) (.cons (.tup (keepN (keepN (keepN upd_same n3) n4) n5) (.cons (.int _) (.cons (.int _) .nil))) (.cons (.tup (keepN (keepN upd_same n4) n5) (.cons (.int _) (.cons (.int _) .nil))) .nil))) .nil))
theorem mach0 {H : Hp} {a : Addr} {ss : List Int} {ws : List (Nat × Nat)} (h : Im H (.ref a) (mD ss ws)) : ∃ (v : V), ∃ xs : List V, H a = some (.tup xs) ∧ xs[0]? = some v ∧ Im H v (sD ss) := by
  obtain ⟨b, xs, e, hb, ib⟩ := h.tuple
  cases e
  obtain ⟨v, g, i⟩ := ib.get (i := 0) rfl
  exact ⟨v, xs, hb, g, i⟩
theorem cok_most13 {ss hs : List Int} (ok : ∀ s ∈ ss, SizeOk s) (h : COk ss hs) : mostI 300 hs := fun n hn => by
  obtain ⟨i, hi, rfl⟩ := List.getElem_of_mem hn
  obtain ⟨s, es⟩ := get_some (show i < ss.length by rw [← h.len]; exact hi)
  obtain ⟨a, b⟩ := h.low i _ s (List.getElem?_eq_getElem hi) es
  obtain ⟨_, c⟩ := (ok s (List.mem_of_getElem? es)).bnd
  exact Nat.lt_of_le_of_lt (show hs[i].natAbs ≤ 10 ^ 30 by omega) (by decide)
theorem cok2 {ss a b : List Int} (ok : ∀ s ∈ ss, SizeOk s) (l : ss.length = 2) (ha : COk ss a) (hb : COk ss b) : Sh (.list [sD a, sD b]) := by
  have sa := cok_sh ok (by omega) ha
  have sb := cok_sh ok (by omega) hb
  have ca : NA.cost (sD a) ≤ 1000000 ∧ (sD a).depth ≤ 50 := by
    have := ha.len
    refine ⟨?_, ?_⟩
    · simp only [sD, NA.cost, costAll_ints]
      omega
    · simp only [sD, PyData.depth, depth_ints]
      decide
  have cb : NA.cost (sD b) ≤ 1000000 ∧ (sD b).depth ≤ 50 := by
    have := hb.len
    refine ⟨?_, ?_⟩
    · simp only [sD, NA.cost, costAll_ints]
      omega
    · simp only [sD, PyData.depth, depth_ints]
      decide
  exact sh_l2 sa sb (by omega) (by omega) (by omega) (by omega)
theorem mach1 {H : Hp} {s t : Int} {t1 t2 t3 t4 : Addr} (n1 : H t1 = none) (n2 : (upd H t1 (.tup [.int s, .int t])) t2 = none) (n3 : (upd (upd H t1 (.tup [.int s, .int t])) t2 (.tup [.int 1, .int 0])) t3 = none)
    (n4 : (upd (upd (upd H t1 (.tup [.int s, .int t])) t2 (.tup [.int 1, .int 0])) t3 (.tup [.ref t2])) t4 = none) :
    Im (upd (upd (upd (upd H t1 (.tup [.int s, .int t])) t2 (.tup [.int 1, .int 0])) t3 (.tup [.ref t2])) t4 (.tup [.ref t1, .ref t3])) (.ref t4) (mD [s, t] [(1, 0)]) :=
  .tup upd_same (.cons (.tup (keepN (keepN (keepN upd_same n2) n3) n4) (.cons (.int _) (.cons (.int _) .nil))) (.cons (.tup (keepN upd_same n4) (.cons (.tup (keepN (keepN upd_same n3) n4) (.cons (.int _) (.cons (.int _) .nil))) .nil)) .nil))
theorem sz_n {n : Int} (h : szV (.int n) = true) : SizeOk n := by
  obtain ⟨m, e, k⟩ := szV_of h
  cases e
  exact k
theorem few_at {r : Int} (a : 0 ≤ r) (b : r < 4) : ∃ n : Nat, 2 ≤ n ∧ n ≤ 97 ∧ SizeOk (n : Int) ∧ atI [V.int 2, .int 8, .int 97, .int 36] r = some (.int (n : Int)) := by
  rcases (by omega : r = 0 ∨ r = 1 ∨ r = 2 ∨ r = 3) with h | h | h | h <;> subst h
  · exact ⟨2, by decide, by decide, sz_n (by decide +kernel), rfl⟩
  · exact ⟨8, by decide, by decide, sz_n (by decide +kernel), rfl⟩
  · exact ⟨97, by decide, by decide, sz_n (by decide +kernel), rfl⟩
  · exact ⟨36, by decide, by decide, sz_n (by decide +kernel), rfl⟩
theorem twelve : SizeOk 12 := sz_n (by decide +kernel)
theorem few_ok {n : Nat} (h : SizeOk (n : Int)) (n2 : 2 ≤ n) (n97 : n ≤ 97) : ∀ d ∈ List.replicate n ((1, 0, ((stp 12 n : Nat) : Int)) : Nat × Nat × Int), DOk [(n : Int), 12] [(1, 0)] d := fun d hd => by
  rw [(List.mem_replicate.mp hd).2]
  refine ⟨List.mem_singleton.mpr rfl, ?_, 12, n, rfl, rfl, Int.dvd_refl _⟩
  have := (stp_le (a := 12) (b := n) (by omega)).2
  show ((stp 12 n : Nat) : Int).natAbs ≤ 10 ^ 60
  rw [Int.natAbs_natCast]
  exact Nat.le_trans (Nat.le_trans this n97) (by decide)
theorem rep_one {α : Type} (x : α) : ∀ n : Nat, (List.replicate n [x]).flatten = List.replicate n x
  | 0 => rfl
  | n + 1 => by rw [List.replicate_succ, List.replicate_succ, List.flatten_cons, rep_one x n]; rfl
abbrev sc_l_is_longN : List Str := ["pot", "size", "machine", "listed", "made", "held", "due", "few", "turn"]
theorem sc_l_is_long : FnScope sc_l_is_longN ["pot"] (defScope s_l_is_long) := ⟨rfl, rfl, rfl, by decide +kernel, rfl, by decide +kernel, by decide +kernel⟩
theorem ok_long {f : Addr} {fd : FuncData} (F : Fun K "_law_is_long" "_law_is_long" s_l_is_long f fd) (T : Blt mg) (c_l_dip : Cal P w K mg base 1 "_law_dip" spDip) (c_l_pick : Cal P w K mg base 2 "_law_pick" spPick) (c_l_contents : Cal P w K mg base 3 "_law_contents" spContents) (c_l_deed : Cal P w K mg base 3 "_law_deed" spDeed) (c_l_step : Cal P w K mg base 2 "_law_step" spLStep) (c_l_made : Cal P w K mg base 2 "_law_made" spMade) (c_l_led : Cal P w K mg base 1 "_law_led" spLed) (c_l_still : Cal P w K mg base 1 "_law_still" spStill)
    (c_table_of : Cal P w K mg base 4 "table_of" spTabOf) (c_program_error : Cal P w K mg base 4 "program_error" spProgErr) (c_run : Cal P w K mg base 3 "run" spRunB) (c_backward : Cal P w K mg base 2 "backward" spBack) : GFn P w K mg base 7 f fd ["pot"] spLongG := by
  refine gfn_of F sc_l_is_long (fun vs H Q E h => ?_) (fun cdv A outer s H vs Q E hcd0 hg hr h => ?_)
  · obtain ⟨p, q, rfl, _⟩ := h
    rfl
  · obtain ⟨p, q, rfl, hP, k⟩ := h
    refine ⟨_, (pss_cons (ps_set (i := 1) sc_l_is_long.nd rfl (.inl rfl) (pe_c c_l_pick hr (by decide) rfl (pa_cons (pv 0) (pa_cons (pe_lst (pa_cons (pe_op op_pow pe_int pe_int) (pa_cons pe_int (pa_cons (pe_op op_pow pe_int pe_int) (pa_cons pe_int pa_nil))))) pa_nil))))
      (pss_cons (ps_set (i := 2) sc_l_is_long.nd rfl (.inr rfl) (pe_tup (pa_cons (pe_tup (pa_cons (pv 1) (pa_cons (pe_c c_l_pick hr (by decide) rfl (pa_cons (pv 0) (pa_cons (pe_lst (pa_cons (pv 1) (pa_cons pe_int (pa_cons (pe_op op_pow pe_int pe_int) pa_nil)))) pa_nil))) pa_nil))) (pa_cons (pe_tup (pa_cons (pe_tup (pa_cons pe_int (pa_cons pe_int pa_nil))) (pa_cons (pe_tup (pa_cons pe_int (pa_cons pe_int pa_nil))) pa_nil))) pa_nil))))
      (pss_cons (ps_set (i := 3) sc_l_is_long.nd rfl (.inl rfl) (pe_op op_repT (pe_callTy (call_tupleK K rfl) (by rfl) T.tuple (by decide +kernel) (pa_cons (pe_lc (own := [("turn", 8)]) rfl sc_l_is_long.nd (pi_range1 (by rfl) T.range (pa_cons pe_int pa_nil)) (blkOk_by (N := sc_l_is_longN) (sc := defScope s_l_is_long) (by decide +kernel)) (fun _ _ _ _ _ => (pg_name (i := 8) sc_l_is_long.nd rfl (by first | exact .inl rfl | exact .inr rfl))) (fun _ _ _ _ _ => pts_nil) (fun _ _ _ _ _ => (pe_c c_l_deed hr (by decide) rfl (pa_cons (pv 0) (pa_cons (pv 2) pa_nil))))) pa_nil)) pe_int))
      (pss_cons (ps_par (i := 4) (j := 5) rfl sc_l_is_long.nd rfl rfl (by decide) rfl rfl (pa_cons (pe_c c_l_made hr (by decide) rfl (pa_cons (pe_ix (ix_tupK K rfl) (pv 2) pe_int (fun _ _ => rfl)) (pa_cons (pv 3) pa_nil))) (pa_cons (pe_c c_l_contents hr (by decide) rfl (pa_cons (pv 0) (pa_cons (pe_ix (ix_tupK K rfl) (pv 2) pe_int (fun _ _ => rfl)) pa_nil))) pa_nil)) (by rfl))
      (pss_cons (ps_if (PW.pt (pw_or (pt_cmpR op_ne (pe_callB (call_reprK K rfl hg hr) (by rfl) T.repr boot_repr (pa_cons (pe_c c_table_of hr (by decide) rfl (pa_cons (pv 2) (pa_cons (pv 3) pa_nil))) pa_nil)) (pe_callB (call_reprK K rfl hg hr) (by rfl) T.repr boot_repr (pa_cons (pv 4) pa_nil)) (nomark _)) (pw_or1 (pt_cmpR op_notN (pe_c c_program_error hr (by decide) rfl (pa_cons (pv 2) (pa_cons (pv 3) pa_nil))) pe_non (nomark _))))) (pss_one (ps_ret pe_bl)) pss_nil)
      (pss_cons (ps_set (i := 6) sc_l_is_long.nd rfl (.inl rfl) (pe_c c_l_led hr (by decide) rfl (pa_cons (pe_ix (ix_tupK K rfl) (pv 2) pe_int (fun _ _ => rfl)) (pa_cons (pv 4) (pa_cons (pv 5) pa_nil)))))
      (pss_cons (ps_if (pt_cmpR op_ne (pe_callB (call_reprK K rfl hg hr) (by rfl) T.repr boot_repr (pa_cons (pe_lst (pa_cons (pe_c c_run hr (by decide) rfl (pa_cons (pv 2) (pa_cons (pv 3) (pa_cons (pv 5) pa_nil)))) (pa_cons (pe_c c_run hr (by decide) rfl (pa_cons (pv 2) (pa_cons (pe_c c_backward hr (by decide) rfl (pa_cons (pv 3) pa_nil)) (pa_cons (pv 6) pa_nil)))) pa_nil))) pa_nil)) (pe_callB (call_reprK K rfl hg hr) (by rfl) T.repr boot_repr (pa_cons (pe_lst (pa_cons (pv 6) (pa_cons (pv 5) pa_nil))) pa_nil)) (nomark _)) (pss_one (ps_ret pe_bl)) pss_nil)
      (pss_cons (ps_set (i := 7) sc_l_is_long.nd rfl (.inl rfl) (pe_tup (pa_cons (pe_tup (pa_cons (pe_ix (ix_tupK K rfl) (pe_tup (pa_cons pe_int (pa_cons pe_int (pa_cons pe_int (pa_cons pe_int pa_nil))))) (pe_c c_l_dip hr (by decide) rfl (pa_cons (pv 0) (pa_cons pe_int pa_nil))) (fun _ _ => rfl)) (pa_cons pe_int pa_nil))) (pa_cons (pe_tup (pa_cons (pe_tup (pa_cons pe_int (pa_cons pe_int pa_nil))) pa_nil)) pa_nil))))
      (pss_cons (ps_set (i := 3) sc_l_is_long.nd rfl (.inl rfl) (pe_op op_repT (pe_tup (pa_cons (pe_tup (pa_cons pe_int (pa_cons pe_int (pa_cons (pe_c c_l_step hr (by decide) rfl (pa_cons (pe_ix (ix_tupK K rfl) (pv 7) pe_int (fun _ _ => rfl)) (pa_cons pe_int (pa_cons pe_int pa_nil)))) pa_nil)))) pa_nil)) (pe_ix (ix_tupK K rfl) (pe_ix (ix_tupK K rfl) (pv 7) pe_int (fun _ _ => rfl)) pe_int (fun _ _ => rfl))))
      (pss_one (ps_ret (pe_cmpR op_eq (pe_callB (call_reprK K rfl hg hr) (by rfl) T.repr boot_repr (pa_cons (pe_c c_table_of hr (by decide) rfl (pa_cons (pv 7) (pa_cons (pv 3) pa_nil))) pa_nil)) (pe_callB (call_reprK K rfl hg hr) (by rfl) T.repr boot_repr (pa_cons (pe_c c_l_still hr (by decide) rfl (pa_cons (pe_ix (ix_tupK K rfl) (pv 7) pe_int (fun _ _ => rfl)) pa_nil)) pa_nil)) (nomark _))))))))))))), ?_⟩
    refine ⟨_, rfl, _, _, rfl, rfl, ⟨by decide, by decide, by decide⟩, _, _, rfl, rfl, ⟨by decide, by decide, by decide⟩, by show 4 ≤ sizeLine; decide, fun z1 nz1 => ?_⟩
    obtain ⟨x1, x2⟩ := hP.np nz1
    refine ⟨p, q, z1, _, rfl, hP.new nz1, upd_same, x1, x2, List.cons_ne_nil _ _, by show 4 < 1000; decide, fun v H1 hv P1 k1 => ?_⟩
    obtain ⟨sz, rfl, so⟩ := pick_sz (by decide +kernel) hv
    refine ⟨_, rfl, _, rfl, _, rfl, _, _, rfl, rfl, ⟨by decide, by decide, by decide⟩, by show 3 ≤ sizeLine; decide, fun z2 nz2 => ?_⟩
    obtain ⟨x3, x4⟩ := P1.np nz2
    refine ⟨p, q, z2, _, rfl, P1.new nz2, upd_same, x3, x4, List.cons_ne_nil _ _, by show 3 < 1000; decide, fun v H2 hv P2 k2 => ?_⟩
    obtain ⟨st, rfl, to⟩ : ∃ n : Int, v = .int n ∧ SizeOk n := by
      rcases List.mem_cons.mp hv with e | hv
      · exact ⟨sz, e, so⟩
      · exact pick_sz (l := [.int 6, .int (2 ^ (64 : Int).toNat)]) (by decide +kernel) hv
    refine ⟨by show 2 ≤ sizeLine; decide, fun t1 n1 => ⟨by show 2 ≤ sizeLine; decide, fun t2 n2 => ⟨by show 2 ≤ sizeLine; decide, fun t3 n3 => ⟨by show 2 ≤ sizeLine; decide, fun t4 n4 => ⟨by show 2 ≤ sizeLine; decide, fun t5 n5 => ?_⟩⟩⟩⟩⟩
    have im := mach2 (s := sz) (t := st) (H := H2) n1 n2 n3 n4 n5
    have P5 := ((((P2.new (o := .tup [.int sz, .int st]) n1).new (o := .tup [.int 0, .int 1]) n2).new (o := .tup [.int 1, .int 0]) n3).new (o := .tup [.ref t2, .ref t3]) n4).new (o := .tup [.ref t1, .ref t4]) n5
    generalize upd (upd (upd (upd (upd H2 t1 (.tup [.int sz, .int st])) t2 (.tup [.int 0, .int 1])) t3 (.tup [.int 1, .int 0])) t4 (.tup [.ref t2, .ref t3])) t5 (.tup [.ref t1, .ref t4]) = H5 at *
    have mok := two_mok so to
    obtain ⟨b0, xm, ma, g0, im0⟩ := mach0 im
    refine ⟨10, rfl, by decide, by decide, fun d nd => ?_⟩
    obtain ⟨nd1, nd2⟩ := P5.np nd
    refine lc_range (lo := 0) (n := (10 : Int).toNat) (fun i H' => Pt H' p q ∧ Kp p q H5 H' ∧ ∃ (vs : List V) (ds : List (Nat × Nat × Int)), H' d = some (.lst vs) ∧ ImAll H' vs (ds.map dD) ∧ ds.length = i ∧ ∀ x ∈ ds, DOk [sz, st] [(0, 1), (1, 0)] x)
      ⟨P5.new nd, (Kp.refl p q H5).new nd, [], [], upd_same, .nil, rfl, fun x hx => by cases hx⟩ ?_ ?_
    · rintro i H6 hi ⟨P6, k6, vs, ds, hd, ia3, hl, ok3⟩
      have lv : vs.length = ds.length := by rw [ia3.length, List.length_map]
      have hi' : i < 10 := hi
      refine ⟨rfl, _, rfl, _, rfl, p, q, _, _, _, rfl, P6, im.k (k6.tk P5), mok, List.cons_ne_nil _ _, fun u dd H7 imu dok P7 k7 => ?_⟩
      have hd4 : H7 d = some (.lst vs) := k7 _ _ nd1 nd2 hd
      have tk5 : Tk H7 (upd H7 d (.lst (vs ++ [u]))) := (Tk.refl H7).put hd4
      refine ⟨vs, hd4, small1000 (by omega), P7.put nd1 nd2, (k6.trans k7).put nd, vs ++ [u], ds ++ [dd], upd_same, ?_, by rw [List.length_append, List.length_singleton, hl], fun x hx => ?_⟩
      · rw [List.map_append]
        exact ((ia3.k (k7.tk P6)).k tk5).append (.cons (imu.k tk5) .nil)
      · rcases List.mem_append.mp hx with h | h
        · exact ok3 x h
        · rw [List.mem_singleton.mp h]
          exact dok
    rintro H6 ⟨P6, k6, vs, ds, hd, ia3, hl, ok3⟩
    have hl : ds.length = 10 := hl
    have lv : vs.length = 10 := by rw [ia3.length, List.length_map]; exact hl
    refine ⟨d, _, rfl, .inl ⟨SqL.of hd, fun u nu => ⟨u, 100, vs, rfl, rfl, SqT.of upd_same, ne_of_len lv, by show 2 ≤ 100; decide, by show 100 ≤ 1000; decide, by omega, fun r nr => ?_⟩⟩⟩
    have s7 : Same H6 (upd (upd H6 u (.tup vs)) r (.tup (List.replicate (100 : Int).toNat vs).flatten)) := Same.new (Same.new (Same.refl H6) nu) nr
    have il : Im (upd (upd H6 u (.tup vs)) r (.tup (List.replicate (100 : Int).toNat vs).flatten)) (.ref r) (pD (List.replicate 100 ds).flatten) := .tup upd_same (by
      have z := (ia3.k (Tk.same s7)).rep 100
      rwa [map_rep] at z)
    have P7 := P6.same s7
    have k7 := k6.trans (Kp.same s7)
    have im7 := im.k (k7.tk P5)
    have im07 := im0.k (k7.tk P5)
    have ma7 := (k7.tk P5) _ _ ma
    generalize upd (upd H6 u (.tup vs)) r (.tup (List.replicate (100 : Int).toNat vs).flatten) = H7 at *
    have ll : (List.replicate 100 ds).flatten.length = 1000 := by rw [len_rep, hl]
    have dok : ∀ x ∈ (List.replicate 100 ds).flatten, DOk [sz, st] [(0, 1), (1, 0)] x := fun x hx => ok3 x (mem_rep hx)
    generalize (List.replicate 100 ds).flatten = l at *
    have din : ∀ x ∈ l, DIn [sz, st] x := fun x hx => (dok x hx).din mok
    have gt := tabI_gt mok.size din
    refine ⟨_, rfl, t5, _, 0, _, rfl, rfl, SqT.of ma7, atI_nat (j := 0) g0, _, rfl, _, _, [sz, st], l, rfl, im07, il, mok.size, by show 2 ≤ 100; decide, din, fun x hx => (dok x hx).most, fun v1 H8 i1 sm8 => ?_⟩
    have P8 := P7.same sm8
    refine ⟨_, rfl, _, rfl, t5, _, 0, _, rfl, rfl, SqT.of (sm8 _ _ ma7), atI_nat (j := 0) g0, p, q, _, [sz, st], rfl, P8, Same.k sm8 im07, mok.size, by show 2 ≤ 900; decide, fun v2 hs H9 i2 ch P9 k9 => ⟨_, _, rfl, ?_⟩⟩
    have t9 := (Tk.same sm8).trans (k9.tk P8)
    have im9 := im7.k t9
    have im09 := im07.k t9
    have il9 := il.k t9
    have i1' := i1.k (k9.tk P8)
    obtain ⟨sa, _, _⟩ := tab_sh mok.size (by show 2 ≤ 6; decide) gt
    refine ⟨_, rfl, _, rfl, _, _, _, _, l, rfl, im9, mok, il9, dok, by omega, fun v3 HA i3 smA => ?_⟩
    refine ⟨_, _, rfl, i3.dp, sa, _, rfl, _, _, rfl, (Same.k smA i1').dp, sa, rfl, _, rfl, iteNS rfl ?_⟩
    refine ⟨_, rfl, _, rfl, _, _, _, _, l, rfl, Same.k smA im9, mok, Same.k smA il9, dok, by omega, fun HB smB => ⟨rfl, _, rfl, iteNS rfl ?_⟩⟩
    have sB := smA.trans smB
    have maB := sB _ _ (t9 _ _ ma7)
    refine ⟨_, rfl, t5, _, 0, _, rfl, rfl, SqT.of maB, atI_nat (j := 0) g0, _, rfl, _, rfl, _, _, _, [sz, st], _, hs, rfl, Same.k sB im09, Same.k sB i1', Same.k sB i2, mok.size, by show 2 ≤ 100; decide, gt.sh mok.size, ch.len, cok_most13 mok.size ch, fun v4 HC i4 smC => ?_⟩
    rw [led_tab mok.size din ch] at i4
    have cr := runP_cok (l := l) mok.size ch
    have sC := sB.trans smC
    refine ⟨_, rfl, _, rfl, _, rfl, _, _, _, _, _, l, hs, rfl, Same.k sC im9, mok, Same.k sC il9, dok, by omega, Same.k sC i2, ch, fun r1 HD ir1 smD => ?_⟩
    have sD' := sC.trans smD
    refine ⟨_, rfl, _, rfl, _, l, rfl, Same.k sD' il9, by omega, fun d hd => (dok d hd).most, fun bk HE ib smE => ?_⟩
    have sE := sD'.trans smE
    have i4E := Same.k (smD.trans smE) i4
    refine ⟨_, rfl, _, _, _, _, _, backI l, _, rfl, Same.k sE im9, mok, ib, back_dok dok, by rw [backI_len]; omega, i4E, cr, fun r2 HF ir2 smF => ⟨by show 2 ≤ sizeLine; decide, fun z8 nz8 => ?_⟩⟩
    rw [runP_back mok.size din ch] at ir2
    have sFG : Same HF (upd HF z8 (.lst [r1, r2])) := Same.new (Same.refl HF) nz8
    have c2 := cok2 mok.size rfl cr ch
    refine ⟨_, _, rfl, .lst (SqL.of upd_same) (.cons (Same.k ((smE.trans smF).trans sFG) ir1).dp (.cons (Same.k sFG ir2).dp .nil)), c2, ?_⟩
    have sG := (sE.trans smF).trans sFG
    have i4G := Same.k (smF.trans sFG) i4E
    generalize upd HF z8 (.lst [r1, r2]) = HG at *
    refine ⟨_, rfl, _, rfl, by show 2 ≤ sizeLine; decide, fun z9 nz9 => ?_⟩
    have sGH : Same HG (upd HG z9 (.lst [v4, v2])) := Same.new (Same.refl HG) nz9
    refine ⟨_, _, rfl, .lst (SqL.of upd_same) (.cons (Same.k sGH i4G).dp (.cons (Same.k (sG.trans sGH) i2).dp .nil)), c2, rfl, _, rfl, iteNS rfl ?_⟩
    have PI := (P9.same sG).same sGH
    generalize upd HG z9 (.lst [v4, v2]) = HI at *
    refine ⟨by show 4 ≤ sizeLine; decide, fun a1 na1 => ⟨_, rfl, p, q, 4, rfl, PI.new na1, by decide, by decide, fun r HJ r0 r4 PJ kJ => ?_⟩⟩
    obtain ⟨na2, na3⟩ := PI.np na1
    obtain ⟨n, n2, n97, so2, en⟩ := few_at r0 r4
    refine ⟨a1, _, r, _, rfl, rfl, SqT.of (kJ _ _ na2 na3 upd_same), en, ?_⟩
    refine ⟨by show 2 ≤ sizeLine; decide, fun f1 m1 => ⟨by show 2 ≤ sizeLine; decide, fun f2 m2 => ⟨by show 1 ≤ sizeLine; decide, fun f3 m3 => ⟨by show 2 ≤ sizeLine; decide, fun f4 m4 => ?_⟩⟩⟩⟩
    have imF := mach1 (s := (n : Int)) (t := 12) (H := HJ) m1 m2 m3 m4
    have PK := (((PJ.new (o := .tup [.int (n : Int), .int 12]) m1).new (o := .tup [.int 1, .int 0]) m2).new (o := .tup [.ref f2]) m3).new (o := .tup [.ref f1, .ref f3]) m4
    generalize upd (upd (upd (upd HJ f1 (.tup [.int (n : Int), .int 12])) f2 (.tup [.int 1, .int 0])) f3 (.tup [.ref f2])) f4 (.tup [.ref f1, .ref f3]) = HK at *
    have fok := one_mok so2 twelve
    obtain ⟨b1, xf, mf, g1, im1⟩ := mach0 imF
    refine ⟨_, rfl, f4, _, 0, _, rfl, rfl, SqT.of mf, atI_nat (j := 0) g1, _, [(n : Int), 12], 1, 0, 12, n, rfl, im1, rfl, rfl, by omega, Nat.lt_of_le_of_lt n97 (by decide), ?_⟩
    obtain ⟨tb, xb, eb, mb, ixb⟩ := im1.tuple
    subst eb
    obtain ⟨w0, gb, iw0⟩ := ixb.get (i := 0) rfl
    cases iw0
    refine ⟨by show 3 ≤ sizeLine; decide, fun u1 nu1 => ⟨by show 1 ≤ sizeLine; decide, fun u2 nu2 => ?_⟩⟩
    have sKL : Same HK (upd (upd HK u1 (.tup [.int 1, .int 0, .int ((stp 12 n : Nat) : Int)])) u2 (.tup [.ref u1])) := Same.new (Same.new (Same.refl HK) nu1) nu2
    refine ⟨_, rfl, f4, _, 0, _, rfl, rfl, SqT.of (sKL _ _ mf), atI_nat (j := 0) g1, tb, _, 0, _, rfl, rfl, SqT.of (sKL _ _ mb), atI_nat (j := 0) gb, ?_⟩
    refine ⟨u2, (n : Int), [.ref u1], rfl, rfl, SqT.of upd_same, List.cons_ne_nil _ _, by omega, by omega, by show 1 ≤ 1000; decide, fun z nz => ?_⟩
    have hu1 : (upd (upd HK u1 (.tup [.int 1, .int 0, .int ((stp 12 n : Nat) : Int)])) u2 (.tup [.ref u1])) u1 = some (.tup [.int 1, .int 0, .int ((stp 12 n : Nat) : Int)]) := keepN upd_same nu2
    have idd : Im (upd (upd HK u1 (.tup [.int 1, .int 0, .int ((stp 12 n : Nat) : Int)])) u2 (.tup [.ref u1])) (.ref u1) (dD (1, 0, ((stp 12 n : Nat) : Int))) := .tup hu1 (.cons (.int _) (.cons (.int _) (.cons (.int _) .nil)))
    generalize upd (upd HK u1 (.tup [.int 1, .int 0, .int ((stp 12 n : Nat) : Int)])) u2 (.tup [.ref u1]) = HL at *
    have sLM : Same HL (upd HL z (.tup (List.replicate (n : Int).toNat [.ref u1]).flatten)) := Same.new (Same.refl HL) nz
    have ipl : Im (upd HL z (.tup (List.replicate (n : Int).toNat [.ref u1]).flatten)) (.ref z) (pD (List.replicate n (1, 0, ((stp 12 n : Nat) : Int)))) := by
      refine .tup upd_same ?_
      have z0 := (ImAll.cons (Same.k sLM idd) .nil).rep n
      rw [show [dD (1, 0, ((stp 12 n : Nat) : Int))] = [((1, 0, ((stp 12 n : Nat) : Int)) : Nat × Nat × Int)].map dD from rfl, map_rep, rep_one (α := Nat × Nat × Int)] at z0
      exact z0
    have sKM := sKL.trans sLM
    have imM := Same.k sKM imF
    have PM := PK.same sKM
    have mfM := sKM _ _ mf
    have im1M := Same.k sKM im1
    generalize upd HL z (.tup (List.replicate (n : Int).toNat [.ref u1]).flatten) = HM at *
    have fd := few_ok so2 n2 n97
    have gs := GT.still (ss := [(n : Int), 12]) fok.size
    obtain ⟨sb, _, _⟩ := tab_sh fok.size (by show 2 ≤ 6; decide) gs
    refine ⟨_, rfl, _, rfl, _, _, _, _, _, rfl, imM, fok, ipl, fd, by rw [List.length_replicate]; omega, fun v5 HN i5 sm5 => ?_⟩
    rw [tab_size fok.size ((fd _ (List.mem_replicate.mpr ⟨by omega, rfl⟩)).din fok) rfl] at i5
    refine ⟨_, _, rfl, i5.dp, sb, _, rfl, f4, _, 0, _, rfl, rfl, SqT.of (sm5 _ _ mfM), atI_nat (j := 0) g1, _, _, rfl, Same.k sm5 im1M, by show 2 ≤ 100; decide, fun v6 HO i6 sm6 => ?_⟩
    refine ⟨_, _, rfl, i6.dp, sb, ?_⟩
    have kk := k _ ((PM.same sm5).same sm6)
    dsimp only [rEq]
    rw [decide_eq_true rfl]
    exact ⟨rfl, kk⟩

theorem toNat_dvd {a : Nat} {z : Int} (z0 : 0 ≤ z) (h : a ∣ z.toNat) : (a : Int) ∣ z := by
  obtain ⟨n, rfl⟩ := Int.eq_ofNat_of_zero_le z0
  exact Int.natCast_dvd_natCast.mpr h
theorem terr_right {ss : List Int} (ok : ∀ s ∈ ss, SizeOk s) {t : List (List Int)} (g : GT ss t) : Terr ss (tD t) .none := by
  have hl := g.sq.len
  refine .none ?_ fun i j hi hj => ?_
  · simp only [isForm, Bool.and_eq_true, List.length_map, decide_eq_true_eq]
    refine ⟨hl, List.all_eq_true.mpr fun x hx => ?_⟩
    obtain ⟨r, hr, rfl⟩ := List.mem_map.mp hx
    simp only [isRow, sD, List.length_map, decide_eq_true_eq]
    exact g.sq.row r hr
  · obtain ⟨r, er, lr⟩ := g.sq.get hi
    obtain ⟨x, ex⟩ := get_some (ss := r) (show j < r.length by omega)
    have q1 : (t.map sD)[i]? = some (.tuple (r.map PyData.int)) := by rw [List.getElem?_map, er]; rfl
    have q2 : (r.map PyData.int)[j]? = some (.int x) := by rw [List.getElem?_map, ex]; rfl
    rw [at_get q1 q2]
    have exx : en t i j = x := by
      rw [en_of er, List.getD_eq_getElem?_getD, ex]
      rfl
    obtain ⟨y, ey, y2, y3, yn⟩ := sz_nat ok hi
    obtain ⟨z, ez, z2, z3, zn⟩ := sz_nat ok hj
    have lo := g.low i j _ ey hj
    rw [exx] at lo
    unfold entB
    rw [yn, zn, Bool.and_eq_true]
    refine ⟨?_, ?_⟩
    · simp only [isBl, Bool.and_eq_true, decide_eq_true_eq]
      exact lo
    · rw [Bool.or_eq_true]
      refine .inr (decide_eq_true ?_)
      have hh := g.hit i j _ _ ey ez
      rw [exx] at hh
      obtain ⟨n, hn⟩ := Int.eq_ofNat_of_zero_le lo.1
      subst hn
      have hh2 : y ∣ n * z := by
        have h3 : ((y : Nat) : Int) ∣ ((n * z : Nat) : Int) := by
          rw [Int.natCast_mul]
          exact hh
        exact Int.natCast_dvd_natCast.mp h3
      exact Int.emod_eq_zero_of_dvd (Int.natCast_dvd_natCast.mpr ((stp_iff (by omega) n).mp hh2))
theorem tabErr_of {vs : List V} {H : Hp} {Q : VK} {E : XK} (h : spTabErr vs H Q E) : spTerr vs H Q E := by
  obtain ⟨m, y, ss, ws, t, rfl, im, ok, iy, g, k⟩ := h
  refine ⟨m, y, ss, ws, _, rfl, im, ok, iy.dg.dv, fun rows e => ?_, fun u e H' te iu s => ?_⟩
  · have z := congrArg (fun d => match d with | PyData.tuple l => l.length | _ => 0) e
    have z2 : (t.map sD).length = rows.length := z
    rw [List.length_map, g.sq.len] at z2
    have := ok.six
    omega
  · rw [te.det (terr_right ok.size g)] at iu
    cases iu
    exact k H' s
theorem perr_right {ss : List Int} {ws : List (Nat × Nat)} {l : List (Nat × Nat × Int)} (h : ∀ d ∈ l, DOk ss ws d) : Perr ss ws (pD l) .none := by
  refine .none fun i y e => ?_
  obtain ⟨d, hd, rfl⟩ := map_get (f := dD) e
  have dk := h d (List.mem_of_getElem? hd)
  obtain ⟨a, b, ea, eb, dv⟩ := dk.step
  show derr ss ws (.tuple [.int (d.1 : Int), .int (d.2.1 : Int), .int d.2.2]) = .none
  unfold derr
  dsimp only
  rw [if_pos, if_neg]
  · intro z
    rcases z with z | z
    · have := dk.most
      omega
    · refine z ?_
      unfold stI
      dsimp only
      rw [Int.toNat_natCast, Int.toNat_natCast, List.getD_eq_getElem?_getD, ea, List.getD_eq_getElem?_getD, eb]
      exact Int.emod_eq_zero_of_dvd dv
  · unfold hasW
    exact List.any_eq_true.mpr ⟨_, dk.wire, by simp⟩
theorem progErr_of {vs : List V} {H : Hp} {Q : VK} {E : XK} (h : spProgErr vs H Q E) : spJudge cP Perr vs H Q E := by
  obtain ⟨m, y, ss, ws, l, rfl, im, ok, iy, dk, ll, k⟩ := h
  refine ⟨m, y, ss, ws, _, An, rfl, im, ok, De.of_im iy, fun rows e => ?_, fun u e H' te iu s => ?_⟩
  · have z2 : (l.map dD).length = rows.length := congrArg (fun d => match d with | PyData.tuple l => l.length | _ => 0) e
    rw [List.length_map] at z2
    omega
  · rw [te.det (perr_right dk)] at iu
    cases iu
    exact k H' s
theorem kg21_relU {vs zs : List V} {us ws : List Value} (h1 : Vals vs us) (h2 : Vals zs ws) : Vals (kg21 vs zs) (kg21 us ws) := by
  cases h1 with
  | cons _ _ => exact .nil
  | nil =>
    cases h2 with
    | nil => exact .nil
    | cons a h2 =>
      cases h2 with
      | nil => exact .nil
      | cons b h2 =>
        cases h2 with
        | nil => exact .cons b (.cons a .nil)
        | cons _ _ => exact .nil
theorem k_table_of {f : Addr} {fd : FuncData} (F : Fun K "table_of" "table_of" s_table_of f fd) : KBinds K fd ["machine", "program"] ["program", "machine"] kg21 kg21 := by
  obtain ⟨oc, od, kV, doc, pm, an, cdv, ct, osl, rfl, lk, hcd⟩ := F.ex
  refine ⟨fun s us ws _ hl => ?_, kg21_relU⟩
  match us, ws, hl with
  | [], [a, b], _ => exact .of_eq rfl

def spLong : Sp := fun vs H Q _ => ∃ (p q : Addr), vs = [.ref p] ∧ Pt H p q ∧ ∀ H', Pt H' p q → Q (.bl true) H'
abbrev sc_lawN : List Str := ["script", "pot", "turn", "machine", "one", "other"]
theorem sc_law : FnScope sc_lawN ["script"] (defScope s_law) := ⟨rfl, rfl, rfl, by decide +kernel, rfl, by decide +kernel, by decide +kernel⟩
theorem ok_law {f : Addr} {fd : FuncData} (F : Fun K "law" "law" s_law f fd) (T : Blt mg) (c_l_pot : Cal P w K mg base 1 "_law_pot" (spPot K)) (c_l_dip : Cal P w K mg base 1 "_law_dip" spDip) (c_l_machine : Cal P w K mg base 5 "_law_machine" spMachine) (c_l_program : Cal P w K mg base 4 "_law_program" spProgram)
    (c_l_is_right : GCal P w K mg base 7 "_law_is_right" spRight) (c_l_is_long : GCal P w K mg base 7 "_law_is_long" spLong) : GFn P w K mg base 8 f fd ["script"] (spLaw K) := by
  refine gfn_of F sc_law (fun vs H Q E h => ?_) (fun cdv A outer s H vs Q E hcd0 hg hr h => ?_)
  · obtain ⟨a, ns, rfl, _⟩ := h
    rfl
  · obtain ⟨sa, ns, rfl, hS, hlen, k⟩ := h
    refine ⟨_, (pss_cons (ps_set (i := 1) sc_law.nd rfl (.inl rfl) (pe_c c_l_pot hr (by decide) rfl (pa_cons (pv 0) pa_nil)))
      (pss_cons (ps_for PassesOwn.never rfl (pi_range1 (by rfl) T.range (pa_cons pe_int pa_nil)) (pg_name (i := 2) sc_law.nd rfl (.inl rfl)) (pss_cons (ps_set (i := 3) sc_law.nd rfl (.inl rfl) (pe_c c_l_machine hr (by decide) rfl (pa_cons (pv 1) (pa_cons (pe_cmpR op_eq (pe_op op_mod (pv 2) pe_int) pe_int (nomark _)) pa_nil))))
      (pss_cons (ps_par (i := 4) (j := 5) rfl sc_law.nd rfl rfl (by decide) rfl rfl (pa_cons (pe_c c_l_program hr (by decide) rfl (pa_cons (pv 1) (pa_cons (pv 3) (pa_cons pe_int pa_nil)))) (pa_cons (pe_c c_l_program hr (by decide) rfl (pa_cons (pv 1) (pa_cons (pv 3) (pa_cons pe_int pa_nil)))) pa_nil)) (by rfl))
      (pss_one (ps_if (pt_not (pt_val (pe_g c_l_is_right hg hr (by decide) rfl (pa_cons (pv 1) (pa_cons (pv 3) (pa_cons (pv 4) (pa_cons (pv 5) pa_nil))))))) (pss_one (ps_ret pe_bl)) pss_nil)))))
      (pss_one (ps_ret (pe_or (pe_cmpR op_gt (pe_c c_l_dip hr (by decide) rfl (pa_cons (pv 1) (pa_cons pe_int pa_nil))) pe_int (nomark _)) (pe_one (pe_g c_l_is_long hg hr (by decide) rfl (pa_cons (pv 1) pa_nil)))))))), ?_⟩
    refine ⟨_, rfl, sa, ns, rfl, hS, hlen, fun p q H1 P1 sm1 np nq => ?_⟩
    refine ⟨5, rfl, by decide, by decide, for_range (lo := 0) (n := 5) (fun _ σ H' => ∃ v2 v3 v4 v5 : Option V, σ = [some (.ref sa), some (.ref p), v2, v3, v4, v5] ∧ Pt H' p q)
      ⟨none, none, none, none, rfl, P1⟩ ?_ ?_⟩
    · rintro t σ H2 ht ⟨v2, v3, v4, v5, rfl, P2⟩
      refine ⟨_, rfl, _, rfl, _, _, rfl, rfl, (by decide : (0 : Int) < 2), rfl, p, q, _, rfl, P2, fun mv ss ws H3 im ok P3 k3 => ?_⟩
      refine ⟨_, rfl, _, rfl, p, q, _, ss, ws, 10, rfl, P3, im, ok, by decide, fun x l1 H4 i1 d1 n1 P4 k4 => ?_⟩
      have im4 := im.k (k4.tk P3)
      refine ⟨_, rfl, _, rfl, p, q, _, ss, ws, 6, rfl, P4, im4, ok, by decide, fun y l2 H5 i2 d2 n2 P5 k5 => ⟨_, _, rfl, ?_⟩⟩
      have t5 := k5.tk P4
      refine ⟨_, rfl, _, rfl, _, rfl, _, rfl, p, q, _, _, _, ss, ws, l1, l2, rfl, P5, im4.k t5, ok, i1.k t5, i2, d1, d2, by omega, by omega, fun H6 P6 k6 => ⟨_, rfl, iteF ⟨_, _, _, _, rfl, P6⟩⟩⟩
    · rintro σ H2 ⟨v2, v3, v4, v5, rfl, P2⟩
      refine ⟨_, rfl, p, q, _, rfl, P2, by decide, by decide, fun r H3 r0 r1 P3 k3 => ⟨_, _, rfl, rfl, _, rfl, ?_⟩⟩
      cases hc : decide (r > 0) with
      | true => exact iteT (k H3)
      | false => exact iteF ⟨_, rfl, p, q, rfl, P3, fun H4 _ => k H4⟩


end
/-! ### what the top has written -/
theorem all_mk {l : PySem.W.OpenLaw} {w : World} {K : PySem.W.Frag} {h : Heap} {mg : Str → Option Value} {fa f1 f2 f3 f4 f5 f6 f7 f8 f9 f10 f11 f12 f13 f14 f15 f16 f17 f18 f19 f20 f21 f22 f23 f24 f25 f26 f27 f28 f29 f30 f31 f32 f33 f34 f35 f36 f37 f38 f39 f40 f41 f42 f43 f44 f45 f46 f47 f48 f49 f50 f51 f52 f53 f54 f55 at0 : Addr} (X : K.In h) (G : h.Ns mainGlobals mg) (hfa : mg "law" = some (.ref fa))
    {od1 an1 od2 an2 od3 an3 od4 an4 od5 an5 od6 an6 od7 an7 od8 an8 od9 an9 od10 an10 od11 an11 od12 an12 od13 an13 od14 an14 od15 an15 od16 an16 od17 an17 od18 an18 od19 an19 od20 an20 od21 an21 od22 an22 od23 an23 od24 an24 od25 an25 od26 an26 od27 an27 od28 an28 od29 an29 od30 an30 od31 an31 od32 an32 od33 an33 od34 an34 od35 an35 od36 an36 od37 an37 od38 an38 od39 an39 od40 an40 od41 an41 od42 an42 od43 an43 od44 an44 od45 an45 od46 an46 od47 an47 od48 an48 od49 an49 od50 an50 od51 an51 od52 an52 od53 an53 od54 an54 od55 an55 : Option Addr} {sl1 sl2 sl3 sl4 sl5 sl6 sl7 sl8 sl9 sl10 sl11 sl12 sl13 sl14 sl15 sl16 sl17 sl18 sl19 sl20 sl21 sl22 sl23 sl24 sl25 sl26 sl27 sl28 sl29 sl30 sl31 sl32 sl33 sl34 sl35 sl36 sl37 sl38 sl39 sl40 sl41 sl42 sl43 sl44 sl45 sl46 sl47 sl48 sl49 sl50 sl51 sl52 sl53 sl54 sl55 : Array (Option Value)} {oc1 kV1 dc1 pm1 cd1 ct1 oc2 kV2 dc2 pm2 cd2 ct2 oc3 kV3 dc3 pm3 cd3 ct3 oc4 kV4 dc4 pm4 cd4 ct4 oc5 kV5 dc5 pm5 cd5 ct5 oc6 kV6 dc6 pm6 cd6 ct6 oc7 kV7 dc7 pm7 cd7 ct7 oc8 kV8 dc8 pm8 cd8 ct8 oc9 kV9 dc9 pm9 cd9 ct9 oc10 kV10 dc10 pm10 cd10 ct10 oc11 kV11 dc11 pm11 cd11 ct11 oc12 kV12 dc12 pm12 cd12 ct12 oc13 kV13 dc13 pm13 cd13 ct13 oc14 kV14 dc14 pm14 cd14 ct14 oc15 kV15 dc15 pm15 cd15 ct15 oc16 kV16 dc16 pm16 cd16 ct16 oc17 kV17 dc17 pm17 cd17 ct17 oc18 kV18 dc18 pm18 cd18 ct18 oc19 kV19 dc19 pm19 cd19 ct19 oc20 kV20 dc20 pm20 cd20 ct20 oc21 kV21 dc21 pm21 cd21 ct21 oc22 kV22 dc22 pm22 cd22 ct22 oc23 kV23 dc23 pm23 cd23 ct23 oc24 kV24 dc24 pm24 cd24 ct24 oc25 kV25 dc25 pm25 cd25 ct25 oc26 kV26 dc26 pm26 cd26 ct26 oc27 kV27 dc27 pm27 cd27 ct27 oc28 kV28 dc28 pm28 cd28 ct28 oc29 kV29 dc29 pm29 cd29 ct29 oc30 kV30 dc30 pm30 cd30 ct30 oc31 kV31 dc31 pm31 cd31 ct31 oc32 kV32 dc32 pm32 cd32 ct32 oc33 kV33 dc33 pm33 cd33 ct33 oc34 kV34 dc34 pm34 cd34 ct34 oc35 kV35 dc35 pm35 cd35 ct35 oc36 kV36 dc36 pm36 cd36 ct36 oc37 kV37 dc37 pm37 cd37 ct37 oc38 kV38 dc38 pm38 cd38 ct38 oc39 kV39 dc39 pm39 cd39 ct39 oc40 kV40 dc40 pm40 cd40 ct40 oc41 kV41 dc41 pm41 cd41 ct41 oc42 kV42 dc42 pm42 cd42 ct42 oc43 kV43 dc43 pm43 cd43 ct43 oc44 kV44 dc44 pm44 cd44 ct44 oc45 kV45 dc45 pm45 cd45 ct45 oc46 kV46 dc46 pm46 cd46 ct46 oc47 kV47 dc47 pm47 cd47 ct47 oc48 kV48 dc48 pm48 cd48 ct48 oc49 kV49 dc49 pm49 cd49 ct49 oc50 kV50 dc50 pm50 cd50 ct50 oc51 kV51 dc51 pm51 cd51 ct51 oc52 kV52 dc52 pm52 cd52 ct52 oc53 kV53 dc53 pm53 cd53 ct53 oc54 kV54 dc54 pm54 cd54 ct54 oc55 kV55 dc55 pm55 cd55 ct55 : Value} {ot0 : Obj} {it0 : Array Value} {nt0 : Nat} {tF tM : Tok}
    (a1 : PySem.W.nsIn K mainGlobals "is_an_integer" = some (some (.ref f1))) (l1 : K.lookup f1 = some ⟨oc1, od1, .func (PySem.W.fnOf "is_an_integer" "is_an_integer" (defArgs s_is_an_integer) (defBody s_is_an_integer) (defScope s_is_an_integer) .none kV1 dc1 pm1 an1 cd1 ct1), sl1⟩) (c1 : PySem.W.codeIn K cd1 "is_an_integer" = true) (k1 : PySem.W.keepIn K (.ref f1) = true)
    (a2 : PySem.W.nsIn K mainGlobals "is_below" = some (some (.ref f2))) (l2 : K.lookup f2 = some ⟨oc2, od2, .func (PySem.W.fnOf "is_below" "is_below" (defArgs s_is_below) (defBody s_is_below) (defScope s_is_below) .none kV2 dc2 pm2 an2 cd2 ct2), sl2⟩) (c2 : PySem.W.codeIn K cd2 "is_below" = true) (k2 : PySem.W.keepIn K (.ref f2) = true)
    (a3 : PySem.W.nsIn K mainGlobals "how_often" = some (some (.ref f3))) (l3 : K.lookup f3 = some ⟨oc3, od3, .func (PySem.W.fnOf "how_often" "how_often" (defArgs s_how_often) (defBody s_how_often) (defScope s_how_often) .none kV3 dc3 pm3 an3 cd3 ct3), sl3⟩) (c3 : PySem.W.codeIn K cd3 "how_often" = true) (k3 : PySem.W.keepIn K (.ref f3) = true)
    (a4 : PySem.W.nsIn K mainGlobals "power_of" = some (some (.ref f4))) (l4 : K.lookup f4 = some ⟨oc4, od4, .func (PySem.W.fnOf "power_of" "power_of" (defArgs s_power_of) (defBody s_power_of) (defScope s_power_of) .none kV4 dc4 pm4 an4 cd4 ct4), sl4⟩) (c4 : PySem.W.codeIn K cd4 "power_of" = true) (k4 : PySem.W.keepIn K (.ref f4) = true)
    (a5 : PySem.W.nsIn K mainGlobals "inverse" = some (some (.ref f5))) (l5 : K.lookup f5 = some ⟨oc5, od5, .func (PySem.W.fnOf "inverse" "inverse" (defArgs s_inverse) (defBody s_inverse) (defScope s_inverse) .none kV5 dc5 pm5 an5 cd5 ct5), sl5⟩) (c5 : PySem.W.codeIn K cd5 "inverse" = true) (k5 : PySem.W.keepIn K (.ref f5) = true)
    (a6 : PySem.W.nsIn K mainGlobals "primes_of" = some (some (.ref f6))) (l6 : K.lookup f6 = some ⟨oc6, od6, .func (PySem.W.fnOf "primes_of" "primes_of" (defArgs s_primes_of) (defBody s_primes_of) (defScope s_primes_of) .none kV6 dc6 pm6 an6 cd6 ct6), sl6⟩) (c6 : PySem.W.codeIn K cd6 "primes_of" = true) (k6 : PySem.W.keepIn K (.ref f6) = true)
    (a7 : PySem.W.nsIn K mainGlobals "depth" = some (some (.ref f7))) (l7 : K.lookup f7 = some ⟨oc7, od7, .func (PySem.W.fnOf "depth" "depth" (defArgs s_depth) (defBody s_depth) (defScope s_depth) .none kV7 dc7 pm7 an7 cd7 ct7), sl7⟩) (c7 : PySem.W.codeIn K cd7 "depth" = true) (k7 : PySem.W.keepIn K (.ref f7) = true)
    (a8 : PySem.W.nsIn K mainGlobals "whole_power" = some (some (.ref f8))) (l8 : K.lookup f8 = some ⟨oc8, od8, .func (PySem.W.fnOf "whole_power" "whole_power" (defArgs s_whole_power) (defBody s_whole_power) (defScope s_whole_power) .none kV8 dc8 pm8 an8 cd8 ct8), sl8⟩) (c8 : PySem.W.codeIn K cd8 "whole_power" = true) (k8 : PySem.W.keepIn K (.ref f8) = true)
    (a9 : PySem.W.nsIn K mainGlobals "part_of" = some (some (.ref f9))) (l9 : K.lookup f9 = some ⟨oc9, od9, .func (PySem.W.fnOf "part_of" "part_of" (defArgs s_part_of) (defBody s_part_of) (defScope s_part_of) .none kV9 dc9 pm9 an9 cd9 ct9), sl9⟩) (c9 : PySem.W.codeIn K cd9 "part_of" = true) (k9 : PySem.W.keepIn K (.ref f9) = true)
    (a10 : PySem.W.nsIn K mainGlobals "step" = some (some (.ref f10))) (l10 : K.lookup f10 = some ⟨oc10, od10, .func (PySem.W.fnOf "step" "step" (defArgs s_step) (defBody s_step) (defScope s_step) .none kV10 dc10 pm10 an10 cd10 ct10), sl10⟩) (c10 : PySem.W.codeIn K cd10 "step" = true) (k10 : PySem.W.keepIn K (.ref f10) = true)
    (a11 : PySem.W.nsIn K mainGlobals "square_of" = some (some (.ref f11))) (l11 : K.lookup f11 = some ⟨oc11, od11, .func (PySem.W.fnOf "square_of" "square_of" (defArgs s_square_of) (defBody s_square_of) (defScope s_square_of) .none kV11 dc11 pm11 an11 cd11 ct11), sl11⟩) (c11 : PySem.W.codeIn K cd11 "square_of" = true) (k11 : PySem.W.keepIn K (.ref f11) = true)
    (a12 : PySem.W.nsIn K mainGlobals "determinant" = some (some (.ref f12))) (l12 : K.lookup f12 = some ⟨oc12, od12, .func (PySem.W.fnOf "determinant" "determinant" (defArgs s_determinant) (defBody s_determinant) (defScope s_determinant) .none kV12 dc12 pm12 an12 cd12 ct12), sl12⟩) (c12 : PySem.W.codeIn K cd12 "determinant" = true) (k12 : PySem.W.keepIn K (.ref f12) = true)
    (a13 : PySem.W.nsIn K mainGlobals "row_with_entry" = some (some (.ref f13))) (l13 : K.lookup f13 = some ⟨oc13, od13, .func (PySem.W.fnOf "row_with_entry" "row_with_entry" (defArgs s_row_with_entry) (defBody s_row_with_entry) (defScope s_row_with_entry) .none kV13 dc13 pm13 an13 cd13 ct13), sl13⟩) (c13 : PySem.W.codeIn K cd13 "row_with_entry" = true) (k13 : PySem.W.keepIn K (.ref f13) = true)
    (a14 : PySem.W.nsIn K mainGlobals "inverse_square" = some (some (.ref f14))) (l14 : K.lookup f14 = some ⟨oc14, od14, .func (PySem.W.fnOf "inverse_square" "inverse_square" (defArgs s_inverse_square) (defBody s_inverse_square) (defScope s_inverse_square) .none kV14 dc14 pm14 an14 cd14 ct14), sl14⟩) (c14 : PySem.W.codeIn K cd14 "inverse_square" = true) (k14 : PySem.W.keepIn K (.ref f14) = true)
    (a15 : PySem.W.nsIn K mainGlobals "row_less" = some (some (.ref f15))) (l15 : K.lookup f15 = some ⟨oc15, od15, .func (PySem.W.fnOf "row_less" "row_less" (defArgs s_row_less) (defBody s_row_less) (defScope s_row_less) .none kV15 dc15 pm15 an15 cd15 ct15), sl15⟩) (c15 : PySem.W.codeIn K cd15 "row_less" = true) (k15 : PySem.W.keepIn K (.ref f15) = true)
    (a16 : PySem.W.nsIn K mainGlobals "table_error" = some (some (.ref f16))) (l16 : K.lookup f16 = some ⟨oc16, od16, .func (PySem.W.fnOf "table_error" "table_error" (defArgs s_table_error) (defBody s_table_error) (defScope s_table_error) .none kV16 dc16 pm16 an16 cd16 ct16), sl16⟩) (c16 : PySem.W.codeIn K cd16 "table_error" = true) (k16 : PySem.W.keepIn K (.ref f16) = true)
    (a17 : PySem.W.nsIn K mainGlobals "entry_error" = some (some (.ref f17))) (l17 : K.lookup f17 = some ⟨oc17, od17, .func (PySem.W.fnOf "entry_error" "entry_error" (defArgs s_entry_error) (defBody s_entry_error) (defScope s_entry_error) .none kV17 dc17 pm17 an17 cd17 ct17), sl17⟩) (c17 : PySem.W.codeIn K cd17 "entry_error" = true) (k17 : PySem.W.keepIn K (.ref f17) = true)
    (a18 : PySem.W.nsIn K mainGlobals "is_row" = some (some (.ref f18))) (l18 : K.lookup f18 = some ⟨oc18, od18, .func (PySem.W.fnOf "is_row" "is_row" (defArgs s_is_row) (defBody s_is_row) (defScope s_is_row) .none kV18 dc18 pm18 an18 cd18 ct18), sl18⟩) (c18 : PySem.W.codeIn K cd18 "is_row" = true) (k18 : PySem.W.keepIn K (.ref f18) = true)
    (a19 : PySem.W.nsIn K mainGlobals "is_entry" = some (some (.ref f19))) (l19 : K.lookup f19 = some ⟨oc19, od19, .func (PySem.W.fnOf "is_entry" "is_entry" (defArgs s_is_entry) (defBody s_is_entry) (defScope s_is_entry) .none kV19 dc19 pm19 an19 cd19 ct19), sl19⟩) (c19 : PySem.W.codeIn K cd19 "is_entry" = true) (k19 : PySem.W.keepIn K (.ref f19) = true)
    (a20 : PySem.W.nsIn K mainGlobals "still" = some (some (.ref f20))) (l20 : K.lookup f20 = some ⟨oc20, od20, .func (PySem.W.fnOf "still" "still" (defArgs s_still) (defBody s_still) (defScope s_still) .none kV20 dc20 pm20 an20 cd20 ct20), sl20⟩) (c20 : PySem.W.codeIn K cd20 "still" = true) (k20 : PySem.W.keepIn K (.ref f20) = true)
    (a21 : PySem.W.nsIn K mainGlobals "table_of" = some (some (.ref f21))) (l21 : K.lookup f21 = some ⟨oc21, od21, .func (PySem.W.fnOf "table_of" "table_of" (defArgs s_table_of) (defBody s_table_of) (defScope s_table_of) .none kV21 dc21 pm21 an21 cd21 ct21), sl21⟩) (c21 : PySem.W.codeIn K cd21 "table_of" = true) (k21 : PySem.W.keepIn K (.ref f21) = true)
    (a22 : PySem.W.nsIn K mainGlobals "both" = some (some (.ref f22))) (l22 : K.lookup f22 = some ⟨oc22, od22, .func (PySem.W.fnOf "both" "both" (defArgs s_both) (defBody s_both) (defScope s_both) .none kV22 dc22 pm22 an22 cd22 ct22), sl22⟩) (c22 : PySem.W.codeIn K cd22 "both" = true) (k22 : PySem.W.keepIn K (.ref f22) = true)
    (a23 : PySem.W.nsIn K mainGlobals "moved" = some (some (.ref f23))) (l23 : K.lookup f23 = some ⟨oc23, od23, .func (PySem.W.fnOf "moved" "moved" (defArgs s_moved) (defBody s_moved) (defScope s_moved) .none kV23 dc23 pm23 an23 cd23 ct23), sl23⟩) (c23 : PySem.W.codeIn K cd23 "moved" = true) (k23 : PySem.W.keepIn K (.ref f23) = true)
    (a24 : PySem.W.nsIn K mainGlobals "product_sum" = some (some (.ref f24))) (l24 : K.lookup f24 = some ⟨oc24, od24, .func (PySem.W.fnOf "product_sum" "product_sum" (defArgs s_product_sum) (defBody s_product_sum) (defScope s_product_sum) .none kV24 dc24 pm24 an24 cd24 ct24), sl24⟩) (c24 : PySem.W.codeIn K cd24 "product_sum" = true) (k24 : PySem.W.keepIn K (.ref f24) = true)
    (a25 : PySem.W.nsIn K mainGlobals "can_be_undone" = some (some (.ref f25))) (l25 : K.lookup f25 = some ⟨oc25, od25, .func (PySem.W.fnOf "can_be_undone" "can_be_undone" (defArgs s_can_be_undone) (defBody s_can_be_undone) (defScope s_can_be_undone) .none kV25 dc25 pm25 an25 cd25 ct25), sl25⟩) (c25 : PySem.W.codeIn K cd25 "can_be_undone" = true) (k25 : PySem.W.keepIn K (.ref f25) = true)
    (a26 : PySem.W.nsIn K mainGlobals "layers" = some (some (.ref f26))) (l26 : K.lookup f26 = some ⟨oc26, od26, .func (PySem.W.fnOf "layers" "layers" (defArgs s_layers) (defBody s_layers) (defScope s_layers) .none kV26 dc26 pm26 an26 cd26 ct26), sl26⟩) (c26 : PySem.W.codeIn K cd26 "layers" = true) (k26 : PySem.W.keepIn K (.ref f26) = true)
    (a27 : PySem.W.nsIn K mainGlobals "undone" = some (some (.ref f27))) (l27 : K.lookup f27 = some ⟨oc27, od27, .func (PySem.W.fnOf "undone" "undone" (defArgs s_undone) (defBody s_undone) (defScope s_undone) .none kV27 dc27 pm27 an27 cd27 ct27), sl27⟩) (c27 : PySem.W.codeIn K cd27 "undone" = true) (k27 : PySem.W.keepIn K (.ref f27) = true)
    (a28 : PySem.W.nsIn K mainGlobals "nearly_undone" = some (some (.ref f28))) (l28 : K.lookup f28 = some ⟨oc28, od28, .func (PySem.W.fnOf "nearly_undone" "nearly_undone" (defArgs s_nearly_undone) (defBody s_nearly_undone) (defScope s_nearly_undone) .none kV28 dc28 pm28 an28 cd28 ct28), sl28⟩) (c28 : PySem.W.codeIn K cd28 "nearly_undone" = true) (k28 : PySem.W.keepIn K (.ref f28) = true)
    (a29 : PySem.W.nsIn K mainGlobals "twice_less" = some (some (.ref f29))) (l29 : K.lookup f29 = some ⟨oc29, od29, .func (PySem.W.fnOf "twice_less" "twice_less" (defArgs s_twice_less) (defBody s_twice_less) (defScope s_twice_less) .none kV29 dc29 pm29 an29 cd29 ct29), sl29⟩) (c29 : PySem.W.codeIn K cd29 "twice_less" = true) (k29 : PySem.W.keepIn K (.ref f29) = true)
    (a30 : PySem.W.nsIn K mainGlobals "program_error" = some (some (.ref f30))) (l30 : K.lookup f30 = some ⟨oc30, od30, .func (PySem.W.fnOf "program_error" "program_error" (defArgs s_program_error) (defBody s_program_error) (defScope s_program_error) .none kV30 dc30 pm30 an30 cd30 ct30), sl30⟩) (c30 : PySem.W.codeIn K cd30 "program_error" = true) (k30 : PySem.W.keepIn K (.ref f30) = true)
    (a31 : PySem.W.nsIn K mainGlobals "program_error_from" = some (some (.ref f31))) (l31 : K.lookup f31 = some ⟨oc31, od31, .func (PySem.W.fnOf "program_error_from" "program_error_from" (defArgs s_program_error_from) (defBody s_program_error_from) (defScope s_program_error_from) .none kV31 dc31 pm31 an31 cd31 ct31), sl31⟩) (c31 : PySem.W.codeIn K cd31 "program_error_from" = true) (k31 : PySem.W.keepIn K (.ref f31) = true)
    (a32 : PySem.W.nsIn K mainGlobals "steps_of" = some (some (.ref f32))) (l32 : K.lookup f32 = some ⟨oc32, od32, .func (PySem.W.fnOf "steps_of" "steps_of" (defArgs s_steps_of) (defBody s_steps_of) (defScope s_steps_of) .none kV32 dc32 pm32 an32 cd32 ct32), sl32⟩) (c32 : PySem.W.codeIn K cd32 "steps_of" = true) (k32 : PySem.W.keepIn K (.ref f32) = true)
    (a33 : PySem.W.nsIn K mainGlobals "deed_fault" = some (some (.ref f33))) (l33 : K.lookup f33 = some ⟨oc33, od33, .func (PySem.W.fnOf "deed_fault" "deed_fault" (defArgs s_deed_fault) (defBody s_deed_fault) (defScope s_deed_fault) .none kV33 dc33 pm33 an33 cd33 ct33), sl33⟩) (c33 : PySem.W.codeIn K cd33 "deed_fault" = true) (k33 : PySem.W.keepIn K (.ref f33) = true)
    (a34 : PySem.W.nsIn K mainGlobals "run" = some (some (.ref f34))) (l34 : K.lookup f34 = some ⟨oc34, od34, .func (PySem.W.fnOf "run" "run" (defArgs s_run) (defBody s_run) (defScope s_run) .none kV34 dc34 pm34 an34 cd34 ct34), sl34⟩) (c34 : PySem.W.codeIn K cd34 "run" = true) (k34 : PySem.W.keepIn K (.ref f34) = true)
    (a35 : PySem.W.nsIn K mainGlobals "backward" = some (some (.ref f35))) (l35 : K.lookup f35 = some ⟨oc35, od35, .func (PySem.W.fnOf "backward" "backward" (defArgs s_backward) (defBody s_backward) (defScope s_backward) .none kV35 dc35 pm35 an35 cd35 ct35), sl35⟩) (c35 : PySem.W.codeIn K cd35 "backward" = true) (k35 : PySem.W.keepIn K (.ref f35) = true)
    (a36 : PySem.W.nsIn K mainGlobals "_law_pot" = some (some (.ref f36))) (l36 : K.lookup f36 = some ⟨oc36, od36, .func (PySem.W.fnOf "_law_pot" "_law_pot" (defArgs s_l_pot) (defBody s_l_pot) (defScope s_l_pot) .none kV36 dc36 pm36 an36 cd36 ct36), sl36⟩) (c36 : PySem.W.codeIn K cd36 "_law_pot" = true) (k36 : PySem.W.keepIn K (.ref f36) = true)
    (a37 : PySem.W.nsIn K mainGlobals "_law_dip" = some (some (.ref f37))) (l37 : K.lookup f37 = some ⟨oc37, od37, .func (PySem.W.fnOf "_law_dip" "_law_dip" (defArgs s_l_dip) (defBody s_l_dip) (defScope s_l_dip) .none kV37 dc37 pm37 an37 cd37 ct37), sl37⟩) (c37 : PySem.W.codeIn K cd37 "_law_dip" = true) (k37 : PySem.W.keepIn K (.ref f37) = true)
    (a38 : PySem.W.nsIn K mainGlobals "_law_pick" = some (some (.ref f38))) (l38 : K.lookup f38 = some ⟨oc38, od38, .func (PySem.W.fnOf "_law_pick" "_law_pick" (defArgs s_l_pick) (defBody s_l_pick) (defScope s_l_pick) .none kV38 dc38 pm38 an38 cd38 ct38), sl38⟩) (c38 : PySem.W.codeIn K cd38 "_law_pick" = true) (k38 : PySem.W.keepIn K (.ref f38) = true)
    (a39 : PySem.W.nsIn K mainGlobals "_law_primes" = some (some (.ref f39))) (l39 : K.lookup f39 = some ⟨oc39, od39, .func (PySem.W.fnOf "_law_primes" "_law_primes" (defArgs s_l_primes) (defBody s_l_primes) (defScope s_l_primes) .none kV39 dc39 pm39 an39 cd39 ct39), sl39⟩) (c39 : PySem.W.codeIn K cd39 "_law_primes" = true) (k39 : PySem.W.keepIn K (.ref f39) = true)
    (a40 : PySem.W.nsIn K mainGlobals "_law_common" = some (some (.ref f40))) (l40 : K.lookup f40 = some ⟨oc40, od40, .func (PySem.W.fnOf "_law_common" "_law_common" (defArgs s_l_common) (defBody s_l_common) (defScope s_l_common) .none kV40 dc40 pm40 an40 cd40 ct40), sl40⟩) (c40 : PySem.W.codeIn K cd40 "_law_common" = true) (k40 : PySem.W.keepIn K (.ref f40) = true)
    (a41 : PySem.W.nsIn K mainGlobals "_law_step" = some (some (.ref f41))) (l41 : K.lookup f41 = some ⟨oc41, od41, .func (PySem.W.fnOf "_law_step" "_law_step" (defArgs s_l_step) (defBody s_l_step) (defScope s_l_step) .none kV41 dc41 pm41 an41 cd41 ct41), sl41⟩) (c41 : PySem.W.codeIn K cd41 "_law_step" = true) (k41 : PySem.W.keepIn K (.ref f41) = true)
    (a42 : PySem.W.nsIn K mainGlobals "_law_great" = some (some (.ref f42))) (l42 : K.lookup f42 = some ⟨oc42, od42, .func (PySem.W.fnOf "_law_great" "_law_great" (defArgs s_l_great) (defBody s_l_great) (defScope s_l_great) .none kV42 dc42 pm42 an42 cd42 ct42), sl42⟩) (c42 : PySem.W.codeIn K cd42 "_law_great" = true) (k42 : PySem.W.keepIn K (.ref f42) = true)
    (a43 : PySem.W.nsIn K mainGlobals "_law_sizes" = some (some (.ref f43))) (l43 : K.lookup f43 = some ⟨oc43, od43, .func (PySem.W.fnOf "_law_sizes" "_law_sizes" (defArgs s_l_sizes) (defBody s_l_sizes) (defScope s_l_sizes) .none kV43 dc43 pm43 an43 cd43 ct43), sl43⟩) (c43 : PySem.W.codeIn K cd43 "_law_sizes" = true) (k43 : PySem.W.keepIn K (.ref f43) = true)
    (a44 : PySem.W.nsIn K mainGlobals "_law_wires" = some (some (.ref f44))) (l44 : K.lookup f44 = some ⟨oc44, od44, .func (PySem.W.fnOf "_law_wires" "_law_wires" (defArgs s_l_wires) (defBody s_l_wires) (defScope s_l_wires) .none kV44 dc44 pm44 an44 cd44 ct44), sl44⟩) (c44 : PySem.W.codeIn K cd44 "_law_wires" = true) (k44 : PySem.W.keepIn K (.ref f44) = true)
    (a45 : PySem.W.nsIn K mainGlobals "_law_machine" = some (some (.ref f45))) (l45 : K.lookup f45 = some ⟨oc45, od45, .func (PySem.W.fnOf "_law_machine" "_law_machine" (defArgs s_l_machine) (defBody s_l_machine) (defScope s_l_machine) .none kV45 dc45 pm45 an45 cd45 ct45), sl45⟩) (c45 : PySem.W.codeIn K cd45 "_law_machine" = true) (k45 : PySem.W.keepIn K (.ref f45) = true)
    (a46 : PySem.W.nsIn K mainGlobals "_law_contents" = some (some (.ref f46))) (l46 : K.lookup f46 = some ⟨oc46, od46, .func (PySem.W.fnOf "_law_contents" "_law_contents" (defArgs s_l_contents) (defBody s_l_contents) (defScope s_l_contents) .none kV46 dc46 pm46 an46 cd46 ct46), sl46⟩) (c46 : PySem.W.codeIn K cd46 "_law_contents" = true) (k46 : PySem.W.keepIn K (.ref f46) = true)
    (a47 : PySem.W.nsIn K mainGlobals "_law_deed" = some (some (.ref f47))) (l47 : K.lookup f47 = some ⟨oc47, od47, .func (PySem.W.fnOf "_law_deed" "_law_deed" (defArgs s_l_deed) (defBody s_l_deed) (defScope s_l_deed) .none kV47 dc47 pm47 an47 cd47 ct47), sl47⟩) (c47 : PySem.W.codeIn K cd47 "_law_deed" = true) (k47 : PySem.W.keepIn K (.ref f47) = true)
    (a48 : PySem.W.nsIn K mainGlobals "_law_program" = some (some (.ref f48))) (l48 : K.lookup f48 = some ⟨oc48, od48, .func (PySem.W.fnOf "_law_program" "_law_program" (defArgs s_l_program) (defBody s_l_program) (defScope s_l_program) .none kV48 dc48 pm48 an48 cd48 ct48), sl48⟩) (c48 : PySem.W.codeIn K cd48 "_law_program" = true) (k48 : PySem.W.keepIn K (.ref f48) = true)
    (a49 : PySem.W.nsIn K mainGlobals "_law_led" = some (some (.ref f49))) (l49 : K.lookup f49 = some ⟨oc49, od49, .func (PySem.W.fnOf "_law_led" "_law_led" (defArgs s_l_led) (defBody s_l_led) (defScope s_l_led) .none kV49 dc49 pm49 an49 cd49 ct49), sl49⟩) (c49 : PySem.W.codeIn K cd49 "_law_led" = true) (k49 : PySem.W.keepIn K (.ref f49) = true)
    (a50 : PySem.W.nsIn K mainGlobals "_law_both" = some (some (.ref f50))) (l50 : K.lookup f50 = some ⟨oc50, od50, .func (PySem.W.fnOf "_law_both" "_law_both" (defArgs s_l_both) (defBody s_l_both) (defScope s_l_both) .none kV50 dc50 pm50 an50 cd50 ct50), sl50⟩) (c50 : PySem.W.codeIn K cd50 "_law_both" = true) (k50 : PySem.W.keepIn K (.ref f50) = true)
    (a51 : PySem.W.nsIn K mainGlobals "_law_still" = some (some (.ref f51))) (l51 : K.lookup f51 = some ⟨oc51, od51, .func (PySem.W.fnOf "_law_still" "_law_still" (defArgs s_l_still) (defBody s_l_still) (defScope s_l_still) .none kV51 dc51 pm51 an51 cd51 ct51), sl51⟩) (c51 : PySem.W.codeIn K cd51 "_law_still" = true) (k51 : PySem.W.keepIn K (.ref f51) = true)
    (a52 : PySem.W.nsIn K mainGlobals "_law_made" = some (some (.ref f52))) (l52 : K.lookup f52 = some ⟨oc52, od52, .func (PySem.W.fnOf "_law_made" "_law_made" (defArgs s_l_made) (defBody s_l_made) (defScope s_l_made) .none kV52 dc52 pm52 an52 cd52 ct52), sl52⟩) (c52 : PySem.W.codeIn K cd52 "_law_made" = true) (k52 : PySem.W.keepIn K (.ref f52) = true)
    (a53 : PySem.W.nsIn K mainGlobals "_law_is_right" = some (some (.ref f53))) (l53 : K.lookup f53 = some ⟨oc53, od53, .func (PySem.W.fnOf "_law_is_right" "_law_is_right" (defArgs s_l_is_right) (defBody s_l_is_right) (defScope s_l_is_right) .none kV53 dc53 pm53 an53 cd53 ct53), sl53⟩) (c53 : PySem.W.codeIn K cd53 "_law_is_right" = true) (k53 : PySem.W.keepIn K (.ref f53) = true)
    (a54 : PySem.W.nsIn K mainGlobals "_law_is_long" = some (some (.ref f54))) (l54 : K.lookup f54 = some ⟨oc54, od54, .func (PySem.W.fnOf "_law_is_long" "_law_is_long" (defArgs s_l_is_long) (defBody s_l_is_long) (defScope s_l_is_long) .none kV54 dc54 pm54 an54 cd54 ct54), sl54⟩) (c54 : PySem.W.codeIn K cd54 "_law_is_long" = true) (k54 : PySem.W.keepIn K (.ref f54) = true)
    (a55 : PySem.W.nsIn K mainGlobals "law" = some (some (.ref f55))) (l55 : K.lookup f55 = some ⟨oc55, od55, .func (PySem.W.fnOf "law" "law" (defArgs s_law) (defBody s_law) (defScope s_law) .none kV55 dc55 pm55 an55 cd55 ct55), sl55⟩) (c55 : PySem.W.codeIn K cd55 "law" = true) (k55 : PySem.W.keepIn K (.ref f55) = true)
    (z_len : PySem.W.nsIn K mainGlobals "len" = some none)
    (z_int : PySem.W.nsIn K mainGlobals "int" = some none)
    (z_max : PySem.W.nsIn K mainGlobals "max" = some none)
    (z_min : PySem.W.nsIn K mainGlobals "min" = some none)
    (z_tuple : PySem.W.nsIn K mainGlobals "tuple" = some none)
    (z_list : PySem.W.nsIn K mainGlobals "list" = some none)
    (z_range : PySem.W.nsIn K mainGlobals "range" = some none)
    (z_any : PySem.W.nsIn K mainGlobals "any" = some none)
    (z_all : PySem.W.nsIn K mainGlobals "all" = some none)
    (z_repr : PySem.W.nsIn K mainGlobals "repr" = some none)
    (z_enumerate : PySem.W.nsIn K mainGlobals "enumerate" = some none)
    (z_isinstance : PySem.W.nsIn K mainGlobals "isinstance" = some none)
    (z_bool : PySem.W.nsIn K mainGlobals "bool" = some none)
    (z_abs : PySem.W.nsIn K mainGlobals "abs" = some none)
    (z_zip : PySem.W.nsIn K mainGlobals "zip" = some none)
    (z_sum : PySem.W.nsIn K mainGlobals "sum" = some none)
    (z_sorted : PySem.W.nsIn K mainGlobals "sorted" = some none)
    (g_gcd : PySem.W.nsIn K mainGlobals "gcd" = some (some (.builtin "math.gcd")))
    (g_MAX_FACTOR : PySem.W.nsIn K mainGlobals "MAX_FACTOR" = some (some (.int 1000000000000000000000000000000000000000000000000000000000000 tF)))
    (g_MAX_DEEDS : PySem.W.nsIn K mainGlobals "MAX_DEEDS" = some (some (.int 1000000 tM)))
    (g_PRIMES : PySem.W.nsIn K mainGlobals "PRIMES" = some (some (.ref at0))) (lt0 : K.lookup at0 = some ot0) (ct_0 : ot0.cls = .type "tuple") (dt0 : ot0.data = .seq it0 nt0) (vt0 : Vals (PR.map V.int) it0.toList) (zt0 : it0.size ≤ sizeLine) :
    ∃ fd : FuncData, (∀ (s : Shared) (v : Value), BindsTo s fd ⟨[v], []⟩ [("script", v)]) ∧ ∀ base : Heap, K.In base → base.Ns mainGlobals mg → GFn l.prog w K mg base 8 fa fd ["script"] (spLaw K) := by
  have e := hfa.symm.trans (PySem.W.mg_of X G a55)
  cases e
  have T : Blt mg := ⟨PySem.W.mg_none_of X G z_len, PySem.W.mg_none_of X G z_int, PySem.W.mg_none_of X G z_max, PySem.W.mg_none_of X G z_min, PySem.W.mg_none_of X G z_tuple, PySem.W.mg_none_of X G z_list, PySem.W.mg_none_of X G z_range, PySem.W.mg_none_of X G z_any, PySem.W.mg_none_of X G z_all, PySem.W.mg_none_of X G z_repr, PySem.W.mg_none_of X G z_enumerate, PySem.W.mg_none_of X G z_isinstance, PySem.W.mg_none_of X G z_bool⟩
  have F1 := fun_mk (st := s_is_an_integer) l1 c1 k1
  have D_is_an_integer : DefAt K mg "is_an_integer" s_is_an_integer ["value"] f1 _ := ⟨F1, PySem.W.mg_of X G a1, F1.binds (ps := ["value"]) fun _ _ _ _ _ _ us hl => match us, hl with | [_], _ => rfl⟩
  have F2 := fun_mk (st := s_is_below) l2 c2 k2
  have D_is_below : DefAt K mg "is_below" s_is_below ["value", "bound"] f2 _ := ⟨F2, PySem.W.mg_of X G a2, F2.binds (ps := ["value", "bound"]) fun _ _ _ _ _ _ us hl => match us, hl with | [_, _], _ => rfl⟩
  have F3 := fun_mk (st := s_how_often) l3 c3 k3
  have D_how_often : DefAt K mg "how_often" s_how_often ["p", "number"] f3 _ := ⟨F3, PySem.W.mg_of X G a3, F3.binds (ps := ["p", "number"]) fun _ _ _ _ _ _ us hl => match us, hl with | [_, _], _ => rfl⟩
  have F4 := fun_mk (st := s_power_of) l4 c4 k4
  have D_power_of : DefAt K mg "power_of" s_power_of ["base", "times"] f4 _ := ⟨F4, PySem.W.mg_of X G a4, F4.binds (ps := ["base", "times"]) fun _ _ _ _ _ _ us hl => match us, hl with | [_, _], _ => rfl⟩
  have F5 := fun_mk (st := s_inverse) l5 c5 k5
  have D_inverse : DefAt K mg "inverse" s_inverse ["number", "modulus"] f5 _ := ⟨F5, PySem.W.mg_of X G a5, F5.binds (ps := ["number", "modulus"]) fun _ _ _ _ _ _ us hl => match us, hl with | [_, _], _ => rfl⟩
  have F6 := fun_mk (st := s_primes_of) l6 c6 k6
  have D_primes_of : DefAt K mg "primes_of" s_primes_of ["machine"] f6 _ := ⟨F6, PySem.W.mg_of X G a6, F6.binds (ps := ["machine"]) fun _ _ _ _ _ _ us hl => match us, hl with | [_], _ => rfl⟩
  have F7 := fun_mk (st := s_depth) l7 c7 k7
  have D_depth : DefAt K mg "depth" s_depth ["machine", "p", "i"] f7 _ := ⟨F7, PySem.W.mg_of X G a7, F7.binds (ps := ["machine", "p", "i"]) fun _ _ _ _ _ _ us hl => match us, hl with | [_, _, _], _ => rfl⟩
  have F8 := fun_mk (st := s_whole_power) l8 c8 k8
  have D_whole_power : DefAt K mg "whole_power" s_whole_power ["machine", "p", "i"] f8 _ := ⟨F8, PySem.W.mg_of X G a8, F8.binds (ps := ["machine", "p", "i"]) fun _ _ _ _ _ _ us hl => match us, hl with | [_, _, _], _ => rfl⟩
  have F9 := fun_mk (st := s_part_of) l9 c9 k9
  have D_part_of : DefAt K mg "part_of" s_part_of ["machine", "p", "i"] f9 _ := ⟨F9, PySem.W.mg_of X G a9, F9.binds (ps := ["machine", "p", "i"]) fun _ _ _ _ _ _ us hl => match us, hl with | [_, _, _], _ => rfl⟩
  have F10 := fun_mk (st := s_step) l10 c10 k10
  have D_step : DefAt K mg "step" s_step ["machine", "j", "i"] f10 _ := ⟨F10, PySem.W.mg_of X G a10, F10.binds (ps := ["machine", "j", "i"]) fun _ _ _ _ _ _ us hl => match us, hl with | [_, _, _], _ => rfl⟩
  have F11 := fun_mk (st := s_square_of) l11 c11 k11
  have D_square_of : DefAt K mg "square_of" s_square_of ["table", "registers"] f11 _ := ⟨F11, PySem.W.mg_of X G a11, F11.binds (ps := ["table", "registers"]) fun _ _ _ _ _ _ us hl => match us, hl with | [_, _], _ => rfl⟩
  have F12 := fun_mk (st := s_determinant) l12 c12 k12
  have D_determinant : DefAt K mg "determinant" s_determinant ["square"] f12 _ := ⟨F12, PySem.W.mg_of X G a12, F12.binds (ps := ["square"]) fun _ _ _ _ _ _ us hl => match us, hl with | [_], _ => rfl⟩
  have F13 := fun_mk (st := s_row_with_entry) l13 c13 k13
  have D_row_with_entry : DefAt K mg "row_with_entry" s_row_with_entry ["rows", "first", "k"] f13 _ := ⟨F13, PySem.W.mg_of X G a13, F13.binds (ps := ["rows", "first", "k"]) fun _ _ _ _ _ _ us hl => match us, hl with | [_, _, _], _ => rfl⟩
  have F14 := fun_mk (st := s_inverse_square) l14 c14 k14
  have D_inverse_square : DefAt K mg "inverse_square" s_inverse_square ["square", "p"] f14 _ := ⟨F14, PySem.W.mg_of X G a14, F14.binds (ps := ["square", "p"]) fun _ _ _ _ _ _ us hl => match us, hl with | [_, _], _ => rfl⟩
  have F15 := fun_mk (st := s_row_less) l15 c15 k15
  have D_row_less : DefAt K mg "row_less" s_row_less ["row", "times", "other", "p"] f15 _ := ⟨F15, PySem.W.mg_of X G a15, F15.binds (ps := ["row", "times", "other", "p"]) fun _ _ _ _ _ _ us hl => match us, hl with | [_, _, _, _], _ => rfl⟩
  have F16 := fun_mk (st := s_table_error) l16 c16 k16
  have D_table_error : DefAt K mg "table_error" s_table_error ["machine", "value"] f16 _ := ⟨F16, PySem.W.mg_of X G a16, F16.binds (ps := ["machine", "value"]) fun _ _ _ _ _ _ us hl => match us, hl with | [_, _], _ => rfl⟩
  have F17 := fun_mk (st := s_entry_error) l17 c17 k17
  have D_entry_error : DefAt K mg "entry_error" s_entry_error ["machine", "rows"] f17 _ := ⟨F17, PySem.W.mg_of X G a17, F17.binds (ps := ["machine", "rows"]) fun _ _ _ _ _ _ us hl => match us, hl with | [_, _], _ => rfl⟩
  have F18 := fun_mk (st := s_is_row) l18 c18 k18
  have D_is_row : DefAt K mg "is_row" s_is_row ["value", "many"] f18 _ := ⟨F18, PySem.W.mg_of X G a18, F18.binds (ps := ["value", "many"]) fun _ _ _ _ _ _ us hl => match us, hl with | [_, _], _ => rfl⟩
  have F19 := fun_mk (st := s_is_entry) l19 c19 k19
  have D_is_entry : DefAt K mg "is_entry" s_is_entry ["machine", "i", "j", "value"] f19 _ := ⟨F19, PySem.W.mg_of X G a19, F19.binds (ps := ["machine", "i", "j", "value"]) fun _ _ _ _ _ _ us hl => match us, hl with | [_, _, _, _], _ => rfl⟩
  have F20 := fun_mk (st := s_still) l20 c20 k20
  have D_still : DefAt K mg "still" s_still ["machine"] f20 _ := ⟨F20, PySem.W.mg_of X G a20, F20.binds (ps := ["machine"]) fun _ _ _ _ _ _ us hl => match us, hl with | [_], _ => rfl⟩
  have F21 := fun_mk (st := s_table_of) l21 c21 k21
  have D_table_of : DefAt K mg "table_of" s_table_of ["machine", "program"] f21 _ := ⟨F21, PySem.W.mg_of X G a21, F21.binds (ps := ["machine", "program"]) fun _ _ _ _ _ _ us hl => match us, hl with | [_, _], _ => rfl⟩
  have F22 := fun_mk (st := s_both) l22 c22 k22
  have D_both : DefAt K mg "both" s_both ["machine", "one", "other"] f22 _ := ⟨F22, PySem.W.mg_of X G a22, F22.binds (ps := ["machine", "one", "other"]) fun _ _ _ _ _ _ us hl => match us, hl with | [_, _, _], _ => rfl⟩
  have F23 := fun_mk (st := s_moved) l23 c23 k23
  have D_moved : DefAt K mg "moved" s_moved ["machine", "table", "contents"] f23 _ := ⟨F23, PySem.W.mg_of X G a23, F23.binds (ps := ["machine", "table", "contents"]) fun _ _ _ _ _ _ us hl => match us, hl with | [_, _, _], _ => rfl⟩
  have F24 := fun_mk (st := s_product_sum) l24 c24 k24
  have D_product_sum : DefAt K mg "product_sum" s_product_sum ["row", "column"] f24 _ := ⟨F24, PySem.W.mg_of X G a24, F24.binds (ps := ["row", "column"]) fun _ _ _ _ _ _ us hl => match us, hl with | [_, _], _ => rfl⟩
  have F25 := fun_mk (st := s_can_be_undone) l25 c25 k25
  have D_can_be_undone : DefAt K mg "can_be_undone" s_can_be_undone ["machine", "table"] f25 _ := ⟨F25, PySem.W.mg_of X G a25, F25.binds (ps := ["machine", "table"]) fun _ _ _ _ _ _ us hl => match us, hl with | [_, _], _ => rfl⟩
  have F26 := fun_mk (st := s_layers) l26 c26 k26
  have D_layers : DefAt K mg "layers" s_layers ["machine", "p"] f26 _ := ⟨F26, PySem.W.mg_of X G a26, F26.binds (ps := ["machine", "p"]) fun _ _ _ _ _ _ us hl => match us, hl with | [_, _], _ => rfl⟩
  have F27 := fun_mk (st := s_undone) l27 c27 k27
  have D_undone : DefAt K mg "undone" s_undone ["machine", "table"] f27 _ := ⟨F27, PySem.W.mg_of X G a27, F27.binds (ps := ["machine", "table"]) fun _ _ _ _ _ _ us hl => match us, hl with | [_, _], _ => rfl⟩
  have F28 := fun_mk (st := s_nearly_undone) l28 c28 k28
  have D_nearly_undone : DefAt K mg "nearly_undone" s_nearly_undone ["machine", "table"] f28 _ := ⟨F28, PySem.W.mg_of X G a28, F28.binds (ps := ["machine", "table"]) fun _ _ _ _ _ _ us hl => match us, hl with | [_, _], _ => rfl⟩
  have F29 := fun_mk (st := s_twice_less) l29 c29 k29
  have D_twice_less : DefAt K mg "twice_less" s_twice_less ["machine", "table"] f29 _ := ⟨F29, PySem.W.mg_of X G a29, F29.binds (ps := ["machine", "table"]) fun _ _ _ _ _ _ us hl => match us, hl with | [_, _], _ => rfl⟩
  have F30 := fun_mk (st := s_program_error) l30 c30 k30
  have D_program_error : DefAt K mg "program_error" s_program_error ["machine", "value"] f30 _ := ⟨F30, PySem.W.mg_of X G a30, F30.binds (ps := ["machine", "value"]) fun _ _ _ _ _ _ us hl => match us, hl with | [_, _], _ => rfl⟩
  have F31 := fun_mk (st := s_program_error_from) l31 c31 k31
  have D_program_error_from : DefAt K mg "program_error_from" s_program_error_from ["machine", "value", "first"] f31 _ := ⟨F31, PySem.W.mg_of X G a31, F31.binds (ps := ["machine", "value", "first"]) fun _ _ _ _ _ _ us hl => match us, hl with | [_, _, _], _ => rfl⟩
  have F32 := fun_mk (st := s_steps_of) l32 c32 k32
  have D_steps_of : DefAt K mg "steps_of" s_steps_of ["machine"] f32 _ := ⟨F32, PySem.W.mg_of X G a32, F32.binds (ps := ["machine"]) fun _ _ _ _ _ _ us hl => match us, hl with | [_], _ => rfl⟩
  have F33 := fun_mk (st := s_deed_fault) l33 c33 k33
  have D_deed_fault : DefAt K mg "deed_fault" s_deed_fault ["steps", "value"] f33 _ := ⟨F33, PySem.W.mg_of X G a33, F33.binds (ps := ["steps", "value"]) fun _ _ _ _ _ _ us hl => match us, hl with | [_, _], _ => rfl⟩
  have F34 := fun_mk (st := s_run) l34 c34 k34
  have D_run : DefAt K mg "run" s_run ["machine", "program", "contents"] f34 _ := ⟨F34, PySem.W.mg_of X G a34, F34.binds (ps := ["machine", "program", "contents"]) fun _ _ _ _ _ _ us hl => match us, hl with | [_, _, _], _ => rfl⟩
  have F35 := fun_mk (st := s_backward) l35 c35 k35
  have D_backward : DefAt K mg "backward" s_backward ["program"] f35 _ := ⟨F35, PySem.W.mg_of X G a35, F35.binds (ps := ["program"]) fun _ _ _ _ _ _ us hl => match us, hl with | [_], _ => rfl⟩
  have F36 := fun_mk (st := s_l_pot) l36 c36 k36
  have D_l_pot : DefAt K mg "_law_pot" s_l_pot ["script"] f36 _ := ⟨F36, PySem.W.mg_of X G a36, F36.binds (ps := ["script"]) fun _ _ _ _ _ _ us hl => match us, hl with | [_], _ => rfl⟩
  have F37 := fun_mk (st := s_l_dip) l37 c37 k37
  have D_l_dip : DefAt K mg "_law_dip" s_l_dip ["pot", "size"] f37 _ := ⟨F37, PySem.W.mg_of X G a37, F37.binds (ps := ["pot", "size"]) fun _ _ _ _ _ _ us hl => match us, hl with | [_, _], _ => rfl⟩
  have F38 := fun_mk (st := s_l_pick) l38 c38 k38
  have D_l_pick : DefAt K mg "_law_pick" s_l_pick ["pot", "items"] f38 _ := ⟨F38, PySem.W.mg_of X G a38, F38.binds (ps := ["pot", "items"]) fun _ _ _ _ _ _ us hl => match us, hl with | [_, _], _ => rfl⟩
  have F39 := fun_mk (st := s_l_primes) l39 c39 k39
  have D_l_primes : DefAt K mg "_law_primes" s_l_primes [] f39 _ := ⟨F39, PySem.W.mg_of X G a39, F39.binds (ps := []) fun _ _ _ _ _ _ us hl => match us, hl with | [], _ => rfl⟩
  have F40 := fun_mk (st := s_l_common) l40 c40 k40
  have D_l_common : DefAt K mg "_law_common" s_l_common ["one", "other"] f40 _ := ⟨F40, PySem.W.mg_of X G a40, F40.binds (ps := ["one", "other"]) fun _ _ _ _ _ _ us hl => match us, hl with | [_, _], _ => rfl⟩
  have F41 := fun_mk (st := s_l_step) l41 c41 k41
  have D_l_step : DefAt K mg "_law_step" s_l_step ["sizes", "j", "i"] f41 _ := ⟨F41, PySem.W.mg_of X G a41, F41.binds (ps := ["sizes", "j", "i"]) fun _ _ _ _ _ _ us hl => match us, hl with | [_, _, _], _ => rfl⟩
  have F42 := fun_mk (st := s_l_great) l42 c42 k42
  have D_l_great : DefAt K mg "_law_great" s_l_great ["pot"] f42 _ := ⟨F42, PySem.W.mg_of X G a42, F42.binds (ps := ["pot"]) fun _ _ _ _ _ _ us hl => match us, hl with | [_], _ => rfl⟩
  have F43 := fun_mk (st := s_l_sizes) l43 c43 k43
  have D_l_sizes : DefAt K mg "_law_sizes" s_l_sizes ["pot", "is_great"] f43 _ := ⟨F43, PySem.W.mg_of X G a43, F43.binds (ps := ["pot", "is_great"]) fun _ _ _ _ _ _ us hl => match us, hl with | [_, _], _ => rfl⟩
  have F44 := fun_mk (st := s_l_wires) l44 c44 k44
  have D_l_wires : DefAt K mg "_law_wires" s_l_wires ["pot", "many"] f44 _ := ⟨F44, PySem.W.mg_of X G a44, F44.binds (ps := ["pot", "many"]) fun _ _ _ _ _ _ us hl => match us, hl with | [_, _], _ => rfl⟩
  have F45 := fun_mk (st := s_l_machine) l45 c45 k45
  have D_l_machine : DefAt K mg "_law_machine" s_l_machine ["pot", "is_great"] f45 _ := ⟨F45, PySem.W.mg_of X G a45, F45.binds (ps := ["pot", "is_great"]) fun _ _ _ _ _ _ us hl => match us, hl with | [_, _], _ => rfl⟩
  have F46 := fun_mk (st := s_l_contents) l46 c46 k46
  have D_l_contents : DefAt K mg "_law_contents" s_l_contents ["pot", "sizes"] f46 _ := ⟨F46, PySem.W.mg_of X G a46, F46.binds (ps := ["pot", "sizes"]) fun _ _ _ _ _ _ us hl => match us, hl with | [_, _], _ => rfl⟩
  have F47 := fun_mk (st := s_l_deed) l47 c47 k47
  have D_l_deed : DefAt K mg "_law_deed" s_l_deed ["pot", "machine"] f47 _ := ⟨F47, PySem.W.mg_of X G a47, F47.binds (ps := ["pot", "machine"]) fun _ _ _ _ _ _ us hl => match us, hl with | [_, _], _ => rfl⟩
  have F48 := fun_mk (st := s_l_program) l48 c48 k48
  have D_l_program : DefAt K mg "_law_program" s_l_program ["pot", "machine", "most"] f48 _ := ⟨F48, PySem.W.mg_of X G a48, F48.binds (ps := ["pot", "machine", "most"]) fun _ _ _ _ _ _ us hl => match us, hl with | [_, _, _], _ => rfl⟩
  have F49 := fun_mk (st := s_l_led) l49 c49 k49
  have D_l_led : DefAt K mg "_law_led" s_l_led ["sizes", "table", "held"] f49 _ := ⟨F49, PySem.W.mg_of X G a49, F49.binds (ps := ["sizes", "table", "held"]) fun _ _ _ _ _ _ us hl => match us, hl with | [_, _, _], _ => rfl⟩
  have F50 := fun_mk (st := s_l_both) l50 c50 k50
  have D_l_both : DefAt K mg "_law_both" s_l_both ["sizes", "one", "other"] f50 _ := ⟨F50, PySem.W.mg_of X G a50, F50.binds (ps := ["sizes", "one", "other"]) fun _ _ _ _ _ _ us hl => match us, hl with | [_, _, _], _ => rfl⟩
  have F51 := fun_mk (st := s_l_still) l51 c51 k51
  have D_l_still : DefAt K mg "_law_still" s_l_still ["sizes"] f51 _ := ⟨F51, PySem.W.mg_of X G a51, F51.binds (ps := ["sizes"]) fun _ _ _ _ _ _ us hl => match us, hl with | [_], _ => rfl⟩
  have F52 := fun_mk (st := s_l_made) l52 c52 k52
  have D_l_made : DefAt K mg "_law_made" s_l_made ["sizes", "listed"] f52 _ := ⟨F52, PySem.W.mg_of X G a52, F52.binds (ps := ["sizes", "listed"]) fun _ _ _ _ _ _ us hl => match us, hl with | [_, _], _ => rfl⟩
  have F53 := fun_mk (st := s_l_is_right) l53 c53 k53
  have D_l_is_right : DefAt K mg "_law_is_right" s_l_is_right ["pot", "machine", "one", "other"] f53 _ := ⟨F53, PySem.W.mg_of X G a53, F53.binds (ps := ["pot", "machine", "one", "other"]) fun _ _ _ _ _ _ us hl => match us, hl with | [_, _, _, _], _ => rfl⟩
  have F54 := fun_mk (st := s_l_is_long) l54 c54 k54
  have D_l_is_long : DefAt K mg "_law_is_long" s_l_is_long ["pot"] f54 _ := ⟨F54, PySem.W.mg_of X G a54, F54.binds (ps := ["pot"]) fun _ _ _ _ _ _ us hl => match us, hl with | [_], _ => rfl⟩
  have F55 := fun_mk (st := s_law) l55 c55 k55
  have q_PRIMES : ∀ H : Hp, SqT K H at0 (PR.map V.int) := fun H => .inr ⟨ot0, it0, nt0, lt0, ct_0, dt0, zt0, vt0⟩
  refine ⟨PySem.W.fnOf "law" "law" (defArgs s_law) (defBody s_law) (defScope s_law) .none kV55 dc55 pm55 an55 cd55 ct55, fun s v => .of_eq rfl, fun base _ _ => ?_⟩
  have T_abs := PySem.W.mg_none_of X G z_abs
  have T_zip := PySem.W.mg_none_of X G z_zip
  have T_sum := PySem.W.mg_none_of X G z_sum
  have T_sorted := PySem.W.mg_none_of X G z_sorted
  have gF := (show mg "MAX_FACTOR" = some (.int (10 ^ 60) tF) from PySem.W.mg_of X G g_MAX_FACTOR)
  have gM := PySem.W.mg_of X G g_MAX_DEEDS
  have c_dipW := ok_dipW (P := l.prog) (w := w) (base := base) D_l_dip T
  have c_dip := Cal.weak c_dipW (fun _ _ _ _ h => dip_of h)
  have c_pickA := ok_pickA D_l_pick T c_dip
  have c_pick := Cal.weak c_pickA (fun _ _ _ _ h => pick_of h)
  have c_primes := ok_primes (P := l.prog) (w := w) (base := base) D_l_primes
  have c_common := ok_common (P := l.prog) (w := w) (base := base) D_l_common
  have c_great := ok_great D_l_great T c_dip c_pick c_primes
  have c_sizes := ok_sizes D_l_sizes T c_dip c_pick c_great
  have c_wires := ok_wires D_l_wires T c_dip c_pick
  have c_machine := ok_machine D_l_machine T c_sizes c_wires
  have c_pot := ok_pot (P := l.prog) (w := w) (base := base) D_l_pot T
  have c_lstep := ok_lstep D_l_step c_common
  have c_contents := ok_contents D_l_contents T c_dipW c_pick
  have c_deed := ok_deed D_l_deed T c_dip c_pickA c_lstep
  have c_program := ok_program D_l_program T c_dip c_deed
  have f_still := fn_still (P := l.prog) (w := w) (base := base) D_still T
  have c_still := Cal.of D_still f_still
  have c_ps := ok_ps (P := l.prog) (w := w) (base := base) D_product_sum T T_zip T_sum
  have f_moved := fn_moved D_moved T T_zip c_ps
  have c_moved := Cal.of D_moved f_moved
  have f_both := fn_both D_both T T_zip c_ps
  have c_both := Cal.of D_both f_both
  have c_lled := ok_led (P := l.prog) (w := w) (base := base) D_l_led T T_zip T_sum
  have c_lstill := ok_still (P := l.prog) (w := w) (base := base) D_l_still T
  have c_lboth := ok_both (P := l.prog) (w := w) (base := base) D_l_both T T_zip T_sum
  have c_ho := Cal.of D_how_often (fn_how_often (P := l.prog) (w := w) (base := base) D_how_often)
  have f_depth := fn_depth D_depth c_ho
  have c_depth := Cal.of D_depth f_depth
  have f_step := fn_step (P := l.prog) (w := w) (base := base) D_step (PySem.W.mg_of X G g_gcd)
  have c_step := Cal.of D_step f_step
  have f_primes_of := fn_primes_of (P := l.prog) (w := w) (base := base) D_primes_of T (PySem.W.mg_of X G g_PRIMES) q_PRIMES
  have c_primes_of := Cal.of D_primes_of f_primes_of
  have c_rwe := ok_rwe (P := l.prog) (w := w) (base := base) D_row_with_entry T
  have c_det := ok_det D_determinant T c_rwe
  have c_inv := ok_inv (P := l.prog) (w := w) (base := base) D_inverse
  have c_pow := ok_pow (P := l.prog) (w := w) (base := base) D_power_of T
  have c_whole := ok_whole D_whole_power c_depth c_pow
  have c_part := ok_part D_part_of c_whole c_inv
  have c_sq := ok_sq (P := l.prog) (w := w) (base := base) D_square_of T
  have c_less := ok_less (P := l.prog) (w := w) (base := base) D_row_less T T_zip
  have c_invsq := ok_invsq D_inverse_square T c_rwe c_inv c_less
  have c_layers := ok_layers D_layers T T_sorted c_depth
  have c_can := ok_can D_can_be_undone c_primes_of c_layers c_sq c_det
  have c_twl := ok_twl D_twice_less T T_zip c_still
  have c_near := ok_near D_nearly_undone T T_zip c_primes_of c_layers c_sq c_invsq c_part
  have c_bothP := Cal.weak (sp' := spBothP) c_both (fun _ _ _ _ h => h)
  have c_undone := ok_undone D_undone c_can c_near c_bothP c_twl c_still
  have c_int := ok_isint (P := l.prog) (w := w) (base := base) D_is_an_integer T
  have c_below := ok_isbelow D_is_below c_int
  have c_isrow := ok_isrow (P := l.prog) (w := w) (base := base) D_is_row T
  have c_isent := ok_isent D_is_entry T c_below c_step
  have c_ents := ok_ents D_entry_error T c_isent
  have f_terr := fn_terr D_table_error T c_isrow c_ents
  have c_intE := ok_isintE (P := l.prog) (w := w) (base := base) D_is_an_integer T
  have c_steps := ok_steps D_steps_of T c_step
  have c_fault := ok_fault D_deed_fault T T_abs gF c_intE
  have c_pfrom := ok_pfrom D_program_error_from T gM c_steps c_fault
  have f_perr := fn_perr D_program_error c_pfrom
  have f_run := fn_run (P := l.prog) (w := w) (base := base) D_run T
  have c_run := Cal.weak (sp' := spRunB) (Cal.of D_run f_run) (fun _ _ _ _ h => h)
  have f_back := fn_backward (P := l.prog) (w := w) (base := base) D_backward T
  have c_back := Cal.weak (sp' := spBack) (Cal.of D_backward f_back) (fun _ _ _ _ h => h)
  have f_tabof := fn_table_of D_table_of T T_zip c_still
  have c_tabof := Cal.weak (sp' := spTabOf) (Cal.of D_table_of f_tabof) (fun _ _ _ _ h => h)
  have k_tabof := CalK.of (sp := spTabOf) D_table_of f_tabof (k_table_of D_table_of.fn)
  have c_moved' := Cal.weak (sp' := spMovedB) c_moved (fun _ _ _ _ h => h)
  have c_terr := Cal.weak (Cal.of D_table_error f_terr) (fun _ _ _ _ h => tabErr_of h)
  have c_perr := Cal.weak (Cal.of D_program_error f_perr) (fun _ _ _ _ h => progErr_of h)
  have c_made := ok_made D_l_made T T_zip c_lstill
  have c_right : GCal l.prog w K mg base _ "_law_is_right" _ := ⟨_, _, _, ok_right D_l_is_right.fn T c_contents c_made c_lboth c_lstill (Cal.up (by decide) c_tabof) (CalK.up (by decide) k_tabof) c_terr (Cal.up (by decide) c_bothP) (Cal.up (by decide) c_moved') (Cal.up (by decide) c_run) (Cal.up (by decide) c_back) c_undone, D_l_is_right.mgf, D_l_is_right.fn.kp, D_l_is_right.bd⟩
  have c_long : GCal l.prog w K mg base _ "_law_is_long" _ := ⟨_, _, _, ok_long D_l_is_long.fn T c_dip c_pick c_contents c_deed c_lstep c_made c_lled c_lstill (Cal.up (by decide) c_tabof) c_perr (Cal.up (by decide) c_run) (Cal.up (by decide) c_back), D_l_is_long.mgf, D_l_is_long.fn.kp, D_l_is_long.bd⟩
  exact ok_law F55 T c_pot c_dip c_machine c_program c_right c_long
end NA
open PySem PySem.W PyProof.Rows in
set_option maxRecDepth 100000 in
set_option maxHeartbeats 0 in
theorem PySem.Challenge.cw_narrowadds_k13_whole_tables_of_programs_holds : PySem.Challenge.rw_narrowadds_k13_whole_tables_of_programs.Holds := by
  w_on; o_law; k_head; (case hw => w_witness2)
  k_fill
  refine NA.walkG (l := PySem.Challenge.rw_narrowadds_k13_whole_tables_of_programs) (n := 63) (k := 8) (x := "script") (sp := NA.spLaw) rfl (by decide) rfl ⟨rfl, by decide, by decide⟩ (fun w h Y => PySem.W.kIn_of Y) ?F (fun _ _ a ns hl _ hS => ⟨a, ns, rfl, hS, hl, fun _ => rfl⟩)
  case F =>
    intro w mg fa h KX G hmg
    refine' NA.all_mk KX G hmg ?a1 ?l1 ?c1 ?k1 ?a2 ?l2 ?c2 ?k2 ?a3 ?l3 ?c3 ?k3 ?a4 ?l4 ?c4 ?k4 ?a5 ?l5 ?c5 ?k5 ?a6 ?l6 ?c6 ?k6 ?a7 ?l7 ?c7 ?k7 ?a8 ?l8 ?c8 ?k8 ?a9 ?l9 ?c9 ?k9 ?a10 ?l10 ?c10 ?k10 ?a11 ?l11 ?c11 ?k11 ?a12 ?l12 ?c12 ?k12 ?a13 ?l13 ?c13 ?k13 ?a14 ?l14 ?c14 ?k14 ?a15 ?l15 ?c15 ?k15 ?a16 ?l16 ?c16 ?k16 ?a17 ?l17 ?c17 ?k17 ?a18 ?l18 ?c18 ?k18 ?a19 ?l19 ?c19 ?k19 ?a20 ?l20 ?c20 ?k20 ?a21 ?l21 ?c21 ?k21 ?a22 ?l22 ?c22 ?k22 ?a23 ?l23 ?c23 ?k23 ?a24 ?l24 ?c24 ?k24 ?a25 ?l25 ?c25 ?k25 ?a26 ?l26 ?c26 ?k26 ?a27 ?l27 ?c27 ?k27 ?a28 ?l28 ?c28 ?k28 ?a29 ?l29 ?c29 ?k29 ?a30 ?l30 ?c30 ?k30 ?a31 ?l31 ?c31 ?k31 ?a32 ?l32 ?c32 ?k32 ?a33 ?l33 ?c33 ?k33 ?a34 ?l34 ?c34 ?k34 ?a35 ?l35 ?c35 ?k35 ?a36 ?l36 ?c36 ?k36 ?a37 ?l37 ?c37 ?k37 ?a38 ?l38 ?c38 ?k38 ?a39 ?l39 ?c39 ?k39 ?a40 ?l40 ?c40 ?k40 ?a41 ?l41 ?c41 ?k41 ?a42 ?l42 ?c42 ?k42 ?a43 ?l43 ?c43 ?k43 ?a44 ?l44 ?c44 ?k44 ?a45 ?l45 ?c45 ?k45 ?a46 ?l46 ?c46 ?k46 ?a47 ?l47 ?c47 ?k47 ?a48 ?l48 ?c48 ?k48 ?a49 ?l49 ?c49 ?k49 ?a50 ?l50 ?c50 ?k50 ?a51 ?l51 ?c51 ?k51 ?a52 ?l52 ?c52 ?k52 ?a53 ?l53 ?c53 ?k53 ?a54 ?l54 ?c54 ?k54 ?a55 ?l55 ?c55 ?k55 ?z_len ?z_int ?z_max ?z_min ?z_tuple ?z_list ?z_range ?z_any ?z_all ?z_repr ?z_enumerate ?z_isinstance ?z_bool ?z_abs ?z_zip ?z_sum ?z_sorted ?g_gcd ?g_MAX_FACTOR ?g_MAX_DEEDS ?g_PRIMES ?lt0 ?ct_0 ?dt0 ?vt0 ?zt0
    (case a1 => k_is)
    (case l1 => k_is)
    (case c1 => k_is)
    (case k1 => k_is)
    (case a2 => k_is)
    (case l2 => k_is)
    (case c2 => k_is)
    (case k2 => k_is)
    (case a3 => k_is)
    (case l3 => k_is)
    (case c3 => k_is)
    (case k3 => k_is)
    (case a4 => k_is)
    (case l4 => k_is)
    (case c4 => k_is)
    (case k4 => k_is)
    (case a5 => k_is)
    (case l5 => k_is)
    (case c5 => k_is)
    (case k5 => k_is)
    (case a6 => k_is)
    (case l6 => k_is)
    (case c6 => k_is)
    (case k6 => k_is)
    (case a7 => k_is)
    (case l7 => k_is)
    (case c7 => k_is)
    (case k7 => k_is)
    (case a8 => k_is)
    (case l8 => k_is)
    (case c8 => k_is)
    (case k8 => k_is)
    (case a9 => k_is)
    (case l9 => k_is)
    (case c9 => k_is)
    (case k9 => k_is)
    (case a10 => k_is)
    (case l10 => k_is)
    (case c10 => k_is)
    (case k10 => k_is)
    (case a11 => k_is)
    (case l11 => k_is)
    (case c11 => k_is)
    (case k11 => k_is)
    (case a12 => k_is)
    (case l12 => k_is)
    (case c12 => k_is)
    (case k12 => k_is)
    (case a13 => k_is)
    (case l13 => k_is)
    (case c13 => k_is)
    (case k13 => k_is)
    (case a14 => k_is)
    (case l14 => k_is)
    (case c14 => k_is)
    (case k14 => k_is)
    (case a15 => k_is)
    (case l15 => k_is)
    (case c15 => k_is)
    (case k15 => k_is)
    (case a16 => k_is)
    (case l16 => k_is)
    (case c16 => k_is)
    (case k16 => k_is)
    (case a17 => k_is)
    (case l17 => k_is)
    (case c17 => k_is)
    (case k17 => k_is)
    (case a18 => k_is)
    (case l18 => k_is)
    (case c18 => k_is)
    (case k18 => k_is)
    (case a19 => k_is)
    (case l19 => k_is)
    (case c19 => k_is)
    (case k19 => k_is)
    (case a20 => k_is)
    (case l20 => k_is)
    (case c20 => k_is)
    (case k20 => k_is)
    (case a21 => k_is)
    (case l21 => k_is)
    (case c21 => k_is)
    (case k21 => k_is)
    (case a22 => k_is)
    (case l22 => k_is)
    (case c22 => k_is)
    (case k22 => k_is)
    (case a23 => k_is)
    (case l23 => k_is)
    (case c23 => k_is)
    (case k23 => k_is)
    (case a24 => k_is)
    (case l24 => k_is)
    (case c24 => k_is)
    (case k24 => k_is)
    (case a25 => k_is)
    (case l25 => k_is)
    (case c25 => k_is)
    (case k25 => k_is)
    (case a26 => k_is)
    (case l26 => k_is)
    (case c26 => k_is)
    (case k26 => k_is)
    (case a27 => k_is)
    (case l27 => k_is)
    (case c27 => k_is)
    (case k27 => k_is)
    (case a28 => k_is)
    (case l28 => k_is)
    (case c28 => k_is)
    (case k28 => k_is)
    (case a29 => k_is)
    (case l29 => k_is)
    (case c29 => k_is)
    (case k29 => k_is)
    (case a30 => k_is)
    (case l30 => k_is)
    (case c30 => k_is)
    (case k30 => k_is)
    (case a31 => k_is)
    (case l31 => k_is)
    (case c31 => k_is)
    (case k31 => k_is)
    (case a32 => k_is)
    (case l32 => k_is)
    (case c32 => k_is)
    (case k32 => k_is)
    (case a33 => k_is)
    (case l33 => k_is)
    (case c33 => k_is)
    (case k33 => k_is)
    (case a34 => k_is)
    (case l34 => k_is)
    (case c34 => k_is)
    (case k34 => k_is)
    (case a35 => k_is)
    (case l35 => k_is)
    (case c35 => k_is)
    (case k35 => k_is)
    (case a36 => k_is)
    (case l36 => k_is)
    (case c36 => k_is)
    (case k36 => k_is)
    (case a37 => k_is)
    (case l37 => k_is)
    (case c37 => k_is)
    (case k37 => k_is)
    (case a38 => k_is)
    (case l38 => k_is)
    (case c38 => k_is)
    (case k38 => k_is)
    (case a39 => k_is)
    (case l39 => k_is)
    (case c39 => k_is)
    (case k39 => k_is)
    (case a40 => k_is)
    (case l40 => k_is)
    (case c40 => k_is)
    (case k40 => k_is)
    (case a41 => k_is)
    (case l41 => k_is)
    (case c41 => k_is)
    (case k41 => k_is)
    (case a42 => k_is)
    (case l42 => k_is)
    (case c42 => k_is)
    (case k42 => k_is)
    (case a43 => k_is)
    (case l43 => k_is)
    (case c43 => k_is)
    (case k43 => k_is)
    (case a44 => k_is)
    (case l44 => k_is)
    (case c44 => k_is)
    (case k44 => k_is)
    (case a45 => k_is)
    (case l45 => k_is)
    (case c45 => k_is)
    (case k45 => k_is)
    (case a46 => k_is)
    (case l46 => k_is)
    (case c46 => k_is)
    (case k46 => k_is)
    (case a47 => k_is)
    (case l47 => k_is)
    (case c47 => k_is)
    (case k47 => k_is)
    (case a48 => k_is)
    (case l48 => k_is)
    (case c48 => k_is)
    (case k48 => k_is)
    (case a49 => k_is)
    (case l49 => k_is)
    (case c49 => k_is)
    (case k49 => k_is)
    (case a50 => k_is)
    (case l50 => k_is)
    (case c50 => k_is)
    (case k50 => k_is)
    (case a51 => k_is)
    (case l51 => k_is)
    (case c51 => k_is)
    (case k51 => k_is)
    (case a52 => k_is)
    (case l52 => k_is)
    (case c52 => k_is)
    (case k52 => k_is)
    (case a53 => k_is)
    (case l53 => k_is)
    (case c53 => k_is)
    (case k53 => k_is)
    (case a54 => k_is)
    (case l54 => k_is)
    (case c54 => k_is)
    (case k54 => k_is)
    (case a55 => k_is)
    (case l55 => k_is)
    (case c55 => k_is)
    (case k55 => k_is)
    (case z_len => k_is)
    (case z_int => k_is)
    (case z_max => k_is)
    (case z_min => k_is)
    (case z_tuple => k_is)
    (case z_list => k_is)
    (case z_range => k_is)
    (case z_any => k_is)
    (case z_all => k_is)
    (case z_repr => k_is)
    (case z_enumerate => k_is)
    (case z_isinstance => k_is)
    (case z_bool => k_is)
    (case z_abs => k_is)
    (case z_zip => k_is)
    (case z_sum => k_is)
    (case z_sorted => k_is)
    (case g_gcd => k_is)
    (case g_MAX_FACTOR => k_is)
    (case g_MAX_DEEDS => k_is)
    (case g_PRIMES => k_is)
    (case lt0 => k_is)
    (case ct_0 => rfl)
    (case dt0 => rfl)
    (case vt0 => repeat (first | exact PySem.Paired.nil | refine PySem.Paired.cons ⟨_, rfl⟩ ?_))
    (case zt0 => decide)
