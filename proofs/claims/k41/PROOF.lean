import PyProof.Rows.All
import Wide.All
import OpenK.AllK
import Wide.FinOn
import HandS.ForExc
import HandS.Comp
import HandS.Iter
import HandS.Gcd
import HandS.IsInst
import HandS.ExcIs
import HandS.Flow
import HandS.Wide
import KE.KMathGC
import HandS.TupLe
import HandS.TupAny
import PySem.Challenge.RW_speciesmill_k41_sets_from_a_place_on
set_option Elab.async false
set_option linter.all false
set_option maxRecDepth 100000
set_option maxHeartbeats 4000000
namespace SM
open PySem L2
def topS (i : Nat) : Stmt := PySem.Challenge.pw_speciesmill_k41_sets_from_a_place_on.main.body.getD i (.Pass ⟨0, 0, 0, 0⟩)
abbrev s__wall : Stmt := topS 1
theorem sc__wall : FnScope ["k"] ["k"] (defScope s__wall) := ⟨rfl, rfl, rfl, by decide +kernel, rfl, by decide +kernel, by decide +kernel⟩
abbrev s_is_whole : Stmt := topS 3
theorem sc_is_whole : FnScope ["value"] ["value"] (defScope s_is_whole) := ⟨rfl, rfl, rfl, by decide +kernel, rfl, by decide +kernel, by decide +kernel⟩
abbrev s_check_counts : Stmt := topS 10
theorem sc_check_counts : FnScope ["counts", "item"] ["counts"] (defScope s_check_counts) := ⟨rfl, rfl, rfl, by decide +kernel, rfl, by decide +kernel, by decide +kernel⟩
abbrev s_check_member_counts : Stmt := topS 12
theorem sc_check_member_counts : FnScope ["counts"] ["counts"] (defScope s_check_member_counts) := ⟨rfl, rfl, rfl, by decide +kernel, rfl, by decide +kernel, by decide +kernel⟩
abbrev s_check_number : Stmt := topS 13
theorem sc_check_number : FnScope ["counts", "value"] ["counts", "value"] (defScope s_check_number) := ⟨rfl, rfl, rfl, by decide +kernel, rfl, by decide +kernel, by decide +kernel⟩
abbrev s_check_place : Stmt := topS 14
theorem sc_check_place : FnScope ["counts", "value", "size", "index"] ["counts", "value"] (defScope s_check_place) := ⟨rfl, rfl, rfl, by decide +kernel, rfl, by decide +kernel, by decide +kernel⟩
abbrev s_sets_from : Stmt := topS 16
theorem sc_sets_from : FnScope ["counts", "members", "size", "first"] ["counts", "members", "size", "first"] (defScope s_sets_from) := ⟨rfl, rfl, rfl, by decide +kernel, rfl, by decide +kernel, by decide +kernel⟩
abbrev s_repeated : Stmt := topS 17
theorem sc_repeated : FnScope ["allowed", "times"] ["allowed", "times"] (defScope s_repeated) := ⟨rfl, rfl, rfl, by decide +kernel, rfl, by decide +kernel, by decide +kernel⟩
abbrev s_Bags_init : Stmt := inClass (topS 18) 0
theorem sc_Bags_init : FnScope ["self", "counts", "empty", "least", "members", "row", "_", "size"] ["self", "counts"] (defScope s_Bags_init) := ⟨rfl, rfl, rfl, by decide +kernel, rfl, by decide +kernel, by decide +kernel⟩
abbrev s_Bags_with_allowed : Stmt := inClass (topS 18) 1
theorem sc_Bags_with_allowed : FnScope ["self", "least", "allowed", "members", "size", "greater", "total", "times"] ["self", "least", "allowed", "members", "size"] (defScope s_Bags_with_allowed) := ⟨rfl, rfl, rfl, by decide +kernel, rfl, by decide +kernel, by decide +kernel⟩
abbrev s_Bags_exactly : Stmt := inClass (topS 18) 2
theorem sc_Bags_exactly : FnScope ["self", "members", "size", "first", "least", "index"] ["self", "members", "size", "first"] (defScope s_Bags_exactly) := ⟨rfl, rfl, rfl, by decide +kernel, rfl, by decide +kernel, by decide +kernel⟩
abbrev s_Bags_within : Stmt := inClass (topS 18) 3
theorem sc_Bags_within : FnScope ["self", "least", "most", "size", "first"] ["self", "least", "most", "size", "first"] (defScope s_Bags_within) := ⟨rfl, rfl, rfl, by decide +kernel, rfl, by decide +kernel, by decide +kernel⟩
abbrev s__law_draws : Stmt := topS 20
theorem sc__law_draws : FnScope ["script", "many", "draws", "at", "cell", "number", "k"] ["script", "many"] (defScope s__law_draws) := ⟨rfl, rfl, rfl, by decide +kernel, rfl, by decide +kernel, by decide +kernel⟩
abbrev s__law_is_number : Stmt := topS 21
theorem sc__law_is_number : FnScope ["value"] ["value"] (defScope s__law_is_number) := ⟨rfl, rfl, rfl, by decide +kernel, rfl, by decide +kernel, by decide +kernel⟩
abbrev s__law_sets : Stmt := topS 22
theorem sc__law_sets : FnScope ["places", "members", "size", "found", "k", "longer", "one", "place", "other"] ["places", "members", "size"] (defScope s__law_sets) := ⟨rfl, rfl, rfl, by decide +kernel, rfl, by decide +kernel, by decide +kernel⟩
abbrev s__law_chosen : Stmt := topS 23
theorem sc__law_chosen : FnScope ["count", "times", "total", "k"] ["count", "times"] (defScope s__law_chosen) := ⟨rfl, rfl, rfl, by decide +kernel, rfl, by decide +kernel, by decide +kernel⟩
abbrev s__law_told : Stmt := topS 24
theorem sc__law_told : FnScope ["counts", "members", "size", "first", "e"] ["counts", "members", "size", "first"] (defScope s__law_told) := ⟨rfl, rfl, rfl, by decide +kernel, rfl, by decide +kernel, by decide +kernel⟩
abbrev s_law : Stmt := topS 25
theorem sc_law : FnScope ["script", "draws", "counts", "copy", "places", "size", "k", "members", "first", "allowed", "told", "many", "few", "ones", "twos", "least", "long", "due", "bad", "place", "wrong"] ["script"] (defScope s_law) := ⟨rfl, rfl, rfl, by decide +kernel, rfl, by decide +kernel, by decide +kernel⟩
end SM

/-! Sums, the binomial convolution, and sets without labels: plain mathematics. -/
namespace SMath
def S : Nat → (Nat → Int) → Int
  | 0, _ => 0
  | n + 1, f => S n f + f n
theorem S_list (n : Nat) (f : Nat → Int) : ((List.range n).map f).sum = S n f := by
  induction n with
  | zero => rfl
  | succ n ih => rw [List.range_succ, List.map_append, List.sum_append, ih]; simp [S]
theorem S_congr {n : Nat} {f g : Nat → Int} (h : ∀ i, i < n → f i = g i) : S n f = S n g := by
  induction n with
  | zero => rfl
  | succ n ih => rw [S, S, ih fun i hi => h i (Nat.lt_succ_of_lt hi), h n (Nat.lt_succ_self n)]
theorem S_add (n : Nat) (f g : Nat → Int) : S n (fun i => f i + g i) = S n f + S n g := by
  induction n with
  | zero => rfl
  | succ n ih => rw [S, S, S, ih]; omega
theorem S_mul (n : Nat) (c : Int) (f : Nat → Int) : S n (fun i => c * f i) = c * S n f := by
  induction n with
  | zero => simp [S]
  | succ n ih => rw [S, S, ih, Int.mul_add]
theorem S_zero (n : Nat) : S n (fun _ => 0) = 0 := by
  induction n with
  | zero => rfl
  | succ n ih => rw [S, ih]; rfl
theorem S_zero' {n : Nat} {f : Nat → Int} (h : ∀ i, i < n → f i = 0) : S n f = 0 := (S_congr h).trans (S_zero n)
theorem S_first (n : Nat) (f : Nat → Int) : S (n + 1) f = f 0 + S n (fun i => f (i + 1)) := by
  induction n with
  | zero => simp [S]
  | succ n ih => rw [S, ih, S]; omega
theorem S_ext {n k : Nat} {f : Nat → Int} (h : ∀ i, n ≤ i → i < n + k → f i = 0) : S (n + k) f = S n f := by
  induction k with
  | zero => rfl
  | succ k ih => rw [← Nat.add_assoc, S, ih fun i a b => h i a (by omega), h (n + k) (by omega) (by omega)]; omega
theorem S_ext' {n m : Nat} {f : Nat → Int} (hm : n ≤ m) (h : ∀ i, n ≤ i → i < m → f i = 0) : S m f = S n f := by
  obtain ⟨k, rfl⟩ := Nat.exists_eq_add_of_le hm
  exact S_ext h
theorem S_swap (n m : Nat) (f : Nat → Nat → Int) : S n (fun i => S m (f i)) = S m (fun j => S n (fun i => f i j)) := by
  induction n with
  | zero => simp [S, S_zero]
  | succ n ih => rw [S, ih, ← S_add]; rfl
/-! ### binomials -/
def bin : Nat → Nat → Int
  | _, 0 => 1
  | 0, _ + 1 => 0
  | n + 1, k + 1 => bin n k + bin n (k + 1)
theorem bin_0 (n : Nat) : bin n 0 = 1 := by cases n <;> rfl
theorem bin_gt : ∀ {n k : Nat}, n < k → bin n k = 0
  | 0, k + 1, _ => rfl
  | n + 1, k + 1, h => by rw [bin, bin_gt (by omega), bin_gt (by omega)]; rfl
/-! ### the convolution with binomials -/
def bc (f g : Nat → Int) (n : Nat) : Int := S (n + 1) fun k => bin n k * f k * g (n - k)
def dl (f : Nat → Int) : Nat → Int := fun n => f (n + 1)
theorem bc_dl (f g : Nat → Int) (n : Nat) : bc f g (n + 1) = bc (dl f) g n + bc f (dl g) n := by
  have e1 : bc f g (n + 1) = f 0 * g (n + 1) + (S (n + 1) (fun k => bin n k * f (k + 1) * g (n - k)) + S (n + 1) (fun k => bin n (k + 1) * f (k + 1) * g (n - k))) := by
    unfold bc
    rw [S_first, ← S_add]
    have a : bin (n + 1) 0 * f 0 * g (n + 1 - 0) = f 0 * g (n + 1) := by rw [bin_0, Int.one_mul]; rfl
    have b : S (n + 1) (fun i => bin (n + 1) (i + 1) * f (i + 1) * g (n + 1 - (i + 1))) = S (n + 1) (fun k => bin n k * f (k + 1) * g (n - k) + bin n (k + 1) * f (k + 1) * g (n - k)) := S_congr fun i _ => by
      rw [bin, Int.add_mul, Int.add_mul, Nat.add_sub_add_right]
    rw [a, b]
  have e2 : bc f (dl g) n = f 0 * g (n + 1) + S (n + 1) (fun k => bin n (k + 1) * f (k + 1) * g (n - k)) := by
    have a : bc f (dl g) n = S (n + 2) (fun k => bin n k * f k * g (n + 1 - k)) := by
      rw [S, bin_gt (Nat.lt_succ_self n), Int.zero_mul, Int.zero_mul, Int.add_zero]
      unfold bc dl
      exact S_congr fun i hi => by rw [show n - i + 1 = n + 1 - i by omega]
    rw [a, S_first, bin_0, Int.one_mul]
    show f 0 * g (n + 1) + _ = _
    congr 1
    exact S_congr fun i _ => by rw [Nat.add_sub_add_right]
  rw [e1, e2]
  unfold bc dl
  omega
theorem bc_0 (f g : Nat → Int) : bc f g 0 = f 0 * g 0 := by
  unfold bc
  simp [S, bin_0]
theorem bc_left (n : Nat) : ∀ f g h : Nat → Int, bc f (bc g h) n = bc g (bc f h) n := by
  induction n with
  | zero =>
    intro f g h
    rw [bc_0, bc_0, bc_0, bc_0, ← Int.mul_assoc, ← Int.mul_assoc, Int.mul_comm (f 0)]
  | succ n ih =>
    intro f g h
    have e : ∀ f g h : Nat → Int, bc f (bc g h) (n + 1) = bc (dl f) (bc g h) n + (bc f (bc (dl g) h) n + bc f (bc g (dl h)) n) := by
      intro f g h
      rw [bc_dl]
      congr 1
      have : ∀ k, dl (bc g h) k = bc (dl g) h k + bc g (dl h) k := fun k => bc_dl g h k
      unfold bc at this ⊢
      rw [← S_add]
      refine S_congr fun i _ => ?_
      rw [this, Int.mul_add]
    rw [e, e, ih (dl f) g h, ih f (dl g) h, ih f g (dl h)]
    omega
theorem bc_mul (f g : Nat → Int) (c : Int) (n : Nat) : bc f (fun k => c * g k) n = c * bc f g n := by
  unfold bc
  rw [← S_mul]
  exact S_congr fun i _ => by rw [← Int.mul_assoc, Int.mul_comm (bin n i * f i) c, Int.mul_assoc]
theorem bc_congr {f g h k : Nat → Int} {n : Nat} (h1 : ∀ i, i ≤ n → f i = h i) (h2 : ∀ i, i ≤ n → g i = k i) : bc f g n = bc h k n := by
  unfold bc
  exact S_congr fun i hi => by rw [h1 i (by omega), h2 (n - i) (by omega)]
/-- rows of m labelled members -/
def R (c : Nat → Int) : Nat → Nat → Int
  | 0 => fun n => if n = 0 then 1 else 0
  | m + 1 => bc c (R c m)
/-- the row with the least label taken off -/
theorem R_dl (c : Nat → Int) : ∀ m n, R c (m + 1) (n + 1) = ((m : Int) + 1) * bc (dl c) (R c m) n
  | 0, n => by
    show bc c (R c 0) (n + 1) = _
    rw [bc_dl]
    have e : bc c (dl (R c 0)) n = 0 := by
      unfold bc
      refine S_zero' fun i _ => ?_
      show _ * (if n - i + 1 = 0 then (1 : Int) else 0) = 0
      rw [if_neg (by omega), Int.mul_zero]
    rw [e]
    simp
  | m + 1, n => by
    show bc c (R c (m + 1)) (n + 1) = _
    rw [bc_dl]
    have e : bc c (dl (R c (m + 1))) n = ((m : Int) + 1) * bc (dl c) (R c (m + 1)) n := by
      have : ∀ k, dl (R c (m + 1)) k = ((m : Int) + 1) * bc (dl c) (R c m) k := fun k => R_dl c m k
      rw [bc_congr (fun _ _ => rfl) (fun k _ => this k), bc_mul, bc_left]
      rfl
    rw [e]
    have : ((m + 1 : Nat) : Int) = (m : Int) + 1 := by omega
    rw [this, Int.add_mul ((m : Int) + 1) 1, Int.one_mul]
    omega
end SMath

namespace SMath
/-! ### series shifted -/
def sh (s : Nat) (f : Nat → Int) (n : Nat) : Int := if s ≤ n then f (n - s) else 0
theorem sh_0 (f : Nat → Int) : sh 0 f = f := by
  funext n
  unfold sh
  rw [if_pos (Nat.zero_le n), Nat.sub_zero]
theorem sh_sh (s t : Nat) (f : Nat → Int) : sh s (sh t f) = sh (t + s) f := by
  funext n
  unfold sh
  by_cases h1 : s ≤ n
  · rw [if_pos h1]
    by_cases h2 : t ≤ n - s
    · rw [if_pos h2, if_pos (by omega), show n - s - t = n - (t + s) by omega]
    · rw [if_neg h2, if_neg (by omega)]
  · rw [if_neg h1, if_neg (by omega)]
theorem sh_add (s : Nat) (f g : Nat → Int) : sh s (fun n => f n + g n) = fun n => sh s f n + sh s g n := by
  funext n
  unfold sh
  split <;> simp
theorem sh_mul (s : Nat) (c : Int) (f : Nat → Int) : sh s (fun n => c * f n) = fun n => c * sh s f n := by
  funext n
  unfold sh
  split <;> simp
theorem sh_S (s k : Nat) (f : Nat → Nat → Int) : sh s (fun n => S k (fun i => f i n)) = fun n => S k (fun i => sh s (f i) n) := by
  funext n
  unfold sh
  split
  · rfl
  · rw [S_zero]
/-! ### the recurrence by members -/
structure Op (P : Nat → (Nat → Int) → Nat → Int) : Prop where
  add : ∀ e f g, P e (fun n => f n + g n) = fun n => P e f n + P e g n
  comm : ∀ e s f, P e (sh s f) = sh s (P e f)
def Rec (P : Nat → (Nat → Int) → Nat → Int) (B : Nat → Nat → Int) : Prop := ∀ (m n : Nat), ((m : Int) + 1) * B (m + 1) n = S (m + 1) fun e => P (e + 1) (B (m - e)) n
def geo (s : Nat) (B : Nat → Nat → Int) : Nat → Nat → Int
  | 0 => B 0
  | m + 1 => fun n => B (m + 1) n + sh s (geo s B m) n
theorem op_step {P : Nat → (Nat → Int) → Nat → Int} (hP : Op P) (s : Nat) : Op fun e f n => P e f n + sh (e * s) f n := by
  refine ⟨fun e f g => ?_, fun e t f => ?_⟩
  · funext n
    rw [hP.add, sh_add]
    dsimp only
    omega
  · funext n
    rw [sh_add, hP.comm, sh_sh, sh_sh, Nat.add_comm t]
theorem rec_step {P : Nat → (Nat → Int) → Nat → Int} {B : Nat → Nat → Int} (hP : Op P) (hB : Rec P B) (s : Nat) : Rec (fun e f n => P e f n + sh (e * s) f n) (geo s B) := by
  intro m
  induction m with
  | zero =>
    intro n
    have h := hB 0 n
    simp only [S, Int.zero_add, Nat.sub_self, Nat.sub_zero] at h ⊢
    show ((0 : Nat) + 1 : Int) * (B 1 n + sh s (B 0) n) = P 1 (B 0) n + sh (1 * s) (B 0) n
    have h' : B 1 n = P 1 (B 0) n := by simpa using h
    rw [h', Nat.one_mul]
    simp
  | succ m ih =>
    intro n
    -- the first part of the right side
    have a1 : S (m + 2) (fun e => P (e + 1) (geo s B (m + 1 - e)) n) = S (m + 2) (fun e => P (e + 1) (B (m + 1 - e)) n) + S (m + 1) (fun e => sh s (P (e + 1) (geo s B (m - e))) n) := by
      rw [S, show S (m + 2) (fun e => P (e + 1) (B (m + 1 - e)) n) = S (m + 1) (fun e => P (e + 1) (B (m + 1 - e)) n) + P (m + 1 + 1) (B (m + 1 - (m + 1))) n from rfl, Nat.sub_self]
      have : S (m + 1) (fun e => P (e + 1) (geo s B (m + 1 - e)) n) = S (m + 1) (fun e => P (e + 1) (B (m + 1 - e)) n) + S (m + 1) (fun e => sh s (P (e + 1) (geo s B (m - e))) n) := by
        rw [← S_add]
        refine S_congr fun e he => ?_
        rw [show m + 1 - e = (m - e) + 1 by omega]
        show P (e + 1) (fun n => B (m - e + 1) n + sh s (geo s B (m - e)) n) n = _
        rw [hP.add, hP.comm]
      rw [this]
      show _ + P (m + 1 + 1) (B 0) n = _
      omega
    have a2 : S (m + 2) (fun e => sh ((e + 1) * s) (geo s B (m + 1 - e)) n) = sh s (geo s B (m + 1)) n + S (m + 1) (fun e => sh s (sh ((e + 1) * s) (geo s B (m - e))) n) := by
      rw [S_first, Nat.zero_add, Nat.one_mul, Nat.sub_zero]
      congr 1
      refine S_congr fun e _ => ?_
      rw [sh_sh, Nat.add_sub_add_right, show (e + 1 + 1) * s = (e + 1) * s + s by rw [Nat.succ_mul (e + 1)]]
    have a3 : S (m + 1) (fun e => sh s (P (e + 1) (geo s B (m - e))) n) + S (m + 1) (fun e => sh s (sh ((e + 1) * s) (geo s B (m - e))) n) = ((m : Int) + 1) * sh s (geo s B (m + 1)) n := by
      have h : (fun n => ((m : Int) + 1) * geo s B (m + 1) n) = fun n => S (m + 1) fun e => P (e + 1) (geo s B (m - e)) n + sh ((e + 1) * s) (geo s B (m - e)) n := funext fun n => ih n
      have h2 := congrFun (congrArg (sh s) h) n
      rw [sh_mul, sh_S] at h2
      have h2' : ((m : Int) + 1) * sh s (geo s B (m + 1)) n = S (m + 1) fun e => sh s (fun n => P (e + 1) (geo s B (m - e)) n + sh ((e + 1) * s) (geo s B (m - e)) n) n := h2
      rw [h2', ← S_add]
      refine S_congr fun e _ => ?_
      rw [sh_add]
    have h := hB (m + 1) n
    rw [S_add, a1, a2, ← h]
    have hc : ((m + 1 : Nat) : Int) = (m : Int) + 1 := by omega
    rw [hc]
    show ((m : Int) + 1 + 1) * (B (m + 1 + 1) n + sh s (geo s B (m + 1)) n) = _
    rw [Int.mul_add]
    have h5 : ((m : Int) + 1 + 1) * sh s (geo s B (m + 1)) n = ((m : Int) + 1) * sh s (geo s B (m + 1)) n + sh s (geo s B (m + 1)) n := by rw [Int.add_mul ((m : Int) + 1) 1, Int.one_mul]
    rw [h5, ← a3]
    omega
/-! ### the bag -/
def geoN (s : Nat) : Nat → (Nat → Nat → Int) → Nat → Nat → Int
  | 0, B => B
  | v + 1, B => geo s (geoN s v B)
def d2 : Nat → Nat → Int := fun m n => if m = 0 ∧ n = 0 then 1 else 0
def bag (c : Nat → Nat) : Nat → Nat → Nat → Int
  | 0 => d2
  | L + 1 => geoN (L + 1) (c (L + 1)) (bag c L)
def Pc (c : Nat → Nat) (L e : Nat) (f : Nat → Int) (n : Nat) : Int := S L fun i => (c (i + 1) : Int) * sh (e * (i + 1)) f n
theorem op_Pc (c : Nat → Nat) (L : Nat) : Op (Pc c L) := by
  refine ⟨fun e f g => ?_, fun e s f => ?_⟩
  · funext n
    unfold Pc
    rw [← S_add]
    refine S_congr fun i _ => ?_
    rw [sh_add, Int.mul_add]
  · funext n
    show S L (fun i => (c (i + 1) : Int) * sh (e * (i + 1)) (sh s f) n) = sh s (fun n => S L fun i => (c (i + 1) : Int) * sh (e * (i + 1)) f n) n
    rw [sh_S]
    refine S_congr fun i _ => ?_
    rw [sh_mul, sh_sh, sh_sh, Nat.add_comm s]
theorem rec_geoN {P : Nat → (Nat → Int) → Nat → Int} {B : Nat → Nat → Int} (hP : Op P) (hB : Rec P B) (s : Nat) : ∀ v : Nat, Op (fun e f n => P e f n + (v : Int) * sh (e * s) f n) ∧ Rec (fun e f n => P e f n + (v : Int) * sh (e * s) f n) (geoN s v B)
  | 0 => by
    have e : (fun (e : Nat) (f : Nat → Int) (n : Nat) => P e f n + ((0 : Nat) : Int) * sh (e * s) f n) = P := by
      funext e f n
      simp
    rw [e]
    exact ⟨hP, hB⟩
  | v + 1 => by
    obtain ⟨h1, h2⟩ := rec_geoN hP hB s v
    have e : (fun (e : Nat) (f : Nat → Int) (n : Nat) => P e f n + ((v + 1 : Nat) : Int) * sh (e * s) f n) = fun e f n => (P e f n + (v : Int) * sh (e * s) f n) + sh (e * s) f n := by
      funext e f n
      rw [show ((v + 1 : Nat) : Int) = (v : Int) + 1 by omega, Int.add_mul, Int.one_mul]
      omega
    rw [e]
    exact ⟨op_step h1 s, rec_step h1 h2 s⟩
theorem rec_bag (c : Nat → Nat) : ∀ L, Rec (Pc c L) (bag c L)
  | 0 => by
    intro m n
    have e : S (m + 1) (fun e => Pc c 0 (e + 1) (bag c 0 (m - e)) n) = 0 := S_zero' fun i _ => rfl
    rw [e]
    show ((m : Int) + 1) * (if m + 1 = 0 ∧ n = 0 then (1 : Int) else 0) = 0
    rw [if_neg (by omega), Int.mul_zero]
  | L + 1 => (rec_geoN (op_Pc c L) (rec_bag c L) (L + 1) (c (L + 1))).2
theorem geo_0 (s : Nat) (B : Nat → Nat → Int) : geo s B 0 = B 0 := rfl
theorem geoN_0 (s v : Nat) (B : Nat → Nat → Int) : geoN s v B 0 = B 0 := by
  induction v with
  | zero => rfl
  | succ v ih => show geo s (geoN s v B) 0 = _; rw [geo_0, ih]
theorem bag_0 (c : Nat → Nat) (n : Nat) : ∀ L, bag c L 0 n = if n = 0 then 1 else 0
  | 0 => by
    show (if 0 = 0 ∧ n = 0 then (1 : Int) else 0) = _
    simp
  | L + 1 => by
    show geoN (L + 1) (c (L + 1)) (bag c L) 0 n = _
    rw [geoN_0]
    exact bag_0 c n L
/-- fewer atoms than members -/
theorem bag_small (c : Nat → Nat) (L : Nat) : ∀ m n, n < m → bag c L m n = 0 := by
  intro m
  induction m using Nat.strongRecOn with
  | ind m ih =>
    intro n hn
    match m, hn with
    | m + 1, hn =>
      have h := rec_bag c L m n
      have e : S (m + 1) (fun e => Pc c L (e + 1) (bag c L (m - e)) n) = 0 := by
        refine S_zero' fun e he => ?_
        unfold Pc
        refine S_zero' fun i hi => ?_
        unfold sh
        split
        · have h1 : e + 1 ≤ (e + 1) * (i + 1) := Nat.le_mul_of_pos_right _ (by omega)
          rw [ih (m - e) (by omega) _ (by omega), Int.mul_zero]
        · rw [Int.mul_zero]
      rw [e] at h
      rcases Int.mul_eq_zero.mp h with h | h
      · omega
      · exact h
/-- the closed form of one step of the bag -/
def G : Nat → Nat → Int
  | 0, 0 => 1
  | 0, _ + 1 => 0
  | _ + 1, 0 => 1
  | v + 1, t + 1 => G (v + 1) t + G v (t + 1)
theorem G_0 (v : Nat) : G v 0 = 1 := by cases v <;> simp [G]
theorem geoN_eq (s : Nat) (B : Nat → Nat → Int) : ∀ v m n, geoN s v B m n = S (m + 1) fun t => G v t * sh (t * s) (B (m - t)) n
  | 0, m, n => by
    rw [S_first, G, Nat.zero_mul, sh_0, Int.one_mul, Nat.sub_zero]
    have : S m (fun i => G 0 (i + 1) * sh ((i + 1) * s) (B (m - (i + 1))) n) = 0 := S_zero' fun i _ => by rw [G, Int.zero_mul]
    rw [this, Int.add_zero]
    rfl
  | v + 1, m, n => by
    induction m generalizing n with
    | zero =>
      show geo s (geoN s v B) 0 n = _
      rw [geo_0, geoN_eq s B v 0 n]
      simp [S, G_0]
    | succ m ih =>
      show geoN s v B (m + 1) n + sh s (geoN s (v + 1) B m) n = _
      rw [geoN_eq s B v (m + 1) n]
      have e1 : geoN s (v + 1) B m = fun n => S (m + 1) fun t => G (v + 1) t * sh (t * s) (B (m - t)) n := funext fun n => ih n
      rw [e1, sh_S, S_first (m + 1), S_first (m + 1) (fun t => G (v + 1) t * sh (t * s) (B (m + 1 - t)) n), G_0, G_0, Int.add_assoc, ← S_add]
      congr 1
      refine S_congr fun t _ => ?_
      rw [sh_mul, sh_sh, G, Int.add_mul, Nat.add_sub_add_right, show t * s + s = (t + 1) * s by rw [Nat.succ_mul]]
      dsimp only
      omega
end SMath

namespace SMath
theorem pow2_succ (n : Nat) : (2 : Int) ^ (n + 1) = 2 ^ n + 2 ^ n := by rw [Int.pow_succ]; omega
theorem pow2_pos (n : Nat) : (1 : Int) ≤ 2 ^ n := by
  induction n with
  | zero => decide
  | succ n ih => rw [pow2_succ]; omega
theorem bin_le : ∀ n k, 0 ≤ bin n k ∧ bin n k ≤ 2 ^ n
  | n, 0 => by rw [bin_0]; exact ⟨by decide, pow2_pos n⟩
  | 0, k + 1 => by rw [bin]; exact ⟨by decide, by decide⟩
  | n + 1, k + 1 => by
    have h1 := bin_le n k
    have h2 := bin_le n (k + 1)
    rw [bin, pow2_succ]
    omega
theorem G_le : ∀ v t, 0 ≤ G v t ∧ G v t ≤ 2 ^ (v + t)
  | v, 0 => by rw [G_0]; exact ⟨by decide, pow2_pos _⟩
  | 0, t + 1 => by rw [G]; exact ⟨by decide, Int.le_trans (by decide) (pow2_pos _)⟩
  | v + 1, t + 1 => by
    have h1 := G_le (v + 1) t
    have h2 := G_le v (t + 1)
    rw [G, show v + 1 + (t + 1) = (v + 1 + t) + 1 by omega, pow2_succ]
    rw [show v + (t + 1) = v + 1 + t by omega] at h2
    omega
theorem bin_step : ∀ n k : Nat, ((k : Int) + 1) * bin n (k + 1) = ((n : Int) - k) * bin n k
  | 0, 0 => by decide
  | 0, k + 1 => by
    rw [bin, bin]; simp
  | n + 1, 0 => by
    have h := bin_step n 0
    rw [bin_0] at h ⊢
    rw [show bin (n + 1) (0 + 1) = bin n 0 + bin n (0 + 1) from rfl, bin_0]
    have e : ((0 : Nat) : Int) = 0 := rfl
    rw [e] at h ⊢
    have e2 : ((n + 1 : Nat) : Int) = (n : Int) + 1 := by omega
    rw [e2]
    omega
  | n + 1, k + 1 => by
    have h1 := bin_step n (k + 1)
    have h2 := bin_step n k
    rw [bin, show bin (n + 1) (k + 1) = bin n k + bin n (k + 1) from rfl, Int.mul_add, h1]
    have e1 : ((k + 1 : Nat) : Int) = (k : Int) + 1 := by omega
    have e2 : ((n + 1 : Nat) : Int) = (n : Int) + 1 := by omega
    rw [e1, e2, Int.mul_add]
    have e3 : ((n : Int) + 1 - ((k : Int) + 1)) = (n : Int) - k := by omega
    rw [e3, ← h2]
    generalize bin n (k + 1) = x
    have a : ((k : Int) + 1 + 1) * x = ((k : Int) + 1) * x + x := by rw [Int.add_mul ((k : Int) + 1) 1, Int.one_mul]
    rw [← Int.add_mul, ← Int.add_mul]
    congr 1
    omega
theorem G_bin : ∀ v t : Nat, G v t = bin (v + t - 1) t
  | v, 0 => by rw [G_0, bin_0]
  | 0, t + 1 => by rw [G, bin_gt (by omega)]
  | v + 1, t + 1 => by
    rw [G, G_bin (v + 1) t, G_bin v (t + 1), show v + 1 + (t + 1) - 1 = (v + t) + 1 by omega, bin, show v + 1 + t - 1 = v + t by omega, show v + (t + 1) - 1 = v + t by omega]
theorem bag_step (c : Nat → Nat) (L m n : Nat) : bag c (L + 1) m n = S (min m (n / (L + 1)) + 1) fun t => bag c L (m - t) (n - t * (L + 1)) * G (c (L + 1)) t := by
  show geoN (L + 1) (c (L + 1)) (bag c L) m n = _
  rw [geoN_eq, S_ext' (n := min m (n / (L + 1)) + 1) (m := m + 1) (by omega)]
  · refine S_congr fun t ht => ?_
    have : t ≤ n / (L + 1) := by omega
    have h2 : t * (L + 1) ≤ n := (Nat.le_div_iff_mul_le (by omega)).mp this
    unfold sh
    rw [if_pos h2, Int.mul_comm]
  · intro t h1 h2
    have : ¬ t ≤ n / (L + 1) := by omega
    have h2 : ¬ t * (L + 1) ≤ n := fun z => this ((Nat.le_div_iff_mul_le (by omega)).mpr z)
    unfold sh
    rw [if_neg h2, Int.mul_zero]
end SMath

namespace SMath
/-! Sets of places, listed: plain mathematics for k41. -/
/-- the numbers of bags of places whose sizes stand in a list -/
def hh : List Nat → Nat → Nat → Int
  | [] => d2
  | s :: l => geo s (hh l)
theorem hh_rep (s : Nat) (l : List Nat) : ∀ v, hh (List.replicate v s ++ l) = geoN s v (hh l)
  | 0 => rfl
  | v + 1 => by
    show geo s (hh (List.replicate v s ++ l)) = geo s (geoN s v (hh l))
    rw [hh_rep s l v]
/-- bags of sizes from s on, k sizes in all -/
def up (c : Nat → Nat) : Nat → Nat → Nat → Nat → Int
  | 0, _ => d2
  | k + 1, s => geoN s (c s) (up c k (s + 1))
def upL (c : Nat → Nat) : Nat → Nat → List Nat
  | 0, _ => []
  | k + 1, s => List.replicate (c s) s ++ upL c k (s + 1)
theorem hh_up (c : Nat → Nat) : ∀ k s, hh (upL c k s) = up c k s
  | 0, _ => rfl
  | k + 1, s => by rw [upL, hh_rep, hh_up c k (s + 1), up]
theorem geo_small {B : Nat → Nat → Int} {s u : Nat} (hs : u ≤ s) (hB : ∀ m n, n < m * u → B m n = 0) : ∀ m n, n < m * u → geo s B m n = 0
  | 0, n, h => by rw [geo_0]; exact hB 0 n h
  | m + 1, n, h => by
    show B (m + 1) n + sh s (geo s B m) n = 0
    rw [hB (m + 1) n h]
    unfold sh
    split
    · rw [geo_small hs hB m _ (by rw [Nat.succ_mul] at h; omega)]; rfl
    · rfl
theorem geoN_small {B : Nat → Nat → Int} {s u : Nat} (hs : u ≤ s) (hB : ∀ m n, n < m * u → B m n = 0) : ∀ v m n, n < m * u → geoN s v B m n = 0
  | 0 => hB
  | v + 1 => geo_small hs (geoN_small hs hB v)
theorem up_small (c : Nat → Nat) : ∀ k s u, u ≤ s → ∀ m n, n < m * u → up c k s m n = 0
  | 0, s, u, hu, m, n, h => by
    show d2 m n = 0
    unfold d2
    rw [if_neg]
    rintro ⟨rfl, rfl⟩
    simp at h
  | k + 1, s, u, hu, m, n, h => geoN_small hu (fun m n h => up_small c k (s + 1) u (by omega) m n h) _ m n h
theorem up_0 (c : Nat → Nat) (n : Nat) : ∀ k s, up c k s 0 n = if n = 0 then 1 else 0
  | 0, s => by show (if 0 = 0 ∧ n = 0 then (1 : Int) else 0) = _; simp
  | k + 1, s => by rw [up, geoN_0, up_0 c n k (s + 1)]
/-- members that are too many for their sizes -/
theorem d2_many {m n : Nat} (h : 0 < m) : d2 m n = 0 := by
  unfold d2
  rw [if_neg (by omega)]
/-- what with_allowed adds up: T rows are there -/
theorem geoN_sum {s v m n T : Nat} {B : Nat → Nat → Int} (hs : 0 < s) (hB : ∀ a b, b ≤ n → T ≤ a → B a b = 0) :
    geoN s v B m n = S (min m (n / s) + 1 - (m + 1 - T)) fun i => G v (i + (m + 1 - T)) * B (m - (i + (m + 1 - T))) (n - s * (i + (m + 1 - T))) := by
  rw [geoN_eq]
  have e1 : S (m + 1) (fun t => G v t * sh (t * s) (B (m - t)) n) = S (min m (n / s) + 1) fun t => G v t * sh (t * s) (B (m - t)) n := by
    refine S_ext' (by omega) fun i h1 h2 => ?_
    have h3 : n < i * s := by
      have : n / s < i := by omega
      exact (Nat.div_lt_iff_lt_mul hs).mp this
    unfold sh
    rw [if_neg (by omega), Int.mul_zero]
  rw [e1]
  generalize hL : m + 1 - T = L
  by_cases hc : L ≤ min m (n / s) + 1
  · rw [show min m (n / s) + 1 = (min m (n / s) + 1 - L) + L by omega]
    generalize hk : min m (n / s) + 1 - L = k
    rw [show k + L - L = k by omega]
    have hz : ∀ (f : Nat → Int) (k : Nat), (∀ i, i < L → f i = 0) → S (k + L) f = S k fun i => f (i + L) := by
      intro f k h
      induction k with
      | zero => rw [Nat.zero_add, S_zero' h]; rfl
      | succ k ih => rw [show k + 1 + L = (k + L) + 1 by omega, S, ih, S]
    rw [hz _ k]
    · refine S_congr fun i hi => ?_
      have h3 : (i + L) * s ≤ n := by
        have : i + L ≤ n / s := by omega
        exact (Nat.le_div_iff_mul_le hs).mp this
      unfold sh
      rw [if_pos h3, Nat.mul_comm s]
    · intro i hi
      unfold sh
      split
      · rw [hB _ _ (by omega) (by omega), Int.mul_zero]
      · rw [Int.mul_zero]
  · rw [show min m (n / s) + 1 - L = 0 by omega, S]
    refine S_zero' fun i hi => ?_
    unfold sh
    split
    · rw [hB _ _ (by omega) (by omega), Int.mul_zero]
    · rw [Int.mul_zero]
end SMath

namespace SMath
abbrev Pl := Nat × Nat
def ple (p q : Pl) : Bool := decide (p.1 < q.1) || (decide (p.1 = q.1) && decide (p.2 ≤ q.2))
theorem ple_iff {p q : Pl} : ple p q = true ↔ p.1 < q.1 ∨ (p.1 = q.1 ∧ p.2 ≤ q.2) := by simp [ple]
theorem ple_refl (p : Pl) : ple p p = true := ple_iff.mpr (.inr ⟨rfl, Nat.le_refl _⟩)
theorem ple_trans {p q r : Pl} (h1 : ple p q = true) (h2 : ple q r = true) : ple p r = true := by
  rw [ple_iff] at *
  omega
theorem ple_total {p q : Pl} (h : ple p q = false) : ple q p = true := by
  have : ¬ ple p q = true := by simp [h]
  rw [ple_iff] at *
  omega
def szs (one : List Pl) : Nat := (one.map (·.1)).sum
/-- what is taken behind a row -/
def okp (n : Nat) (one : List Pl) (p : Pl) : Bool := (one.getLast?.all fun q => ple q p) && decide (p.1 + szs one ≤ n)
def fd (P : List Pl) (n : Nat) : Nat → List (List Pl)
  | 0 => [[]]
  | k + 1 => (fd P n k).flatMap fun one => (P.filter (okp n one)).map fun p => one ++ [p]
def comp (n : Nat) : Nat → List Pl → Nat → Int
  | 0, _, w => if w = n then 1 else 0
  | k + 1, Q, w => (Q.map fun p => if p.1 + w ≤ n then comp n k (Q.filter (ple p)) (w + p.1) else 0).sum
def aft (P : List Pl) (one : List Pl) : List Pl := P.filter fun p => one.getLast?.all fun q => ple q p
theorem aft_snoc (P one : List Pl) (p : Pl) : aft P (one ++ [p]) = P.filter (ple p) := by
  unfold aft
  simp
theorem aft_ple {P one : List Pl} {p : Pl} (h : one.getLast?.all (fun q => ple q p) = true) : (aft P one).filter (ple p) = P.filter (ple p) := by
  unfold aft
  rw [List.filter_filter]
  refine List.filter_congr fun x _ => ?_
  cases hp : ple p x with
  | false => simp
  | true =>
    cases hl : one.getLast? with
    | none => simp
    | some q =>
      rw [hl] at h
      have := ple_trans (by simpa using h) hp
      simp [this]
theorem szs_snoc (one : List Pl) (p : Pl) : szs (one ++ [p]) = szs one + p.1 := by
  unfold szs
  simp
theorem sum_flatMap {α β : Type} (f : α → List β) (g : β → Int) : ∀ l : List α, ((l.flatMap f).map g).sum = (l.map fun a => ((f a).map g).sum).sum
  | [] => rfl
  | a :: l => by
    rw [List.flatMap_cons, List.map_append, List.sum_append, sum_flatMap f g l]
    rfl
theorem sum_filter {α : Type} (p : α → Bool) (g : α → Int) : ∀ l : List α, ((l.filter p).map g).sum = (l.map fun a => if p a = true then g a else 0).sum
  | [] => rfl
  | a :: l => by
    rw [List.filter_cons]
    split
    · rename_i h
      simp only [List.map_cons, List.sum_cons, if_pos h, sum_filter p g l]
    · rename_i h
      simp only [List.map_cons, List.sum_cons, if_neg h, sum_filter p g l]
      omega
theorem fd_comp (P : List Pl) (n m : Nat) : ∀ k, k ≤ m → ((fd P n k).map fun one => comp n (m - k) (aft P one) (szs one)).sum = comp n m P 0
  | 0, _ => by
    have e : aft P [] = P := by unfold aft; simp
    show ([([] : List Pl)].map fun one => comp n (m - 0) (aft P one) (szs one)).sum = _
    simp [e, szs]
  | k + 1, h => by
    rw [← fd_comp P n m k (by omega), fd, sum_flatMap]
    congr 1
    refine List.map_congr_left fun one _ => ?_
    rw [List.map_map, sum_filter, show m - k = (m - (k + 1)) + 1 by omega, comp]
    unfold aft
    rw [sum_filter]
    congr 1
    refine List.map_congr_left fun p _ => ?_
    show (if okp n one p = true then comp n (m - (k + 1)) (aft P (one ++ [p])) (szs (one ++ [p])) else 0) = _
    unfold okp
    cases hl : one.getLast?.all (fun q => ple q p) with
    | false => simp
    | true =>
      rw [aft_snoc, szs_snoc]
      have e := aft_ple (P := P) hl
      unfold aft at e
      simp only [Bool.true_and, decide_eq_true_eq, if_true, e]
theorem fd_count (P : List Pl) (n m : Nat) : (((fd P n m).filter fun one => decide (szs one = n)).length : Int) = comp n m P 0 := by
  rw [← fd_comp P n m m (Nat.le_refl m)]
  have hh : ∀ l : List (List Pl), ((l.filter fun one => decide (szs one = n)).length : Int) = (l.map fun one => comp n (m - m) (aft P one) (szs one)).sum := by
    intro l
    induction l with
    | nil => rfl
    | cons one l ih =>
      rw [List.filter_cons, List.map_cons, List.sum_cons, ← ih, Nat.sub_self, comp]
      by_cases h : szs one = n
      · rw [if_pos (by simp [h]), if_pos h, List.length_cons]
        omega
      · rw [if_neg (by simp [h]), if_neg h]
        omega
  exact hh _
theorem comp_hh (n : Nat) : ∀ (k : Nat) (Q : List Pl) (w : Nat), Q.Pairwise (fun p q => ple q p = false) → w ≤ n → comp n k Q w = hh (Q.map (·.1)) k (n - w)
  | 0, Q, w, _, hw => by
    have e : ∀ l n, hh l 0 n = d2 0 n := by
      intro l n
      induction l with
      | nil => rfl
      | cons s l ih => show geo s (hh l) 0 n = _; rw [geo_0, ih]
    rw [e, comp]
    unfold d2
    by_cases h : w = n
    · rw [if_pos h, if_pos (by omega)]
    · rw [if_neg h, if_neg (by omega)]
  | k + 1, Q, w, hQ, hw => by
    rw [comp]
    induction Q with
    | nil =>
      show 0 = d2 (k + 1) (n - w)
      rw [d2_many (by omega)]
    | cons p l ih =>
      rw [List.pairwise_cons] at hQ
      have e1 : (p :: l).filter (ple p) = p :: l := by
        rw [List.filter_cons, if_pos (ple_refl p), List.filter_eq_self.mpr fun q hq => ple_total (hQ.1 q hq)]
      have e2 : (l.map fun q => if q.1 + w ≤ n then comp n k ((p :: l).filter (ple q)) (w + q.1) else 0) = l.map fun q => if q.1 + w ≤ n then comp n k (l.filter (ple q)) (w + q.1) else 0 := by
        refine List.map_congr_left fun q hq => ?_
        rw [List.filter_cons_of_neg (by simp [hQ.1 q hq])]
      rw [List.map_cons, List.sum_cons, e1, e2, ih hQ.2]
      show _ = geo p.1 (hh (l.map (·.1))) (k + 1) (n - w)
      show _ = hh (l.map (·.1)) (k + 1) (n - w) + sh p.1 (geo p.1 (hh (l.map (·.1))) k) (n - w)
      unfold sh
      by_cases h : p.1 + w ≤ n
      · rw [if_pos h, if_pos (by omega), comp_hh n k (p :: l) (w + p.1) (List.pairwise_cons.mpr hQ) (by omega), show n - w - p.1 = n - (w + p.1) by omega]
        show geo p.1 (hh (l.map (·.1))) k _ + _ = _
        omega
      · rw [if_neg h, if_neg (by omega)]
        omega
/-- the places of a size from s on, k sizes -/
def plsL (c : Nat → Nat) : Nat → Nat → List Pl
  | 0, _ => []
  | k + 1, s => (List.range (c s)).map (fun i => (s, i)) ++ plsL c k (s + 1)
theorem plsL_sizes (c : Nat → Nat) : ∀ k s, (plsL c k s).map (·.1) = upL c k s
  | 0, s => rfl
  | k + 1, s => by
    rw [plsL, upL, List.map_append, plsL_sizes c k (s + 1), List.map_map]
    congr 1
    induction c s with
    | zero => rfl
    | succ v ih => rw [List.range_succ, List.map_append, ih, List.replicate_succ']; rfl
theorem mem_plsL {c : Nat → Nat} {p : Pl} : ∀ {k s : Nat}, p ∈ plsL c k s → s ≤ p.1 ∧ p.1 < s + k ∧ p.2 < c p.1
  | 0, s, h => absurd h (by simp [plsL])
  | k + 1, s, h => by
    rw [plsL, List.mem_append] at h
    rcases h with h | h
    · obtain ⟨i, hi, e⟩ := List.mem_map.mp h
      rw [← e]
      exact ⟨Nat.le_refl _, by omega, List.mem_range.mp hi⟩
    · obtain ⟨h1, h2, h3⟩ := mem_plsL h
      exact ⟨by omega, by omega, h3⟩
theorem range_pair (a : Nat) : (List.range a).Pairwise (fun i j => i < j) := List.pairwise_lt_range
theorem plsL_sorted (c : Nat → Nat) : ∀ k s, (plsL c k s).Pairwise (fun p q => ple q p = false)
  | 0, s => .nil
  | k + 1, s => by
    rw [plsL, List.pairwise_append]
    refine ⟨?_, plsL_sorted c k (s + 1), fun p hp q hq => ?_⟩
    · rw [List.pairwise_map]
      refine (range_pair (c s)).imp fun {i j} h => ?_
      simp [ple]
      omega
    · obtain ⟨i, hi, e⟩ := List.mem_map.mp hp
      obtain ⟨h1, _, _⟩ := mem_plsL hq
      rw [← e]
      simp [ple]
      omega
/-- the places from a first one on -/
theorem plsL_from (c : Nat → Nat) (s i : Nat) : ∀ k t, t ≤ s → s < t + k → ((plsL c k t).filter (ple (s, i))).map (·.1) = List.replicate (c s - i) s ++ upL c (t + k - s - 1) (s + 1)
  | 0, t, h1, h2 => by omega
  | k + 1, t, h1, h2 => by
    rw [plsL, List.filter_append, List.map_append]
    by_cases h : t = s
    · subst h
      have e1 : (plsL c k (t + 1)).filter (ple (t, i)) = plsL c k (t + 1) := List.filter_eq_self.mpr fun q hq => by
        obtain ⟨h1, _, _⟩ := mem_plsL hq
        rw [ple_iff]
        exact .inl (by show t < q.1; omega)
      rw [e1, plsL_sizes, show t + (k + 1) - t - 1 = k by omega]
      congr 1
      induction c t with
      | zero => simp
      | succ v ih =>
        rw [List.range_succ, List.map_append, List.filter_append, List.map_append, ih]
        by_cases hv : i ≤ v
        · rw [show v + 1 - i = (v - i) + 1 by omega, List.replicate_succ']
          congr 1
          simp [ple, hv]
        · rw [show v + 1 - i = 0 by omega, show v - i = 0 by omega]
          simp [ple]
          omega
    · have e1 : ((List.range (c t)).map (fun i => (t, i))).filter (ple (s, i)) = [] := by
        rw [List.filter_eq_nil_iff]
        intro q hq
        obtain ⟨j, hj, e⟩ := List.mem_map.mp hq
        rw [← e]
        simp [ple]
        omega
      rw [e1, plsL_from c s i k (t + 1) (by omega) (by omega), show t + 1 + k - s - 1 = t + (k + 1) - s - 1 by omega]
      rfl
/-- what the law lists is what the program reckons -/
theorem law_count (c : Nat → Nat) (N s i m n : Nat) (hs : s < N) : (((fd ((plsL c N 0).filter (ple (s, i))) n m).filter fun one => decide (szs one = n)).length : Int) = geoN s (c s - i) (up c (N - s - 1) (s + 1)) m n := by
  rw [fd_count, comp_hh n m _ 0 ((plsL_sorted c N 0).filter _) (Nat.zero_le n), plsL_from c s i N 0 (Nat.zero_le s) (by omega), hh_rep, hh_up, Nat.sub_zero, Nat.zero_add]
end SMath

namespace SMath
theorem G_step : ∀ v t : Nat, ((t : Int) + 1) * G v (t + 1) = ((v : Int) + t) * G v t
  | 0, t => by
    rw [G, Int.mul_zero]
    match t with
    | 0 => simp
    | t + 1 => rw [G, Int.mul_zero]
  | v + 1, 0 => by
    have h := G_step v 0
    have e1 : G (v + 1) (0 + 1) = G (v + 1) 0 + G v (0 + 1) := by conv => lhs; rw [G]
    rw [e1, G_0]
    rw [G_0] at h
    have e : ((0 : Nat) : Int) = 0 := rfl
    rw [e] at h ⊢
    omega
  | v + 1, t + 1 => by
    have h1 := G_step v (t + 1)
    have h2 := G_step (v + 1) t
    have h3 : G (v + 1) (t + 1) = G (v + 1) t + G v (t + 1) := by rw [G]
    rw [show G (v + 1) (t + 1 + 1) = G (v + 1) (t + 1) + G v (t + 1 + 1) by rw [G], Int.mul_add, h1]
    have e1 : ((t + 1 : Nat) : Int) = (t : Int) + 1 := by omega
    have e2 : ((v + 1 : Nat) : Int) = (v : Int) + 1 := by omega
    rw [e1, e2] at *
    have h4 : G v (t + 1) = G (v + 1) (t + 1) - G (v + 1) t := by omega
    rw [h4, Int.mul_sub]
    have h5 : ((v : Int) + ((t : Int) + 1)) * G (v + 1) t = ((t : Int) + 1) * G (v + 1) (t + 1) := by
      rw [h2]
      congr 1
      omega
    rw [h5, ← Int.add_sub_assoc, ← Int.add_mul, ← Int.sub_mul]
    congr 1
    omega
theorem G_nn (v t : Nat) : 0 ≤ G v t := (G_le v t).1
theorem chosen_step (v t : Nat) : G v t * ((v : Int) + t) / ((t : Int) + 1) = G v (t + 1) := by
  rw [Int.mul_comm, ← G_step]
  exact Int.mul_ediv_cancel_left _ (by omega)
theorem up_zero {c : Nat → Nat} : ∀ k t, (∀ s, t ≤ s → c s = 0) → up c k t = d2
  | 0, _, _ => rfl
  | k + 1, t, h => by rw [up, h t (Nat.le_refl t), up_zero k (t + 1) fun s hs => h s (by omega)]; rfl
theorem geoN_d2 (s v m n : Nat) : geoN s v d2 m n = if n = m * s then G v m else 0 := by
  rw [geoN_eq, S, S_zero']
  · rw [Nat.sub_self]
    unfold sh d2
    by_cases h : n = m * s
    · rw [if_pos h, if_pos (by omega), if_pos (by omega)]; omega
    · rw [if_neg h]
      split
      · rw [if_neg (by omega)]; omega
      · omega
  · intro i hi
    unfold sh
    split
    · rw [d2_many (by omega), Int.mul_zero]
    · rw [Int.mul_zero]
theorem two_sorts {c : Nat → Nat} (h : ∀ s, 3 ≤ s → c s = 0) (k v many f : Nat) (hf : f ≤ many) : geoN 1 v (up c (k + 1) 2) many (many + f) = G v (many - f) * G (c 2) f := by
  rw [up, up_zero k (2 + 1) h, geoN_eq]
  have e : ∀ t, t < many + 1 → G v t * sh (t * 1) (geoN 2 (c 2) d2 (many - t)) (many + f) = if t = many - f then G v (many - f) * G (c 2) f else 0 := by
    intro t ht
    unfold sh
    rw [if_pos (by omega), geoN_d2]
    by_cases h : t = many - f
    · rw [if_pos (by omega), if_pos h, h, show many - (many - f) = f by omega]
    · rw [if_neg (by omega), if_neg h, Int.mul_zero]
  rw [S_congr e]
  have one : ∀ n a, a < n → ∀ x : Int, S n (fun t => if t = a then x else 0) = x := by
    intro n
    induction n with
    | zero => intro a h; omega
    | succ n ih =>
      intro a h x
      rw [S]
      by_cases h2 : n = a
      · rw [if_pos h2, S_zero' fun i hi => if_neg (by omega)]; omega
      · rw [if_neg h2, ih a (by omega) x]; omega
  exact one _ _ (by omega) _
theorem one_member (c : Nat → Nat) (k s v : Nat) : geoN s v (up c k (s + 1)) 1 s = v := by
  rw [geoN_eq]
  show 0 + G v 0 * sh (0 * s) (up c k (s + 1) (1 - 0)) s + G v 1 * sh (1 * s) (up c k (s + 1) (1 - 1)) s = v
  rw [Nat.zero_mul, sh_0, up_small c k (s + 1) (s + 1) (Nat.le_refl _) 1 s (by omega)]
  unfold sh
  rw [if_pos (by omega), Nat.sub_self, up_0, if_pos (by omega), Int.mul_zero, Int.mul_one]
  have h := G_step v 0
  rw [G_0] at h
  have e : ((0 : Nat) : Int) = 0 := rfl
  rw [e] at h
  have h2 : G v 1 = v := by
    have : G v (0 + 1) = G v 1 := rfl
    rw [this] at h
    omega
  rw [h2]
  omega
theorem no_members (c : Nat → Nat) (k s v : Nat) : geoN s v (up c k (s + 1)) 0 0 = 1 := by
  rw [geoN_0, up_0, if_pos rfl]
end SMath

namespace SMath
open PySem PySem.W
theorem fp_shift (n : Int) : ∀ k : Nat, Builtin.Math.fallingProduct (n + 1) (k + 1) = (n + 1) * Builtin.Math.fallingProduct n k
  | 0 => by rw [mc_fp_succ, mc_fp_zero, mc_fp_zero]; simp
  | k + 1 => by
    rw [mc_fp_succ, fp_shift n k, mc_fp_succ n k, Int.mul_assoc]
    congr 2
    omega
theorem fp_fact (k : Nat) : Builtin.Math.fallingProduct ((k + 1 : Nat) : Int) (k + 1) = ((k : Int) + 1) * Builtin.Math.fallingProduct (k : Int) k := by
  have h := fp_shift (k : Int) k
  rw [show ((k + 1 : Nat) : Int) = (k : Int) + 1 by omega, h]
theorem bin_fp (n : Nat) : ∀ k : Nat, bin n k * Builtin.Math.fallingProduct (k : Int) k = Builtin.Math.fallingProduct (n : Int) k
  | 0 => by rw [bin_0]; rfl
  | k + 1 => by
    rw [fp_fact, ← Int.mul_assoc, Int.mul_comm (bin n (k + 1)), bin_step, mc_fp_succ, ← bin_fp n k, Int.mul_assoc, Int.mul_comm]
theorem bin_self : ∀ n, bin n n = 1
  | 0 => rfl
  | n + 1 => by rw [bin, bin_self n, bin_gt (by omega)]; rfl
theorem bin_sym : ∀ n k, k ≤ n → bin n k = bin n (n - k)
  | n, 0, _ => by rw [bin_0, Nat.sub_zero, bin_self]
  | 0, k + 1, h => by omega
  | n + 1, k + 1, h => by
    by_cases e : k = n
    · subst e
      rw [Nat.sub_self, bin_0, bin_self]
    · rw [show n + 1 - (k + 1) = (n - k - 1) + 1 by omega, bin, bin, bin_sym n k (by omega), bin_sym n (k + 1) (by omega), show n - (k + 1) = n - k - 1 by omega, show n - k - 1 + 1 = n - k by omega]
      omega
theorem comb_bin (n k : Nat) : mcComb (n : Int) (k : Int) = bin n k := by
  by_cases h : n < k
  · rw [mcComb_above (by omega), bin_gt h]
  · have key : ∀ m : Nat, m ≤ n → Builtin.Math.fallingProduct (n : Int) m / Builtin.Math.fallingProduct (m : Int) m = bin n m := by
      intro m hm
      have hp := mc_fp_pos (n := (m : Int)) m (by omega)
      rw [← bin_fp, Int.mul_ediv_cancel _ (by omega)]
    by_cases h2 : 2 * k ≤ n
    · rw [mcComb_at (by omega) (by omega) (m := (k : Int)) (by omega), Int.toNat_natCast, key k (by omega)]
    · rw [mcComb_at (by omega) (by omega) (m := ((n - k : Nat) : Int)) (by omega), Int.toNat_natCast, key (n - k) (by omega), bin_sym n k (by omega)]
/-! ### bounds -/
theorem le_pow2 : ∀ n : Nat, (n : Int) + 1 ≤ 2 ^ n
  | 0 => by decide
  | n + 1 => by
    have := le_pow2 n
    have := pow2_pos n
    rw [pow2_succ]
    omega
theorem S_le (B : Int) (f : Nat → Int) : ∀ n, (∀ i, i < n → 0 ≤ f i ∧ f i ≤ B) → 0 ≤ S n f ∧ S n f ≤ n * B
  | 0, _ => by simp [S]
  | n + 1, h => by
    obtain ⟨h1, h2⟩ := S_le B f n fun i hi => h i (by omega)
    obtain ⟨h3, h4⟩ := h n (by omega)
    rw [S, show ((n + 1 : Nat) : Int) = (n : Int) + 1 by omega, Int.add_mul, Int.one_mul]
    omega
theorem p2_le {a b : Nat} (h : a ≤ b) : (2 : Int) ^ a ≤ 2 ^ b := by
  have := Nat.pow_le_pow_right (n := 2) (by decide) h
  have e : ∀ c : Nat, ((2 : Int) ^ c) = ((2 ^ c : Nat) : Int) := fun c => by rw [Int.natCast_pow]; rfl
  rw [e, e]
  omega
theorem geoN_le {s v M b : Nat} {B : Nat → Nat → Int} (hB : ∀ m n, m ≤ M → 0 ≤ B m n ∧ B m n ≤ 2 ^ b) : ∀ m n, m ≤ M → 0 ≤ geoN s v B m n ∧ geoN s v B m n ≤ 2 ^ (b + v + 2 * M) := by
  intro m n hm
  rw [geoN_eq]
  have h := S_le (2 ^ (v + M + b)) (fun t => G v t * sh (t * s) (B (m - t)) n) (m + 1) fun t ht => by
    have g := G_le v t
    have hs : 0 ≤ sh (t * s) (B (m - t)) n ∧ sh (t * s) (B (m - t)) n ≤ 2 ^ b := by
      unfold sh
      split
      · exact hB _ _ (by omega)
      · exact ⟨by omega, Int.le_trans (by decide) (pow2_pos b)⟩
    refine ⟨Int.mul_nonneg g.1 hs.1, ?_⟩
    rw [Int.pow_add]
    refine Int.mul_le_mul (Int.le_trans g.2 (p2_le (by omega))) hs.2 hs.1 (Int.le_trans (by decide) (pow2_pos _))
  refine ⟨h.1, Int.le_trans h.2 ?_⟩
  rw [show b + v + 2 * M = M + (v + M + b) by omega, Int.pow_add 2 M]
  refine Int.mul_le_mul_of_nonneg_right ?_ (Int.le_trans (by decide) (pow2_pos _))
  have := le_pow2 m
  have := p2_le hm
  omega
theorem up_le {c : Nat → Nat} {V M : Nat} (hc : ∀ s, c s ≤ V) : ∀ k s m n, m ≤ M → 0 ≤ up c k s m n ∧ up c k s m n ≤ 2 ^ (k * (V + 2 * M))
  | 0, s, m, n, _ => by
    show 0 ≤ d2 m n ∧ d2 m n ≤ _
    unfold d2
    split
    · exact ⟨by decide, pow2_pos _⟩
    · exact ⟨by decide, Int.le_trans (by decide) (pow2_pos _)⟩
  | k + 1, s, m, n, h => by
    obtain ⟨h1, h2⟩ := geoN_le (s := s) (v := c s) (fun m n h => up_le hc k (s + 1) m n h) m n h
    refine ⟨h1, Int.le_trans h2 (p2_le ?_)⟩
    have := hc s
    rw [Nat.add_mul k 1, Nat.one_mul]
    omega
end SMath

namespace SM
open PySem L2
/-! ### calls: what stands at a name and what it promises -/
structure Cal (P : Program) (w : World) (K : PySem.W.Frag) (mg : Str → Option Value) (base : Heap) (CX : CXT) (k : Nat) (x : Str) (ps : List Str) (sp : Sp) : Prop where
  ex : ∃ (f : Addr) (fd : FuncData), mg x = some (.ref f) ∧ PySem.W.keepIn K (.ref f) = true ∧ Binds K fd ps [] ∧ FnOk P w K mg base CX k f fd ps sp
def Df (K : PySem.W.Frag) (mg : Str → Option Value) (x : Str) (st : Stmt) (ps : List Str) : Prop :=
  ∃ (f : Addr) (fd : FuncData), mg x = some (.ref f) ∧ Fun K x x st f fd ∧ Binds K fd ps []
/-- a method of the class at C -/
structure CalM (P : Program) (w : World) (K : PySem.W.Frag) (mg : Str → Option Value) (base : Heap) (CX : CXT) (k : Nat) (C : Addr) (m : Str) (ps : List Str) (sp : Sp) : Prop where
  ex : ∃ (f : Addr) (fd : FuncData), Meth K C m f ∧ Binds K fd ps [] ∧ FnOk P w K mg base CX k f fd ps sp
def DfM (K : PySem.W.Frag) (C : Addr) (m qual : Str) (st : Stmt) (ps : List Str) : Prop :=
  ∃ (f : Addr) (fd : FuncData), Meth K C m f ∧ Fun K m qual st f fd ∧ Binds K fd ps []
/-- an own error class without more -/
structure Exc (K : PySem.W.Frag) (mg : Str → Option Value) (x : Str) (C : Addr) : Prop where
  g : mg x = some (.ref C)
  x : PySem.W.excIn K C [.type "ValueError", .type "Exception", .type "BaseException", .type "object"] "ValueError.__new__" = true
  k : PySem.W.keepIn K (.ref C) = true
  b : PySem.W.subIn K (.ref C) (.type "BaseException") = some true
  t : PySem.W.typeIn K (.ref C) = some (.type "type")
/-! ### more calls of built-in functions -/
section
variable {X : Cx}
def rComb : List V → Hp → VK → Prop := fun vs H Q => ∃ a b : Int, vs = [.int a, .int b] ∧ 0 ≤ a ∧ 0 ≤ b ∧ a < 18000 ∧ (PySem.W.McComb a b (PySem.W.mcComb a b) → Q (.int (PySem.W.mcComb a b)) H)
theorem cr_comb : CallR X (.builtin "math.comb") rComb := by
  intro pins s σ H vs us Q I r h
  obtain ⟨a, b, rfl, h1, h2, h3, q⟩ := h
  obtain ⟨t, u, rfl⟩ := Vals.int2 r
  exact PySem.W.mc_comb h1 h2 (by omega) (.inr (by omega)) fun z => ⟨.int _, H, I.tok _, ⟨_, rfl⟩, q z⟩
def rFact : List V → Hp → VK → Prop := fun vs H Q => ∃ a : Int, vs = [.int a] ∧ 0 ≤ a ∧ a ≤ 20000 ∧ Q (.int ((Builtin.Math.factorialNat a.toNat : Nat) : Int)) H
theorem cr_factorial : CallR X (.builtin "math.factorial") rFact := by
  intro pins s σ H vs us Q I r h
  obtain ⟨a, rfl, h1, h2, q⟩ := h
  obtain ⟨u, rfl, t, rfl⟩ := vals1 r
  exact PySem.W.mc_factorial h1 h2 fun z => ⟨.int _, H, I.tok _, ⟨_, rfl⟩, q⟩
end
theorem ix_listB {X : Cx} {K : PySem.W.Frag} (h : X.K = K) : IxR X (rIxL K) := by
  subst h
  exact ix_list
theorem call_lenB {X : Cx} {K : PySem.W.Frag} (h : X.K = K) : CallR X (.builtin "len") (fun xs H Q => ∃ p ys, xs = [.ref p] ∧ (SqL K H p ys ∨ SqT K H p ys) ∧ Q (.int ys.length) H) := by
  subst h
  exact call_len_seq
theorem cr_sumB {X : Cx} {K : PySem.W.Frag} (h : X.K = K) (hc : X.calm = true) : CallR X (.builtin "sum") (rSum K) := by
  subst h
  exact cr_sum hc
theorem pe_fldB {X : Cx} {K : PySem.W.Frag} {e : Expr} {ta : TE} {f : Str} {pos : Pos} (h : X.K = K) (he : PE X e ta) (hb : attributeBase e f X.env (eval e X.env) = eval e X.env) : PE X (.Attribute e f pos) (tFld K ta f) := by
  subst h
  exact pe_fld he hb
/-- an expression that is never reached -/
theorem pe_never {X : Cx} {e : Expr} : PE X e (fun _ _ _ => False) := ⟨fun _ _ _ _ _ _ h => h.elim⟩
/-! ### heaps -/
theorem same_upd {H : Hp} {p : Addr} {o : HO} (h : H p = none) : Same H (upd H p o) := fun b x e => by
  rw [upd_ne (ne_of_none e h)]
  exact e
theorem same_upd' {H H' : Hp} {p : Addr} {o : HO} (e : Same H H') (h : H p = none) : Same H (upd H' p o) := fun b x q => by
  rw [upd_ne (ne_of_none q h)]
  exact e b x q
theorem sq_of {K : PySem.W.Frag} {H : Hp} {a : Addr} {xs : List V} (h : H a = some (.lst xs)) : SqL K H a xs := .inl (.inl h)
theorem st_of {K : PySem.W.Frag} {H : Hp} {a : Addr} {xs : List V} (h : H a = some (.tup xs)) : SqT K H a xs := .inl (.inl h)
theorem same_t {K : PySem.W.Frag} {H H' : Hp} {a : Addr} {xs : List V} (e : Same H H') (h : SqT K H a xs) : SqT K H' a xs := by
  rcases h with (h | ⟨o, h⟩) | h
  · exact .inl (.inl (e _ _ h))
  · exact .inl (.inr ⟨o, e _ _ h⟩)
  · exact .inr h
theorem sz (n : Nat) (h : n ≤ 100000) : n ≤ sizeLine := Nat.le_trans h (by decide)
theorem szl (n : Nat) (h : n < 100000) : n < sizeLine := Nat.lt_of_lt_of_le h (by decide)
/-! ### None or an int -/
def oV : Option Int → V
  | none => .non
  | some i => .int i
theorem ints_of {ns : List Int} {i : Nat} {y : V} (h : (ns.map V.int)[i]? = some y) : ∃ z, ns[i]? = some z ∧ y = V.int z := by
  rw [List.getElem?_map] at h
  cases e : ns[i]? with
  | none => rw [e] at h; cases h
  | some z => rw [e] at h; exact ⟨z, rfl, (Option.some.inj h).symm⟩
theorem ints_at {ns : List Int} {i : Nat} (h : i < ns.length) : (ns.map V.int)[i]? = some (.int ns[i]) := by
  rw [List.getElem?_map, List.getElem?_eq_getElem h]; rfl
theorem take_more {α : Type} {l : List α} {i : Nat} {x : α} (h : l[i]? = some x) : l.take (i + 1) = l.take i ++ [x] := by
  rw [List.take_add_one, h]; rfl
theorem iteTb {c : Bool} {A B : Prop} (h : c = true) (a : A) : if c = true then A else B := by rw [if_pos h]; exact a
theorem iteFb {c : Bool} {A B : Prop} (h : c = false) (b : B) : if c = true then A else B := by rw [h, if_neg Bool.false_ne_true]; exact b
theorem atI_of {α : Type} {xs : List α} {z : Int} {j : Nat} {v : α} (e : z = (j : Int)) (h : xs[j]? = some v) : atI xs z = some v := by
  subst e; exact atI_nat h
theorem getD_at {cs : List Int} {j : Nat} (h : j < cs.length) : (cs.map V.int)[j]? = some (.int (cs.getD j 0)) := by
  rw [ints_at h, List.getD_eq_getElem?_getD, List.getElem?_eq_getElem h]; rfl
theorem nb {v : Int} {a : Nat} (h0 : 0 ≤ v) (h1 : v ≤ 2 ^ a) : v.natAbs < 2 ^ (a + 1) := by
  have e : ((2 : Int) ^ a) = ((2 ^ a : Nat) : Int) := by rw [Int.natCast_pow]; rfl
  rw [e] at h1
  have : 0 < 2 ^ a := Nat.pow_pos (by decide)
  rw [Nat.pow_succ]
  omega
/-- p >= q of two pairs of ints -/
def geI (a b c d : Int) : Bool := decide (c < a) || (decide (a = c) && decide (d ≤ b))
def rGeP (K : PySem.W.Frag) : R2 := fun x y H Q => ∃ (p q : Addr) (a b c d : Int), x = .ref p ∧ y = .ref q ∧ SqT K H p [.int a, .int b] ∧ SqT K H q [.int c, .int d] ∧ Q (.bl (geI a b c d)) H
theorem op_geP {X : Cx} {K : PySem.W.Frag} (hK : X.K = K) (hu : X.A.units < cLine) : OpR X (compareOp .GtE) (rGeP K) := by
  subst hK
  intro pins s σ H x y v u Q I rx ry h
  obtain ⟨p, q, a, b, c, d, rfl, rfl, hp, hq, k⟩ := h
  cases rx
  cases ry
  obtain ⟨its, r1, p1, _⟩ := I.tuple hp
  obtain ⟨its2, r2, p2, _⟩ := I.tuple hq
  have i1 : PyProof.Rows.IntsAre its [a, b] := Vals.ints r1
  have i2 : PyProof.Rows.IntsAre its2 [c, d] := Vals.ints r2
  have e1 : its.toArray.size = 2 := by rw [List.size_toArray]; exact i1.length
  have e2 : its2.toArray.size = 2 := by rw [List.size_toArray]; exact i2.length
  have at1 : ∀ j (h1 : j < its.toArray.size), ∃ t, its.toArray[j] = .int ([a, b].getD j 0) t := fun j h1 => PyProof.Rows.IntsAre.int_at i1 _ _ (by simp at h1; simp [h1])
  have at2 : ∀ j (h1 : j < its2.toArray.size), ∃ t, its2.toArray[j] = .int ([c, d].getD j 0) t := fun j h1 => PyProof.Rows.IntsAre.int_at i2 _ _ (by simp at h1; simp [h1])
  have R := Ob.RcOp.tuples_ge (A := X.A) (s := s) (e := fun j => decide ([a, b].getD j 0 = [c, d].getD j 0)) (r := fun j => decide ([c, d].getD j 0 ≤ [a, b].getD j 0)) p1 p2 hu (fun j h1 h2 => by
    obtain ⟨t, et⟩ := at1 j h1
    obtain ⟨t', et'⟩ := at2 j h2
    rw [et, et']
    have z : ([a, b].getD j 0 == [c, d].getD j 0) = decide ([a, b].getD j 0 = [c, d].getD j 0) := by
      by_cases q : [a, b].getD j 0 = [c, d].getD j 0
      · rw [decide_eq_true q]; exact beq_iff_eq.mpr q
      · rw [decide_eq_false q]; exact beq_eq_false_iff_ne.mpr q
    rw [← z]
    exact SeqAt.EqAt.int_int _ _ _ _) (fun j h1 h2 _ => by
    obtain ⟨t, et⟩ := at1 j h1
    obtain ⟨t', et'⟩ := at2 j h2
    rw [et, et']
    exact Ob.RcOp.ge_int _ _ _ _)
  rw [e1, e2] at R
  refine R _ _ _ _ ?_
  refine ⟨.bl (geI a b c d), H, I, ?_, k⟩
  have e : Ob.lexAt (fun j => decide ([a, b].getD j 0 = [c, d].getD j 0)) (fun j => decide ([c, d].getD j 0 ≤ [a, b].getD j 0)) (decide (2 ≥ 2)) 0 (min 2 2) = geI a b c d := by
    show (if decide (a = c) = true then (if decide (b = d) = true then true else decide (d ≤ b)) else decide (c ≤ a)) = _
    unfold geI
    by_cases h1 : a = c
    · rw [decide_eq_true h1, if_pos rfl]
      by_cases h2 : b = d
      · rw [decide_eq_true h2, if_pos rfl]; simp [h1, h2]
      · rw [decide_eq_false h2, if_neg Bool.false_ne_true]; simp [h1]
    · rw [decide_eq_false h1, if_neg Bool.false_ne_true]
      by_cases h2 : c ≤ a
      · have : c < a := by omega
        simp [h2, this]
      · have : ¬ c < a := by omega
        simp [h2, this]
  rw [e]
  rfl
end SM

namespace SM
open PySem L2
structure Ad where
  cBags : Addr
  cBadCounts : Addr
  cBadPlace : Addr
  cSpeciesError : Addr
  vMOST : Value
structure Tx (K : PySem.W.Frag) (mg : Str → Option Value) (W : Ad) : Prop where
  n_isinstance : mg "isinstance" = none
  n_int : mg "int" = none
  n_bool : mg "bool" = none
  n_list : mg "list" = none
  n_tuple : mg "tuple" = none
  n_len : mg "len" = none
  n_abs : mg "abs" = none
  n_any : mg "any" = none
  n_sum : mg "sum" = none
  n_range : mg "range" = none
  n_max : mg "max" = none
  n_min : mg "min" = none
  m_comb : mg "comb" = some (.builtin "math.comb")
  g_MOST_ITEMS : mg "MOST_ITEMS" = some W.vMOST
  r_MOST_ITEMS : RelV (.int 61) W.vMOST
  e_BadCounts : Exc K mg "BadCounts" W.cBadCounts
  e_BadPlace : Exc K mg "BadPlace" W.cBadPlace
  g_Bags : mg "Bags" = some (.ref W.cBags)
  cl_Bags : Cls K W.cBags
  f_counts : NoAttr K W.cBags "counts"
  f_tables : NoAttr K W.cBags "tables"
section
variable {P : Program} {w : World} {K : PySem.W.Frag} {mg : Str → Option Value} {base : Heap} {W : Ad}
/-! ### is_whole -/
def spWhole : Sp := fun vs H Q _ => ∃ x, vs = [x] ∧ ((∃ i, x = .int i ∧ Q (.bl true) H) ∨ (∃ b, x = .bl b ∧ Q (.bl false) H))
theorem ok_is_whole (T : Tx K mg W) (D : Df K mg "is_whole" s_is_whole ["value"]) : Cal P w K mg base CX0 1 "is_whole" ["value"] spWhole := by
  obtain ⟨f, fd, g, F, b⟩ := D
  refine ⟨f, fd, g, F.kp, b, F.ok sc_is_whole (fun vs H Q E h => ?_) (fun cdv A outer s H vs Q E hr h => ?_)⟩
  · obtain ⟨x, rfl, _⟩ := h
    rfl
  · obtain ⟨x, rfl, h⟩ := h
    refine ⟨_, (pss_one (ps_ret (pe_and (pe_callB call_isi (by rfl) T.n_isinstance (by decide +kernel) (pa_cons (pv 0) (pa_cons (pe_bltn (v := .ty "int") (by rfl) T.n_int (by decide +kernel) rfl) pa_nil))) (pe_one (pe_not (pe_callB call_isi (by rfl) T.n_isinstance (by decide +kernel) (pa_cons (pv 0) (pa_cons (pe_bltn (v := .ty "bool") (by rfl) T.n_bool (by decide +kernel) rfl) pa_nil)))))))), ?_⟩
    rcases h with ⟨i, rfl, q⟩ | ⟨c, rfl, q⟩
    · refine ⟨_, rfl, _, _, _, _, true, rfl, .ty "int", .base (.int i), kit_ty (by decide +kernel), _, rfl, iteT ?_⟩
      refine ⟨_, rfl, _, _, _, _, false, rfl, .ty "bool", .base (.int i), kit_ty (by decide +kernel), _, rfl, ?_⟩
      exact q
    · refine ⟨_, rfl, _, _, _, _, true, rfl, .ty "int", .base (.bl c), kit_ty (by decide +kernel), _, rfl, iteT ?_⟩
      refine ⟨_, rfl, _, _, _, _, true, rfl, .ty "bool", .base (.bl c), kit_ty (by decide +kernel), _, rfl, ?_⟩
      exact q
/-! ### check_counts -/
theorem any_not {α : Type} (p : α → Bool) : ∀ l : List α, (List.any (l.map fun i => !p i) id) = !l.all p
  | [] => rfl
  | x :: l => by
    rw [List.map_cons, List.any_cons, List.all_cons, any_not p l]
    cases p x <;> simp
def okc (cs : List Int) : Bool := decide (1 ≤ cs.length) && (decide (cs.length ≤ 61) && cs.all fun i => decide (0 ≤ i))
def spCheck (W : Ad) : Sp := fun vs H Q E => ∃ v, vs = [v] ∧ ((v = .non ∧ ∀ H', Same H H' → E (.ref W.cBadCounts) none H') ∨
  ∃ (a : Addr) (cs : List Int), v = .ref a ∧ H a = some (.lst (cs.map V.int)) ∧ cs.length ≤ 1000 ∧
  (okc cs = true → ∀ H', Same H H' → Q .non H') ∧ (okc cs = false → ∀ H', Same H H' → E (.ref W.cBadCounts) none H'))
theorem ok_check (T : Tx K mg W) (D : Df K mg "check_counts" s_check_counts ["counts"]) (C1 : Cal P w K mg base CX0 1 "is_whole" ["value"] spWhole) :
    Cal P w K mg base (L2.CX P w) 2 "check_counts" ["counts"] (spCheck W) := by
  obtain ⟨f, fd, g, F, b⟩ := D
  obtain ⟨f1, fd1, g_is_whole, k_is_whole, b_is_whole, G_is_whole⟩ := C1.ex
  refine ⟨f, fd, g, F.kp, b, F.okX sc_check_counts (fun vs H Q E h => ?_) (fun cdv A outer s H vs Q E hr h => ?_)⟩
  · obtain ⟨v, rfl, _⟩ := h
    rfl
  · obtain ⟨v, rfl, h⟩ := h
    refine ⟨_, (pss_cons (ps_if (PW.pt (pw_or (pt_not (pt_val (pe_callB call_isi (by rfl) T.n_isinstance (by decide +kernel) (pa_cons (pv 0) (pa_cons (pe_bltn (v := .ty "list") (by rfl) T.n_list (by decide +kernel) rfl) pa_nil))))) (pw_or1 (pt_not (pt_chain op_le op_le pe_int (pe_callB call_len_seq (by rfl) T.n_len (by decide +kernel) (pa_cons (pv 0) pa_nil)) (pe_glob (by rfl) T.g_MOST_ITEMS T.r_MOST_ITEMS)))))) (
    (pss_one (ps_raise rfl (takes_of rfl rfl rfl rfl) (pmk_own PySem.F.excBase_ValueError T.e_BadCounts.x T.e_BadCounts.g T.e_BadCounts.k (raises_own T.e_BadCounts.b T.e_BadCounts.t) rfl)))) (pss_nil))
  (pss_one (ps_if (pt_val (pe_callB (cr_any rfl) (by rfl) T.n_any (by decide +kernel) (pa_cons (pe_lc (own := [("item", 1)]) rfl sc_check_counts.nd (pi_list (pv 0)) (blkOk_by (own := [("item", 1)]) (N := ["counts", "item"]) (sc := defScope s_check_counts) (by decide +kernel)) (fun _ _ _ _ _ => (pg_name (i := 1) sc_check_counts.nd rfl (.inl rfl))) (fun _ _ _ _ _ => pts_nil) (fun _ _ _ _ _ => (pe_or (pe_not (pe_call G_is_whole (hr.mono (by decide)) (by rfl) g_is_whole k_is_whole b_is_whole .nil pass0 (pa_cons (pv 1) pa_nil))) (pe_one (pe_cmpR op_lt (pv 1) pe_int (nomark _)))))) pa_nil))) (
    (pss_one (ps_raise rfl (takes_of rfl rfl rfl rfl) (pmk_own PySem.F.excBase_ValueError T.e_BadCounts.x T.e_BadCounts.g T.e_BadCounts.k (raises_own T.e_BadCounts.b T.e_BadCounts.t) rfl)))) (pss_nil)))), ?_⟩
    rcases h with ⟨rfl, kE⟩ | ⟨a, cs, rfl, hA, hlen, kT, kF⟩
    · refine ⟨_, rfl, _, _, _, _, false, rfl, .ty "list", .base .non, kit_ty (by decide +kernel), _, rfl, iteT (iteT ?_)⟩
      exact kE _ (.refl H)
    refine ⟨_, rfl, _, _, _, _, true, rfl, .ty "list", .base (.lst hA), kit_ty (by decide +kernel), _, rfl, iteF ?_⟩
    refine ⟨_, rfl, a, _, rfl, .inl (sq_of hA), _, _, rfl, rfl, _, rfl, ?_⟩
    rw [List.length_map]
    refine ite2 (fun c1 => ?_) (fun c1 => ?_)
    · refine ⟨_, _, rfl, rfl, _, rfl, ite2 (fun c2 => ?_) (fun c2 => ?_)⟩
      · refine kF ?_ H (.refl H)
        unfold okc
        have c2' : ¬ ((cs.length : Int) ≤ 61) := by simpa using c2
        rw [decide_eq_false (p := cs.length ≤ 61) (by omega)]
        simp
      · have c1' : (1 : Int) ≤ cs.length := of_decide_eq_true c1
        have c2' : ((cs.length : Int) ≤ 61) := by simpa using c2
        have e0 : okc cs = cs.all fun i => decide (0 ≤ i) := by
          unfold okc
          rw [decide_eq_true (p := 1 ≤ cs.length) (by omega), decide_eq_true (p := cs.length ≤ 61) (by omega)]
          simp
        refine ⟨_, rfl, a, rfl, ⟨_, sq_of hA⟩, fun Dn hD => lc_list (K := K) (a := a) (xs := cs.map V.int) (fun i H' => Same H H' ∧ H' Dn = some (.lst ((cs.take i).map fun i => V.bl (!decide (0 ≤ i))))) ⟨same_upd hD, upd_same⟩ (fun i H' _ h => sq_of (h.1 _ _ hA)) ?_ ?_⟩
        · rintro i x H' hi ⟨sm, hd⟩
          obtain ⟨z, hz, rfl⟩ := ints_of hi
          have hm := take_more hz
          refine ⟨rfl, ?_⟩
          rw [tYes, if_pos rfl]
          refine ⟨_, rfl, _, rfl, .inl ⟨z, rfl, true, rfl, false, rfl, iteF ?_⟩⟩
          refine ⟨_, rfl, _, _, rfl, rfl, _, hd, szl _ ?_, same_upd' sm hD, ?_⟩
          · rw [List.length_map, List.length_take]; omega
          · rw [upd_same, hm, List.map_append]
            show some (HO.lst (_ ++ [V.bl (decide (z < 0))])) = some (HO.lst (_ ++ [V.bl (!decide (0 ≤ z))]))
            have eb : decide (z < 0) = !decide (0 ≤ z) := by
              by_cases h : z < 0
              · rw [decide_eq_true h, decide_eq_false (by omega)]; rfl
              · rw [decide_eq_false h, decide_eq_true (by omega)]; rfl
            rw [eb]
        · rintro H' ⟨sm, hd⟩
          rw [List.length_map, List.take_length] at hd
          refine ⟨Dn, cs.map fun i => !decide (0 ≤ i), rfl, sq_of (by rw [List.map_map]; exact hd), _, rfl, ?_⟩
          have ea : (List.any (cs.map fun i => !decide ((0 : Int) ≤ i)) id) = !cs.all fun i => decide (0 ≤ i) := any_not (fun i => decide (0 ≤ i)) cs
          rw [ea]
          cases h : cs.all fun i => decide (0 ≤ i) with
          | true => exact iteF (kT (e0.trans h) H' sm)
          | false => exact iteT (kF (e0.trans h) H' sm)
    · refine ⟨false, rfl, ?_⟩
      show (if true = true then _ else _)
      rw [if_pos rfl]
      refine kF ?_ H (.refl H)
      unfold okc
      have c1' : ¬ ((1 : Int) ≤ cs.length) := by simpa using c1
      rw [decide_eq_false (p := 1 ≤ cs.length) (by omega)]
      simp
/-! ### check_member_counts -/
def okm (cs : List Int) : Bool := okc cs && decide (cs.getD 0 0 = 0)
def spMC (W : Ad) : Sp := fun vs H Q E => ∃ v, vs = [v] ∧ ((v = .non ∧ ∀ H', Same H H' → E (.ref W.cBadCounts) none H') ∨
  ∃ (a : Addr) (cs : List Int), v = .ref a ∧ H a = some (.lst (cs.map V.int)) ∧ cs.length ≤ 1000 ∧
  (okm cs = true → ∀ H', Same H H' → Q .non H') ∧ (okm cs = false → ∀ H', Same H H' → E (.ref W.cBadCounts) none H'))
theorem ok_mc (T : Tx K mg W) (D : Df K mg "check_member_counts" s_check_member_counts ["counts"]) (C1 : Cal P w K mg base (L2.CX P w) 2 "check_counts" ["counts"] (spCheck W)) :
    Cal P w K mg base (L2.CX P w) 3 "check_member_counts" ["counts"] (spMC W) := by
  obtain ⟨f, fd, g, F, b⟩ := D
  obtain ⟨f1, fd1, g_check_counts, k_check_counts, b_check_counts, G_check_counts⟩ := C1.ex
  refine ⟨f, fd, g, F.kp, b, F.okX sc_check_member_counts (fun vs H Q E h => ?_) (fun cdv A outer s H vs Q E hr h => ?_)⟩
  · obtain ⟨v, rfl, _⟩ := h
    rfl
  · obtain ⟨v, rfl, h⟩ := h
    refine ⟨_, (pss_cons (ps_expr (pe_callS G_check_counts (hr.mono (by decide)) (by rfl) g_check_counts k_check_counts b_check_counts (fun σ => passAt (takes_of rfl rfl rfl rfl) σ) (pa_cons (pv 0) pa_nil)))
  (pss_one (ps_if (pt_cmpR op_ne (pe_ix ix_list (pv 0) pe_int (fun _ _ => rfl)) pe_int (nomark _)) (
    (pss_one (ps_raise rfl (takes_of rfl rfl rfl rfl) (pmk_own PySem.F.excBase_ValueError T.e_BadCounts.x T.e_BadCounts.g T.e_BadCounts.k (raises_own T.e_BadCounts.b T.e_BadCounts.t) rfl)))) (pss_nil)))), ?_⟩
    rcases h with ⟨rfl, kE⟩ | ⟨a, cs, rfl, hA, hlen, kT, kF⟩
    · exact ⟨_, rfl, _, rfl, .inl ⟨rfl, kE⟩⟩
    refine ⟨_, rfl, _, rfl, .inr ⟨a, cs, rfl, hA, hlen, fun h H1 s1 => ?_, fun h H1 s1 => kF (by unfold okm; rw [h]; rfl) H1 s1⟩⟩
    have hne : 0 < cs.length := by
      unfold okc at h
      rw [Bool.and_eq_true, decide_eq_true_eq] at h
      omega
    refine ⟨_, rfl, a, _, _, _, rfl, rfl, sq_of (s1 _ _ hA), atI_nat (j := 0) (getD_at hne), rfl, _, rfl, ite2 (fun e => ?_) (fun e => ?_)⟩
    · refine kF ?_ H1 s1
      unfold okm
      rw [h, decide_eq_false (fun z => by rw [z] at e; simp at e)]
      rfl
    · refine kT ?_ H1 s1
      unfold okm
      have : cs.getD 0 0 = 0 := by
        by_cases z : cs.getD 0 0 = 0
        · exact z
        · exact absurd (by simpa using z) e
      rw [h, decide_eq_true this]
      rfl
/-! ### check_number -/
def okn (n : Nat) : V → Bool
  | .int i => decide (0 ≤ i) && decide (i < n)
  | _ => false
theorem okn_int (n : Nat) (i : Int) : okn n (.int i) = (decide (0 ≤ i) && decide (i < n)) := rfl
def IB (x : V) : Prop := (∃ i, x = .int i) ∨ (∃ b, x = .bl b)
def spNum (K : PySem.W.Frag) (W : Ad) : Sp := fun vs H Q E => ∃ (a : Addr) (cs : List Int) (v : V), vs = [.ref a, v] ∧ H a = some (.lst (cs.map V.int)) ∧ IB v ∧
  (okn cs.length v = true → Q .non H) ∧ (okn cs.length v = false → ∀ H', Same H H' → E (.ref W.cBadPlace) none H')
theorem ok_num (T : Tx K mg W) (D : Df K mg "check_number" s_check_number ["counts", "value"]) (C1 : Cal P w K mg base CX0 1 "is_whole" ["value"] spWhole) :
    Cal P w K mg base (L2.CX P w) 2 "check_number" ["counts", "value"] (spNum K W) := by
  obtain ⟨f, fd, g, F, b⟩ := D
  obtain ⟨f1, fd1, g_is_whole, k_is_whole, b_is_whole, G_is_whole⟩ := C1.ex
  refine ⟨f, fd, g, F.kp, b, F.okX sc_check_number (fun vs H Q E h => ?_) (fun cdv A outer s H vs Q E hr h => ?_)⟩
  · obtain ⟨a, cs, v, rfl, _⟩ := h
    rfl
  · obtain ⟨a, cs, v, rfl, hA, hv, kT, kF⟩ := h
    refine ⟨_, (pss_one (ps_if (PW.pt (pw_or (pt_not (pt_val (pe_call G_is_whole (hr.mono (by decide)) (by rfl) g_is_whole k_is_whole b_is_whole .nil pass0 (pa_cons (pv 1) pa_nil)))) (pw_or1 (pt_not (pt_chain op_le op_lt pe_int (pv 1) (pe_callB call_len_seq (by rfl) T.n_len (by decide +kernel) (pa_cons (pv 0) pa_nil))))))) (
    (pss_one (ps_raise rfl (takes_of rfl rfl rfl rfl) (pmk_own PySem.F.excBase_ValueError T.e_BadPlace.x T.e_BadPlace.g T.e_BadPlace.k (raises_own T.e_BadPlace.b T.e_BadPlace.t) rfl)))) (pss_nil))), ?_⟩
    rcases hv with ⟨i, rfl⟩ | ⟨c, rfl⟩
    · refine ⟨_, rfl, _, rfl, .inl ⟨i, rfl, _, rfl, iteF ?_⟩⟩
      refine ⟨_, rfl, _, _, rfl, rfl, _, rfl, ite2 (fun c1 => ?_) (fun c1 => ?_)⟩
      · refine ⟨_, rfl, a, _, rfl, .inl (sq_of hA), _, _, rfl, rfl, _, rfl, ?_⟩
        rw [List.length_map]
        have c1' : 0 ≤ i := of_decide_eq_true c1
        by_cases h : i < (cs.length : Int)
        · rw [decide_eq_true h]
          exact iteF (kT (by rw [okn_int, decide_eq_true c1', decide_eq_true h]; rfl))
        · rw [decide_eq_false h]
          exact iteT (kF (by rw [okn_int, decide_eq_false h, Bool.and_false]) H (.refl H))
      · refine ⟨false, rfl, iteT ?_⟩
        have c1' : ¬ (0 ≤ i) := by simpa using c1
        exact kF (by rw [okn_int, decide_eq_false c1']; rfl) H (.refl H)
    · refine ⟨_, rfl, _, rfl, .inr ⟨c, rfl, _, rfl, iteT (iteT ?_)⟩⟩
      exact kF rfl H (.refl H)
end
end SM

namespace SM
open PySem L2 SMath
section
variable {P : Program} {w : World} {K : PySem.W.Frag} {mg : Str → Option Value} {base : Heap} {W : Ad}
/-! ### check_place -/
def okpl (cs : List Int) : Option (List Int) → Bool
  | some [s, i] => okn cs.length (.int s) && (decide (0 ≤ i) && decide (i < cs.getD s.toNat 0))
  | _ => false
/-- a tuple of ints, or a list -/
def VF (K : PySem.W.Frag) (H : Hp) (t : Addr) : Option (List Int) → Prop
  | some ns => H t = some (.tup (ns.map V.int))
  | none => ∃ xs, H t = some (.lst xs)
def spPlace (K : PySem.W.Frag) (W : Ad) : Sp := fun vs H Q E => ∃ (a t : Addr) (cs : List Int) (kd : Option (List Int)), vs = [.ref a, .ref t] ∧ H a = some (.lst (cs.map V.int)) ∧ VF K H t kd ∧
  (okpl cs kd = true → ∀ H', Same H H' → Q .non H') ∧ (okpl cs kd = false → ∀ H', Same H H' → E (.ref W.cBadPlace) none H')
theorem ok_place (T : Tx K mg W) (D : Df K mg "check_place" s_check_place ["counts", "value"]) (C1 : Cal P w K mg base CX0 1 "is_whole" ["value"] spWhole)
    (C2 : Cal P w K mg base (L2.CX P w) 2 "check_number" ["counts", "value"] (spNum K W)) :
    Cal P w K mg base (L2.CX P w) 3 "check_place" ["counts", "value"] (spPlace K W) := by
  obtain ⟨f, fd, g, F, b⟩ := D
  obtain ⟨f1, fd1, g_is_whole, k_is_whole, b_is_whole, G_is_whole⟩ := C1.ex
  obtain ⟨f2, fd2, g_check_number, k_check_number, b_check_number, G_check_number⟩ := C2.ex
  refine ⟨f, fd, g, F.kp, b, F.okX sc_check_place (fun vs H Q E h => ?_) (fun cdv A outer s H vs Q E hr h => ?_)⟩
  · obtain ⟨_, _, _, _, rfl, _⟩ := h
    rfl
  · obtain ⟨a, t, cs, kd, rfl, hA, hV, kT, kF⟩ := h
    refine ⟨_, (pss_cons (ps_if (PW.pt (pw_or (pt_not (pt_val (pe_callB call_isi (by rfl) T.n_isinstance (by decide +kernel) (pa_cons (pv 1) (pa_cons (pe_bltn (v := .ty "tuple") (by rfl) T.n_tuple (by decide +kernel) rfl) pa_nil))))) (pw_or1 (pt_cmpR op_ne (pe_callB call_len_seq (by rfl) T.n_len (by decide +kernel) (pa_cons (pv 1) pa_nil)) pe_int (nomark _))))) (
    (pss_one (ps_raise rfl (takes_of rfl rfl rfl rfl) (pmk_own PySem.F.excBase_ValueError T.e_BadPlace.x T.e_BadPlace.g T.e_BadPlace.k (raises_own T.e_BadPlace.b T.e_BadPlace.t) rfl)))) (pss_nil))
  (pss_cons (ps_asg (pv 1) (pg_tup (by rfl) (pgs_cons (pg_name (i := 2) sc_check_place.nd rfl (.inl rfl)) (pgs_cons (pg_name (i := 3) sc_check_place.nd rfl (.inl rfl)) pgs_nil))))
  (pss_cons (ps_expr (pe_callS G_check_number (hr.mono (by decide)) (by rfl) g_check_number k_check_number b_check_number (fun σ => passAt (takes_of rfl rfl rfl rfl) σ) (pa_cons (pv 0) (pa_cons (pv 2) pa_nil))))
  (pss_one (ps_if (PW.pt (pw_or (pt_not (pt_val (pe_call G_is_whole (hr.mono (by decide)) (by rfl) g_is_whole k_is_whole b_is_whole .nil pass0 (pa_cons (pv 3) pa_nil)))) (pw_or1 (pt_not (pt_chain op_le op_lt pe_int (pv 3) (pe_ix ix_list (pv 0) (pv 2) (fun _ _ => rfl))))))) (
    (pss_one (ps_raise rfl (takes_of rfl rfl rfl rfl) (pmk_own PySem.F.excBase_ValueError T.e_BadPlace.x T.e_BadPlace.g T.e_BadPlace.k (raises_own T.e_BadPlace.b T.e_BadPlace.t) rfl)))) (pss_nil)))))), ?_⟩
    cases kd with
    | none =>
      obtain ⟨xs, hx⟩ := hV
      refine ⟨_, rfl, _, _, _, _, false, rfl, .ty "tuple", .base (.lst hx), kit_ty (by decide +kernel), _, rfl, iteT (iteT ?_)⟩
      exact kF rfl _ (.refl H)
    | some ns =>
      refine ⟨_, rfl, _, _, _, _, true, rfl, .ty "tuple", .base (.tup hV), kit_ty (by decide +kernel), _, rfl, iteF ?_⟩
      refine ⟨_, rfl, t, _, rfl, .inr (st_of hV), rfl, _, rfl, ?_⟩
      rw [List.length_map]
      refine ite2 (fun c1 => ?_) (fun c1 => ?_)
      · refine kF ?_ _ (.refl H)
        match ns with
        | [] => rfl
        | [_] => rfl
        | [_, _] => simp at c1
        | _ :: _ :: _ :: _ => rfl
      · match ns, c1 with
        | [], c1 => simp at c1
        | [_], c1 => simp at c1
        | _ :: _ :: _ :: _, c1 => simp at c1; omega
        | [x, y], _ => 
          refine ⟨_, rfl, t, _, rfl, st_of hV, rfl, _, _, rfl, _, _, rfl, rfl, ?_⟩
          refine ⟨_, rfl, _, rfl, a, cs, .int x, rfl, hA, .inl ⟨x, rfl⟩, fun hn => ?_, fun hn H1 s1 => kF ?_ H1 s1⟩
          · have hn' : 0 ≤ x ∧ x < cs.length := by
              rw [okn_int, Bool.and_eq_true, decide_eq_true_eq, decide_eq_true_eq] at hn
              exact hn
            refine ⟨_, rfl, _, rfl, .inl ⟨y, rfl, _, rfl, iteF ?_⟩⟩
            have e0 : okpl cs (some [x, y]) = (decide (0 ≤ y) && decide (y < cs.getD x.toNat 0)) := by
              show (okn cs.length (.int x) && _) = _
              rw [hn]; rfl
            rw [e0] at kT kF
            refine ⟨_, rfl, _, _, rfl, rfl, _, rfl, ite2 (fun c1 => ?_) (fun c1 => ?_)⟩
            · have c1' : 0 ≤ y := of_decide_eq_true c1
              rw [decide_eq_true c1'] at kT kF
              refine ⟨_, rfl, _, rfl, a, _, _, _, rfl, rfl, sq_of hA, atI_of (j := x.toNat) (by omega) (getD_at (by omega)), _, _, rfl, rfl, _, rfl, ?_⟩
              cases h : decide (y < cs.getD x.toNat 0) with
              | true => rw [h] at kT; exact iteF (kT rfl H (.refl H))
              | false => rw [h] at kF; exact iteT (kF rfl H (.refl H))
            · refine ⟨false, rfl, iteT ?_⟩
              have c1' : ¬ (0 ≤ y) := by simpa using c1
              exact kF (by rw [decide_eq_false c1']; rfl) H (.refl H)
          · show (okn cs.length (.int x) && _) = _
            rw [hn]; rfl
/-! ### repeated -/
def spRep : Sp := fun vs H Q _ => ∃ v t : Nat, vs = [.int v, .int t] ∧ v + t ≤ 17000 ∧ Q (.int (G v t)) H
theorem ok_rep (T : Tx K mg W) (D : Df K mg "repeated" s_repeated ["allowed", "times"]) : Cal P w K mg base CX0 1 "repeated" ["allowed", "times"] spRep := by
  obtain ⟨f, fd, g, F, b⟩ := D
  refine ⟨f, fd, g, F.kp, b, F.ok sc_repeated (fun vs H Q E h => ?_) (fun cdv A outer s H vs Q E hr h => ?_)⟩
  · obtain ⟨_, _, rfl, _⟩ := h
    rfl
  · obtain ⟨v, t, rfl, hvt, q⟩ := h
    refine ⟨_, (pss_cons (ps_if (pt_cmpR op_eq (pv 1) pe_int (nomark _)) (
    (pss_one (ps_ret pe_int))) (pss_nil))
  (pss_one (ps_ret (pe_callBfun cr_comb (by rfl) T.m_comb (pa_cons (pe_op op_sub (pe_op op_add (pv 0) (pv 1)) pe_int) (pa_cons (pv 1) pa_nil)))))), ?_⟩
    refine ⟨_, rfl, rfl, _, rfl, ite2 (fun e => ?_) (fun e => ?_)⟩
    · have e' : (t : Int) = 0 := V.int.inj (of_decide_eq_true e)
      have : t = 0 := by omega
      subst this
      rw [G_0] at q
      exact q
    · have e' : ¬ t = 0 := fun z => e (decide_eq_true (by rw [z]; rfl))
      refine ⟨_, rfl, _, rfl, _, _, rfl, rfl, _, _, rfl, rfl, _, rfl, _, _, rfl, by omega, by omega, by omega, fun _ => ?_⟩
      rw [show (v : Int) + t - 1 = ((v + t - 1 : Nat) : Int) by omega, comb_bin, ← G_bin]
      exact q
/-! ### a table -/
/-- the list at l has T rows, which tell what Bf says -/
structure Rows (H : Hp) (N : Nat) (l : Addr) (T : Nat) (Bf : Nat → Nat → Int) : Prop where
  ex : ∃ rs : List Addr, H l = some (.lst (rs.map V.ref)) ∧ rs.length = T ∧ ∀ j r, rs[j]? = some r → H r = some (.lst ((List.range N).map fun n => V.int (Bf j n)))
def flds (c t : Addr) : List (Str × V) := putF "tables" (.ref t) (putF "counts" (.ref c) [])
/-- the reading of the object -/
structure BagAt (C : Addr) (H : Hp) (p : Addr) (dx : Addr) (c t : Addr) (ls : List Addr) : Prop where
  hp : H p = some (.ins C dx (flds c t))
  ht : H t = some (.lst (ls.map V.ref))
def spWA (C : Addr) : Sp := fun vs H Q _ => ∃ (p : Addr) (dx : Addr) (c t l : Addr) (ls : List Addr) (s v m n N T : Nat) (Bf : Nat → Nat → Int),
  vs = [.ref p, .int s, .int v, .int m, .int n] ∧ BagAt C H p dx c t ls ∧ ls[s + 1]? = some l ∧ Rows H N l T Bf ∧ 1 ≤ s ∧ s ≤ 61 ∧ n < N ∧ N ≤ 61 ∧ v ≤ 16000 ∧ m ≤ 61 ∧ 1 ≤ T ∧ T ≤ 62 ∧
  (∀ a b, b ≤ n → T ≤ a → Bf a b = 0) ∧ (∀ a b, a ≤ 61 → 0 ≤ Bf a b ∧ Bf a b ≤ 2 ^ 900000) ∧ Q (.int (geoN s v Bf m n)) H
theorem l_counts {c t : Addr} : (flds c t).lookup ("counts" : Str) = some (.ref c) := by
  unfold flds
  rw [lookup_putF, if_neg (by decide +kernel), lookup_putF, if_pos rfl]
theorem l_tables {c t : Addr} : (flds c t).lookup ("tables" : Str) = some (.ref t) := by
  unfold flds
  rw [lookup_putF, if_pos rfl]
theorem l_no {c t : Addr} {x : Str} (h1 : ¬ x = "counts") (h2 : ¬ x = "tables") : (flds c t).lookup x = none := by
  unfold flds
  rw [lookup_putF, if_neg h2, lookup_putF, if_neg h1]; rfl
theorem ok_wa (T : Tx K mg W) (D : DfM K W.cBags "with_allowed" "Bags.with_allowed" s_Bags_with_allowed ["self", "least", "allowed", "members", "size"]) (C1 : Cal P w K mg base CX0 1 "repeated" ["allowed", "times"] spRep) :
    CalM P w K mg base CX0 2 W.cBags "with_allowed" ["self", "least", "allowed", "members", "size"] (spWA W.cBags) := by
  obtain ⟨f, fd, mt, F, b⟩ := D
  obtain ⟨f1, fd1, g_repeated, k_repeated, b_repeated, G_repeated⟩ := C1.ex
  refine ⟨f, fd, mt, b, F.ok sc_Bags_with_allowed (fun vs H Q E h => ?_) (fun cdv A outer s H vs Q E hr h => ?_)⟩
  · obtain ⟨_, _, _, _, _, _, _, _, _, _, _, _, _, rfl, _⟩ := h
    rfl
  · obtain ⟨p, dx, c, t, l, ls, s, v, m, n, N, TT, Bf, rfl, BA, hl, hR, hs1, hs, hn, hN, hv, hm, hT1, hT, hz, hb, q⟩ := h
    refine ⟨_, (pss_cons (ps_set (i := 5) sc_Bags_with_allowed.nd rfl (.inl rfl) (pe_ix ix_list (pe_fld (pv 0) rfl) (pe_op op_add (pv 1) pe_int) (fun _ _ => rfl)))
  (pss_cons (ps_set (i := 6) sc_Bags_with_allowed.nd rfl (.inl rfl) pe_int)
  (pss_cons (ps_for PassesOwn.never rfl (pi_range2 (by rfl) T.n_range (pa_cons (pe_callB (call_max2 rfl) (by rfl) T.n_max (by decide +kernel) (pa_cons pe_int (pa_cons (pe_op op_add (pe_op op_sub (pv 3) (pe_callB call_len_seq (by rfl) T.n_len (by decide +kernel) (pa_cons (pv 5) pa_nil))) pe_int) pa_nil))) (pa_cons (pe_op op_add (pe_callB (call_min2 rfl) (by rfl) T.n_min (by decide +kernel) (pa_cons (pv 3) (pa_cons (pe_op op_fdiv (pv 4) (pv 1)) pa_nil))) pe_int) pa_nil))) (pg_name (i := 7) sc_Bags_with_allowed.nd rfl (.inl rfl)) (
    (pss_one (ps_aug (i := 6) sc_Bags_with_allowed.nd rfl (.inl rfl) (pe_op op_mulW (pe_call G_repeated (hr.mono (by decide)) (by rfl) g_repeated k_repeated b_repeated .nil pass0 (pa_cons (pv 2) (pa_cons (pv 7) pa_nil))) (pe_ix ix_list (pe_ix ix_list (pv 5) (pe_op op_sub (pv 3) (pv 7)) (fun _ _ => rfl)) (pe_op op_sub (pv 4) (pe_op op_mul (pv 1) (pv 7))) (fun _ _ => rfl))) ip_add))))
  (pss_one (ps_ret (pv 6)))))), ?_⟩
    obtain ⟨rs, hrl, hrn, hrr⟩ := hR.ex
    refine ⟨_, rfl, p, _, dx, _, _, rfl, BA.hp, T.cl_Bags, T.f_tables, l_tables, _, rfl, _, _, rfl, rfl, t, _, _, .ref l, rfl, rfl, sq_of BA.ht, atI_of (j := s + 1) (by omega) (by rw [List.getElem?_map, hl]; rfl), ?_⟩
    -- range(max(0, members - len(greater) + 1), min(members, size // least) + 1)
    refine ⟨_, rfl, _, rfl, l, _, rfl, .inl (sq_of hrl), _, _, rfl, rfl, _, _, rfl, rfl, _, _, rfl, _, rfl, _, rfl, _, rfl, _, _, rfl, rfl, ⟨by omega, by omega⟩, _, _, rfl, _, _, rfl, rfl, ?_⟩
    have e1 : (if (m : Int) - ((rs.map V.ref).length : Int) + 1 > 0 then (m : Int) - ((rs.map V.ref).length : Int) + 1 else 0) = ((m + 1 - TT : Nat) : Int) := by
      rw [List.length_map, hrn]
      split <;> omega
    have e2 : (if (n : Int) / (s : Int) < (m : Int) then (n : Int) / (s : Int) else (m : Int)) = ((min m (n / s) : Nat) : Int) := by
      rw [show (n : Int) / (s : Int) = ((n / s : Nat) : Int) by omega]
      split <;> omega
    rw [e1, e2]
    rw [geoN_sum (T := TT) (by omega) hz] at q
    have hU : min m (n / s) ≤ 61 := Nat.le_trans (Nat.min_le_left _ _) hm
    have hU1 : min m (n / s) ≤ m := Nat.min_le_left _ _
    have hU2 : min m (n / s) * s ≤ n := (Nat.le_div_iff_mul_le (by omega)).mp (Nat.min_le_right _ _)
    generalize min m (n / s) = U at q hU hU1 hU2 ⊢
    have hLT : m < (m + 1 - TT) + TT := by omega
    have hL2 : m + 1 - TT ≤ 62 := by omega
    generalize m + 1 - TT = L at q hLT hL2 ⊢
    clear e1 e2
    refine ⟨_, _, rfl, ⟨by omega, by omega, by omega, by omega⟩, ?_⟩
    have en : ((U : Int) + 1 - (L : Int)).toNat = U + 1 - L := by omega
    rw [en]
    refine for_range (lo := (L : Int)) (fun i σ H' => ∃ y7 : Option V, H' = H ∧ σ = [some (.ref p), some (.int s), some (.int v), some (.int m), some (.int n), some (.ref l), some (.int (S i fun i => G v (i + L) * Bf (m - (i + L)) (n - s * (i + L)))), y7]) ⟨none, rfl, rfl⟩ ?_ ?_
    · rintro i σ H' hi ⟨y7, rfl, rfl⟩
      have hiU : i + L ≤ U := by omega
      have hmul : s * (i + L) ≤ n := Nat.le_trans (by rw [Nat.mul_comm]; exact Nat.mul_le_mul_right s hiU) hU2
      have hrow : m - (i + L) < rs.length := by omega
      have gr := List.getElem?_eq_getElem hrow
      have hr1 := hrr _ _ gr
      have g := G_le v (i + L)
      have hb1 := hb (m - (i + L)) (n - s * (i + L)) (by omega)
      have ec : (L : Int) + (i : Int) = ((i + L : Nat) : Int) := by omega
      rw [ec]
      refine ⟨_, rfl, _, rfl, _, rfl, v, i + L, rfl, by omega, ?_⟩
      refine ⟨_, rfl, _, rfl, _, rfl, _, _, rfl, rfl, l, _, _, .ref rs[m - (i + L)], rfl, rfl, sq_of hrl, atI_of (j := m - (i + L)) (by omega) (by rw [List.getElem?_map, gr]; rfl), ?_⟩
      refine ⟨_, rfl, _, rfl, _, rfl, _, _, rfl, rfl, .inl ⟨by omega, by omega⟩, _, _, rfl, rfl, rs[m - (i + L)], _, _, .int (Bf (m - (i + L)) (n - s * (i + L))), rfl, rfl, sq_of hr1, atI_of (j := n - s * (i + L)) ?_ ?_, ?_⟩
      · rw [← Int.natCast_mul]; omega
      · rw [List.getElem?_map, List.getElem?_range (by omega)]; rfl
      · refine ⟨_, _, rfl, rfl, ?_, ?_⟩
        · exact wide_mul (nb g.1 g.2) (nb hb1.1 hb1.2) (by omega) (by omega) (by omega)
        · exact ⟨_, _, rfl, rfl, _, rfl, rfl⟩
    · rintro σ H' ⟨y7, rfl, rfl⟩
      exact ⟨_, rfl, q⟩
/-! ### exactly -/
def spEx (K : PySem.W.Frag) (C : Addr) : Sp := fun vs H Q _ => ∃ (p tf : Addr) (dx : Addr) (c t l : Addr) (ls : List Addr) (cs : List Int) (s i m n N T : Nat) (Bf : Nat → Nat → Int),
  vs = [.ref p, .int m, .int n, .ref tf] ∧ H tf = some (.tup [.int s, .int i]) ∧ BagAt C H p dx c t ls ∧ H c = some (.lst (cs.map V.int)) ∧ s < cs.length ∧ (i : Int) ≤ cs.getD s 0 ∧ cs.getD s 0 ≤ 16000 ∧
  ls[s + 1]? = some l ∧ Rows H N l T Bf ∧ 1 ≤ s ∧ s ≤ 61 ∧ n < N ∧ N ≤ 61 ∧ m ≤ 61 ∧ 1 ≤ T ∧ T ≤ 62 ∧
  (∀ a b, b ≤ n → T ≤ a → Bf a b = 0) ∧ (∀ a b, a ≤ 61 → 0 ≤ Bf a b ∧ Bf a b ≤ 2 ^ 900000) ∧ Q (.int (geoN s ((cs.getD s 0).toNat - i) Bf m n)) H
theorem ok_ex (T : Tx K mg W) (D : DfM K W.cBags "exactly" "Bags.exactly" s_Bags_exactly ["self", "members", "size", "first"])
    (C1 : CalM P w K mg base CX0 2 W.cBags "with_allowed" ["self", "least", "allowed", "members", "size"] (spWA W.cBags)) :
    CalM P w K mg base CX0 3 W.cBags "exactly" ["self", "members", "size", "first"] (spEx K W.cBags) := by
  obtain ⟨f, fd, mt, F, b⟩ := D
  obtain ⟨f1, fd1, M_Bags_with_allowed, B_Bags_with_allowed, G_Bags_with_allowed⟩ := C1.ex
  refine ⟨f, fd, mt, b, F.ok sc_Bags_exactly (fun vs H Q E h => ?_) (fun cdv A outer s H vs Q E hr h => ?_)⟩
  · obtain ⟨_, _, _, _, _, _, _, _, _, _, _, _, _, _, _, rfl, _⟩ := h
    rfl
  · obtain ⟨p, tf, dx, c, t, l, ls, cs, s, i, m, n, N, TT, Bf, rfl, hf, BA, hc, hsl, hi, hcs, hl, hR, hs1, hs, hn, hN, hm, hT1, hT, hz, hb, q⟩ := h
    refine ⟨_, (pss_cons (ps_asg (pv 3) (pg_tup (by rfl) (pgs_cons (pg_name (i := 4) sc_Bags_exactly.nd rfl (.inl rfl)) (pgs_cons (pg_name (i := 5) sc_Bags_exactly.nd rfl (.inl rfl)) pgs_nil))))
  (pss_one (ps_ret (pe_meth (pv 0) T.cl_Bags M_Bags_with_allowed G_Bags_with_allowed (hr.mono (by decide)) B_Bags_with_allowed .nil pass0 (pa_cons (pv 4) (pa_cons (pe_op op_sub (pe_ix ix_list (pe_fld (pv 0) rfl) (pv 4) (fun _ _ => rfl)) (pv 5)) (pa_cons (pv 1) (pa_cons (pv 2) pa_nil)))))))), ?_⟩
    refine ⟨_, rfl, tf, _, rfl, st_of hf, rfl, _, _, rfl, _, _, rfl, rfl, ?_⟩
    refine ⟨_, rfl, p, dx, _, rfl, BA.hp, l_no (by decide +kernel) (by decide +kernel), _, rfl, _, rfl, p, _, dx, _, _, rfl, BA.hp, T.cl_Bags, T.f_counts, l_counts, _, rfl, c, _, _, _, rfl, rfl, sq_of hc, atI_nat (j := s) (getD_at hsl), ?_⟩
    refine ⟨_, rfl, _, _, rfl, rfl, _, rfl, _, rfl, p, dx, c, t, l, ls, s, (cs.getD s 0).toNat - i, m, n, N, TT, Bf, ?_, BA, hl, hR, hs1, hs, hn, hN, by omega, hm, hT1, hT, hz, hb, q⟩
    show [V.ref p, V.int s, V.int (cs.getD s 0 - i), V.int m, V.int n] = _
    rw [show cs.getD s 0 - (i : Int) = (((cs.getD s 0).toNat - i : Nat) : Int) by omega]
end
end SM

namespace SM
open PySem L2
/-! ### comprehensions over a range: what is made, nothing else changed -/
theorem wipe1 (σ : St) (j : Nat) (v : Option V) : wipe ((wipe σ [j]).set j v) [j] = wipe σ [j] := by
  show ((σ.set j none).set j v).set j none = σ.set j none
  rw [List.set_set, List.set_set]
theorem lc_rangeF {lo : Int} {n : Nat} {j : Nat} {tt : TT} {te : TE} {σ : St} {H1 : Hp} {D : Addr} {Qd : Hp → Prop} (c : Nat → Bool) (f : Nat → V) (hn : n ≤ 100000 - 1) (hD : H1 D = none)
    (ht : ∀ i, i < n → ∀ H, Same H1 H → ∀ R : Bool → Hp → Prop, (∀ H', Same H H' → R (c i) H') → tt ((wipe σ [j]).set j (some (.int (lo + i)))) H R)
    (he : ∀ i, i < n → c i = true → ∀ H, Same H1 H → ∀ R : VK, (∀ H', Same H H' → R (f i) H') → te ((wipe σ [j]).set j (some (.int (lo + i)))) H R)
    (hd : ∀ H, Same H1 H → H D = some (.lst (((List.range n).filter c).map f)) → Qd H) :
    ∃ W : Nat → Nat → Hp → Prop, (∃ m, W 0 m (upd H1 D (.lst []))) ∧ ∀ i m H, W i m H →
      ((Itr lo n).stop i H ∧ Qd H) ∨ ((Itr lo n).go i H ∧ ∃ Nx : Hp → Prop, (∀ H', Nx H' → ∃ m', m' < m ∧ W (i + 1) m' H') ∧ ∀ x H', (Itr lo n).yld i H x H' → gName j x (wipe σ [j]) H' fun σ2 H2 => wipe σ2 [j] = wipe σ [j] ∧ tt σ2 H2 fun b H3 =>
        if b = true then te σ2 H3 fun y H4 => ∃ acc, H4 D = some (.lst acc) ∧ acc.length < sizeLine ∧ Nx (upd H4 D (.lst (acc ++ [y]))) else Nx H3) := by
  refine lc_range (fun i H => Same H1 H ∧ H D = some (.lst (((List.range i).filter c).map f))) ⟨same_upd hD, upd_same⟩ ?_ (fun H h => hd H h.1 h.2)
  rintro i H hi ⟨sm, hd'⟩
  refine ⟨wipe1 σ j _, ?_⟩
  refine ht i hi H sm _ fun H' s' => ?_
  have hd1 := s' _ _ hd'
  have sm1 : Same H1 H' := sm.trans s'
  cases e : c i with
  | false =>
    refine iteF ?_
    refine ⟨sm1, ?_⟩
    rw [List.range_succ, List.filter_append, List.map_append]
    simp [e, hd1]
  | true =>
    refine iteT ?_
    refine he i hi e H' sm1 _ fun H2 s2 => ⟨_, s2 _ _ hd1, szl _ ?_, same_upd' (sm1.trans s2) hD, ?_⟩
    · rw [List.length_map]
      have := List.length_filter_le c (List.range i)
      rw [List.length_range] at this
      omega
    · rw [upd_same, List.range_succ, List.filter_append, List.map_append]
      simp [e]
theorem lc_rangeM {lo : Int} {n : Nat} {j : Nat} {te : TE} {σ : St} {H1 : Hp} {D : Addr} {Qd : Hp → Prop} (f : Nat → V) (hn : n ≤ 100000 - 1) (hD : H1 D = none)
    (he : ∀ i, i < n → ∀ H, Same H1 H → ∀ R : VK, (∀ H', Same H H' → R (f i) H') → te ((wipe σ [j]).set j (some (.int (lo + i)))) H R)
    (hd : ∀ H, Same H1 H → H D = some (.lst ((List.range n).map f)) → Qd H) :
    ∃ W : Nat → Nat → Hp → Prop, (∃ m, W 0 m (upd H1 D (.lst []))) ∧ ∀ i m H, W i m H →
      ((Itr lo n).stop i H ∧ Qd H) ∨ ((Itr lo n).go i H ∧ ∃ Nx : Hp → Prop, (∀ H', Nx H' → ∃ m', m' < m ∧ W (i + 1) m' H') ∧ ∀ x H', (Itr lo n).yld i H x H' → gName j x (wipe σ [j]) H' fun σ2 H2 => wipe σ2 [j] = wipe σ [j] ∧ tYes σ2 H2 fun b H3 =>
        if b = true then te σ2 H3 fun y H4 => ∃ acc, H4 D = some (.lst acc) ∧ acc.length < sizeLine ∧ Nx (upd H4 D (.lst (acc ++ [y]))) else Nx H3) :=
  lc_rangeF (tt := tYes) (fun _ => true) f hn hD (fun i _ H _ R k => k H (.refl H)) (fun i hi _ => he i hi) (fun H s h => hd H s (by rw [h, List.filter_eq_self.mpr (fun _ _ => rfl)]))
structure Rws (H1 H : Hp) (rs : List Addr) (F : Nat → List V) : Prop where
  at_ : ∀ (j : Nat) (r : Addr), rs[j]? = some r → H r = some (.lst (F j))
  fr : ∀ r ∈ rs, H1 r = none
  inj : ∀ (i j : Nat) (r : Addr), rs[i]? = some r → rs[j]? = some r → i = j
theorem Rws.nil {H1 H : Hp} {F : Nat → List V} : Rws H1 H [] F := ⟨fun j r h => by simp at h, fun r h => (by cases h), fun i j r h => by simp at h⟩
theorem Rws.mono {H1 H H' : Hp} {rs : List Addr} {F : Nat → List V} (h : Rws H1 H rs F) (s : Same H H') : Rws H1 H' rs F := ⟨fun j r e => s _ _ (h.at_ j r e), h.fr, h.inj⟩
theorem Rws.base {H0 H1 H : Hp} {rs : List Addr} {F : Nat → List V} (h : Rws H1 H rs F) (s : Same H0 H1) : Rws H0 H rs F := ⟨h.at_, fun r hr => s.free (h.fr r hr), h.inj⟩
theorem Rws.congr {H1 H : Hp} {rs : List Addr} {F F' : Nat → List V} (h : Rws H1 H rs F) (e : ∀ j, j < rs.length → F j = F' j) : Rws H1 H rs F' :=
  ⟨fun j r a => by rw [← e j (List.getElem?_eq_some_iff.mp a).1]; exact h.at_ j r a, h.fr, h.inj⟩
theorem Rws.other {H1 H : Hp} {rs : List Addr} {F : Nat → List V} (h : Rws H1 H rs F) {p : Addr} {o : HO} (hp : ∀ r ∈ rs, r ≠ p) : Rws H1 (upd H p o) rs F :=
  ⟨fun j r a => by rw [upd_ne (hp r (List.mem_of_getElem? a))]; exact h.at_ j r a, h.fr, h.inj⟩
theorem Rws.snoc {H1 H H' : Hp} {rs : List Addr} {F : Nat → List V} (h : Rws H1 H rs F) (s1 : Same H1 H) (s : Same H H') {q : Addr} (nq : H q = none) (hq : H' q = some (.lst (F rs.length))) : Rws H1 H' (rs ++ [q]) F := by
  have ho : ∀ (j : Nat) (r : Addr), rs[j]? = some r → r ≠ q := fun j r a e => by have := h.at_ j r a; rw [e, nq] at this; cases this
  have hc : ∀ (j : Nat) (r : Addr), (rs ++ [q])[j]? = some r → (rs[j]? = some r) ∨ (j = rs.length ∧ r = q) := fun j r a => by
    by_cases hj : j < rs.length
    · rw [List.getElem?_append_left hj] at a
      exact .inl a
    · rw [List.getElem?_append_right (by omega)] at a
      have h2 := (List.getElem?_eq_some_iff.mp a).1
      simp at h2
      have : j = rs.length := by omega
      subst this
      rw [Nat.sub_self] at a
      exact .inr ⟨rfl, (Option.some.inj a).symm⟩
  refine ⟨fun j r a => ?_, fun r hr => ?_, fun i j r a b => ?_⟩
  · rcases hc j r a with a | ⟨rfl, rfl⟩
    · exact s _ _ (h.at_ j r a)
    · exact hq
  · rcases List.mem_append.mp hr with hr | hr
    · exact h.fr r hr
    · simp at hr
      subst hr
      exact s1.free nq
  · rcases hc i r a with a | ⟨rfl, e1⟩ <;> rcases hc j r b with b | ⟨rfl, e2⟩
    · exact h.inj i j r a b
    · exact absurd e2 (ho i r a)
    · exact absurd e1 (ho j r b)
    · rfl
theorem Rws.upd {H1 H : Hp} {rs : List Addr} {F F' : Nat → List V} (h : Rws H1 H rs F) {j : Nat} {r : Addr} (hr : rs[j]? = some r) (e : ∀ k, k ≠ j → F' k = F k) : Rws H1 (L2.upd H r (.lst (F' j))) rs F' := by
  refine ⟨fun k q a => ?_, h.fr, h.inj⟩
  by_cases hk : k = j
  · subst hk
    rw [hr] at a
    obtain rfl := Option.some.inj a
    exact upd_same
  · rw [upd_ne (fun z => hk (h.inj k j r (by rw [a, z]) hr)), e k hk]
    exact h.at_ k q a
theorem Rws.get {H1 H : Hp} {rs : List Addr} {F : Nat → List V} (h : Rws H1 H rs F) {j : Nat} (hj : j < rs.length) : ∃ r, rs[j]? = some r ∧ (rs.map V.ref)[j]? = some (.ref r) ∧ H r = some (.lst (F j)) := by
  refine ⟨rs[j], List.getElem?_eq_getElem hj, ?_, h.at_ j _ (List.getElem?_eq_getElem hj)⟩
  rw [List.getElem?_map, List.getElem?_eq_getElem hj]
  rfl
theorem lc_refs {lo : Int} {n j : Nat} {te : TE} {σ : St} {H1 : Hp} {D : Addr} {Qd : Hp → Prop} (F : Nat → List V) (hn : n ≤ 1000) (hD : H1 D = none)
    (he : ∀ i, i < n → ∀ H, Same H1 H → ∀ R : VK, (∀ q H', Same H H' → H q = none → H' q = some (.lst (F i)) → R (.ref q) H') → te ((wipe σ [j]).set j (some (.int (lo + i)))) H R)
    (hd : ∀ H rs, Same H1 H → H D = some (.lst (rs.map V.ref)) → rs.length = n → Rws H1 H rs F → (∀ r ∈ rs, r ≠ D) → Qd H) :
    ∃ W : Nat → Nat → Hp → Prop, (∃ m, W 0 m (upd H1 D (.lst []))) ∧ ∀ i m H, W i m H →
      ((Itr lo n).stop i H ∧ Qd H) ∨ ((Itr lo n).go i H ∧ ∃ Nx : Hp → Prop, (∀ H', Nx H' → ∃ m', m' < m ∧ W (i + 1) m' H') ∧ ∀ x H', (Itr lo n).yld i H x H' → gName j x (wipe σ [j]) H' fun σ2 H2 => wipe σ2 [j] = wipe σ [j] ∧ tYes σ2 H2 fun b H3 =>
        if b = true then te σ2 H3 fun y H4 => ∃ acc, H4 D = some (.lst acc) ∧ acc.length < sizeLine ∧ Nx (upd H4 D (.lst (acc ++ [y]))) else Nx H3) := by
  refine lc_range (tt := tYes) (fun i H => Same H1 H ∧ ∃ rs : List Addr, H D = some (.lst (rs.map V.ref)) ∧ rs.length = i ∧ Rws H1 H rs F ∧ ∀ r ∈ rs, r ≠ D) ⟨same_upd hD, [], upd_same, rfl, Rws.nil, fun r h => (by cases h)⟩ ?_ (fun H ⟨s, rs, a, b, c, d⟩ => hd H rs s a b c d)
  rintro i H hi ⟨sm, rs, hd', hl, hR, hrD⟩
  refine ⟨wipe1 σ j _, ?_⟩
  rw [tYes, if_pos rfl]
  refine he i hi H sm _ fun q H' s' nq hq => ⟨rs.map V.ref, s' _ _ hd', szl _ (by rw [List.length_map]; omega), same_upd' (sm.trans s') hD, rs ++ [q], ?_, ?_, ?_, ?_⟩
  · rw [upd_same, List.map_append]; rfl
  · rw [List.length_append, hl]; rfl
  · have hqD : q ≠ D := fun e => by rw [e, hd'] at nq; cases nq
    refine (hR.snoc sm s' nq (by rw [hl]; exact hq)).other fun r hr => ?_
    rcases List.mem_append.mp hr with hr | hr
    · exact hrD r hr
    · simp at hr
      subst hr
      exact hqD
  · have hqD : q ≠ D := fun e => by rw [e, hd'] at nq; cases nq
    intro r hr
    rcases List.mem_append.mp hr with hr | hr
    · exact hrD r hr
    · simp at hr
      subst hr
      exact hqD
end SM

namespace SM
open PySem L2 SMath
/-- a row of a table -/
def rowV (c : Nat → Nat) (N s j : Nat) : List V := (List.range N).map fun n => V.int (up c (N - s) s j n)
def cf (cs : List Int) : Nat → Nat := fun s => (cs.getD s 0).toNat
structure TabI (B H : Hp) (p : Addr) (c : Nat → Nat) (N : Nat) (ls : List Addr) (rws : Nat → List Addr) (kk : Nat → Nat) : Prop where
  R : Rws B H ls (fun s => (rws s).map V.ref)
  ll : ls.length = N + 1
  kl : ∀ s, s ≤ N → (rws s).length = kk s
  row : ∀ s, s ≤ N → ∀ j r, (rws s)[j]? = some r → H r = some (.lst (rowV c N s j))
  sm : ∀ b o, B b = some o → b ≠ p → H b = some o
def kFin (N : Nat) (s : Nat) : Nat := if 2 ≤ s then (N - 1) / s + 1 else 1
theorem TabI.rows {B H : Hp} {p : Addr} {c : Nat → Nat} {N : Nat} {ls : List Addr} {rws : Nat → List Addr} {kk : Nat → Nat} (h : TabI B H p c N ls rws kk) {s : Nat} (hs : s ≤ N) :
    ∃ l, ls[s]? = some l ∧ Rows H N l (kk s) (fun j n => up c (N - s) s j n) := by
  obtain ⟨l, h1, h2, h3⟩ := h.R.get (j := s) (by rw [h.ll]; omega)
  exact ⟨l, h1, rws s, h3, h.kl s hs, fun j r e => h.row s hs j r e⟩
theorem TabI.mono {B H H' : Hp} {p : Addr} {c : Nat → Nat} {N : Nat} {ls : List Addr} {rws : Nat → List Addr} {kk : Nat → Nat} (h : TabI B H p c N ls rws kk) (s : Same H H') : TabI B H' p c N ls rws kk :=
  ⟨h.R.mono s, h.ll, h.kl, fun i hi j r e => s _ _ (h.row i hi j r e), fun b o hb hp => s _ _ (h.sm b o hb hp)⟩
/-- one more row in a table -/
theorem TabI.add {B H : Hp} {p q : Addr} {c : Nat → Nat} {N : Nat} {ls : List Addr} {rws : Nat → List Addr} {kk : Nat → Nat} (h : TabI B H p c N ls rws kk) {s : Nat} (hs : s ≤ N) (hN : 0 < N) (hk : 1 ≤ kk s) {l : Addr} (hl : ls[s]? = some l)
    (hq : H q = some (.lst (rowV c N s (kk s)))) (hlp : l ≠ p) :
    TabI B (upd H l (.lst ((rws s).map V.ref ++ [V.ref q]))) p c N ls (fun z => if z = s then rws s ++ [q] else rws z) (fun z => if z = s then kk s + 1 else kk z) := by
  have hlH : H l = some (.lst ((rws s).map V.ref)) := h.R.at_ s l hl
  have hne : ∀ r i z, H r = some (.lst (rowV c N i z)) → r ≠ l := fun r i z e1 e2 => by
    rw [e2, hlH] at e1
    have e3 := HO.lst.inj (Option.some.inj e1)
    have hlen := h.kl s hs
    cases e4 : rws s with
    | nil => rw [e4] at hlen; simp at hlen; omega
    | cons a rest =>
      rw [e4] at e3
      unfold rowV at e3
      obtain ⟨M, rfl⟩ : ∃ M, N = M + 1 := ⟨N - 1, by omega⟩
      rw [List.range_succ_eq_map] at e3
      simp at e3
  refine ⟨?_, h.ll, fun z hz => ?_, fun z hz j r e => ?_, fun b o hb hp => ?_⟩
  · have := h.R.upd (F' := fun z => ((if z = s then rws s ++ [q] else rws z) : List Addr).map V.ref) hl (fun k hk => by rw [if_neg hk])
    rw [if_pos rfl, List.map_append] at this
    exact this
  · by_cases e : z = s
    · rw [if_pos e, if_pos e, List.length_append, h.kl s hs]; rfl
    · rw [if_neg e, if_neg e]; exact h.kl z hz
  · by_cases ez : z = s
    · subst ez
      rw [if_pos rfl] at e
      by_cases hj : j < (rws z).length
      · rw [List.getElem?_append_left hj] at e
        have h1 := h.row z hz j r e
        rw [upd_ne (hne r z j h1)]
        exact h1
      · have h2 := (List.getElem?_eq_some_iff.mp e).1
        simp at h2
        have : j = (rws z).length := by omega
        subst this
        rw [List.getElem?_append_right (Nat.le_refl _), Nat.sub_self] at e
        obtain rfl := Option.some.inj e
        rw [← h.kl z hs] at hq
        rw [upd_ne (hne _ z _ hq)]
        exact hq
    · rw [if_neg ez] at e
      have h1 := h.row z hz j r e
      rw [upd_ne (hne r z j h1)]
      exact h1
  · have hbl : b ≠ l := fun e => by
      have := h.R.fr l (List.mem_of_getElem? hl)
      rw [← e, hb] at this
      cases this
    rw [upd_ne hbl]
    exact h.sm b o hb hp
theorem row0 (c : Nat → Nat) (N s : Nat) (hN : 1 ≤ N) : rowV c N s 0 = [V.int 1] ++ (List.replicate ((N : Int) - 1).toNat [V.int 0]).flatten := by
  obtain ⟨M, rfl⟩ : ∃ M, N = M + 1 := ⟨N - 1, by omega⟩
  unfold rowV
  rw [List.range_succ_eq_map, List.map_cons, List.map_map, show (((M + 1 : Nat) : Int) - 1).toNat = M by omega]
  have e : ∀ n, up c (M + 1 - s) s 0 n = if n = 0 then 1 else 0 := fun n => up_0 c n _ _
  rw [e 0, if_pos rfl]
  show V.int 1 :: _ = V.int 1 :: _
  congr 1
  have e2 : (List.range M).map ((fun n => V.int (up c (M + 1 - s) s 0 n)) ∘ Nat.succ) = (List.range M).map fun _ => V.int 0 := by
    refine List.map_congr_left fun n _ => ?_
    show V.int (up c (M + 1 - s) s 0 (n + 1)) = _
    rw [e, if_neg (by omega)]
  rw [e2]
  clear e e2 hN
  induction M with
  | zero => rfl
  | succ j ih => rw [List.range_succ, List.map_append, ih, List.replicate_succ', List.flatten_append]; rfl
section
variable {P : Program} {w : World} {K : PySem.W.Frag} {mg : Str → Option Value} {base : Heap} {W : Ad}
theorem putF_len (f : Str) (v : V) (fs : List (Str × V)) : (putF f v fs).length ≤ fs.length + 1 := by
  induction fs with
  | nil => exact Nat.le_refl _
  | cons x r ih =>
    obtain ⟨a, b⟩ := x
    show (if a = f then (a, v) :: r else (a, b) :: putF f v r).length ≤ r.length + 1 + 1
    split
    · exact Nat.le_succ _
    · exact Nat.succ_le_succ ih
def kO (N i s : Nat) : Nat := if N - i ≤ s ∧ 2 ≤ s then (N - 1) / s + 1 else 1
def Okb (cs : List Int) : Prop := 1 ≤ cs.length ∧ cs.length ≤ 61 ∧ ∀ x ∈ cs, 0 ≤ x ∧ x ≤ 10000
theorem Okb.get {cs : List Int} (h : Okb cs) (i : Nat) : 0 ≤ cs.getD i 0 ∧ cs.getD i 0 ≤ 10000 := by
  rw [List.getD_eq_getElem?_getD]
  cases e : cs[i]? with
  | none => exact ⟨Int.le_refl 0, by decide⟩
  | some x => exact h.2.2 x (List.mem_of_getElem? e)
theorem Okb.bd {cs : List Int} (h : Okb cs) {k s a b : Nat} (hk : k ≤ 61) (ha : a ≤ 61) : 0 ≤ up (cf cs) k s a b ∧ up (cf cs) k s a b ≤ 2 ^ 900000 := by
  have := up_le (c := cf cs) (V := 10000) (M := 61) (fun s => by have := h.get s; unfold cf; omega) k s a b ha
  refine ⟨this.1, Int.le_trans this.2 (p2_le ?_)⟩
  have : k * (10000 + 2 * 61) ≤ 61 * (10000 + 2 * 61) := Nat.mul_le_mul_right _ hk
  omega
def spBInit (K : PySem.W.Frag) (C : Addr) : Sp := fun vs H Q _ => ∃ (p dx c : Addr) (cs : List Int), vs = [.ref p, .ref c] ∧ H p = some (.ins C dx []) ∧ H c = some (.lst (cs.map V.int)) ∧ Okb cs ∧
  ∀ (t : Addr) (ls : List Addr) (rws : Nat → List Addr) (B H' : Hp), BagAt C H' p dx c t ls → TabI B H' p (cf cs) cs.length ls rws (kFin cs.length) → (∀ b o, H b = some o → b ≠ p → H' b = some o) → Q .non H'
theorem ok_binit (T : Tx K mg W) (D : DfM K W.cBags "__init__" "Bags.__init__" s_Bags_init ["self", "counts"])
    (C1 : CalM P w K mg base CX0 2 W.cBags "with_allowed" ["self", "least", "allowed", "members", "size"] (spWA W.cBags)) :
    CalM P w K mg base CX0 3 W.cBags "__init__" ["self", "counts"] (spBInit K W.cBags) := by
  obtain ⟨f, fd, mt, F, b⟩ := D
  obtain ⟨f1, fd1, M_Bags_with_allowed, B_Bags_with_allowed, G_Bags_with_allowed⟩ := C1.ex
  refine ⟨f, fd, mt, b, F.ok sc_Bags_init (fun vs H Q E h => ?_) (fun cdv A outer s H vs Q E hr h => ?_)⟩
  · obtain ⟨_, _, _, _, rfl, _⟩ := h
    rfl
  · obtain ⟨p, dx, c, cs, rfl, hp, hc, hok, q⟩ := h
    obtain ⟨hN1, hN2, hcs⟩ := id hok
    refine ⟨_, (pss_cons (ps_fld (pv 0) (pv 1) rfl)
  (pss_cons (ps_set (i := 2) sc_Bags_init.nd rfl (.inr rfl) (pe_op op_cat (pe_lst (pa_cons pe_int pa_nil)) (pe_op op_rep (pe_lst (pa_cons pe_int pa_nil)) (pe_op op_sub (pe_callB call_len_seq (by rfl) T.n_len (by decide +kernel) (pa_cons (pv 1) pa_nil)) pe_int))))
  (pss_cons (ps_fld (pv 0) (pe_lc (own := [("_", 6)]) rfl sc_Bags_init.nd (pi_range1 (by rfl) T.n_range (pa_cons (pe_op op_add (pe_callB call_len_seq (by rfl) T.n_len (by decide +kernel) (pa_cons (pv 1) pa_nil)) pe_int) pa_nil)) (blkOk_by (own := [("_", 6)]) (N := ["self", "counts", "empty", "least", "members", "row", "_", "size"]) (sc := defScope s_Bags_init) (by decide +kernel)) (fun _ _ _ _ _ => (pg_name (i := 6) sc_Bags_init.nd rfl (.inl rfl))) (fun _ _ _ _ _ => pts_nil) (fun _ _ _ _ _ => (pe_lst (pa_cons (pv 2) pa_nil)))) rfl)
  (pss_one (ps_for PassesOwn.never rfl (pi_range3 (by rfl) T.n_range (pa_cons (pe_op op_sub (pe_callB call_len_seq (by rfl) T.n_len (by decide +kernel) (pa_cons (pv 1) pa_nil)) pe_int) (pa_cons pe_int (pa_cons (pe_un un_neg pe_int) pa_nil)))) (pg_name (i := 3) sc_Bags_init.nd rfl (.inr rfl)) (
    (pss_one (ps_for PassesOwn.never rfl (pi_range2 (by rfl) T.n_range (pa_cons pe_int (pa_cons (pe_op op_add (pe_op op_fdiv (pe_op op_sub (pe_callB call_len_seq (by rfl) T.n_len (by decide +kernel) (pa_cons (pv 1) pa_nil)) pe_int) (pv 3)) pe_int) pa_nil))) (pg_name (i := 4) sc_Bags_init.nd rfl (.inr rfl)) (
      (pss_cons (ps_setLc (i := 5) (own := [("size", 7)]) rfl sc_Bags_init.nd rfl rfl (sw_true rfl rfl rfl (by decide +kernel)) (pi_range1 (by rfl) T.n_range (pa_cons (pe_callB call_len_seq (by rfl) T.n_len (by decide +kernel) (pa_cons (pv 1) pa_nil)) pa_nil)) (blkOk_by (own := [("size", 7)]) (N := ["self", "counts", "empty", "least", "members", "row", "_", "size"]) (sc := defScope s_Bags_init) (by decide +kernel)) (fun _ _ _ _ _ => (pg_name (i := 7) sc_Bags_init.nd rfl (.inl rfl))) (fun _ _ _ _ _ => pts_nil) (fun _ _ _ _ _ => (pe_meth (pv 0) T.cl_Bags M_Bags_with_allowed G_Bags_with_allowed (hr.mono (by decide)) B_Bags_with_allowed .nil pass0 (pa_cons (pv 3) (pa_cons (pe_ix (ix_listB (K := K) rfl) (pv 1) (pv 3) (fun _ _ => rfl)) (pa_cons (pv 4) (pa_cons (pv 7) pa_nil)))))))
      (pss_one (ps_expr (pe_bm PySem.F.plainAttrs_list PySem.F.slot_list_append PySem.F.type_list_append mt_append (pe_ix ix_list (pe_fld (pv 0) rfl) (pv 3) (fun _ _ => rfl)) (pa_cons (pv 5) pa_nil)))))))))))))), ?_⟩
    refine ⟨_, rfl, _, rfl, p, _, dx, _, rfl, hp, T.cl_Bags, T.f_counts, by decide, ?_⟩
    have hcp : c ≠ p := fun e => by rw [e, hp] at hc; cases hc
    have hc1 : (upd H p (.ins W.cBags dx (putF "counts" (.ref c) []))) c = some (.lst (cs.map V.int)) := by rw [upd_ne hcp]; exact hc
    have hp1 : (upd H p (.ins W.cBags dx (putF "counts" (.ref c) []))) p = some (.ins W.cBags dx (putF "counts" (.ref c) [])) := upd_same
    have fr1 : ∀ b o, H b = some o → b ≠ p → (upd H p (.ins W.cBags dx (putF "counts" (.ref c) []))) b = some o := fun b o hb nb => by rw [upd_ne nb]; exact hb
    generalize upd H p (.ins W.cBags dx (putF "counts" (.ref c) [])) = H1 at hc1 hp1 fr1 ⊢
    refine ⟨sz _ (by show 1 ≤ 100000; decide), fun l1 n1 => ⟨sz _ (by show 1 ≤ 100000; decide), fun l2 n2 => ?_⟩⟩
    have s2 : Same H1 (upd (upd H1 l1 (.lst [.int 1])) l2 (.lst [.int 0])) := (same_upd n1).trans (same_upd n2)
    have l12 : l1 ≠ l2 := fun e => by rw [← e, upd_same] at n2; cases n2
    have hl1 : (upd (upd H1 l1 (.lst [.int 1])) l2 (.lst [.int 0])) l1 = some (.lst [.int 1]) := by rw [upd_ne l12, upd_same]
    have hl2 : (upd (upd H1 l1 (.lst [.int 1])) l2 (.lst [.int 0])) l2 = some (.lst [.int 0]) := upd_same
    generalize upd (upd H1 l1 (.lst [.int 1])) l2 (.lst [.int 0]) = H2 at s2 hl1 hl2 ⊢
    refine ⟨_, rfl, c, _, rfl, .inl (sq_of (s2 _ _ hc1)), _, _, rfl, rfl, l2, _, _, rfl, rfl, hl2, by omega, by rw [List.length_map]; omega, sz _ ?_, fun l3 n3 => ?_⟩
    · rw [List.length_map]
      simp
      omega
    rw [List.length_map]
    have l13 : l1 ≠ l3 := fun e => by rw [← e, hl1] at n3; cases n3
    refine ⟨l1, l3, _, _, rfl, rfl, by rw [upd_ne l13]; exact hl1, upd_same, sz _ (by simp; omega), fun e0 ne0 => ?_⟩
    rw [← row0 (cf cs) cs.length 0 hN1]
    have s3 := (s2.trans (same_upd (o := HO.lst (List.replicate ((cs.length : Int) - 1).toNat [V.int 0]).flatten) n3)).trans (same_upd (o := HO.lst (rowV (cf cs) cs.length 0 0)) ne0)
    have he : ∀ s, (upd (upd H2 l3 (HO.lst (List.replicate ((cs.length : Int) - 1).toNat [V.int 0]).flatten)) e0 (HO.lst (rowV (cf cs) cs.length 0 0))) e0 = some (.lst (rowV (cf cs) cs.length s 0)) := fun s => by
      rw [upd_same, row0 _ _ _ hN1, row0 _ _ _ hN1]
    generalize upd (upd H2 l3 (HO.lst (List.replicate ((cs.length : Int) - 1).toNat [V.int 0]).flatten)) e0 (HO.lst (rowV (cf cs) cs.length 0 0)) = H3 at s3 he ⊢
    have hc3 := s3 _ _ hc1
    have hp3 := s3 _ _ hp1
    have fr3 : ∀ b o, H b = some o → b ≠ p → H3 b = some o := fun b o hb nb => s3 _ _ (fr1 b o hb nb)
    clear hl1 hl2 n1 n2 n3 l12 l13 ne0 s2 s3
    refine ⟨_, rfl, c, _, rfl, .inl (sq_of hc3), _, _, rfl, rfl, _, rfl, by omega, by rw [List.length_map]; omega, fun D1 hD1 => ?_⟩
    rw [List.length_map, show ((cs.length : Int) + 1).toNat = cs.length + 1 by omega]
    refine lc_refs (lo := 0) (j := 6) (fun _ => [V.ref e0]) (by omega) hD1 (fun i hi H4 s4 R k => ?_) (fun H4 ls s4 hd4 hll hR hrD => ?_)
    · exact ⟨_, rfl, sz _ (by show 1 ≤ 100000; decide), fun l nl => k l _ (same_upd nl) nl upd_same⟩
    refine ⟨_, rfl, p, _, dx, _, rfl, s4 _ _ hp3, T.cl_Bags, T.f_tables, Nat.lt_of_le_of_lt (putF_len _ _ _) (by decide), ?_⟩
    have hDp : D1 ≠ p := fun e => by rw [e, hp3] at hD1; cases hD1
    have BA : BagAt W.cBags (upd H4 p (.ins W.cBags dx (putF "tables" (.ref D1) (putF "counts" (.ref c) [])))) p dx c D1 ls := ⟨upd_same, by rw [upd_ne hDp]; exact hd4⟩
    have hnp : ∀ r ∈ ls, r ≠ p := fun r hr e => by have := hR.fr r hr; rw [e, hp3] at this; cases this
    have hTI : TabI H3 (upd H4 p (.ins W.cBags dx (putF "tables" (.ref D1) (putF "counts" (.ref c) [])))) p (cf cs) cs.length ls (fun _ => [e0]) (kO cs.length 0) := by
      refine ⟨hR.other hnp, hll, fun s hs => ?_, fun s hs j r e => ?_, fun b o hb nb => by rw [upd_ne nb]; exact s4 _ _ hb⟩
      · show 1 = kO cs.length 0 s
        unfold kO
        split
        · rename_i h
          have : s = cs.length := by omega
          subst this
          rw [Nat.div_eq_of_lt (by omega)]
        · rfl
      · match j, e with
        | 0, e =>
          obtain rfl := Option.some.inj e
          have : e0 ≠ p := fun z => by have := he 0; rw [z, hp3] at this; cases this
          rw [upd_ne this]
          exact s4 _ _ (he s)
        | j + 1, e => simp at e
    generalize upd H4 p (.ins W.cBags dx (putF "tables" (.ref D1) (putF "counts" (.ref c) []))) = H5 at BA hTI ⊢
    have hD1l : ∀ r ∈ ls, r ≠ D1 := hrD
    clear hd4 hll hR hrD s4 hD1
    have hcl : ∀ {H'} {rws kk}, TabI H3 H' p (cf cs) cs.length ls rws kk → H' c = some (.lst (cs.map V.int)) := fun h => h.sm _ _ hc3 hcp
    refine ⟨_, rfl, c, _, rfl, .inl (sq_of (hcl hTI)), _, _, rfl, rfl, ?_⟩
    rw [List.length_map]
    refine ⟨_, rfl, _, _, _, (((cs.length : Int) - 1) - 1).toNat, rfl, RgC.neg (by omega) (by omega) (by omega) (by omega), ?_⟩
    rw [show (((cs.length : Int) - 1) - 1).toNat = cs.length - 2 by omega]
    refine for_rangeC (fun i σ H' => ∃ (rws : Nat → List Addr) (y3 y4 y5 y6 y7 : Option V), σ = [some (.ref p), some (.ref c), some (.ref e0), y3, y4, y5, y6, y7] ∧ BagAt W.cBags H' p dx c D1 ls ∧
      TabI H3 H' p (cf cs) cs.length ls rws (kO cs.length i)) ⟨_, none, none, none, none, none, rfl, BA, hTI⟩ ?_ ?_
    · rintro i σ H6 hi ⟨rws, y3, y4, y5, y6, y7, rfl, BA6, T6⟩
      clear BA hTI H5
      rw [show (cs.length : Int) - 1 + (i : Int) * -1 = ((cs.length - 1 - i : Nat) : Int) by omega]
      obtain ⟨L, hL⟩ : ∃ L, cs.length - 1 - i = L := ⟨_, rfl⟩
      rw [hL]
      obtain ⟨dv, hdq⟩ : ∃ dv, (cs.length - 1) / L = dv := ⟨_, rfl⟩
      have hdv : dv ≤ 61 := hdq ▸ Nat.le_trans (Nat.div_le_self _ _) (by omega)
      refine ⟨_, rfl, c, _, rfl, .inl (sq_of (hcl T6)), _, _, rfl, rfl, _, rfl, _, _, rfl, rfl, ⟨by omega, by omega⟩, _, _, rfl, rfl, ?_⟩
      rw [List.length_map, show ((cs.length : Int) - 1) / (L : Int) = (dv : Int) by rw [← hdq, Int.natCast_ediv, show ((cs.length - 1 : Nat) : Int) = (cs.length : Int) - 1 by omega]]
      refine ⟨_, _, rfl, ⟨by omega, by omega, by omega, by omega⟩, ?_⟩
      rw [show ((dv : Int) + 1 - 1).toNat = dv by omega]
      refine for_range (lo := 1) (fun j σ H' => ∃ (rws : Nat → List Addr) (y4 y5 y6 y7 : Option V), σ = [some (.ref p), some (.ref c), some (.ref e0), some (.int L), y4, y5, y6, y7] ∧ BagAt W.cBags H' p dx c D1 ls ∧
        TabI H3 H' p (cf cs) cs.length ls rws (fun z => if z = L then 1 + j else kO cs.length i z)) ⟨rws, y4, y5, y6, y7, rfl, BA6, ?_⟩ ?_ ?_
      · have : kO cs.length i = fun z => if z = L then 1 + 0 else kO cs.length i z := by
          funext z
          by_cases hz : z = L
          · rw [if_pos hz]
            unfold kO
            rw [if_neg (by omega)]
          · rw [if_neg hz]
        rw [← this]
        exact T6
      · rintro j σ H7 hj ⟨rws7, y4, y5, y6, y7, rfl, BA7, T7⟩
        clear BA6 T6
        have hjL : (1 + j) * L ≤ cs.length - 1 := (Nat.le_div_iff_mul_le (by omega)).mp (by rw [hdq]; omega)
        refine ⟨_, rfl, c, _, rfl, .inl (sq_of (hcl T7)), _, rfl, by omega, by rw [List.length_map]; omega, fun D2 hD2 => ?_⟩
        rw [List.length_map, Int.toNat_natCast]
        refine lc_rangeM (lo := 0) (j := 7) (fun n => V.int (up (cf cs) (cs.length - L) L (1 + j) n)) (by omega) hD2 (fun n hn H8 s8 R k => ?_) (fun H8 s8 h8 => ?_)
        · have T8 := T7.mono s8
          obtain ⟨l, hl, hRows⟩ := T8.rows (s := L + 1) (by omega)
          have BA8 : BagAt W.cBags H8 p dx c D1 ls := ⟨s8 _ _ BA7.hp, s8 _ _ BA7.ht⟩
          refine ⟨_, rfl, p, dx, _, rfl, BA8.hp, l_no (by decide +kernel) (by decide +kernel), _, rfl, _, rfl, _, rfl, c, _, _, _, rfl, rfl, sq_of (hcl T8), atI_nat (j := L) (getD_at (by omega)), _, rfl, _, rfl, ?_⟩
          have hgL := hok.get L
          refine ⟨p, dx, c, D1, l, ls, L, cf cs L, 1 + j, n, cs.length, _, _, ?_, BA8, hl, hRows, by omega, by omega, hn, hN2, by unfold cf; omega, by omega, ?_, ?_, ?_, ?_, ?_⟩
          · show [V.ref p, V.int L, V.int (cs.getD L 0), V.int (1 + (j : Int)), V.int (0 + (n : Int))] = _
            rw [show cs.getD L 0 = ((cf cs L : Nat) : Int) by unfold cf; omega, show (1 : Int) + (j : Int) = ((1 + j : Nat) : Int) by omega, Int.zero_add]
          · rw [if_neg (by omega)]; unfold kO; generalize (cs.length - 1) / (L + 1) = d2; split <;> omega
          · rw [if_neg (by omega)]
            unfold kO
            have : (cs.length - 1) / (L + 1) ≤ cs.length - 1 := Nat.div_le_self _ _
            generalize (cs.length - 1) / (L + 1) = d2 at this
            split <;> omega
          · intro a b hb ha
            rw [if_neg (by omega)] at ha
            refine up_small _ _ _ (L + 1) (by omega) _ _ ?_
            unfold kO at ha
            rw [if_pos (by omega)] at ha
            have := (Nat.div_lt_iff_lt_mul (k := L + 1) (by omega)).mp (show (cs.length - 1) / (L + 1) < a by omega)
            omega
          · intro a b ha
            exact hok.bd (by omega) ha
          · have : geoN L (cf cs L) (fun j n => up (cf cs) (cs.length - (L + 1)) (L + 1) j n) (1 + j) n = up (cf cs) (cs.length - L) L (1 + j) n := by
              rw [show cs.length - L = (cs.length - (L + 1)) + 1 by omega]
              rfl
            rw [this]
            exact k H8 (.refl H8)
        · have T8 := T7.mono s8
          have BA8 : BagAt W.cBags H8 p dx c D1 ls := ⟨s8 _ _ BA7.hp, s8 _ _ BA7.ht⟩
          obtain ⟨l, hl, hg, hlH⟩ := T8.R.get (j := L) (by rw [T8.ll]; omega)
          refine ⟨_, rfl, p, _, dx, _, _, rfl, BA8.hp, T.cl_Bags, T.f_tables, l_tables, _, rfl, D1, _, _, .ref l, rfl, rfl, sq_of BA8.ht, atI_nat (j := L) hg, .inl ⟨rfl, _, sq_of hlH⟩, _, rfl, l, _, _, rfl, rfl, hlH, szl _ ?_, ?_⟩
          · rw [List.length_map, T8.kl L (by omega), if_pos rfl]; omega
          · have hlp : l ≠ p := hnp l (List.mem_of_getElem? hl)
            have h9 := T8.add (s := L) (by omega) (by omega) (by rw [if_pos rfl]; omega) hl (q := D2) (by rw [if_pos rfl]; exact h8) hlp
            have ek : (fun z => if z = L then (if L = L then 1 + j else kO cs.length i L) + 1 else if z = L then 1 + j else kO cs.length i z) = fun z => if z = L then 1 + (j + 1) else kO cs.length i z := by
              funext z
              by_cases hz : z = L
              · rw [if_pos hz, if_pos hz, if_pos rfl]; omega
              · rw [if_neg hz, if_neg hz, if_neg hz]
            rw [ek] at h9
            refine ⟨_, _, _, _, _, rfl, ⟨?_, ?_⟩, h9⟩
            · rw [upd_ne hlp.symm]; exact BA8.hp
            · rw [upd_ne (hD1l l (List.mem_of_getElem? hl)).symm]; exact BA8.ht
      · rintro σ H7 ⟨rws7, y4, y5, y6, y7, rfl, BA7, T7⟩
        refine ⟨rws7, _, _, _, _, _, rfl, BA7, ?_⟩
        have ek : (fun z => if z = L then 1 + dv else kO cs.length i z) = kO cs.length (i + 1) := by
          funext z
          by_cases hz : z = L
          · rw [if_pos hz]
            unfold kO
            rw [if_pos (by omega), hz, hdq]
            omega
          · rw [if_neg hz]
            unfold kO
            by_cases h2 : cs.length - i ≤ z ∧ 2 ≤ z
            · rw [if_pos h2, if_pos (by omega)]
            · rw [if_neg h2, if_neg (by omega)]
        rw [ek] at T7
        exact T7
    · rintro σ H6 ⟨rws, y3, y4, y5, y6, y7, rfl, BA6, T6⟩
      refine q D1 ls rws H3 H6 BA6 ?_ fun b o hb nb => T6.sm _ _ (fr3 b o hb nb) nb
      have ek : ∀ z, z ≤ cs.length → kO cs.length (cs.length - 2) z = kFin cs.length z := by
        intro z hz
        unfold kO kFin
        by_cases h2 : 2 ≤ z
        · rw [if_pos (by omega), if_pos h2]
        · rw [if_neg (by omega), if_neg h2]
      exact ⟨T6.R, T6.ll, fun s hs => by rw [T6.kl s hs, ek s hs], T6.row, T6.sm⟩
end
end SM

namespace SM
open PySem L2 SMath
section
variable {P : Program} {w : World} {K : PySem.W.Frag} {mg : Str → Option Value} {base : Heap} {W : Ad}
/-- how many sets -/
def bagN (cs : List Int) (m n s i : Nat) : Int := geoN s (cf cs s - i) (up (cf cs) (cs.length - (s + 1)) (s + 1)) m n
def okArgs (cs : List Int) (vm vs : V) (kd : Option (List Int)) : Bool := okn cs.length vm && (okn cs.length vs && okpl cs kd)
/-- what sets_from promises for given arguments -/
def SF (K : PySem.W.Frag) (W : Ad) (vc vm vs vf : V) (H : Hp) (Q : VK) (E : XK) : Prop :=
  (vc = .non ∧ ∀ H', Same H H' → E (.ref W.cBadCounts) none H') ∨
  ∃ (a : Addr) (cs : List Int), vc = .ref a ∧ H a = some (.lst (cs.map V.int)) ∧ cs.length ≤ 1000 ∧
    (okm cs = false → ∀ H', Same H H' → E (.ref W.cBadCounts) none H') ∧
    (okm cs = true → ∃ (t : Addr) (kd : Option (List Int)), IB vm ∧ IB vs ∧ vf = .ref t ∧ VF K H t kd ∧
      (okArgs cs vm vs kd = false → ∀ H', Same H H' → E (.ref W.cBadPlace) none H') ∧
      (okArgs cs vm vs kd = true → ∃ m n s i : Nat, vm = .int m ∧ vs = .int n ∧ kd = some [(s : Int), (i : Int)] ∧ (∀ x ∈ cs, x ≤ 10000) ∧ ∀ H', Same H H' → Q (.int (bagN cs m n s i)) H'))
def spSets (K : PySem.W.Frag) (W : Ad) : Sp := fun args H Q E => ∃ vc vm vs vf, args = [vc, vm, vs, vf] ∧ SF K W vc vm vs vf H Q E
theorem ok_sets (T : Tx K mg W) (D : Df K mg "sets_from" s_sets_from ["counts", "members", "size", "first"])
    (C1 : Cal P w K mg base (L2.CX P w) 3 "check_member_counts" ["counts"] (spMC W)) (C2 : Cal P w K mg base (L2.CX P w) 2 "check_number" ["counts", "value"] (spNum K W))
    (C3 : Cal P w K mg base (L2.CX P w) 3 "check_place" ["counts", "value"] (spPlace K W))
    (MKI : ∃ f, Mk K W.cBags f ∧ ∃ fd, Binds K fd ["self", "counts"] [] ∧ FnOk P w K mg base CX0 3 f fd ["self", "counts"] (spBInit K W.cBags))
    (C4 : CalM P w K mg base CX0 3 W.cBags "exactly" ["self", "members", "size", "first"] (spEx K W.cBags)) :
    Cal P w K mg base (L2.CX P w) 5 "sets_from" ["counts", "members", "size", "first"] (spSets K W) := by
  obtain ⟨f, fd, g, F, b⟩ := D
  obtain ⟨f1, fd1, g_check_member_counts, k_check_member_counts, b_check_member_counts, G_check_member_counts⟩ := C1.ex
  obtain ⟨f2, fd2, g_check_number, k_check_number, b_check_number, G_check_number⟩ := C2.ex
  obtain ⟨f3, fd3, g_check_place, k_check_place, b_check_place, G_check_place⟩ := C3.ex
  obtain ⟨fi, MK_Bags, fdi, B_Bags_init, G_Bags_init⟩ := MKI
  obtain ⟨f4, fd4, M_Bags_exactly, B_Bags_exactly, G_Bags_exactly⟩ := C4.ex
  refine ⟨f, fd, g, F.kp, b, F.okX sc_sets_from (fun vs H Q E h => ?_) (fun cdv A outer s H vs Q E hr h => ?_)⟩
  · obtain ⟨_, _, _, _, rfl, _⟩ := h
    rfl
  · obtain ⟨vc, vm, vs, vf, rfl, h⟩ := h
    refine ⟨_, (pss_cons (ps_expr (pe_callS G_check_member_counts (hr.mono (by decide)) (by rfl) g_check_member_counts k_check_member_counts b_check_member_counts (fun σ => passAt (takes_of rfl rfl rfl rfl) σ) (pa_cons (pv 0) pa_nil)))
  (pss_cons (ps_expr (pe_callS G_check_number (hr.mono (by decide)) (by rfl) g_check_number k_check_number b_check_number (fun σ => passAt (takes_of rfl rfl rfl rfl) σ) (pa_cons (pv 0) (pa_cons (pv 1) pa_nil))))
  (pss_cons (ps_expr (pe_callS G_check_number (hr.mono (by decide)) (by rfl) g_check_number k_check_number b_check_number (fun σ => passAt (takes_of rfl rfl rfl rfl) σ) (pa_cons (pv 0) (pa_cons (pv 2) pa_nil))))
  (pss_cons (ps_expr (pe_callS G_check_place (hr.mono (by decide)) (by rfl) g_check_place k_check_place b_check_place (fun σ => passAt (takes_of rfl rfl rfl rfl) σ) (pa_cons (pv 0) (pa_cons (pv 3) pa_nil))))
  (pss_one (ps_ret (pe_meth (pe_make MK_Bags G_Bags_init (hr.mono (by decide)) (by rfl) T.g_Bags B_Bags_init .nil pass0 (pa_cons (pv 0) pa_nil)) T.cl_Bags M_Bags_exactly G_Bags_exactly (hr.mono (by decide)) B_Bags_exactly .nil pass0 (pa_cons (pv 1) (pa_cons (pv 2) (pa_cons (pv 3) pa_nil)))))))))), ?_⟩
    rcases h with ⟨rfl, kE⟩ | ⟨a, cs, rfl, hA, hlen, kC, kT⟩
    · exact ⟨_, rfl, _, rfl, .inl ⟨rfl, kE⟩⟩
    refine ⟨_, rfl, _, rfl, .inr ⟨a, cs, rfl, hA, hlen, fun hm H1 s1 => ?_, fun hm H1 s1 => kC hm H1 s1⟩⟩
    obtain ⟨t, kd, hvm, hvs, rfl, hV, kF, kT⟩ := kT hm
    have hA1 := s1 _ _ hA
    refine ⟨_, rfl, _, rfl, a, cs, vm, rfl, hA1, hvm, fun c1 => ?_, fun c1 H2 s2 => kF (by unfold okArgs; rw [c1]; rfl) H2 (s1.trans s2)⟩
    refine ⟨_, rfl, _, rfl, a, cs, vs, rfl, hA1, hvs, fun c2 => ?_, fun c2 H2 s2 => kF (by unfold okArgs; rw [c2, Bool.false_and, Bool.and_false]) H2 (s1.trans s2)⟩
    have hV1 : VF K H1 t kd := by
      cases kd with
      | none => obtain ⟨xs, hx⟩ := hV; exact ⟨xs, s1 _ _ hx⟩
      | some ns => exact s1 _ _ hV
    refine ⟨_, rfl, _, rfl, a, t, cs, kd, rfl, hA1, hV1, fun c3 H2 s2 => ?_, fun c3 H2 s2 => kF (by unfold okArgs; rw [c3, Bool.and_false, Bool.and_false]) H2 (s1.trans s2)⟩
    obtain ⟨m, n, s, i, rfl, rfl, rfl, hbd, kQ⟩ := kT (by unfold okArgs; rw [c1, c2, c3]; rfl)
    have sm2 := s1.trans s2
    have hA2 := sm2 _ _ hA
    have hV2 := s2 _ _ hV1
    have hok : Okb cs := by
      unfold okm okc at hm
      simp only [Bool.and_eq_true, decide_eq_true_eq, List.all_eq_true] at hm
      exact ⟨hm.1.1, hm.1.2.1, fun x hx => ⟨by simpa using hm.1.2.2 x hx, hbd x hx⟩⟩
    rw [okn_int, Bool.and_eq_true, decide_eq_true_eq, decide_eq_true_eq] at c1 c2
    have c3' : okn cs.length (.int (s : Int)) = true ∧ (i : Int) < cs.getD s 0 := by
      have : (okn cs.length (.int (s : Int)) && (decide (0 ≤ (i : Int)) && decide ((i : Int) < cs.getD (s : Int).toNat 0))) = true := c3
      rw [Bool.and_eq_true, Bool.and_eq_true, decide_eq_true_eq, decide_eq_true_eq, Int.toNat_natCast] at this
      exact ⟨this.1, this.2.2⟩
    obtain ⟨c3a, c3b⟩ := c3'
    rw [okn_int, Bool.and_eq_true, decide_eq_true_eq, decide_eq_true_eq] at c3a
    have hs0 : 1 ≤ s := by
      unfold okm at hm
      rw [Bool.and_eq_true, decide_eq_true_eq] at hm
      match s, c3b with
      | 0, c3b => rw [hm.2] at c3b; omega
      | s + 1, _ => omega
    have hL1 := hok.1
    have hL2 := hok.2.1
    refine ⟨_, rfl, fun x dx nx ndx hxd => ?_⟩
    have hH3x : (upd (upd H2 dx (.own x)) x (.ins W.cBags dx [])) x = some (.ins W.cBags dx []) := upd_same
    have fr3 : ∀ b o, H2 b = some o → (upd (upd H2 dx (.own x)) x (.ins W.cBags dx [])) b = some o := fun b o e => by
      rw [upd_ne (ne_of_none e nx), upd_ne (ne_of_none e ndx)]
      exact e
    generalize upd (upd H2 dx (.own x)) x (.ins W.cBags dx []) = H3 at hH3x fr3 ⊢
    refine ⟨x, dx, a, cs, rfl, hH3x, fr3 _ _ hA2, hok, fun tt ls rws B H4 BA hTI fr4 => ⟨rfl, ?_⟩⟩
    have frr : ∀ b o, H2 b = some o → H4 b = some o := fun b o e => fr4 _ _ (fr3 _ _ e) (ne_of_none e nx)
    obtain ⟨l, hl, hRows⟩ := hTI.rows (s := s + 1) (by omega)
    refine ⟨x, dx, _, rfl, BA.hp, l_no (by decide +kernel) (by decide +kernel), _, rfl, _, rfl, _, rfl, x, t, dx, a, tt, l, ls, cs, s, i, m, n, cs.length, _, _, rfl, frr _ _ hV2, BA, frr _ _ hA2, by omega, by omega, by have := hok.get s; omega, hl, hRows, hs0, by omega, by omega, hL2, by omega, ?_, ?_, ?_, ?_, ?_⟩
    · unfold kFin; generalize (cs.length - 1) / (s + 1) = d2; split <;> omega
    · unfold kFin
      have : (cs.length - 1) / (s + 1) ≤ cs.length - 1 := Nat.div_le_self _ _
      generalize (cs.length - 1) / (s + 1) = d2 at this
      split <;> omega
    · intro a b hb ha
      refine up_small _ _ _ (s + 1) (by omega) _ _ ?_
      unfold kFin at ha
      rw [if_pos (by omega)] at ha
      have := (Nat.div_lt_iff_lt_mul (k := s + 1) (by omega)).mp (show (cs.length - 1) / (s + 1) < a by omega)
      omega
    · intro a b ha
      exact hok.bd (by omega) ha
    · exact kQ H4 fun b o e => frr _ _ (sm2 _ _ e)
end
end SM

namespace SM
open PySem L2
theorem cutV_ints (ns : List Int) (lo hi : Option Int) : ∃ ms : List Int, cutV (ns.map V.int) lo hi = ms.map V.int ∧ ms.length ≤ ns.length := by
  refine ⟨(ns.drop (HT.sIx (ns.map V.int).length 0 lo)).take (HT.sIx (ns.map V.int).length (ns.map V.int).length hi - HT.sIx (ns.map V.int).length 0 lo), ?_, ?_⟩
  · unfold cutV
    rw [List.map_take, List.map_drop]
  · rw [List.length_take, List.length_drop]
    omega
theorem cutV_to (xs : List V) (k : Nat) : cutV xs none (some (k : Int)) = xs.take k := by
  unfold cutV
  rw [HT.sIx_none, HT.sIx_nat, Nat.sub_zero, List.drop_zero]
  by_cases h : k ≤ xs.length
  · rw [Nat.min_eq_left h]
  · rw [Nat.min_eq_right (by omega), List.take_of_length_le (Nat.le_refl _), List.take_of_length_le (by omega)]
theorem cutV_from (xs : List V) (k : Nat) : cutV xs (some (k : Int)) none = xs.drop k := by
  unfold cutV
  rw [HT.sIx_none, HT.sIx_nat]
  by_cases h : k ≤ xs.length
  · rw [Nat.min_eq_left h]
    exact List.take_of_length_le (by rw [List.length_drop]; omega)
  · rw [Nat.min_eq_right (by omega), List.drop_of_length_le (Nat.le_refl _), List.drop_of_length_le (by omega), List.take_nil]
/-! ### the draws -/
def Dr (ds : List Int) : Prop := ∀ d ∈ ds, 0 ≤ d ∧ d < 65537
theorem Dr.nil : Dr [] := fun d hd => by cases hd
theorem Dr.app {ds : List Int} {x : Int} (h : Dr ds) (h0 : 0 ≤ x) (h1 : x < 65537) : Dr (ds ++ [x]) := fun d hd => by
  rcases List.mem_append.mp hd with e | e
  · exact h d e
  · simp at e
    rw [e]; exact ⟨h0, h1⟩
theorem Dr.take {ds : List Int} (h : Dr ds) (k : Nat) : Dr (ds.take k) := fun d hd => h d (List.mem_of_mem_take hd)
section
variable {P : Program} {w : World} {K : PySem.W.Frag} {mg : Str → Option Value} {base : Heap} {W : Ad}
def spDraws (K : PySem.W.Frag) : Sp := fun vs H Q _ => ∃ (a : Addr) (ns : List Int) (many : Nat), vs = [.ref a, .int many] ∧ SqL K H a (ns.map V.int) ∧ ns.length ≤ 63 ∧ many ≤ 1000 ∧
  ∀ (p : Addr) (H' : Hp) (ds : List Int), Same H H' → H p = none → H' p = some (.lst (ds.map V.int)) → Dr ds → ds.length = many → Q (.ref p) H'
theorem ok_draws (T : Tx K mg W) (D : Df K mg "_law_draws" s__law_draws ["script", "many"]) : Cal P w K mg base CX0 1 "_law_draws" ["script", "many"] (spDraws K) := by
  obtain ⟨f, fd, g, F, b⟩ := D
  refine ⟨f, fd, g, F.kp, b, F.ok sc__law_draws (fun vs H Q E h => ?_) (fun cdv A outer s H vs Q E hr h => ?_)⟩
  · obtain ⟨_, _, _, rfl, _⟩ := h
    rfl
  · obtain ⟨a, ns, many, rfl, hA, hlen, hmany, q⟩ := h
    refine ⟨_, (pss_cons (ps_set (i := 2) sc__law_draws.nd rfl (.inl rfl) (pe_lst pa_nil))
  (pss_cons (ps_set (i := 3) sc__law_draws.nd rfl (.inl rfl) pe_int)
  (pss_cons (ps_for PassesOwn.never rfl (pi_list (pe_slice sl_list (pv 0) po_none (po_some pe_int))) (pg_name (i := 4) sc__law_draws.nd rfl (.inl rfl)) (
    (pss_cons (ps_set (i := 5) sc__law_draws.nd rfl (.inl rfl) (pe_callB call_abs (by rfl) T.n_abs (by decide +kernel) (pa_cons (pv 4) pa_nil)))
    (pss_cons (ps_if (pt_cmpR op_ge (pv 5) (pe_op op_pow pe_int pe_int) (nomark _)) (
      (pss_one (ps_for PassesOwn.never rfl (pi_range1 (by rfl) T.n_range (pa_cons pe_int pa_nil)) (pg_name (i := 6) sc__law_draws.nd rfl (.inl rfl)) (
        (pss_one (ps_if (pt_cmpR op_gt (pv 5) pe_int (nomark _)) (
          (pss_cons (ps_expr (pe_bm PySem.F.plainAttrs_list PySem.F.slot_list_append PySem.F.type_list_append mt_append (pv 2) (pa_cons (pe_op op_mod (pe_callTy call_int1 (by rfl) T.n_int (by decide +kernel) (pa_cons (pv 5) pa_nil)) pe_int) pa_nil)))
          (pss_one (ps_set (i := 5) sc__law_draws.nd rfl (.inl rfl) (pe_op op_fdiv (pv 5) pe_int))))) (pss_nil))))))) (
      (pss_cons (ps_expr (pe_bm PySem.F.plainAttrs_list PySem.F.slot_list_append PySem.F.type_list_append mt_append (pv 2) (pa_cons (pe_op op_mod (pe_callTy call_int1 (by rfl) T.n_int (by decide +kernel) (pa_cons (pe_op op_add (pe_op op_add (pe_op op_mul (pv 5) pe_int) (pe_op op_mul (pv 3) pe_int)) pe_int) pa_nil)) pe_int) pa_nil)))
      (pss_one (ps_expr (pe_bm PySem.F.plainAttrs_list PySem.F.slot_list_append PySem.F.type_list_append mt_append (pv 2) (pa_cons (pe_op op_mod (pe_callTy call_int1 (by rfl) T.n_int (by decide +kernel) (pa_cons (pe_op op_add (pe_op op_add (pe_op op_add (pe_op op_mul (pv 5) pe_int) (pe_op op_mul (pv 3) pe_int)) pe_int) (pe_op op_mul (pv 5) (pv 5))) pa_nil)) pe_int) pa_nil)))))))
    (pss_one (ps_set (i := 3) sc__law_draws.nd rfl (.inl rfl) (pe_op op_add (pv 3) pe_int)))))))
  (pss_cons (ps_for PassesOwn.never rfl (pi_range1 (by rfl) T.n_range (pa_cons (pv 1) pa_nil)) (pg_name (i := 6) sc__law_draws.nd rfl (.inl rfl)) (
    (pss_one (ps_if (pt_cmpR op_lt (pe_callB call_len_seq (by rfl) T.n_len (by decide +kernel) (pa_cons (pv 2) pa_nil)) (pv 1) (nomark _)) (
      (pss_one (ps_expr (pe_bm PySem.F.plainAttrs_list PySem.F.slot_list_append PySem.F.type_list_append mt_append (pv 2) (pa_cons (pe_op op_mod (pe_callTy call_int1 (by rfl) T.n_int (by decide +kernel) (pa_cons (pe_op op_add (pe_op op_add (pe_op op_mul (pe_callB call_len_seq (by rfl) T.n_len (by decide +kernel) (pa_cons (pv 2) pa_nil)) pe_int) (pe_op op_mul pe_int (pv 3))) (pe_op op_mul (pe_op op_mul (pv 6) (pv 6)) pe_int)) pa_nil)) pe_int) pa_nil))))) (pss_nil)))))
  (pss_one (ps_ret (pe_slice sl_list (pv 2) po_none (po_some (pv 1))))))))), ?_⟩
    refine ⟨Nat.zero_le _, fun dp nd => ?_⟩
    have s1 : Same H (upd H dp (.lst [])) := same_upd nd
    refine ⟨_, rfl, 63, rfl, a, _, rfl, s1.seq hA, fun cp nc => ?_⟩
    obtain ⟨ms, ems, hms⟩ := cutV_ints ns none (some 63)
    rw [ems]
    have ncd : cp ≠ dp := fun e => by rw [e, upd_same] at nc; cases nc
    have nc0 : H cp = none := s1.free nc
    have hc2 : (upd (upd H dp (.lst [])) cp (.lst (ms.map V.int))) cp = some (.lst (ms.map V.int)) := upd_same
    refine ⟨cp, rfl, ⟨_, sq_of hc2⟩, for_list (K := K) (a := cp) (xs := ms.map V.int) (fun i σ H' => ∃ (y4 y5 y6 : Option V) (ds : List Int), σ = [some (.ref a), some (.int many), some (.ref dp), some (.int i), y4, y5, y6] ∧
      Same H H' ∧ H' cp = some (.lst (ms.map V.int)) ∧ H' dp = some (.lst (ds.map V.int)) ∧ Dr ds ∧ ds.length ≤ 24 * i) ⟨none, none, none, [], rfl, s1.trans (same_upd nc), hc2, by rw [upd_ne ncd.symm]; exact upd_same, Dr.nil, Nat.zero_le _⟩
      (fun i σ H' _ ⟨_, _, _, _, _, _, h, _⟩ => sq_of h) ?_ ?_⟩
    · rintro i y σ H1 hi ⟨y4, y5, y6, ds, rfl, sm, hcp, hdp, hds, hdl⟩
      obtain ⟨z, hz, rfl⟩ := ints_of hi
      have hil : i < ms.length := (List.getElem?_eq_some_iff.mp hz).1
      refine ⟨_, rfl, z, rfl, ?_⟩
      generalize hnum : (if z < 0 then -z else z) = num
      have hnum0 : 0 ≤ num := by rw [← hnum]; split <;> omega
      refine ⟨_, rfl, _, _, rfl, rfl, ⟨by decide, by decide, by decide⟩, _, _, rfl, rfl, _, rfl, ?_⟩
      refine ite2 (fun _ => ?_) (fun cn => ?_)
      · refine ⟨24, rfl, by decide, by decide, ?_⟩
        refine for_range (lo := 0) (n := 24) (fun k σ H' => ∃ (num : Int) (y6 : Option V) (ds : List Int), σ = [some (.ref a), some (.int many), some (.ref dp), some (.int i), some (.int z), some (.int num), y6] ∧ 0 ≤ num ∧
          Same H H' ∧ H' cp = some (.lst (ms.map V.int)) ∧ H' dp = some (.lst (ds.map V.int)) ∧ Dr ds ∧ ds.length ≤ 24 * i + k) ⟨num, y6, ds, rfl, hnum0, sm, hcp, hdp, hds, hdl⟩ ?_ ?_
        · rintro k σ H2 hk ⟨nm, y6', ds', rfl, n0, sm', hcp', hdp', hds', hdl'⟩
          refine ⟨_, rfl, _, _, rfl, rfl, _, rfl, ite2 (fun c => ?_) (fun c => ?_)⟩
          · refine ⟨_, rfl, .inl ⟨rfl, _, sq_of hdp'⟩, _, rfl, .inl ⟨_, rfl, _, _, rfl, rfl, (by show (0 : Int) < 1009; decide), dp, _, _, rfl, rfl, hdp', szl _ (by rw [List.length_map]; omega), ?_⟩⟩
            have w0 := Int.emod_nonneg nm (b := 1009) (by decide)
            have w1 := Int.emod_lt_of_pos nm (b := 1009) (by decide)
            refine ⟨_, rfl, _, _, rfl, rfl, ⟨by decide, by decide⟩, nm / 1009, _, ds' ++ [nm % 1009], rfl, Int.ediv_nonneg n0 (by decide), same_upd' sm' nd, by rw [upd_ne ncd]; exact hcp', by rw [upd_same, List.map_append]; rfl, hds'.app w0 (by omega), by rw [List.length_append]; simp; omega⟩
          · exact ⟨nm, _, ds', rfl, n0, sm', hcp', hdp', hds', by omega⟩
        · rintro σ H2 ⟨nm, y6', ds', rfl, n0, sm', hcp', hdp', hds', hdl'⟩
          exact ⟨_, rfl, _, _, rfl, rfl, _, _, _, ds', by rw [show ((i + 1 : Nat) : Int) = (i : Int) + 1 by omega]; rfl, sm', hcp', hdp', hds', by omega⟩
      · have hlt : num < 10 ^ 18 := by
          have : ¬ ((10 : Int) ^ 18 ≤ num) := fun z => cn (decide_eq_true z)
          omega
        have hlt' : num < 1000000000000000000 := by
          have e : (10 : Int) ^ 18 = 1000000000000000000 := by decide
          omega
        refine ⟨_, rfl, .inl ⟨rfl, _, sq_of hdp⟩, _, rfl, _, _, rfl, rfl, .inl ⟨by omega, by omega⟩, _, rfl, _, _, rfl, rfl, .inl ⟨by omega, by omega⟩, _, _, rfl, rfl, _, _, rfl, rfl, .inl ⟨_, rfl, _, _, rfl, rfl, (by show (0 : Int) < 65537; decide), dp, _, _, rfl, rfl, hdp, szl _ (by rw [List.length_map]; omega), ?_⟩⟩
        have w0 := Int.emod_nonneg (num * 48271 + (i : Int) * 69621 + 11) (b := 65537) (by decide)
        have w1 := Int.emod_lt_of_pos (num * 48271 + (i : Int) * 69621 + 11) (b := 65537) (by decide)
        generalize hx1 : (num * 48271 + (i : Int) * 69621 + 11) % 65537 = x1 at w0 w1
        have hdp1 : (upd H1 dp (.lst (ds.map V.int ++ [.int x1]))) dp = some (.lst ((ds ++ [x1]).map V.int)) := by rw [upd_same, List.map_append]; rfl
        refine ⟨_, rfl, .inl ⟨rfl, _, sq_of (by rw [← hdp1]; show _ = (upd H1 dp (.lst (ds.map V.int ++ [.int x1]))) dp; rw [← hx1])⟩, _, rfl, _, _, rfl, rfl, .inl ⟨by omega, by omega⟩, _, rfl, _, _, rfl, rfl, .inl ⟨by omega, by omega⟩, _, _, rfl, rfl, _, _, rfl, rfl, _, rfl, _, rfl, _, _, rfl, rfl, .inl ⟨by omega, by omega⟩, _, _, rfl, rfl, .inl ⟨_, rfl, _, _, rfl, rfl, (by show (0 : Int) < 65521; decide), dp, _, _, rfl, rfl, (by rw [← hdp1]; show _ = (upd H1 dp (.lst (ds.map V.int ++ [.int x1]))) dp; rw [← hx1]), szl _ (by rw [List.length_map, List.length_append]; simp; omega), ?_⟩⟩
        refine ⟨_, rfl, _, _, rfl, rfl, _, _, _, (ds ++ [x1]) ++ [(num * 16807 + (i : Int) * 40692 + 7 + num * num) % 65521], by rw [show ((i + 1 : Nat) : Int) = (i : Int) + 1 by omega]; rfl, same_upd' (same_upd' sm nd) nd, by rw [upd_ne ncd, upd_ne ncd]; exact hcp, by rw [upd_same]; simp only [List.map_append]; rfl, (hds.app w0 w1).app (Int.emod_nonneg _ (by decide)) (Int.lt_trans (Int.emod_lt_of_pos _ (by decide)) (by decide)), by rw [List.length_append, List.length_append]; simp; omega⟩
    · rintro σ H1 ⟨y4, y5, y6, ds, rfl, sm, hcp, hdp, hds, hdl⟩
      rw [List.length_map] at hdl
      have hml : ms.length ≤ 63 := by omega
      refine ⟨_, rfl, many, rfl, by omega, by omega, ?_⟩
      rw [Int.toNat_natCast, List.length_map]
      refine for_range (lo := 0) (n := many) (fun k σ H' => ∃ (y4 y5 y6 : Option V) (ds : List Int), σ = [some (.ref a), some (.int many), some (.ref dp), some (.int ms.length), y4, y5, y6] ∧
        Same H H' ∧ H' dp = some (.lst (ds.map V.int)) ∧ Dr ds ∧ ds.length ≤ 24 * 63 + k ∧ (k ≤ ds.length ∨ many ≤ ds.length)) ⟨y4, y5, y6, ds, rfl, sm, hdp, hds, by omega, .inl (Nat.zero_le _)⟩ ?_ ?_
      · rintro k σ H2 hk ⟨y4, y5, y6, ds', rfl, sm', hdp', hds', hdl', hlong⟩
        refine ⟨_, rfl, dp, _, rfl, .inl (sq_of hdp'), _, rfl, _, _, rfl, rfl, _, rfl, ite2 (fun c => ?_) (fun c => ?_)⟩
        · refine ⟨_, rfl, .inl ⟨rfl, _, sq_of hdp'⟩, _, rfl, dp, _, rfl, .inl (sq_of hdp'), _, _, rfl, rfl, .inl ⟨by rw [List.length_map]; omega, by rw [List.length_map]; omega⟩, _, rfl, _, _, rfl, rfl, .inl ⟨by omega, by omega⟩, _, _, rfl, rfl, _, rfl, _, rfl, _, _, rfl, rfl, .inl ⟨by omega, by omega⟩, _, _, rfl, rfl, .inr ⟨by decide, by decide⟩, _, _, rfl, rfl, .inl ⟨_, rfl, _, _, rfl, rfl, (by show (0 : Int) < 65521; decide), dp, _, _, rfl, rfl, hdp', szl _ (by rw [List.length_map]; omega), ?_⟩⟩
          refine ⟨_, _, _, ds' ++ [((((ds'.map V.int).length : Int) * 69621 + 977 * (ms.length : Int)) + (0 + (k : Int)) * (0 + (k : Int)) * 31) % 65521], rfl, same_upd' sm' nd, by rw [upd_same, List.map_append]; rfl, hds'.app (Int.emod_nonneg _ (by decide)) (Int.lt_trans (Int.emod_lt_of_pos _ (by decide)) (by decide)), by rw [List.length_append]; simp; omega, ?_⟩
          rw [List.length_append]; simp; omega
        · have c' : ¬ ((((ds'.map V.int).length : Nat) : Int) < (many : Int)) := fun z => c (decide_eq_true z)
          rw [List.length_map] at c'
          exact ⟨_, _, _, ds', rfl, sm', hdp', hds', by omega, .inr (by omega)⟩
      · rintro σ H2 ⟨y4, y5, y6, ds', rfl, sm', hdp', hds', hdl', hlong⟩
        refine ⟨_, rfl, _, rfl, many, rfl, dp, _, rfl, sq_of hdp', fun p np => ?_⟩
        refine q p _ (ds'.take many) (sm'.trans (same_upd np)) (sm'.free np) ?_ (hds'.take many) ?_
        · rw [upd_same, cutV_to, List.map_take]
        · rw [List.length_take]; omega
end
end SM

namespace SM
open PySem L2 SMath
section
variable {X : Cx} {a : Addr} {oe : Obj} {pn : List (Addr × Obj)} {cls : Value} {d : Option Addr}
/-- isinstance of the error that the suite holds, whatever its class is -/
def rIsE3 (K : PySem.W.Frag) (a : Addr) (cls : Value) (d : Option Addr) : List V → Hp → VK → Prop := fun xs H Q => ∃ D, ExcC K D ∧ cls = .ref D ∧ d = none ∧ rIsE K D a xs H Q
theorem call_isE3 (hz : Zc cls d oe) (hf : ∃ vs, oe.data = .fields vs) : CallR (X.suite a ((a, oe) :: pn)) (.builtin "isinstance") (rIsE3 X.K a cls d) := by
  intro pins s σ H xs us Q I r h
  obtain ⟨D, C, rfl, rfl, h⟩ := h
  exact call_isE C hz hf pins s σ H xs us Q I r h
end
/-- what is asked of the error classes -/
structure Ex (K : PySem.W.Frag) (mg : Str → Option Value) (W : Ad) : Prop where
  gS : mg "SpeciesError" = some (.ref W.cSpeciesError)
  cC : ExcC K W.cBadCounts
  cP : ExcC K W.cBadPlace
  mC : PySem.W.exmOne K (.ref W.cBadCounts) (.ref W.cSpeciesError) = some true
  mP : PySem.W.exmOne K (.ref W.cBadPlace) (.ref W.cSpeciesError) = some true
  iCC : PySem.W.kitOne K (.ref W.cBadCounts) (.ref W.cBadCounts) = some true
  iCP : PySem.W.kitOne K (.ref W.cBadCounts) (.ref W.cBadPlace) = some false
  iPC : PySem.W.kitOne K (.ref W.cBadPlace) (.ref W.cBadCounts) = some false
  iPP : PySem.W.kitOne K (.ref W.cBadPlace) (.ref W.cBadPlace) = some true
section
variable {P : Program} {w : World} {K : PySem.W.Frag} {mg : Str → Option Value} {base : Heap} {W : Ad}
def spNumber : Sp := fun vs H Q _ => ∃ i, vs = [.int i] ∧ Q (.bl true) H
theorem ok_number (T : Tx K mg W) (D : Df K mg "_law_is_number" s__law_is_number ["value"]) : Cal P w K mg base CX0 1 "_law_is_number" ["value"] spNumber := by
  obtain ⟨f, fd, g, F, b⟩ := D
  refine ⟨f, fd, g, F.kp, b, F.ok sc__law_is_number (fun vs H Q E h => ?_) (fun cdv A outer s H vs Q E hr h => ?_)⟩
  · obtain ⟨x, rfl, _⟩ := h
    rfl
  · obtain ⟨i, rfl, q⟩ := h
    refine ⟨_, (pss_one (ps_ret (pe_and (pe_callB call_isi (by rfl) T.n_isinstance (by decide +kernel) (pa_cons (pv 0) (pa_cons (pe_bltn (v := .ty "int") (by rfl) T.n_int (by decide +kernel) rfl) pa_nil))) (pe_one (pe_not (pe_callB call_isi (by rfl) T.n_isinstance (by decide +kernel) (pa_cons (pv 0) (pa_cons (pe_bltn (v := .ty "bool") (by rfl) T.n_bool (by decide +kernel) rfl) pa_nil)))))))), ?_⟩
    refine ⟨_, rfl, _, _, _, _, true, rfl, .ty "int", .base (.int i), kit_ty (by decide +kernel), _, rfl, iteT ?_⟩
    refine ⟨_, rfl, _, _, _, _, false, rfl, .ty "bool", .base (.int i), kit_ty (by decide +kernel), _, rfl, ?_⟩
    exact q
/-! ### _law_chosen -/
def spChosen : Sp := fun vs H Q _ => ∃ v t : Nat, vs = [.int v, .int t] ∧ v ≤ 1000 ∧ t ≤ 1000 ∧ Q (.int (G v t)) H
theorem ok_chosen (T : Tx K mg W) (D : Df K mg "_law_chosen" s__law_chosen ["count", "times"]) : Cal P w K mg base CX0 1 "_law_chosen" ["count", "times"] spChosen := by
  obtain ⟨f, fd, g, F, b⟩ := D
  refine ⟨f, fd, g, F.kp, b, F.ok sc__law_chosen (fun vs H Q E h => ?_) (fun cdv A outer s H vs Q E hr h => ?_)⟩
  · obtain ⟨_, _, rfl, _⟩ := h
    rfl
  · obtain ⟨v, t, rfl, hv, ht, q⟩ := h
    refine ⟨_, (pss_cons (ps_set (i := 2) sc__law_chosen.nd rfl (.inl rfl) pe_int)
  (pss_cons (ps_for PassesOwn.never rfl (pi_range1 (by rfl) T.n_range (pa_cons (pv 1) pa_nil)) (pg_name (i := 3) sc__law_chosen.nd rfl (.inl rfl)) (
    (pss_one (ps_set (i := 2) sc__law_chosen.nd rfl (.inl rfl) (pe_op op_fdivW (pe_op op_mulW (pv 2) (pe_op op_add (pv 0) (pv 3))) (pe_op op_add (pv 3) pe_int))))))
  (pss_one (ps_ret (pv 2))))), ?_⟩
    refine ⟨_, rfl, t, rfl, by omega, by omega, ?_⟩
    rw [Int.toNat_natCast]
    refine for_range (lo := 0) (n := t) (fun k σ H' => ∃ y3 : Option V, H' = H ∧ σ = [some (.int v), some (.int t), some (.int (G v k)), y3]) ⟨none, rfl, by rw [G_0]; rfl⟩ ?_ ?_
    · rintro k σ H' hk ⟨y3, rfl, rfl⟩
      have g := G_le v k
      have gp : G v k ≤ 2 ^ 2000 := Int.le_trans g.2 (p2_le (by omega))
      have hvk : ((v : Int) + (k : Int)).natAbs < 2 ^ 11 := by
        have : (2 : Nat) ^ 11 = 2048 := by decide
        omega
      refine ⟨_, rfl, _, rfl, _, rfl, _, _, rfl, rfl, _, _, rfl, rfl, ?_, _, rfl, _, _, rfl, rfl, _, _, rfl, rfl, ?_, ?_⟩
      · rw [Int.zero_add]
        exact wide_mul (nb g.1 gp) hvk (by decide) (by decide) (by decide)
      · rw [Int.zero_add]
        refine wide_div (b := 11) (by omega) ?_ (by decide) (by decide)
        have : (2 : Nat) ^ 11 = 2048 := by decide
        omega
      · refine ⟨some (.int (0 + (k : Int))), rfl, ?_⟩
        show [some (V.int v), some (V.int t), some (V.int (G v k * ((v : Int) + (0 + (k : Int))) / (0 + (k : Int) + 1))), some (V.int (0 + (k : Int)))] = _
        rw [Int.zero_add, chosen_step]
    · rintro σ H' ⟨y3, rfl, rfl⟩
      exact ⟨_, rfl, q⟩
/-! ### _law_told -/
/-- what is refused: for the counts, or else for the rest -/
def Refused (K : PySem.W.Frag) (cnt : Bool) (vc vm vs vf : V) (H : Hp) : Prop :=
  if cnt = true then vc = .non ∨ ∃ (a : Addr) (cs : List Int), vc = .ref a ∧ H a = some (.lst (cs.map V.int)) ∧ cs.length ≤ 1000 ∧ okm cs = false
  else ∃ (a t : Addr) (cs : List Int) (kd : Option (List Int)), vc = .ref a ∧ H a = some (.lst (cs.map V.int)) ∧ cs.length ≤ 1000 ∧ okm cs = true ∧ IB vm ∧ IB vs ∧ vf = .ref t ∧ VF K H t kd ∧ okArgs cs vm vs kd = false
theorem sf_of {cnt : Bool} {vc vm vs vf : V} {H : Hp} {Q : VK} {E : XK} (h : Refused K cnt vc vm vs vf H) (k : ∀ H', Same H H' → E (.ref (if cnt = true then W.cBadCounts else W.cBadPlace)) none H') : SF K W vc vm vs vf H Q E := by
  cases cnt with
  | true =>
    rcases (show vc = .non ∨ _ from h) with rfl | ⟨a, cs, rfl, hA, hl, hm⟩
    · exact .inl ⟨rfl, k⟩
    · exact .inr ⟨a, cs, rfl, hA, hl, fun _ => k, fun z => by rw [hm] at z; cases z⟩
  | false =>
    obtain ⟨a, t, cs, kd, rfl, hA, hl, hm, hvm, hvs, rfl, hV, hk⟩ := (show ∃ (a t : Addr) (cs : List Int) (kd : Option (List Int)), _ from h)
    exact .inr ⟨a, cs, rfl, hA, hl, fun z => (by rw [hm] at z; cases z), fun _ => ⟨t, kd, hvm, hvs, rfl, hV, fun _ => k, fun z => by rw [hk] at z; cases z⟩⟩
def spTold (K : PySem.W.Frag) : Sp := fun args H Q _ => ∃ (cnt : Bool) (vc vm vs vf : V), args = [vc, vm, vs, vf] ∧ Refused K cnt vc vm vs vf H ∧
  ∀ q H', Same H H' → H q = none → H' q = some (.lst [.bl cnt, .bl (!cnt)]) → Q (.ref q) H'
theorem ok_told (T : Tx K mg W) (X : Ex K mg W) (D : Df K mg "_law_told" s__law_told ["counts", "members", "size", "first"])
    (C1 : Cal P w K mg base (L2.CX P w) 5 "sets_from" ["counts", "members", "size", "first"] (spSets K W)) : Cal P w K mg base CX0 6 "_law_told" ["counts", "members", "size", "first"] (spTold K) := by
  obtain ⟨f, fd, g, F, b⟩ := D
  obtain ⟨f1, fd1, g_sets_from, k_sets_from, b_sets_from, G_sets_from⟩ := C1.ex
  refine ⟨f, fd, g, F.kp, b, F.ok sc__law_told (fun vs H Q E h => ?_) (fun cdv A outer s H vs Q E hr h => ?_)⟩
  · obtain ⟨_, _, _, _, _, rfl, _⟩ := h
    rfl
  · obtain ⟨cnt, vc, vm, vz, vf, rfl, hR, k⟩ := h
    have hr1 : Room 5 _ := hr.mono (by decide)
    refine ⟨_, pss_cons (ps_try_as (i := 4) (ts := fun a cls d => tRet (tLst (tCons (tCB (rIsE3 K a cls d) (tCons (tVar 4) (tCons (tC (.ref W.cBadCounts)) tNil))) (tCons (tCB (rIsE3 K a cls d) (tCons (tVar 4) (tCons (tC (.ref W.cBadPlace)) tNil))) tNil)))) (Wout := fun _ _ _ _ => False) rfl rfl sc__law_told.nd rfl rfl ⟨rfl, by decide, .inl X.gS⟩ takes0
        (fun W' pn xe tk _ => pss_one (ps_expr (pe_callS G_sets_from hr1 (by rfl) g_sets_from k_sets_from b_sets_from (fun σ => passAt tk σ) (pa_cons (pv 0) (pa_cons (pv 1) (pa_cons (pv 2) (pa_cons (pv 3) pa_nil)))))))
        (fun a oe cls d pn hz hf => pss_one (ps_ret (pe_lst (pa_cons (pe_callB (call_isE3 hz hf) (by rfl) T.n_isinstance (by decide +kernel) (pa_cons (pv 4) (pa_cons (pe_glob (v := .ref W.cBadCounts) (by rfl) T.e_BadCounts.g rfl) pa_nil)))
          (pa_cons (pe_callB (call_isE3 hz hf) (by rfl) T.n_isinstance (by decide +kernel) (pa_cons (pv 4) (pa_cons (pe_glob (v := .ref W.cBadPlace) (by rfl) T.e_BadPlace.g rfl) pa_nil))) pa_nil)))))) (pss_one (ps_ret (pe_lst pa_nil))), ?_⟩
    refine ⟨_, rfl, _, rfl, _, rfl, _, rfl, vc, vm, vz, vf, rfl, sf_of hR fun H' s' => ?_⟩
    cases cnt with
    | true =>
      refine ⟨true, X.mC, fun _ a0 ha0 => ?_, fun q => by cases q⟩
      refine ⟨_, rfl, _, X.cC, rfl, rfl, _, _, true, rfl, (fun u r => r), X.iCC, ?_⟩
      refine ⟨_, rfl, _, X.cC, rfl, rfl, _, _, false, rfl, (fun u r => r), X.iCP, ?_⟩
      exact ⟨sz _ (by show 2 ≤ 100000; decide), fun l nl => k l _ (s'.trans (same_upd nl)) (s'.free nl) upd_same⟩
    | false =>
      refine ⟨true, X.mP, fun _ a0 ha0 => ?_, fun q => by cases q⟩
      refine ⟨_, rfl, _, X.cP, rfl, rfl, _, _, false, rfl, (fun u r => r), X.iPC, ?_⟩
      refine ⟨_, rfl, _, X.cP, rfl, rfl, _, _, true, rfl, (fun u r => r), X.iPP, ?_⟩
      exact ⟨sz _ (by show 2 ≤ 100000; decide), fun l nl => k l _ (s'.trans (same_upd nl)) (s'.free nl) upd_same⟩
end
end SM

namespace SM
open PySem L2 SMath
theorem ix_tupB {X : Cx} {K : PySem.W.Frag} (h : X.K = K) : IxR X (rIxT K) := by
  subst h
  exact ix_tup
theorem op_catAB {X : Cx} {K : PySem.W.Frag} (h : X.K = K) : OpR X (binaryOp .Add) (rCatA K) := by
  subst h
  exact op_catA
/-- a place in the heap -/
def PlV (p : Pl) : List V := [.int p.1, .int p.2]
/-- places in the heap -/
structure Pls (H : Hp) (xs : List V) (P : List Pl) : Prop where
  len : xs.length = P.length
  at_ : ∀ (i : Nat) (p : Pl), P[i]? = some p → ∃ a, xs[i]? = some (.ref a) ∧ H a = some (.tup (PlV p))
theorem Pls.of {H : Hp} {xs : List V} {P : List Pl} (h : Pls H xs P) {i : Nat} {x : V} (hx : xs[i]? = some x) : ∃ p a, P[i]? = some p ∧ x = .ref a ∧ H a = some (.tup (PlV p)) := by
  have hi : i < P.length := by rw [← h.len]; exact (List.getElem?_eq_some_iff.mp hx).1
  obtain ⟨a, h1, h2⟩ := h.at_ i _ (List.getElem?_eq_getElem hi)
  rw [hx] at h1
  exact ⟨_, a, List.getElem?_eq_getElem hi, Option.some.inj h1, h2⟩
theorem Pls.mono {H H' : Hp} {xs : List V} {P : List Pl} (h : Pls H xs P) (s : Same H H') : Pls H' xs P :=
  ⟨h.len, fun i p e => by obtain ⟨a, h1, h2⟩ := h.at_ i p e; exact ⟨a, h1, s _ _ h2⟩⟩
theorem Pls.wr {H : Hp} {xs ys zs : List V} {P : List Pl} (h : Pls H xs P) {q : Addr} (hq : H q = some (.lst ys)) : Pls (upd H q (.lst zs)) xs P :=
  ⟨h.len, fun i p e => by obtain ⟨a, h1, h2⟩ := h.at_ i p e; exact ⟨a, h1, by rw [upd_ne (fun z => by rw [z, hq] at h2; cases h2)]; exact h2⟩⟩
theorem Pls.snoc {H : Hp} {xs : List V} {P : List Pl} (h : Pls H xs P) {a : Addr} {p : Pl} (ha : H a = some (.tup (PlV p))) : Pls H (xs ++ [.ref a]) (P ++ [p]) := by
  refine ⟨by rw [List.length_append, List.length_append, h.len]; rfl, fun i q e => ?_⟩
  by_cases hi : i < P.length
  · rw [List.getElem?_append_left hi] at e
    obtain ⟨b, h1, h2⟩ := h.at_ i q e
    exact ⟨b, by rw [List.getElem?_append_left (by rw [h.len]; exact hi)]; exact h1, h2⟩
  · have hl := (List.getElem?_eq_some_iff.mp e).1
    simp at hl
    have : i = P.length := by omega
    subst this
    rw [List.getElem?_append_right (Nat.le_refl _), Nat.sub_self] at e
    obtain rfl := Option.some.inj e
    exact ⟨a, by rw [← h.len, List.getElem?_append_right (Nat.le_refl _), Nat.sub_self]; rfl, ha⟩
theorem Pls.nil {H : Hp} : Pls H [] [] := ⟨rfl, fun i p e => by simp at e⟩
/-- a row in the heap -/
def RowAt (H : Hp) (x : V) (r : List Pl) : Prop := ∃ a xs, x = .ref a ∧ H a = some (.tup xs) ∧ Pls H xs r
theorem RowAt.mono {H H' : Hp} {x : V} {r : List Pl} (h : RowAt H x r) (s : Same H H') : RowAt H' x r := by
  obtain ⟨a, xs, e, h1, h2⟩ := h
  exact ⟨a, xs, e, s _ _ h1, h2.mono s⟩
theorem RowAt.wr {H : Hp} {x : V} {r : List Pl} {q : Addr} {ys zs : List V} (h : RowAt H x r) (hq : H q = some (.lst ys)) : RowAt (upd H q (.lst zs)) x r := by
  obtain ⟨a, xs, e, h1, h2⟩ := h
  exact ⟨a, xs, e, by rw [upd_ne (fun z => by rw [z, hq] at h1; cases h1)]; exact h1, h2.wr hq⟩
structure Lst (H : Hp) (fs : List V) (L : List (List Pl)) : Prop where
  len : fs.length = L.length
  at_ : ∀ (i : Nat) (r : List Pl), L[i]? = some r → ∃ x, fs[i]? = some x ∧ RowAt H x r
theorem Lst.mono {H H' : Hp} {fs : List V} {L : List (List Pl)} (h : Lst H fs L) (s : Same H H') : Lst H' fs L :=
  ⟨h.len, fun i r e => by obtain ⟨x, h1, h2⟩ := h.at_ i r e; exact ⟨x, h1, h2.mono s⟩⟩
theorem Lst.wr {H : Hp} {fs : List V} {L : List (List Pl)} {q : Addr} {ys zs : List V} (h : Lst H fs L) (hq : H q = some (.lst ys)) : Lst (upd H q (.lst zs)) fs L :=
  ⟨h.len, fun i r e => by obtain ⟨x, h1, h2⟩ := h.at_ i r e; exact ⟨x, h1, h2.wr hq⟩⟩
theorem Lst.nil {H : Hp} : Lst H [] [] := ⟨rfl, fun i p e => by simp at e⟩
theorem Lst.of {H : Hp} {fs : List V} {L : List (List Pl)} (h : Lst H fs L) {i : Nat} {x : V} (hx : fs[i]? = some x) : ∃ r, L[i]? = some r ∧ RowAt H x r := by
  have hi : i < L.length := by rw [← h.len]; exact (List.getElem?_eq_some_iff.mp hx).1
  obtain ⟨y, h1, h2⟩ := h.at_ i _ (List.getElem?_eq_getElem hi)
  rw [hx] at h1
  obtain rfl := Option.some.inj h1
  exact ⟨_, List.getElem?_eq_getElem hi, h2⟩
theorem Lst.snoc {H : Hp} {fs : List V} {L : List (List Pl)} (h : Lst H fs L) {x : V} {r : List Pl} (hx : RowAt H x r) : Lst H (fs ++ [x]) (L ++ [r]) := by
  refine ⟨by rw [List.length_append, List.length_append, h.len]; rfl, fun i q e => ?_⟩
  by_cases hi : i < L.length
  · rw [List.getElem?_append_left hi] at e
    obtain ⟨b, h1, h2⟩ := h.at_ i q e
    exact ⟨b, by rw [List.getElem?_append_left (by rw [h.len]; exact hi)]; exact h1, h2⟩
  · have hl := (List.getElem?_eq_some_iff.mp e).1
    simp at hl
    have : i = L.length := by omega
    subst this
    rw [List.getElem?_append_right (Nat.le_refl _), Nat.sub_self] at e
    obtain rfl := Option.some.inj e
    exact ⟨x, by rw [← h.len, List.getElem?_append_right (Nat.le_refl _), Nat.sub_self]; rfl, hx⟩
theorem fd_len (P : List Pl) (n : Nat) : ∀ k, (fd P n k).length ≤ P.length ^ k
  | 0 => by simp [fd]
  | k + 1 => by
    rw [fd, List.length_flatMap]
    have : ∀ l : List (List Pl), (l.map fun one => ((P.filter (okp n one)).map fun p => one ++ [p]).length).sum ≤ l.length * P.length := by
      intro l
      induction l with
      | nil => simp
      | cons a l ih =>
        rw [List.map_cons, List.sum_cons, List.length_cons, Nat.succ_mul, List.length_map]
        have := List.length_filter_le (okp n a) P
        omega
    refine Nat.le_trans (this _) ?_
    rw [Nat.pow_succ]
    exact Nat.mul_le_mul_right _ (fd_len P n k)
theorem fd_row (P : List Pl) (n : Nat) : ∀ k, ∀ r ∈ fd P n k, r.length = k
  | 0, r, h => by simp [fd] at h; rw [h]; rfl
  | k + 1, r, h => by
    rw [fd, List.mem_flatMap] at h
    obtain ⟨one, h1, h2⟩ := h
    obtain ⟨p, _, rfl⟩ := List.mem_map.mp h2
    rw [List.length_append, fd_row P n k one h1]; rfl
/-- the sizes of a row, added up -/
theorem lc_sizes {K : PySem.W.Frag} {j : Nat} {te : TE} {σ : St} {H1 : Hp} {D a : Addr} {xs : List V} {r : List Pl} {Qd : Hp → Prop} (ha : H1 a = some (.tup xs)) (hP : Pls H1 xs r) (hD : H1 D = none) (hr : r.length ≤ 1000)
    (he : ∀ (H : Hp) (p : Pl) (b : Addr) (R : VK), Same H1 H → H b = some (.tup (PlV p)) → R (.int p.1) H → te ((wipe σ [j]).set j (some (.ref b))) H R)
    (hd : ∀ H, Same H1 H → H D = some (.lst ((r.map fun p => (p.1 : Int)).map V.int)) → Qd H) :
    ∃ W : Nat → Nat → Hp → Prop, (∃ m, W 0 m (upd H1 D (.lst []))) ∧ ∀ i m H, W i m H →
      ((Itt K a).stop i H ∧ Qd H) ∨ ((Itt K a).go i H ∧ ∃ Nx : Hp → Prop, (∀ H', Nx H' → ∃ m', m' < m ∧ W (i + 1) m' H') ∧ ∀ x H', (Itt K a).yld i H x H' → gName j x (wipe σ [j]) H' fun σ2 H2 => wipe σ2 [j] = wipe σ [j] ∧ tYes σ2 H2 fun b H3 =>
        if b = true then te σ2 H3 fun y H4 => ∃ acc, H4 D = some (.lst acc) ∧ acc.length < sizeLine ∧ Nx (upd H4 D (.lst (acc ++ [y]))) else Nx H3) := by
  refine lc_tup (K := K) (a := a) (xs := xs) (fun i H => Same H1 H ∧ H D = some (.lst (((r.take i).map fun p => (p.1 : Int)).map V.int))) ⟨same_upd hD, upd_same⟩ (fun i H _ h => st_of (h.1 _ _ ha)) ?_ ?_
  · rintro i x H hi ⟨sm, hd'⟩
    obtain ⟨p, b, h1, rfl, h3⟩ := hP.of hi
    refine ⟨wipe1 σ j _, ?_⟩
    rw [tYes, if_pos rfl]
    refine he H p b _ sm (sm _ _ h3) ⟨_, hd', szl _ ?_, same_upd' sm hD, ?_⟩
    · rw [List.length_map, List.length_map, List.length_take]; omega
    · rw [upd_same, take_more h1, List.map_append, List.map_append]; rfl
  · rintro H ⟨sm, hd'⟩
    rw [hP.len, List.take_length] at hd'
    exact hd H sm hd'
theorem szs_sum (r : List Pl) : (r.map fun p => (p.1 : Int)).sum = (szs r : Int) := by
  unfold szs
  induction r with
  | nil => rfl
  | cons p r ih => simp [List.sum_cons, ih]
end SM

namespace SM
open PySem L2 SMath
section
variable {P : Program} {w : World} {K : PySem.W.Frag} {mg : Str → Option Value} {base : Heap} {W : Ad}
theorem pi_tupB {X : Cx} {K : PySem.W.Frag} {tg l : Expr} {tl : TE} (h : X.K = K) (hl : PE X l tl) : PI X tg l (iTup K tl) := by
  subst h
  exact pi_tup hl
def scLS : Scope := { kind := .function, names := [(".0", .local), ("one", .local), ("sum", .globalImplicit), ("size", .cell)], isGenerator := false, isCoroutine := false }
def spLSets (K : PySem.W.Frag) : Sp := fun vs H Q _ => ∃ (pl : Addr) (ps : List V) (PL : List Pl) (m n : Nat), vs = [.ref pl, .int m, .int n] ∧ H pl = some (.lst ps) ∧ Pls H ps PL ∧ PL.length ≤ 9 ∧ m ≤ 4 ∧
  ∀ q H' out, Same H H' → H q = none → H' q = some (.lst out) → out.length = ((fd PL n m).filter fun one => decide (szs one = n)).length → Q (.ref q) H'
theorem ok_lsets (T : Tx K mg W) (D : Df K mg "_law_sets" s__law_sets ["places", "members", "size"]) : Cal P w K mg base CX0 1 "_law_sets" ["places", "members", "size"] (spLSets K) := by
  obtain ⟨f, fd1, g, F, b⟩ := D
  refine ⟨f, fd1, g, F.kp, b, F.ok sc__law_sets (fun vs H Q E h => ?_) (fun cdv A outer s H vs Q E hr h => ?_)⟩
  · obtain ⟨_, _, _, _, _, rfl, _⟩ := h
    rfl
  · obtain ⟨pl, ps, PL, m, n, rfl, hpl, hPl, hP9, hm, q⟩ := h
    have hu : (cxOf CX0 P w K mg base ["places", "members", "size", "found", "k", "longer", "one", "place", "other"] "_law_sets" (defScope s__law_sets) f cdv A outer s H E).nox.A.units < cLine := by
      have := hr.un
      show (A.deeper _).units < cLine
      omega
    refine ⟨_, (pss_cons (ps_set (i := 3) sc__law_sets.nd rfl (.inl rfl) (pe_lst (pa_cons (pe_tup pa_nil) pa_nil)))
  (pss_cons (ps_for PassesOwn.never rfl (pi_range1 (by rfl) T.n_range (pa_cons (pv 1) pa_nil)) (pg_name (i := 4) sc__law_sets.nd rfl (.inl rfl)) (
    (pss_cons (ps_set (i := 5) sc__law_sets.nd rfl (.inl rfl) (pe_lst pa_nil))
    (pss_cons (ps_for PassesOwn.never rfl (pi_list (pv 3)) (pg_name (i := 6) sc__law_sets.nd rfl (.inl rfl)) (
      (pss_one (ps_for PassesOwn.never rfl (pi_list (pv 0)) (pg_name (i := 7) sc__law_sets.nd rfl (.inl rfl)) (
        (pss_one (ps_if (PW.pt (pw_and (PW.pt (pw_or (pt_cmpR op_eq (pe_callB call_len_seq (by rfl) T.n_len (by decide +kernel) (pa_cons (pv 6) pa_nil)) pe_int (nomark _)) (pw_or1 (pt_cmpR (op_geP (K := K) rfl hu) (pv 7) (pe_ix ix_tup (pv 6) (pe_un un_neg pe_int) (fun _ _ => rfl)) (nomark _))))) (pw_and1 (pt_cmpR op_le (pe_op op_add (pe_ix ix_tup (pv 7) pe_int (fun _ _ => rfl)) (pe_callB (cr_sum rfl) (by rfl) T.n_sum (by decide +kernel) (pa_cons (pe_lc (own := [("other", 8)]) rfl sc__law_sets.nd (pi_tup (pv 6)) (blkOk_by (own := [("other", 8)]) (N := ["places", "members", "size", "found", "k", "longer", "one", "place", "other"]) (sc := defScope s__law_sets) (by decide +kernel)) (fun _ _ _ _ _ => (pg_name (i := 8) sc__law_sets.nd rfl (.inl rfl))) (fun _ _ _ _ _ => pts_nil) (fun _ _ _ _ _ => (pe_ix (ix_tupB (K := K) rfl) (pv 8) pe_int (fun _ _ => rfl)))) pa_nil))) (pv 2) (nomark _))))) (
          (pss_one (ps_expr (pe_bm PySem.F.plainAttrs_list PySem.F.slot_list_append PySem.F.type_list_append mt_append (pv 5) (pa_cons (pe_op op_catA (pv 6) (pe_tup (pa_cons (pv 7) pa_nil))) pa_nil))))) (pss_nil))))))))
    (pss_one (ps_set (i := 3) sc__law_sets.nd rfl (.inl rfl) (pv 5)))))))
  (pss_one (ps_ret (pe_lc (own := [("one", 6)]) rfl sc__law_sets.nd (pi_list (pv 3)) (blkOk_by (own := [("one", 6)]) (N := ["places", "members", "size", "found", "k", "longer", "one", "place", "other"]) (sc := defScope s__law_sets) (by decide +kernel)) (fun _ _ _ _ _ => (pg_name (i := 6) sc__law_sets.nd rfl (.inl rfl))) (fun _ _ _ _ _ => pts_one (pt_cmpR op_eq (pe_callB (cr_sumB (K := K) rfl rfl) (by rfl) T.n_sum (by decide +kernel) (pa_cons (pe_lc (own := [("place", 7)]) rfl sc__law_sets.nd (pi_tupB (K := K) rfl (pv 6)) (blkOk_by (own := [("place", 7)]) (N := ["places", "members", "size", "found", "k", "longer", "one", "place", "other"]) (sc := scLS) (by decide +kernel)) (fun _ _ _ _ _ => (pg_name (i := 7) sc__law_sets.nd rfl (.inl rfl))) (fun _ _ _ _ _ => pts_nil) (fun _ _ _ _ _ => (pe_ix (ix_tupB (K := K) rfl) (pv 7) pe_int (fun _ _ => rfl)))) pa_nil)) (pv 2) (nomark _))) (fun _ _ _ _ _ => (pv 6))))))), ?_⟩
    refine ⟨by show 0 ≤ sizeLine; exact Nat.zero_le _, fun t0 nt0 => ⟨sz _ (by show 1 ≤ 100000; decide), fun fl nfl => ?_⟩⟩
    have s0 : Same H (upd (upd H t0 (.tup [])) fl (.lst [.ref t0])) := (same_upd nt0).trans (same_upd nfl)
    have nflH : H fl = none := (same_upd nt0).free nfl
    have hfl0 : (upd (upd H t0 (.tup [])) fl (.lst [.ref t0])) fl = some (.lst [.ref t0]) := upd_same
    have h00 : Lst (upd (upd H t0 (.tup [])) fl (.lst [.ref t0])) [.ref t0] (fd PL n 0) := by
      have hne : t0 ≠ fl := fun e => by rw [← e, upd_same] at nfl; cases nfl
      refine ⟨rfl, fun i r e => ?_⟩
      match i, e with
      | 0, e =>
        obtain rfl := Option.some.inj e
        exact ⟨.ref t0, rfl, t0, [], rfl, by rw [upd_ne hne, upd_same], Pls.nil⟩
      | i + 1, e => simp [fd] at e
    generalize upd (upd H t0 (.tup [])) fl (.lst [.ref t0]) = H1 at s0 hfl0 h00 ⊢
    refine ⟨_, rfl, m, rfl, by omega, by omega, ?_⟩
    rw [Int.toNat_natCast]
    refine for_range (lo := 0) (n := m) (fun k σ H' => ∃ (fl : Addr) (fs : List V) (y4 y5 y6 y7 y8 : Option V), σ = [some (.ref pl), some (.int m), some (.int n), some (.ref fl), y4, y5, y6, y7, y8] ∧ Same H H' ∧ H fl = none ∧ H' fl = some (.lst fs) ∧ Lst H' fs (fd PL n k))
      ⟨fl, _, none, none, none, none, none, rfl, s0, nflH, hfl0, h00⟩ ?_ ?_
    · clear s0 nflH hfl0 h00 nt0 nfl fl
      rintro k σ H2 hk ⟨fl, fs, y4, y5, y6, y7, y8, rfl, s2, nfl, hfl, hL⟩
      have hlen : (fd PL n k).length ≤ 729 := Nat.le_trans (fd_len PL n k) (Nat.le_trans (Nat.pow_le_pow_left hP9 k) (Nat.le_trans (Nat.pow_le_pow_right (by decide) (show k ≤ 3 by omega)) (by decide)))
      refine ⟨Nat.zero_le _, fun lp nlp => ?_⟩
      have nlpH : H lp = none := s2.free nlp
      have hfp : fl ≠ lp := fun e => by rw [← e, hfl] at nlp; cases nlp
      refine ⟨_, rfl, fl, rfl, ⟨_, sq_of (show (upd H2 lp (.lst [])) fl = _ by rw [upd_ne hfp]; exact hfl)⟩, for_list (K := K) (a := fl) (xs := fs) (fun i σ H' => ∃ (ls : List V) (y6 y7 y8 : Option V), σ = [some (.ref pl), some (.int m), some (.int n), some (.ref fl), some (.int (0 + (k : Int))), some (.ref lp), y6, y7, y8] ∧ Same H H' ∧ H' fl = some (.lst fs) ∧ Lst H' fs (fd PL n k) ∧
        H' lp = some (.lst ls) ∧ Lst H' ls (((fd PL n k).take i).flatMap fun one => (PL.filter (okp n one)).map fun p => one ++ [p]) ∧ ls.length ≤ i * PL.length)
        ⟨[], y6, y7, y8, rfl, same_upd' s2 nlpH, by rw [upd_ne hfp]; exact hfl, hL.mono (same_upd nlp), upd_same, Lst.nil, Nat.zero_le _⟩ (fun i σ H' _ ⟨_, _, _, _, _, _, h, _⟩ => sq_of h) ?_ ?_⟩
      · rintro i x σ H3 hi ⟨ls, y6, y7, y8, rfl, s3, hfl3, hL3, hlp3, hLs3, hll⟩
        obtain ⟨one, hone, oa, oxs, rfl, ho, hPo⟩ := hL3.of hi
        have hik : i < (fd PL n k).length := (List.getElem?_eq_some_iff.mp hone).1
        have hol : one.length ≤ 1000 := by rw [fd_row PL n k one (List.mem_of_getElem? hone)]; omega
        refine ⟨_, rfl, pl, rfl, ⟨_, sq_of (s3 _ _ hpl)⟩, for_list (K := K) (a := pl) (xs := ps) (fun j σ H' => ∃ (ls : List V) (y7 y8 : Option V), σ = [some (.ref pl), some (.int m), some (.int n), some (.ref fl), some (.int (0 + (k : Int))), some (.ref lp), some (.ref oa), y7, y8] ∧ Same H H' ∧ H' fl = some (.lst fs) ∧ Lst H' fs (fd PL n k) ∧
          H' lp = some (.lst ls) ∧ Lst H' ls ((((fd PL n k).take i).flatMap fun one => (PL.filter (okp n one)).map fun p => one ++ [p]) ++ ((PL.take j).filter (okp n one)).map fun p => one ++ [p]) ∧ ls.length ≤ i * PL.length + j ∧
          H' oa = some (.tup oxs) ∧ Pls H' oxs one) ⟨ls, y7, y8, rfl, s3, hfl3, hL3, hlp3, by simpa using hLs3, hll, ho, hPo⟩ (fun j σ H' _ ⟨_, _, _, _, s', _⟩ => sq_of (s' _ _ hpl)) ?_ ?_⟩
        · clear hfl3 hL3 hlp3 hLs3 hll ho hPo s3 H3
          rintro j x σ H3 hj ⟨ls, y7, y8, rfl, s3, hfl3, hL3, hlp3, hLs3, hll, ho, hPo⟩
          obtain ⟨p, pa, hp, rfl, hpa⟩ := hPl.of hj
          have hpa3 := s3 _ _ hpa
          have hjP : j < PL.length := (List.getElem?_eq_some_iff.mp hp).1
          have hil : i * PL.length ≤ 729 * 9 := Nat.mul_le_mul (by omega) hP9
          refine ⟨_, rfl, oa, _, rfl, .inr (st_of ho), rfl, _, rfl, ?_⟩
          have step : ∀ (b : Bool), okp n one p = b → ((PL.take (j + 1)).filter (okp n one)).map (fun p => one ++ [p]) = ((PL.take j).filter (okp n one)).map (fun p => one ++ [p]) ++ (if b = true then [one ++ [p]] else []) := by
            intro b hb
            rw [take_more hp, List.filter_append, List.map_append]
            cases b with
            | true => rw [List.filter_cons_of_pos hb]; rfl
            | false => rw [List.filter_cons_of_neg (by rw [hb]; decide)]; rfl
          refine ite2 (fun c1 => iteT ?_) (fun c1 => ?_)
          rotate_left
          have ho1 : one ≠ [] := fun e => c1 (decide_eq_true (by rw [show oxs.length = 0 by rw [hPo.len, e]; rfl]; rfl))
          obtain ⟨init, ql, hiq⟩ : ∃ init ql, one = init ++ [ql] := ⟨one.dropLast, one.getLast ho1, (List.dropLast_concat_getLast ho1).symm⟩
          obtain ⟨la, hla, hql⟩ := hPo.at_ init.length ql (by rw [hiq]; simp)
          have hox : atI oxs (-1) = some (.ref la) := by
            have hne : oxs ≠ [] := fun e => by rw [e] at hla; simp at hla
            have e1 : oxs = oxs.dropLast ++ [oxs.getLast hne] := (List.dropLast_concat_getLast hne).symm
            have e2 : oxs.length = init.length + 1 := by rw [hPo.len, hiq]; simp
            have e4 : oxs.getLast hne = V.ref la := by
              rw [List.getLast_eq_getElem]
              have e3 := List.getElem?_eq_getElem (l := oxs) (i := init.length) (by omega)
              rw [hla] at e3
              rw [Option.some.inj e3]
              congr 1
              omega
            rw [e1, atI_last, e4]
          refine ⟨_, rfl, _, rfl, _, rfl, oa, oxs, _, .ref la, rfl, rfl, st_of ho, hox, pa, la, _, _, _, _, rfl, rfl, st_of hpa3, st_of hql, _, rfl, ?_⟩
          have hge : geI (p.1 : Int) (p.2 : Int) (ql.1 : Int) (ql.2 : Int) = ple ql p := by
            unfold geI ple
            have a1 : decide ((ql.1 : Int) < (p.1 : Int)) = decide (ql.1 < p.1) := by simp
            have a2 : decide ((p.1 : Int) = (ql.1 : Int)) = decide (ql.1 = p.1) := by
              by_cases h : ql.1 = p.1
              · rw [decide_eq_true h, decide_eq_true (by omega)]
              · rw [decide_eq_false h, decide_eq_false (by omega)]
            have a3 : decide ((ql.2 : Int) ≤ (p.2 : Int)) = decide (ql.2 ≤ p.2) := by simp
            rw [a1, a2, a3]
          rw [hge]
          by_cases hg : ple ql p = true
          rotate_left
          · rw [Bool.not_eq_true] at hg
            rw [hg]
            have hno : okp n one p = false := by unfold okp; rw [hiq]; simp [hg]
            refine iteF (iteF ?_)
            exact ⟨ls, _, _, rfl, s3, hfl3, hL3, hlp3, by rw [step _ hno]; simpa using hLs3, by omega, ho, hPo⟩
          rotate_left
          rw [hg]
          refine iteT ?_
          have hall : one.getLast?.all (fun q => ple q p) = true := by rw [hiq]; simp [hg]
          rotate_left
          have hall : one.getLast?.all (fun q => ple q p) = true := by
            have : (oxs.length : Int) = 0 := V.int.inj (of_decide_eq_true c1)
            have h2 := hPo.len
            rw [List.eq_nil_of_length_eq_zero (l := one) (by omega)]; rfl
          all_goals
            have hokp : okp n one p = decide (p.1 + szs one ≤ n) := by unfold okp; rw [hall, Bool.true_and]
            refine ⟨_, rfl, pa, _, _, .int p.1, rfl, rfl, st_of hpa3, atI_nat (j := 0) rfl, _, rfl, oa, rfl, ⟨_, st_of ho⟩, fun D5 hD5 => ?_⟩
            refine lc_sizes (K := K) (j := 8) ho hPo hD5 hol (fun H5 p5 b5 R s5 hb5 k5 => ⟨_, rfl, b5, _, _, .int p5.1, rfl, rfl, st_of hb5, atI_nat (j := 0) rfl, k5⟩) (fun H5 s5 hd5 => ?_)
            refine ⟨D5, _, rfl, sq_of hd5, _, _, rfl, rfl, _, rfl, _, _, rfl, rfl, _, rfl, ?_⟩
            rw [szs_sum]
            have s35 := s3.trans s5
            have hlp5 := s5 _ _ hlp3
            by_cases hle : p.1 + szs one ≤ n
            · have hyes : okp n one p = true := by rw [hokp, decide_eq_true hle]
              rw [decide_eq_true (show (p.1 : Int) + (szs one : Int) ≤ (n : Int) by omega)]
              refine iteT ?_
              have fin : ∀ (x : V) (H' : Hp), Same H5 H' → RowAt H' x (one ++ [p]) → H' lp = some (.lst ls) ∧ Same H (upd H' lp (.lst (ls ++ [x]))) ∧ (upd H' lp (.lst (ls ++ [x]))) fl = some (.lst fs) ∧ Lst (upd H' lp (.lst (ls ++ [x]))) fs (fd PL n k) ∧
                  (upd H' lp (.lst (ls ++ [x]))) lp = some (.lst (ls ++ [x])) ∧ Lst (upd H' lp (.lst (ls ++ [x]))) (ls ++ [x]) ((((fd PL n k).take i).flatMap fun one => (PL.filter (okp n one)).map fun p => one ++ [p]) ++ ((PL.take (j + 1)).filter (okp n one)).map fun p => one ++ [p]) ∧
                  (ls ++ [x]).length ≤ i * PL.length + (j + 1) ∧ (upd H' lp (.lst (ls ++ [x]))) oa = some (.tup oxs) ∧ Pls (upd H' lp (.lst (ls ++ [x]))) oxs one := by
                intro x H' s6 hrow
                have hlp6 := s6 _ _ hlp5
                refine ⟨hlp6, same_upd' (s35.trans s6) nlpH, by rw [upd_ne hfp]; exact s6 _ _ (s5 _ _ hfl3), (hL3.mono (s5.trans s6)).wr hlp6, upd_same, ?_, by rw [List.length_append]; simp; omega, ?_, (hPo.mono (s5.trans s6)).wr hlp6⟩
                · rw [step _ hyes, if_pos rfl, ← List.append_assoc]
                  exact ((hLs3.mono (s5.trans s6)).wr hlp6).snoc (hrow.wr hlp6)
                · have : oa ≠ lp := fun e => by rw [e, hlp3] at ho; cases ho
                  rw [upd_ne this]
                  exact s6 _ _ (s5 _ _ ho)
              refine ⟨_, rfl, .inl ⟨rfl, _, sq_of hlp5⟩, _, rfl, _, rfl, sz _ (by show 1 ≤ 100000; decide), fun t6 nt6 => ⟨oa, t6, oxs, _, rfl, rfl, st_of (same_upd nt6 _ _ (s5 _ _ ho)), st_of upd_same, sz _ (by rw [hPo.len]; show one.length + 1 ≤ 100000; omega), ?_⟩⟩
              refine ⟨fun e => ?_, fun _ e => (by cases e), fun _ _ t7 nt7 => ?_⟩
              · have hone0 : one = [] := List.eq_nil_of_length_eq_zero (by rw [← hPo.len, e]; rfl)
                have hrow : RowAt (upd H5 t6 (.tup [.ref pa])) (.ref t6) (one ++ [p]) := by
                  refine ⟨t6, _, rfl, upd_same, ?_⟩
                  rw [hone0]
                  exact Pls.nil.snoc (a := pa) (same_upd nt6 _ _ (s5 _ _ hpa3))
                obtain ⟨f0, f1, f2, f3, f4, f5, f6, f7, f8⟩ := fin _ _ (same_upd nt6) hrow
                exact ⟨lp, _, _, rfl, rfl, f0, szl _ (by omega), _, _, _, rfl, f1, f2, f3, f4, f5, f6, f7, f8⟩
              · have s67 : Same H5 (upd (upd H5 t6 (.tup [.ref pa])) t7 (.tup (oxs ++ [.ref pa]))) := (same_upd nt6).trans (same_upd nt7)
                have hrow : RowAt (upd (upd H5 t6 (.tup [.ref pa])) t7 (.tup (oxs ++ [.ref pa]))) (.ref t7) (one ++ [p]) :=
                  ⟨t7, _, rfl, upd_same, (hPo.mono (s5.trans s67)).snoc (s67 _ _ (s5 _ _ hpa3))⟩
                obtain ⟨f0, f1, f2, f3, f4, f5, f6, f7, f8⟩ := fin _ _ s67 hrow
                exact ⟨lp, _, _, rfl, rfl, f0, szl _ (by omega), _, _, _, rfl, f1, f2, f3, f4, f5, f6, f7, f8⟩
            · have hno : okp n one p = false := by rw [hokp, decide_eq_false hle]
              rw [decide_eq_false (show ¬ (p.1 : Int) + (szs one : Int) ≤ (n : Int) by omega)]
              refine iteF ?_
              exact ⟨ls, _, _, rfl, s35, s5 _ _ hfl3, hL3.mono s5, hlp5, by rw [step _ hno]; simpa using hLs3.mono s5, by omega, s5 _ _ ho, hPo.mono s5⟩
        · rintro σ H4 ⟨ls4, y7, y8, rfl, s4, hfl4, hL4, hlp4, hLs4, hll4, ho4, hPo4⟩
          refine ⟨ls4, _, _, _, rfl, s4, hfl4, hL4, hlp4, ?_, ?_⟩
          · rw [take_more hone, List.flatMap_append]
            rw [hPl.len, List.take_length] at hLs4
            simpa using hLs4
          · rw [hPl.len] at hll4
            rw [Nat.succ_mul]
            exact hll4
      · rintro σ H4 ⟨ls4, y6, y7, y8, rfl, s4, hfl4, hL4, hlp4, hLs4, hll4⟩
        refine ⟨_, rfl, lp, ls4, _, _, _, _, _, rfl, s4, nlpH, hlp4, ?_⟩
        rw [hL4.len, List.take_length] at hLs4
        exact hLs4
    · rintro σ H2 ⟨fl, fs, y4, y5, y6, y7, y8, rfl, s2, nfl, hfl, hL⟩
      have hlen : (fd PL n m).length ≤ 6561 := Nat.le_trans (fd_len PL n m) (Nat.le_trans (Nat.pow_le_pow_left hP9 m) (Nat.le_trans (Nat.pow_le_pow_right (by decide) hm) (by decide)))
      refine ⟨_, rfl, fl, rfl, ⟨_, sq_of hfl⟩, fun D6 hD6 => lc_list (K := K) (a := fl) (xs := fs) (fun i H' => Same H2 H' ∧ ∃ out : List V, H' D6 = some (.lst out) ∧ out.length = (((fd PL n m).take i).filter fun one => decide (szs one = n)).length) ⟨same_upd hD6, [], upd_same, rfl⟩ (fun i H' _ h => sq_of (h.1 _ _ hfl)) ?_ ?_⟩
      · rintro i x H3 hi ⟨s3, out, hout, hol⟩
        obtain ⟨one, hone, oa, oxs, rfl, ho, hPo⟩ := hL.of hi
        have hrl : one.length ≤ 1000 := by rw [fd_row PL n m one (List.mem_of_getElem? hone)]; omega
        refine ⟨rfl, _, rfl, oa, rfl, ⟨_, st_of (s3 _ _ ho)⟩, fun D7 hD7 => ?_⟩
        refine lc_sizes (K := K) (j := 7) (s3 _ _ ho) (hPo.mono s3) hD7 hrl (fun H5 p5 b5 R s5 hb5 k5 => ⟨_, rfl, b5, _, _, .int p5.1, rfl, rfl, st_of hb5, atI_nat (j := 0) rfl, k5⟩) (fun H5 s5 hd5 => ?_)
        refine ⟨D7, _, rfl, sq_of hd5, _, rfl, rfl, _, rfl, ?_⟩
        rw [szs_sum, take_more hone]
        rw [List.filter_append]
        by_cases he : szs one = n
        · rw [decide_eq_true (show V.int (szs one : Int) = V.int (n : Int) by rw [he])]
          refine iteT ⟨_, rfl, out, s5 _ _ hout, szl _ (by rw [hol]; have := List.length_filter_le (fun one => decide (szs one = n)) ((fd PL n m).take i); rw [List.length_take] at this; omega), same_upd' (s3.trans s5) hD6, _, upd_same, ?_⟩
          rw [List.length_append, List.length_append, hol, List.filter_cons_of_pos (by simp [he])]; rfl
        · rw [decide_eq_false (show ¬ V.int (szs one : Int) = V.int (n : Int) from fun z => he (by have := V.int.inj z; omega))]
          refine iteF ⟨s3.trans s5, out, s5 _ _ hout, ?_⟩
          rw [List.length_append, hol, List.filter_cons_of_neg (by simp [he])]; rfl
      · rintro H3 ⟨s3, out, hout, hol⟩
        rw [hL.len, List.take_length] at hol
        exact q D6 H3 out (s2.trans s3) (s2.free hD6) hout hol
end
end SM

set_option maxHeartbeats 8000000
namespace SM
open PySem L2 SMath
/-! ### lists of ints as data -/
def dI (ns : List Int) : PyData := .list (ns.map PyData.int)
theorem dpAll_ints {K : PySem.W.Frag} {H : Hp} : ∀ ns : List Int, DpAll K H (ns.map V.int) (ns.map PyData.int)
  | [] => .nil
  | n :: r => .cons (.int n) (dpAll_ints r)
theorem dp_ints {K : PySem.W.Frag} {H : Hp} {a : Addr} {ns : List Int} (h : SqL K H a (ns.map V.int)) : Dp K H (.ref a) (dI ns) := .lst h (dpAll_ints ns)
theorem lay_ints : ∀ ns : List Int, PyData.canLayAll0 (ns.map PyData.int) = true
  | [] => rfl
  | n :: r => by
    show (PyData.canLay0 (.int n) && PyData.canLayAll0 (r.map PyData.int)) = true
    rw [lay_ints r]; rfl
theorem depth_ints : ∀ ns : List Int, PyData.depthAll (ns.map PyData.int) = 0
  | [] => rfl
  | n :: r => by
    show max (PyData.depth (.int n)) (PyData.depthAll (r.map PyData.int)) = 0
    rw [depth_ints r]; rfl
theorem shaped_ints (ns : List Int) : SeqAt.shaped (dI ns) = true := by
  have e1 : (dI ns).canLay0 = true := lay_ints ns
  have e2 : (dI ns).depth = 1 := by
    show PyData.depthAll (ns.map PyData.int) + 1 = 1
    rw [depth_ints]
  unfold SeqAt.shaped
  rw [e1, e2]; rfl
theorem eqv_ints (ns : List Int) : PyData.eqv (dI ns) (dI ns) = true := SeqAt.eqv_refl _ (lay_ints ns)
theorem call_isiB {X : Cx} {K : PySem.W.Frag} (h : X.K = K) : CallR X (.builtin "isinstance") (rIsi K) := by
  subst h
  exact call_isi
theorem if_intro {t : TT} {A B : TS} {D : Ends} {σ : St} {H : Hp} (b : Bool) (ht : ∀ Q : Bool → Hp → Prop, Q b H → t σ H Q) (hA : b = true → A D σ H) (hB : b = false → B D σ H) : tIfS t A B D σ H := ht _ (by
  cases b with
  | true => exact iteT (hA rfl)
  | false => exact iteF (hB rfl))
theorem gname_intro {i : Nat} {v : V} {σ : St} {H : Hp} {Q : St → Hp → Prop} (h : Q (σ.set i (some v)) H) : gName i v σ H Q := h
theorem next_intro {D : Ends} {σ : St} {H : Hp} (h : D.nx σ H) : tNext D σ H := h
theorem seq_intro {A R : TS} {D : Ends} {σ : St} {H : Hp} (Pst : St → Hp → Prop) (h : (∀ σ' H', Pst σ' H' → R D σ' H') → tSeq A R D σ H) (hr : ∀ σ' H', Pst σ' H' → R D σ' H') : tSeq A R D σ H := h hr
/-! ### two truth values as data -/
def dB (a b : Bool) : PyData := .list [.bool a, .bool b]
theorem dp_bools {K : PySem.W.Frag} {H : Hp} {p : Addr} {a b : Bool} (h : H p = some (.lst [.bl a, .bl b])) : Dp K H (.ref p) (dB a b) := .lst (sq_of h) (.cons (.bl a) (.cons (.bl b) .nil))
theorem shaped_bools (a b : Bool) : SeqAt.shaped (dB a b) = true := by cases a <;> cases b <;> rfl
theorem eqv_bools (a b : Bool) : PyData.eqv (dB a b) (dB a b) = true := by cases a <;> cases b <;> rfl
theorem rd_told {K : PySem.W.Frag} {i : Nat} {tA : TA} {σ : St} {H : Hp} {Q : Bool → Hp → Prop} {cnt : Bool} {bp : Addr} (hA : ∀ R : List V → Hp → Prop, (∀ vc vm vz vf H1, Same H H1 → Refused K cnt vc vm vz vf H1 → R [vc, vm, vz, vf] H1) → tA σ H R)
    (hb : σ[i]? = some (some (.ref bp))) (hbl : H bp = some (.lst [.bl cnt, .bl (!cnt)])) (k : ∀ H', Same H H' → Q false H') : tTest (tOp (rNeD K) (tCall (spTold K) [] E0 tA) (tVar i)) σ H Q := by
  refine hA _ fun vc vm vz vf H1 s1 hR => ⟨cnt, vc, vm, vz, vf, rfl, hR, fun q H2 s2 nq hq => ⟨_, hb, _, _, dp_bools hq, dp_bools (s2 _ _ (s1 _ _ hbl)), shaped_bools _ _, shaped_bools _ _, _, rfl, ?_⟩⟩
  rw [eqv_bools]
  exact k H2 (s1.trans s2)
theorem rd_told2 {K : PySem.W.Frag} {tA : TA} {σ : St} {H : Hp} {Q : Bool → Hp → Prop} {cnt : Bool} (hA : ∀ R : List V → Hp → Prop, (∀ vc vm vz vf H1, Same H H1 → Refused K cnt vc vm vz vf H1 → R [vc, vm, vz, vf] H1) → tA σ H R)
    (k : ∀ H', Same H H' → Q false H') : tTest (tOp (rNeD K) (tCall (spTold K) [] E0 tA) (tLst (tCons (tC (.bl cnt)) (tCons (tC (.bl (!cnt))) tNil)))) σ H Q := by
  refine hA _ fun vc vm vz vf H1 s1 hR => ⟨cnt, vc, vm, vz, vf, rfl, hR, fun q H2 s2 nq hq => ⟨sz _ (by show 2 ≤ 100000; decide), fun l nl => ?_⟩⟩
  refine ⟨_, _, dp_bools (same_upd nl _ _ hq), dp_bools upd_same, shaped_bools _ _, shaped_bools _ _, _, rfl, ?_⟩
  rw [eqv_bools]
  exact k _ ((s1.trans s2).trans (same_upd nl))
theorem rd_tell {K : PySem.W.Frag} {tA : TA} {σ : St} {H : Hp} {Q : VK} {cnt : Bool} (hA : ∀ R : List V → Hp → Prop, (∀ vc vm vz vf H1, Same H H1 → Refused K cnt vc vm vz vf H1 → R [vc, vm, vz, vf] H1) → tA σ H R)
    (k : ∀ H', Same H H' → Q (.bl true) H') : tOp (rEqD K) (tCall (spTold K) [] E0 tA) (tLst (tCons (tC (.bl cnt)) (tCons (tC (.bl (!cnt))) tNil))) σ H Q := by
  refine hA _ fun vc vm vz vf H1 s1 hR => ⟨cnt, vc, vm, vz, vf, rfl, hR, fun q H2 s2 nq hq => ⟨sz _ (by show 2 ≤ 100000; decide), fun l nl => ?_⟩⟩
  refine ⟨_, _, dp_bools (same_upd nl _ _ hq), dp_bools upd_same, shaped_bools _ _, shaped_bools _ _, ?_⟩
  rw [eqv_bools]
  exact k _ ((s1.trans s2).trans (same_upd nl))
theorem geI_ple (p q : Pl) : geI (p.1 : Int) (p.2 : Int) (q.1 : Int) (q.2 : Int) = ple q p := by
  unfold geI ple
  have a1 : decide ((q.1 : Int) < (p.1 : Int)) = decide (q.1 < p.1) := by simp
  have a2 : decide ((p.1 : Int) = (q.1 : Int)) = decide (q.1 = p.1) := by
    by_cases h : q.1 = p.1
    · rw [decide_eq_true h, decide_eq_true (by omega)]
    · rw [decide_eq_false h, decide_eq_false (by omega)]
  have a3 : decide ((q.2 : Int) ≤ (p.2 : Int)) = decide (q.2 ≤ p.2) := by simp
  rw [a1, a2, a3]
theorem plsL_len (c : Nat → Nat) (b : Nat) (h : ∀ s, c s ≤ b) : ∀ k s, (plsL c k s).length ≤ k * b
  | 0, s => by simp [plsL]
  | k + 1, s => by
    rw [plsL, List.length_append, List.length_map, List.length_range, Nat.succ_mul]
    have := plsL_len c b h k (s + 1)
    have := h s
    omega
theorem plsL_snoc (c : Nat → Nat) : ∀ k s, plsL c (k + 1) s = plsL c k s ++ (List.range (c (s + k))).map fun i => (s + k, i)
  | 0, s => by simp [plsL]
  | k + 1, s => by rw [plsL, plsL_snoc c k (s + 1), plsL, List.append_assoc, show s + 1 + k = s + (k + 1) by omega]
section
variable {P : Program} {w : World} {K : PySem.W.Frag} {mg : Str → Option Value} {base : Heap} {W : Ad}
def spLaw (K : PySem.W.Frag) : Sp := fun vs H Q _ => ∃ (a : Addr) (ns : List Int), vs = [.ref a] ∧ SqL K H a (ns.map V.int) ∧ ns.length ≤ 63 ∧ ∀ H', Q (.bl true) H'
theorem ok_law {f : Addr} {fd0 : FuncData} (T : Tx K mg W) (F : Fun K "law" "law" s_law f fd0) (C1 : Cal P w K mg base CX0 1 "_law_draws" ["script", "many"] (spDraws K))
    (C2 : Cal P w K mg base (L2.CX P w) 5 "sets_from" ["counts", "members", "size", "first"] (spSets K W)) (C3 : Cal P w K mg base CX0 1 "_law_is_number" ["value"] spNumber)
    (C4 : Cal P w K mg base CX0 1 "_law_sets" ["places", "members", "size"] (spLSets K)) (C5 : Cal P w K mg base CX0 1 "_law_chosen" ["count", "times"] spChosen)
    (C6 : Cal P w K mg base CX0 6 "_law_told" ["counts", "members", "size", "first"] (spTold K)) : FnOk P w K mg base CX0 7 f fd0 ["script"] (spLaw K) := by
  obtain ⟨f1, fd1, g__law_draws, k__law_draws, b__law_draws, G__law_draws⟩ := C1.ex
  obtain ⟨f2, fd2, g_sets_from, k_sets_from, b_sets_from, G_sets_from⟩ := C2.ex
  obtain ⟨f3, fd3, g__law_is_number, k__law_is_number, b__law_is_number, G__law_is_number⟩ := C3.ex
  obtain ⟨f4, fd4, g__law_sets, k__law_sets, b__law_sets, G__law_sets⟩ := C4.ex
  obtain ⟨f5, fd5, g__law_chosen, k__law_chosen, b__law_chosen, G__law_chosen⟩ := C5.ex
  obtain ⟨f6, fd6, g__law_told, k__law_told, b__law_told, G__law_told⟩ := C6.ex
  refine F.ok sc_law (fun vs H Q E h => ?_) (fun cdv A outer s H vs Q E hr h => ?_)
  · obtain ⟨_, _, rfl, _⟩ := h
    rfl
  · obtain ⟨a, ns, rfl, hA, hlen, q⟩ := h
    have hu64 : (cxOf CX0 P w K mg base ["script", "draws", "counts", "copy", "places", "size", "k", "members", "first", "allowed", "told", "many", "few", "ones", "twos", "least", "long", "due", "bad", "place", "wrong"] "law" (defScope s_law) f cdv A outer s H E).nox.A.units + 64 < cLine := by
      have := hr.un
      show (A.deeper _).units + 64 < cLine
      omega
    have hu : (cxOf CX0 P w K mg base ["script", "draws", "counts", "copy", "places", "size", "k", "members", "first", "allowed", "told", "many", "few", "ones", "twos", "least", "long", "due", "bad", "place", "wrong"] "law" (defScope s_law) f cdv A outer s H E).nox.A.units < cLine := by omega
    refine ⟨_,   (pss_cons (ps_set (i := 1) sc_law.nd rfl (.inl rfl) (pe_call G__law_draws (hr.mono (by decide)) (by rfl) g__law_draws k__law_draws b__law_draws .nil pass0 (pa_cons (pv 0) (pa_cons pe_int pa_nil))))
  (pss_cons (ps_set (i := 2) sc_law.nd rfl (.inl rfl) (pe_lst (pa_cons pe_int (pa_cons (pe_op op_mod (pe_ix ix_list (pv 1) pe_int (fun _ _ => rfl)) pe_int) (pa_cons (pe_op op_mod (pe_ix ix_list (pv 1) pe_int (fun _ _ => rfl)) pe_int) (pa_cons (pe_op op_mod (pe_ix ix_list (pv 1) pe_int (fun _ _ => rfl)) pe_int) (pa_cons pe_int (pa_cons (pe_op op_mod (pe_ix ix_list (pv 1) pe_int (fun _ _ => rfl)) pe_int) (pa_cons pe_int (pa_cons pe_int (pa_cons pe_int pa_nil)))))))))))
  (pss_cons (ps_if (pt_cmpR op_eq (pe_op op_mod (pe_ix ix_list (pv 1) pe_int (fun _ _ => rfl)) pe_int) pe_int (nomark _)) (
    (pss_one (ps_set (i := 2) sc_law.nd rfl (.inl rfl) (pe_lst (pa_cons pe_int (pa_cons (pe_op op_add pe_int (pe_op op_mod (pe_ix ix_list (pv 1) pe_int (fun _ _ => rfl)) pe_int)) (pa_cons pe_int (pa_cons pe_int (pa_cons pe_int (pa_cons pe_int (pa_cons pe_int (pa_cons pe_int (pa_cons pe_int pa_nil))))))))))))) (pss_nil))
  (pss_cons (ps_set (i := 3) sc_law.nd rfl (.inl rfl) (pe_callTy call_list_of (by rfl) T.n_list (by decide +kernel) (pa_cons (pv 2) pa_nil)))
  (pss_cons (ps_set (i := 4) sc_law.nd rfl (.inl rfl) (pe_lst pa_nil))
  (pss_cons (ps_for PassesOwn.never rfl (pi_range1 (by rfl) T.n_range (pa_cons pe_int pa_nil)) (pg_name (i := 5) sc_law.nd rfl (.inl rfl)) (
    (pss_one (ps_for PassesOwn.never rfl (pi_range1 (by rfl) T.n_range (pa_cons (pe_ix ix_list (pv 2) (pv 5) (fun _ _ => rfl)) pa_nil)) (pg_name (i := 6) sc_law.nd rfl (.inl rfl)) (
      (pss_one (ps_expr (pe_bm PySem.F.plainAttrs_list PySem.F.slot_list_append PySem.F.type_list_append mt_append (pv 4) (pa_cons (pe_tup (pa_cons (pv 5) (pa_cons (pv 6) pa_nil))) pa_nil)))))))))
  (pss_cons (ps_par (i := 7) (j := 5) (by rfl) sc_law.nd rfl rfl (by decide) rfl rfl (pa_cons (pe_op op_mod (pe_ix ix_list (pv 1) pe_int (fun _ _ => rfl)) pe_int) (pa_cons (pe_op op_mod (pe_ix ix_list (pv 1) pe_int (fun _ _ => rfl)) pe_int) pa_nil)) (by rfl))
  (pss_cons (ps_for PassesOwn.never rfl (pi_list (pv 4)) (pg_name (i := 8) sc_law.nd rfl (.inr rfl)) (
    (pss_cons (ps_setLc (i := 9) (own := [("place", 19)]) rfl sc_law.nd rfl rfl (sw_true rfl rfl rfl (by decide +kernel)) (pi_list (pv 4)) (blkOk_by (own := [("place", 19)]) (N := ["script", "draws", "counts", "copy", "places", "size", "k", "members", "first", "allowed", "told", "many", "few", "ones", "twos", "least", "long", "due", "bad", "place", "wrong"]) (sc := defScope s_law) (by decide +kernel)) (fun _ _ _ _ _ => (pg_name (i := 19) sc_law.nd rfl (.inl rfl))) (fun _ _ _ _ _ => pts_one (pt_cmpR (op_geP (K := K) rfl hu) (pv 19) (pv 8) (nomark _))) (fun _ _ _ _ _ => (pv 19)))
    (pss_cons (ps_set (i := 10) sc_law.nd rfl (.inl rfl) (pe_call G_sets_from (hr.mono (by decide)) (by rfl) g_sets_from k_sets_from b_sets_from .nil passL (pa_cons (pv 2) (pa_cons (pv 7) (pa_cons (pv 5) (pa_cons (pv 8) pa_nil))))))
    (pss_cons (ps_if (PW.pt (pw_or (pt_not (pt_val (pe_call G__law_is_number (hr.mono (by decide)) (by rfl) g__law_is_number k__law_is_number b__law_is_number .nil pass0 (pa_cons (pv 10) pa_nil)))) (pw_or (pt_cmpR op_ne (pv 10) (pe_callB call_len_seq (by rfl) T.n_len (by decide +kernel) (pa_cons (pe_call G__law_sets (hr.mono (by decide)) (by rfl) g__law_sets k__law_sets b__law_sets .nil pass0 (pa_cons (pv 9) (pa_cons (pv 7) (pa_cons (pv 5) pa_nil)))) pa_nil)) (nomark _)) (pw_or1 (pt_cmpR (op_neD hu64) (pv 2) (pv 3) (nomark _)))))) (
      (pss_one (ps_ret pe_bl))) (pss_nil))
    (pss_one (ps_if (PW.pt (pw_or (pt_cmpR op_ne (pe_call G_sets_from (hr.mono (by decide)) (by rfl) g_sets_from k_sets_from b_sets_from .nil passL (pa_cons (pv 2) (pa_cons pe_int (pa_cons pe_int (pa_cons (pv 8) pa_nil))))) pe_int (nomark _)) (pw_or1 (pt_cmpR op_ne (pe_call G_sets_from (hr.mono (by decide)) (by rfl) g_sets_from k_sets_from b_sets_from .nil passL (pa_cons (pv 2) (pa_cons pe_int (pa_cons (pe_ix ix_tup (pv 8) pe_int (fun _ _ => rfl)) (pa_cons (pv 8) pa_nil))))) (pe_op op_sub (pe_ix ix_list (pv 2) (pe_ix ix_tup (pv 8) pe_int (fun _ _ => rfl)) (fun _ _ => rfl)) (pe_ix ix_tup (pv 8) pe_int (fun _ _ => rfl))) (nomark _))))) (
      (pss_one (ps_ret pe_bl))) (pss_nil))))))))
  (pss_cons (ps_par (i := 11) (j := 12) (by rfl) sc_law.nd rfl rfl (by decide) rfl rfl (pa_cons (pe_op op_add pe_int (pe_op op_mod (pe_ix ix_list (pv 1) pe_int (fun _ _ => rfl)) pe_int)) (pa_cons (pe_op op_mod (pe_ix ix_list (pv 1) pe_int (fun _ _ => rfl)) pe_int) pa_nil)) (by rfl))
  (pss_cons (ps_par (i := 13) (j := 14) (by rfl) sc_law.nd rfl rfl (by decide) rfl rfl (pa_cons (pe_op op_add pe_int (pe_op op_mod (pe_ix ix_list (pv 1) pe_int (fun _ _ => rfl)) pe_int)) (pa_cons (pe_op op_add pe_int (pe_op op_mod (pe_ix ix_list (pv 1) pe_int (fun _ _ => rfl)) pe_int)) pa_nil)) (by rfl))
  (pss_cons (ps_set (i := 15) sc_law.nd rfl (.inl rfl) (pe_op op_mod (pe_ix ix_list (pv 1) pe_int (fun _ _ => rfl)) (pv 13)))
  (pss_cons (ps_set (i := 16) sc_law.nd rfl (.inl rfl) (pe_op op_cat (pe_lst (pa_cons pe_int (pa_cons (pv 13) (pa_cons (pv 14) pa_nil)))) (pe_op op_rep (pe_lst (pa_cons pe_int pa_nil)) pe_int)))
  (pss_cons (ps_set (i := 17) sc_law.nd rfl (.inl rfl) (pe_op op_mulW (pe_call G__law_chosen (hr.mono (by decide)) (by rfl) g__law_chosen k__law_chosen b__law_chosen .nil pass0 (pa_cons (pe_op op_sub (pv 13) (pv 15)) (pa_cons (pe_op op_sub (pv 11) (pe_callB (call_min2 rfl) (by rfl) T.n_min (by decide +kernel) (pa_cons (pv 12) (pa_cons (pv 11) pa_nil)))) pa_nil))) (pe_call G__law_chosen (hr.mono (by decide)) (by rfl) g__law_chosen k__law_chosen b__law_chosen .nil pass0 (pa_cons (pv 14) (pa_cons (pe_callB (call_min2 rfl) (by rfl) T.n_min (by decide +kernel) (pa_cons (pv 12) (pa_cons (pv 11) pa_nil))) pa_nil)))))
  (pss_cons (ps_if (pt_cmpR op_ne (pe_call G_sets_from (hr.mono (by decide)) (by rfl) g_sets_from k_sets_from b_sets_from .nil passL (pa_cons (pv 16) (pa_cons (pv 11) (pa_cons (pe_op op_add (pv 11) (pe_callB (call_min2 rfl) (by rfl) T.n_min (by decide +kernel) (pa_cons (pv 12) (pa_cons (pv 11) pa_nil)))) (pa_cons (pe_tup (pa_cons pe_int (pa_cons (pv 15) pa_nil))) pa_nil))))) (pv 17) (nomark _)) (
    (pss_one (ps_ret pe_bl))) (pss_nil))
  (pss_cons (ps_par (i := 18) (j := 19) (by rfl) sc_law.nd rfl rfl (by decide) rfl rfl (pa_cons (pe_lst (pa_cons pe_bl (pa_cons pe_bl pa_nil))) (pa_cons (pe_tup (pa_cons (pe_op op_add pe_int (pe_op op_mod (pe_ix ix_list (pv 1) pe_int (fun _ _ => rfl)) pe_int)) (pa_cons pe_int pa_nil))) pa_nil)) (by rfl))
  (pss_cons (ps_set (i := 20) sc_law.nd rfl (.inl rfl) (pe_tup (pa_cons (pe_ix ix_tup (pv 19) pe_int (fun _ _ => rfl)) (pa_cons (pe_op op_add (pe_ix ix_list (pv 2) (pe_ix ix_tup (pv 19) pe_int (fun _ _ => rfl)) (fun _ _ => rfl)) (pe_op op_mod (pe_ix ix_list (pv 1) pe_int (fun _ _ => rfl)) pe_int)) pa_nil))))
  (pss_cons (ps_if (PW.pt (pw_or (pt_cmpR (op_neD hu64) (pe_call G__law_told (hr.mono (by decide)) (by rfl) g__law_told k__law_told b__law_told .nil pass0 (pa_cons (pv 2) (pa_cons (pv 7) (pa_cons (pv 5) (pa_cons (pv 20) pa_nil))))) (pv 18) (nomark _)) (pw_or1 (pt_cmpR (op_neD hu64) (pe_call G__law_told (hr.mono (by decide)) (by rfl) g__law_told k__law_told b__law_told .nil pass0 (pa_cons (pv 2) (pa_cons (pv 7) (pa_cons (pv 5) (pa_cons (pe_tup (pa_cons (pe_op op_add pe_int (pe_ix ix_list (pv 1) pe_int (fun _ _ => rfl))) (pa_cons pe_int pa_nil))) pa_nil))))) (pv 18) (nomark _))))) (
    (pss_one (ps_ret pe_bl))) (pss_nil))
  (pss_cons (ps_if (PW.pt (pw_or (pt_cmpR (op_neD hu64) (pe_call G__law_told (hr.mono (by decide)) (by rfl) g__law_told k__law_told b__law_told .nil pass0 (pa_cons (pv 2) (pa_cons (pv 7) (pa_cons (pv 5) (pa_cons (pe_tup (pa_cons pe_int (pa_cons pe_int pa_nil))) pa_nil))))) (pv 18) (nomark _)) (pw_or1 (pt_cmpR (op_neD hu64) (pe_call G__law_told (hr.mono (by decide)) (by rfl) g__law_told k__law_told b__law_told .nil pass0 (pa_cons (pv 2) (pa_cons (pv 7) (pa_cons (pv 5) (pa_cons (pe_tup (pa_cons (pe_ix ix_tup (pv 19) pe_int (fun _ _ => rfl)) (pa_cons (pe_un un_neg pe_int) pa_nil))) pa_nil))))) (pv 18) (nomark _))))) (
    (pss_one (ps_ret pe_bl))) (pss_nil))
  (pss_cons (ps_if (pt_cmpR op_gt (pe_callB call_len_seq (by rfl) T.n_len (by decide +kernel) (pa_cons (pv 4) pa_nil)) pe_int (nomark _)) (
    (pss_cons (ps_set (i := 8) sc_law.nd rfl (.inr rfl) (pe_ix ix_list (pv 4) (pe_op op_mod (pe_ix ix_list (pv 1) pe_int (fun _ _ => rfl)) (pe_callB call_len_seq (by rfl) T.n_len (by decide +kernel) (pa_cons (pv 4) pa_nil))) (fun _ _ => rfl)))
    (pss_cons (ps_if (PW.pt (pw_or (pt_cmpR (op_neD hu64) (pe_call G__law_told (hr.mono (by decide)) (by rfl) g__law_told k__law_told b__law_told .nil pass0 (pa_cons (pv 2) (pa_cons pe_int (pa_cons (pv 5) (pa_cons (pv 8) pa_nil))))) (pv 18) (nomark _)) (pw_or1 (pt_cmpR (op_neD hu64) (pe_call G__law_told (hr.mono (by decide)) (by rfl) g__law_told k__law_told b__law_told .nil pass0 (pa_cons (pv 2) (pa_cons (pv 7) (pa_cons pe_int (pa_cons (pv 8) pa_nil))))) (pv 18) (nomark _))))) (
      (pss_one (ps_ret pe_bl))) (pss_nil))
    (pss_cons (ps_if (PW.pt (pw_or (pt_cmpR (op_neD hu64) (pe_call G__law_told (hr.mono (by decide)) (by rfl) g__law_told k__law_told b__law_told .nil pass0 (pa_cons (pv 2) (pa_cons (pe_un un_neg pe_int) (pa_cons (pv 5) (pa_cons (pv 8) pa_nil))))) (pv 18) (nomark _)) (pw_or1 (pt_cmpR (op_neD hu64) (pe_call G__law_told (hr.mono (by decide)) (by rfl) g__law_told k__law_told b__law_told .nil pass0 (pa_cons (pv 2) (pa_cons (pv 7) (pa_cons pe_bl (pa_cons (pv 8) pa_nil))))) (pv 18) (nomark _))))) (
      (pss_one (ps_ret pe_bl))) (pss_nil))
    (pss_cons (ps_if (PW.pt (pw_or (pt_cmpR (op_neD hu64) (pe_call G__law_told (hr.mono (by decide)) (by rfl) g__law_told k__law_told b__law_told .nil pass0 (pa_cons (pv 2) (pa_cons (pv 7) (pa_cons (pv 5) (pa_cons (pe_callTy call_list_of (by rfl) T.n_list (by decide +kernel) (pa_cons (pv 8) pa_nil)) pa_nil))))) (pv 18) (nomark _)) (pw_or1 (pt_cmpR (op_neD hu64) (pe_call G__law_told (hr.mono (by decide)) (by rfl) g__law_told k__law_told b__law_told .nil pass0 (pa_cons (pv 2) (pa_cons (pv 7) (pa_cons (pv 5) (pa_cons (pe_op op_catA (pv 8) (pe_tup (pa_cons pe_int pa_nil))) pa_nil))))) (pv 18) (nomark _))))) (
      (pss_one (ps_ret pe_bl))) (pss_nil))
    (pss_one (ps_if (PW.pt (pw_or (pt_cmpR (op_neD hu64) (pe_call G__law_told (hr.mono (by decide)) (by rfl) g__law_told k__law_told b__law_told .nil pass0 (pa_cons (pe_op op_cat (pe_lst (pa_cons pe_int pa_nil)) (pe_slice sl_list (pv 2) (po_some pe_int) po_none)) (pa_cons (pv 7) (pa_cons (pv 5) (pa_cons (pv 8) pa_nil))))) (pe_lst (pa_cons pe_bl (pa_cons pe_bl pa_nil))) (nomark _)) (pw_or1 (pt_cmpR (op_neD hu64) (pe_call G__law_told (hr.mono (by decide)) (by rfl) g__law_told k__law_told b__law_told .nil pass0 (pa_cons pe_non (pa_cons pe_int (pa_cons pe_int (pa_cons pe_non pa_nil))))) (pe_lst (pa_cons pe_bl (pa_cons pe_bl pa_nil))) (nomark _))))) (
      (pss_one (ps_ret pe_bl))) (pss_nil)))))))) (pss_nil))
  (pss_one (ps_ret (pe_and (pe_cmpR (op_eqD hu64) (pe_call G__law_told (hr.mono (by decide)) (by rfl) g__law_told k__law_told b__law_told .nil pass0 (pa_cons (pe_lst (pa_cons pe_int (pa_cons (pe_un un_neg pe_int) pa_nil))) (pa_cons pe_int (pa_cons pe_int (pa_cons (pe_tup (pa_cons pe_int (pa_cons pe_int pa_nil))) pa_nil))))) (pe_lst (pa_cons pe_bl (pa_cons pe_bl pa_nil))) (nomark _)) (pe_one (pe_cmpR (op_eqD hu64) (pe_call G__law_told (hr.mono (by decide)) (by rfl) g__law_told k__law_told b__law_told .nil pass0 (pa_cons (pe_lst pa_nil) (pa_cons pe_int (pa_cons pe_int (pa_cons (pe_tup (pa_cons pe_int (pa_cons pe_int pa_nil))) pa_nil))))) (pe_lst (pa_cons pe_bl (pa_cons pe_bl pa_nil))) (nomark _))))))))))))))))))))))))), ?_⟩
    -- draws
    refine ⟨_, rfl, a, ns, 20, rfl, hA, hlen, by decide, fun dp H1 ds s1 ndp hd1 hDr hdl => ?_⟩
    have hdn : ∀ i, 0 ≤ ds.getD i 0 ∧ ds.getD i 0 < 65537 := fun i => by
      rw [List.getD_eq_getElem?_getD]
      cases e : ds[i]? with
      | none => exact ⟨Int.le_refl 0, by decide⟩
      | some x => exact hDr x (List.mem_of_getElem? e)
    have dat : ∀ {i : Nat}, i < 20 → (ds.map V.int)[i]? = some (.int (ds.getD i 0)) := fun {i} hi => getD_at (by omega)
    have mr : ∀ (i : Nat) (b : Int), 0 < b → 0 ≤ ds.getD i 0 % b ∧ ds.getD i 0 % b < b := fun i b hb => ⟨Int.emod_nonneg _ (by omega), Int.emod_lt_of_pos _ hb⟩
    -- counts
    refine ⟨_, rfl, dp, _, _, _, rfl, rfl, sq_of hd1, atI_nat (j := 0) (dat (by decide)), _, _, rfl, rfl, (by show (0 : Int) < 4; decide), _, rfl, dp, _, _, _, rfl, rfl, sq_of hd1, atI_nat (j := 1) (dat (by decide)), _, _, rfl, rfl, (by show (0 : Int) < 4; decide),
      _, rfl, dp, _, _, _, rfl, rfl, sq_of hd1, atI_nat (j := 2) (dat (by decide)), _, _, rfl, rfl, (by show (0 : Int) < 3; decide), _, rfl, dp, _, _, _, rfl, rfl, sq_of hd1, atI_nat (j := 3) (dat (by decide)), _, _, rfl, rfl, (by show (0 : Int) < 2; decide), sz _ (by show 9 ≤ 100000; decide), fun c0 nc0 => ?_⟩
    generalize hH2 : upd H1 c0 _ = H2
    have s2 : Same H1 H2 := hH2 ▸ same_upd nc0
    have hc0 : H2 c0 = some (.lst ([0, ds.getD 0 0 % 4, ds.getD 1 0 % 4, ds.getD 2 0 % 3, 0, ds.getD 3 0 % 2, 0, 0, 0].map V.int)) := by rw [← hH2, upd_same]; rfl
    clear hH2
    have hd2 := s2 _ _ hd1
    refine gname_intro ?_
    dsimp only
    refine seq_intro (fun σ' H' => ∃ (cp : Addr) (cs : List Int), σ' = [some (.ref a), some (.ref dp), some (.ref cp), none, none, none, none, none, none, none, none, none, none, none, none, none, none, none, none, none, none] ∧ Same H2 H' ∧ H' cp = some (.lst (cs.map V.int)) ∧ cs.length = 9 ∧ cs.getD 0 0 = 0 ∧
      (∀ x ∈ cs, 0 ≤ x ∧ x ≤ 3) ∧ (plsL (cf cs) 9 0).length ≤ 9) (fun hr => ?_) ?_
    · have m0 := mr 0 4 (by decide)
      have m1 := mr 1 4 (by decide)
      have m2 := mr 2 3 (by decide)
      have m3 := mr 3 2 (by decide)
      have m5 := mr 5 3 (by decide)
      refine ⟨_, rfl, dp, _, _, _, rfl, rfl, sq_of hd2, atI_nat (j := 4) (dat (by decide)), _, _, rfl, rfl, (by show (0 : Int) < 5; decide), rfl, _, rfl, ite2 (fun _ => ?_) (fun _ => ?_)⟩
      · refine ⟨_, rfl, dp, _, _, _, rfl, rfl, sq_of hd2, atI_nat (j := 5) (dat (by decide)), _, _, rfl, rfl, (by show (0 : Int) < 3; decide), _, _, rfl, rfl, sz _ (by show 9 ≤ 100000; decide), fun c1 nc1 => ?_⟩
        refine hr _ _ ⟨c1, [0, 1 + ds.getD 5 0 % 3, 0, 0, 0, 0, 0, 0, 0], rfl, same_upd nc1, upd_same, rfl, rfl, ?_, ?_⟩
        · intro x hx
          simp only [List.mem_cons, List.not_mem_nil, or_false] at hx
          omega
        · simp [plsL, cf]
          omega
      · refine hr _ _ ⟨c0, _, rfl, .refl H2, hc0, rfl, rfl, ?_, ?_⟩
        · intro x hx
          simp only [List.mem_cons, List.not_mem_nil, or_false] at hx
          omega
        · simp [plsL, cf]
          omega
    rintro σ3 H3 ⟨cp, cs, rfl, s3, hcp, hcl, hc00, hcb, hP9⟩
    have hd3 := s3 _ _ hd2
    have hcn : ∀ i, 0 ≤ cs.getD i 0 ∧ cs.getD i 0 ≤ 3 := fun i => by
      rw [List.getD_eq_getElem?_getD]
      cases e : cs[i]? with
      | none => exact ⟨Int.le_refl 0, by decide⟩
      | some x => exact hcb x (List.mem_of_getElem? e)
    have cat : ∀ {i : Nat}, i < 9 → (cs.map V.int)[i]? = some (.int (cs.getD i 0)) := fun {i} hi => getD_at (by omega)
    have hcf : ∀ i, ((cf cs i : Nat) : Int) = cs.getD i 0 := fun i => by have := hcn i; unfold cf; omega
    -- copy, places
    refine ⟨_, rfl, cp, _, rfl, .inl (sq_of hcp), fun kp nkp => ⟨Nat.zero_le _, fun pp npp => ?_⟩⟩
    have s4 : Same H3 (upd (upd H3 kp (.lst (cs.map V.int))) pp (.lst [])) := (same_upd nkp).trans (same_upd npp)
    have hkpp : kp ≠ pp := fun e => by rw [← e, upd_same] at npp; cases npp
    have hk4 : (upd (upd H3 kp (.lst (cs.map V.int))) pp (.lst [])) kp = some (.lst (cs.map V.int)) := by rw [upd_ne hkpp, upd_same]
    have hp4 : (upd (upd H3 kp (.lst (cs.map V.int))) pp (.lst [])) pp = some (.lst []) := upd_same
    have npp3 : H3 pp = none := (same_upd nkp).free npp
    generalize upd (upd H3 kp (.lst (cs.map V.int))) pp (.lst []) = H4 at s4 hk4 hp4 ⊢
    have hd3' := hd3
    have hc4 := s4 _ _ hcp
    have hppk : pp ≠ kp := hkpp.symm
    clear hd1 hd2 hd3 npp nkp
    -- the loop that fills places
    refine ⟨9, rfl, by decide, by decide, ?_⟩
    refine for_range (lo := 0) (n := 9) (fun i σ H' => ∃ (xs : List V) (y5 y6 : Option V), σ = [some (.ref a), some (.ref dp), some (.ref cp), some (.ref kp), some (.ref pp), y5, y6, none, none, none, none, none, none, none, none, none, none, none, none, none, none] ∧
      Same H3 H' ∧ H' kp = some (.lst (cs.map V.int)) ∧ H' pp = some (.lst xs) ∧ Pls H' xs (plsL (cf cs) i 0)) ⟨[], none, none, rfl, s4, hk4, hp4, Pls.nil⟩ ?_ ?_
    · rintro i σ H5 hi ⟨xs, y5, y6, rfl, s5, hk5, hp5, hP5⟩
      have hc5 := s5 _ _ hcp
      have hc3 := hcn i
      refine ⟨_, rfl, _, rfl, cp, _, _, _, rfl, rfl, sq_of hc5, atI_of (j := i) (by omega) (cat (by omega)), _, rfl, by omega, by omega, ?_⟩
      have en : (cs.getD i 0).toNat = cf cs i := rfl
      rw [en]
      refine for_range (lo := 0) (n := cf cs i) (fun j σ H' => ∃ (xs : List V) (y6 : Option V), σ = [some (.ref a), some (.ref dp), some (.ref cp), some (.ref kp), some (.ref pp), some (.int (0 + (i : Int))), y6, none, none, none, none, none, none, none, none, none, none, none, none, none, none] ∧
        Same H3 H' ∧ H' kp = some (.lst (cs.map V.int)) ∧ H' pp = some (.lst xs) ∧ Pls H' xs (plsL (cf cs) i 0 ++ (List.range j).map fun z => (i, z)) ∧ xs.length ≤ 9 * 100 + j) ⟨xs, y6, rfl, s5, hk5, hp5, by simpa using hP5, by rw [hP5.len]; have := plsL_len (cf cs) 3 (fun s => by have := hcn s; have := hcf s; omega) i 0; omega⟩ ?_ ?_
      · rintro j σ H6 hj ⟨xs6, y6, rfl, s6, hk6, hp6, hP6, hl6⟩
        refine ⟨_, rfl, .inl ⟨rfl, _, sq_of hp6⟩, _, rfl, _, rfl, sz _ (by show 2 ≤ 100000; decide), fun t nt => ?_⟩
        have s7 : Same H6 (upd H6 t (.tup [.int (0 + (i : Int)), .int (0 + (j : Int))])) := same_upd nt
        have ht7 : (upd H6 t (.tup [.int (0 + (i : Int)), .int (0 + (j : Int))])) t = some (.tup (PlV (i, j))) := by rw [upd_same, Int.zero_add, Int.zero_add]; rfl
        generalize upd H6 t (.tup [.int (0 + (i : Int)), .int (0 + (j : Int))]) = H7 at s7 ht7 ⊢
        have hp7 := s7 _ _ hp6
        refine ⟨pp, _, _, rfl, rfl, hp7, szl _ (by have := hcn i; have := hcf i; omega), xs6 ++ [.ref t], _, rfl, same_upd' (s6.trans s7) npp3, by rw [upd_ne hkpp]; exact s7 _ _ hk6, upd_same, ?_, by rw [List.length_append]; simp; omega⟩
        rw [List.range_succ, List.map_append, ← List.append_assoc]
        exact ((hP6.mono s7).snoc ht7).wr hp7
      · rintro σ H6 ⟨xs6, y6, rfl, s6, hk6, hp6, hP6, hl6⟩
        refine ⟨xs6, _, _, rfl, s6, hk6, hp6, ?_⟩
        rw [plsL_snoc, Nat.zero_add]
        exact hP6
    rintro σ5 H5 ⟨xs, y5, y6, rfl, s5, hk5, hp5, hP5⟩
    have hd5 := s5 _ _ hd3'
    have hc5 := s5 _ _ hcp
    -- members, size
    have hm5 := mr 6 5 (by decide)
    have hn9 := mr 7 9 (by decide)
    obtain ⟨m, em⟩ : ∃ m : Nat, ds.getD 6 0 % 5 = m := ⟨(ds.getD 6 0 % 5).toNat, by omega⟩
    obtain ⟨n, en⟩ : ∃ n : Nat, ds.getD 7 0 % 9 = n := ⟨(ds.getD 7 0 % 9).toNat, by omega⟩
    have hm4 : m ≤ 4 := by omega
    have hn8 : n ≤ 8 := by omega
    refine ⟨_, rfl, dp, _, _, _, rfl, rfl, sq_of hd5, atI_nat (j := 6) (dat (by decide)), _, _, rfl, rfl, (by show (0 : Int) < 5; decide), _, rfl, dp, _, _, _, rfl, rfl, sq_of hd5, atI_nat (j := 7) (dat (by decide)), _, _, rfl, rfl, (by show (0 : Int) < 9; decide), _, _, rfl, ?_⟩
    dsimp only
    rw [em, en]
    have hokm : okm cs = true := by
      unfold okm okc
      rw [hc00, decide_eq_true (p := 1 ≤ cs.length) (by omega), decide_eq_true (p := cs.length ≤ 61) (by omega), List.all_eq_true.mpr fun x hx => decide_eq_true (hcb x hx).1]
      rfl
    have hokn : ∀ v : Nat, v ≤ 8 → okn cs.length (.int v) = true := fun v hv => by
      rw [okn_int, decide_eq_true (by omega), decide_eq_true (by omega)]; rfl
    have hcl1000 : cs.length ≤ 1000 := by omega
    -- what sets_from gives
    have hSF : ∀ (p : Pl) (pa : Addr) (m n : Nat) (H' : Hp) (Q' : VK) (E' : XK), Same H5 H' → H' pa = some (.tup (PlV p)) → p.1 < 9 → p.2 < cf cs p.1 → m ≤ 8 → n ≤ 8 → (∀ H'', Same H' H'' → Q' (.int (bagN cs m n p.1 p.2)) H'') →
        SF K W (.ref cp) (.int m) (.int n) (.ref pa) H' Q' E' := by
      intro p pa m n H' Q' E' s' hpa hp1 hp2 hm hn k
      refine .inr ⟨cp, cs, rfl, s' _ _ hc5, hcl1000, fun z => (by rw [hokm] at z; cases z), fun _ => ⟨pa, some [(p.1 : Int), (p.2 : Int)], .inl ⟨_, rfl⟩, .inl ⟨_, rfl⟩, rfl, hpa, fun z => ?_, fun _ => ⟨m, n, p.1, p.2, rfl, rfl, rfl, fun x hx => by have := hcb x hx; omega, k⟩⟩⟩
      have e : okpl cs (some [(p.1 : Int), (p.2 : Int)]) = true := by
        show (okn cs.length (.int (p.1 : Int)) && (decide (0 ≤ (p.2 : Int)) && decide ((p.2 : Int) < cs.getD (p.1 : Int).toNat 0))) = true
        rw [hokn p.1 (by omega), Int.toNat_natCast, decide_eq_true (by omega), decide_eq_true (by have := hcf p.1; omega)]; rfl
      unfold okArgs at z
      rw [hokn m hm, hokn n hn, e] at z
      cases z
    refine ⟨_, rfl, pp, rfl, ⟨_, sq_of hp5⟩, for_list (K := K) (a := pp) (xs := xs) (fun i σ H' => ∃ (y8 y9 y10 : Option V), σ = [some (.ref a), some (.ref dp), some (.ref cp), some (.ref kp), some (.ref pp), some (.int n), y6, some (.int m), y8, y9, y10, none, none, none, none, none, none, none, none, none, none] ∧
      Same H5 H') ⟨none, none, none, rfl, .refl H5⟩ (fun i σ H' _ ⟨_, _, _, _, s'⟩ => sq_of (s' _ _ hp5)) ?_ ?_⟩
    · rintro i x σ H6 hi ⟨y8, y9, y10, rfl, s6⟩
      obtain ⟨p, pa, hp, rfl, hpa⟩ := hP5.of hi
      obtain ⟨hp0, hp9, hp2⟩ := mem_plsL (List.mem_of_getElem? hp)
      have hp1 : 1 ≤ p.1 := by
        have h2 := hcf p.1
        by_cases e : p.1 = 0
        · rw [e, hc00] at h2
          rw [e] at hp2
          omega
        · omega
      have hp6 := s6 _ _ hp5
      refine ⟨_, rfl, pp, rfl, ⟨_, sq_of hp6⟩, fun Da hDa => ?_⟩
      refine lc_list (K := K) (a := pp) (xs := xs) (fun j H' => Same H6 H' ∧ ∃ out, H' Da = some (.lst out) ∧ Pls H' out (((plsL (cf cs) 9 0).take j).filter (ple p))) ⟨same_upd hDa, [], upd_same, Pls.nil⟩ (fun j H' _ h => sq_of (h.1 _ _ hp6)) ?_ ?_
      · rintro j x H7 hj ⟨s7, out, hout, hPo⟩
        obtain ⟨r, ra, hr1, rfl, hra⟩ := hP5.of hj
        have hra7 := s7 _ _ (s6 _ _ hra)
        have hpa7 := s7 _ _ (s6 _ _ hpa)
        refine ⟨rfl, _, rfl, _, rfl, ra, pa, _, _, _, _, rfl, rfl, st_of hra7, st_of hpa7, _, rfl, ?_⟩
        rw [geI_ple, take_more hr1, List.filter_append]
        have hol : out.length ≤ 9 := by
          rw [hPo.len]
          refine Nat.le_trans (List.length_filter_le _ _) ?_
          rw [List.length_take]; omega
        cases hg : ple p r with
        | true =>
          refine iteT ⟨_, rfl, out, hout, szl _ (by omega), same_upd' s7 hDa, _, upd_same, ?_⟩
          rw [List.filter_cons_of_pos hg]
          exact (hPo.snoc hra7).wr hout
        | false =>
          refine iteF ⟨s7, out, hout, ?_⟩
          rw [List.filter_cons_of_neg (by rw [hg]; decide), List.filter_nil, List.append_nil]
          exact hPo
      · rintro H7 ⟨s7, out, hout, hPo⟩
        rw [hP5.len, List.take_length] at hPo
        have hpa7 := s7 _ _ (s6 _ _ hpa)
        have hp9' : p.1 < 9 := by omega
        have s67 := s6.trans s7
        refine ⟨_, rfl, _, rfl, _, rfl, _, rfl, _, _, _, _, rfl, hSF p pa m n H7 _ _ s67 hpa7 hp9' hp2 (by omega) hn8 fun H8 s8 => ?_⟩
        have s68 := s67.trans s8
        refine ⟨_, rfl, _, rfl, _, rfl, iteF ?_⟩
        have hfl : (((plsL (cf cs) 9 0).filter (ple p)).length) ≤ 9 := Nat.le_trans (List.length_filter_le _ _) hP9
        refine ⟨_, rfl, _, rfl, _, rfl, _, rfl, Da, out, _, m, n, rfl, s8 _ _ hout, hPo.mono s8, hfl, hm4, fun q1 H9 out2 s9 nq1 hq1 ho1 => ⟨q1, _, rfl, .inl (sq_of hq1), rfl, _, rfl, ?_⟩⟩
        have hcount : bagN cs m n p.1 p.2 = (out2.length : Int) := by
          rw [ho1]
          have := law_count (cf cs) 9 p.1 p.2 m n hp9'
          rw [show (p.1, p.2) = p from rfl] at this
          rw [this]
          unfold bagN
          rw [hcl, show 9 - p.1 - 1 = 9 - (p.1 + 1) by omega]
        rw [hcount]
        refine iteFb (by simp) ?_
        have s69 := s68.trans s9
        refine ⟨_, rfl, _, rfl, _, _, dp_ints (sq_of (s69 _ _ hc5)), dp_ints (sq_of (s69 _ _ hk5)), shaped_ints _, shaped_ints _, _, rfl, ?_⟩
        rw [eqv_ints]
        refine iteF ?_
        have hpa9 := s69 _ _ hpa
        refine ⟨_, rfl, _, rfl, _, _, _, _, rfl, hSF p pa 0 0 H9 _ _ s69 hpa9 hp9' hp2 (by omega) (by omega) fun H10 s10 => ⟨rfl, _, rfl, ?_⟩⟩
        have e0 : bagN cs 0 0 p.1 p.2 = 1 := no_members _ _ _ _
        rw [e0]
        refine iteFb (by decide) ?_
        have s6a := s69.trans s10
        have hpa10 := s6a _ _ hpa
        refine ⟨_, rfl, _, rfl, pa, _, _, .int p.1, rfl, rfl, st_of hpa10, atI_nat (j := 0) rfl, _, rfl, _, _, _, _, rfl, hSF p pa 1 p.1 H10 _ _ s6a hpa10 hp9' hp2 (by omega) (by omega) fun H11 s11 => ?_⟩
        have s6b := s6a.trans s11
        have hpa11 := s6b _ _ hpa
        refine ⟨_, rfl, _, rfl, pa, _, _, .int p.1, rfl, rfl, st_of hpa11, atI_nat (j := 0) rfl, cp, _, _, _, rfl, rfl, sq_of (s6b _ _ hc5), atI_nat (j := p.1) (cat hp9'), _, rfl, pa, _, _, .int p.2, rfl, rfl, st_of hpa11, atI_nat (j := 1) rfl, _, _, rfl, rfl, rfl, _, rfl, ?_⟩
        have e1 : bagN cs 1 p.1 p.1 p.2 = cs.getD p.1 0 - (p.2 : Int) := by
          unfold bagN
          rw [one_member]
          have := hcf p.1
          omega
        rw [e1]
        refine iteFb (by simp) ?_
        exact ⟨_, _, _, rfl, s6b⟩
    rintro σ H6 ⟨y8, y9, y10, rfl, s6⟩
    have hd6 := s6 _ _ hd5
    have hc6 := s6 _ _ hc5
    have hp6 := s6 _ _ hp5
    have hP6 := hP5.mono s6
    -- many, few, ones, twos, least
    have b11 := mr 11 30 (by decide)
    have b12 := mr 12 11 (by decide)
    have b13 := mr 13 100 (by decide)
    have b14 := mr 14 7 (by decide)
    obtain ⟨my, emy⟩ : ∃ z : Nat, 1 + ds.getD 11 0 % 30 = z := ⟨(1 + ds.getD 11 0 % 30).toNat, by omega⟩
    obtain ⟨fw, efw⟩ : ∃ z : Nat, ds.getD 12 0 % 11 = z := ⟨(ds.getD 12 0 % 11).toNat, by omega⟩
    obtain ⟨on, eon⟩ : ∃ z : Nat, 1 + ds.getD 13 0 % 100 = z := ⟨(1 + ds.getD 13 0 % 100).toNat, by omega⟩
    obtain ⟨tw, etw⟩ : ∃ z : Nat, 1 + ds.getD 14 0 % 7 = z := ⟨(1 + ds.getD 14 0 % 7).toNat, by omega⟩
    have b15 : 0 ≤ ds.getD 15 0 % (on : Int) ∧ ds.getD 15 0 % (on : Int) < (on : Int) := mr 15 on (by omega)
    obtain ⟨le, ele⟩ : ∃ z : Nat, ds.getD 15 0 % (on : Int) = z := ⟨(ds.getD 15 0 % (on : Int)).toNat, by omega⟩
    refine ⟨_, rfl, dp, _, _, _, rfl, rfl, sq_of hd6, atI_nat (j := 11) (dat (by decide)), _, _, rfl, rfl, (by show (0 : Int) < 30; decide), _, _, rfl, rfl, _, rfl, dp, _, _, _, rfl, rfl, sq_of hd6, atI_nat (j := 12) (dat (by decide)), _, _, rfl, rfl, (by show (0 : Int) < 11; decide), _, _, rfl, ?_⟩
    refine ⟨_, rfl, dp, _, _, _, rfl, rfl, sq_of hd6, atI_nat (j := 13) (dat (by decide)), _, _, rfl, rfl, (by show (0 : Int) < 100; decide), _, _, rfl, rfl, _, rfl, dp, _, _, _, rfl, rfl, sq_of hd6, atI_nat (j := 14) (dat (by decide)), _, _, rfl, rfl, (by show (0 : Int) < 7; decide), _, _, rfl, rfl, _, _, rfl, ?_⟩
    dsimp only
    rw [emy, efw, eon, etw]
    refine ⟨_, rfl, dp, _, _, _, rfl, rfl, sq_of hd6, atI_nat (j := 15) (dat (by decide)), _, rfl, _, _, rfl, rfl, (by show (0 : Int) < (on : Int); omega), ?_⟩
    dsimp only
    rw [ele]
    -- long
    refine ⟨_, rfl, _, rfl, sz _ (by show 3 ≤ 100000; decide), fun l1 nl1 => ⟨sz _ (by show 1 ≤ 100000; decide), fun l2 nl2 => ⟨l2, 38, _, rfl, rfl, upd_same, by decide, by decide, sz _ (by decide), fun l3 nl3 => ?_⟩⟩⟩
    have sl2 : Same H6 (upd (upd H6 l1 (.lst [.int 0, .int on, .int tw])) l2 (.lst [.int 0])) := (same_upd nl1).trans (same_upd nl2)
    have l12 : l1 ≠ l2 := fun e => by rw [← e, upd_same] at nl2; cases nl2
    have hl1 : (upd (upd H6 l1 (.lst [.int 0, .int on, .int tw])) l2 (.lst [.int 0])) l1 = some (.lst [.int 0, .int on, .int tw]) := by rw [upd_ne l12, upd_same]
    generalize upd (upd H6 l1 (.lst [.int 0, .int on, .int tw])) l2 (.lst [.int 0]) = H7 at sl2 hl1 nl3 ⊢
    have l13 : l1 ≠ l3 := fun e => by rw [← e, hl1] at nl3; cases nl3
    refine ⟨l1, l3, _, _, rfl, rfl, by rw [upd_ne l13]; exact hl1, upd_same, sz _ (by simp), fun lp nlp => ?_⟩
    obtain ⟨cs2, ecs2⟩ : ∃ cs2 : List Int, cs2 = [0, (on : Int), (tw : Int)] ++ List.replicate 38 0 := ⟨_, rfl⟩
    have ecv : ([V.int 0, V.int (on : Int), V.int (tw : Int)] ++ (List.replicate (Int.toNat 38) [V.int 0]).flatten) = cs2.map V.int := by rw [ecs2]; rfl
    rw [ecv]
    have s8 : Same H6 (upd (upd H7 l3 (.lst (List.replicate (Int.toNat 38) [V.int 0]).flatten)) lp (.lst (cs2.map V.int))) := (sl2.trans (same_upd nl3)).trans (same_upd nlp)
    have hlp : (upd (upd H7 l3 (.lst (List.replicate (Int.toNat 38) [V.int 0]).flatten)) lp (.lst (cs2.map V.int))) lp = some (.lst (cs2.map V.int)) := upd_same
    generalize upd (upd H7 l3 (.lst (List.replicate (Int.toNat 38) [V.int 0]).flatten)) lp (.lst (cs2.map V.int)) = H8 at s8 hlp ⊢
    have hd8 := s8 _ _ hd6
    have hc8 := s8 _ _ hc6
    have hp8 := s8 _ _ hp6
    have hP8 := hP6.mono s8
    -- due
    obtain ⟨fm, efm⟩ : ∃ fm : Nat, fm = min fw my := ⟨_, rfl⟩
    have hfm : fm ≤ my ∧ fm ≤ 11 := by omega
    have emin : (if (my : Int) < (fw : Int) then (my : Int) else (fw : Int)) = (fm : Int) := by
      rw [efm]
      split <;> omega
    refine ⟨_, rfl, _, rfl, _, _, rfl, rfl, _, rfl, _, rfl, _, rfl, _, _, rfl, ?_⟩
    rw [emin]
    refine ⟨_, _, rfl, rfl, on - le, my - fm, ?_, by omega, by omega, ?_⟩
    · show [V.int ((on : Int) - (le : Int)), V.int ((my : Int) - (fm : Int))] = _
      rw [show (on : Int) - (le : Int) = ((on - le : Nat) : Int) by omega, show (my : Int) - (fm : Int) = ((my - fm : Nat) : Int) by omega]
    refine ⟨_, rfl, _, rfl, _, rfl, _, _, rfl, ?_⟩
    rw [emin]
    have g1 := G_le (on - le) (my - fm)
    have g2 := G_le tw fm
    have g1' : G (on - le) (my - fm) ≤ 2 ^ 200 := Int.le_trans g1.2 (p2_le (by omega))
    have g2' : G tw fm ≤ 2 ^ 200 := Int.le_trans g2.2 (p2_le (by omega))
    refine ⟨tw, fm, rfl, by omega, by omega, _, _, rfl, rfl, wide_mul (nb g1.1 g1') (nb g2.1 g2') (by decide) (by decide) (by decide), ?_⟩
    -- sets_from(long, ..)
    have hSF2 : ∀ (ta : Addr) (H' : Hp) (Q' : VK) (E' : XK), Same H8 H' → H' ta = some (.tup [.int 1, .int le]) → (∀ H'', Same H' H'' → Q' (.int (G (on - le) (my - fm) * G tw fm)) H'') → SF K W (.ref lp) (.int my) (.int ((my : Int) + (fm : Int))) (.ref ta) H' Q' E' := by
      intro ta H' Q' E' s' hta k
      have hl2 : cs2.length = 41 := by rw [ecs2]; rfl
      have hm2 : okm cs2 = true := by
        have h0 : cs2.getD 0 0 = 0 := by rw [ecs2]; rfl
        unfold okm okc
        rw [h0, hl2, List.all_eq_true.mpr fun x hx => decide_eq_true (by
          rw [ecs2] at hx
          simp only [List.mem_append, List.mem_cons, List.not_mem_nil, or_false, List.mem_replicate] at hx
          omega)]
        rfl
      have h1 : cs2.getD 1 0 = (on : Int) := by rw [ecs2]; rfl
      have h2 : cs2.getD 2 0 = (tw : Int) := by rw [ecs2]; rfl
      refine .inr ⟨lp, cs2, rfl, s' _ _ hlp, by omega, fun z => (by rw [hm2] at z; cases z), fun _ => ⟨ta, some [((1 : Nat) : Int), (le : Int)], .inl ⟨_, rfl⟩, .inl ⟨_, rfl⟩, rfl, hta, fun z => ?_, fun _ => ⟨my, my + fm, 1, le, rfl, by rw [Int.natCast_add], rfl, fun x hx => ?_, ?_⟩⟩⟩
      · have e : okpl cs2 (some [((1 : Nat) : Int), (le : Int)]) = true := by
          show (okn cs2.length (.int ((1 : Nat) : Int)) && (decide (0 ≤ (le : Int)) && decide ((le : Int) < cs2.getD 1 0))) = true
          rw [h1, okn_int, hl2, decide_eq_true (show 0 ≤ (le : Int) by omega), decide_eq_true (show (le : Int) < (on : Int) by omega)]; rfl
        unfold okArgs at z
        rw [e, okn_int, okn_int, hl2, decide_eq_true (show 0 ≤ (my : Int) by omega), decide_eq_true (show (my : Int) < ((41 : Nat) : Int) by omega), decide_eq_true (show 0 ≤ (my : Int) + (fm : Int) by omega), decide_eq_true (show (my : Int) + (fm : Int) < ((41 : Nat) : Int) by omega)] at z
        cases z
      · rw [ecs2] at hx
        simp only [List.mem_append, List.mem_cons, List.not_mem_nil, or_false, List.mem_replicate] at hx
        omega
      · have ev : bagN cs2 my (my + fm) 1 le = G (on - le) (my - fm) * G tw fm := by
          have ec1 : cf cs2 1 = on := by unfold cf; rw [h1]; rfl
          have ec2 : cf cs2 2 = tw := by unfold cf; rw [h2]; rfl
          unfold bagN
          rw [hl2, ec1, show 41 - (1 + 1) = 38 + 1 by rfl, two_sorts (fun s hs => ?_) 38 (on - le) my fm hfm.1, ec2]
          unfold cf
          rw [ecs2]
          match s, hs with
          | s + 3, _ =>
            show ((List.replicate 38 (0 : Int)).getD s 0).toNat = 0
            rw [List.getD_eq_getElem?_getD, List.getElem?_replicate]
            split <;> rfl
        rw [ev]
        exact k
    refine ⟨_, rfl, _, rfl, _, rfl, _, rfl, _, rfl, _, _, rfl, ?_⟩
    rw [emin]
    refine ⟨_, _, rfl, rfl, _, rfl, sz _ (by show 2 ≤ 100000; decide), fun ta nta => ?_⟩
    have s9 : Same H8 (upd H8 ta (.tup [.int 1, .int le])) := same_upd nta
    refine ⟨_, _, _, _, rfl, hSF2 ta _ _ _ s9 upd_same fun H9 s9' => ⟨_, rfl, rfl, _, rfl, ?_⟩⟩
    refine iteFb (by simp) ?_
    have s89 := s9.trans s9'
    have hd9 := s89 _ _ hd8
    have hc9 := s89 _ _ hc8
    have hp9 := s89 _ _ hp8
    have hP9' := hP8.mono s89
    clear hSF2
    -- bad, place
    have b8 := mr 8 8 (by decide)
    have b9 := mr 9 3 (by decide)
    obtain ⟨q8, eq8⟩ : ∃ z : Nat, 1 + ds.getD 8 0 % 8 = z := ⟨(1 + ds.getD 8 0 % 8).toNat, by omega⟩
    refine ⟨sz _ (by show 2 ≤ 100000; decide), fun bp nbp => ⟨_, rfl, dp, _, _, _, rfl, rfl, sq_of (same_upd nbp _ _ hd9), atI_nat (j := 8) (dat (by decide)), _, _, rfl, rfl, (by show (0 : Int) < 8; decide), _, _, rfl, rfl, sz _ (by show 2 ≤ 100000; decide), fun tp ntp => ⟨_, _, rfl, ?_⟩⟩⟩
    dsimp only
    rw [eq8]
    have s10 : Same H9 (upd (upd H9 bp (.lst [.bl false, .bl true])) tp (.tup [.int q8, .int 0])) := (same_upd nbp).trans (same_upd ntp)
    have hbp : (upd (upd H9 bp (.lst [.bl false, .bl true])) tp (.tup [.int q8, .int 0])) bp = some (.lst [.bl false, .bl true]) := same_upd ntp _ _ upd_same
    have htp : (upd (upd H9 bp (.lst [.bl false, .bl true])) tp (.tup [.int q8, .int 0])) tp = some (.tup [.int q8, .int 0]) := upd_same
    generalize upd (upd H9 bp (.lst [.bl false, .bl true])) tp (.tup [.int q8, .int 0]) = H10 at s10 hbp htp ⊢
    have hd10 := s10 _ _ hd9
    have hc10 := s10 _ _ hc9
    have hp10 := s10 _ _ hp9
    have hP10 := hP9'.mono s10
    -- wrong
    refine ⟨_, rfl, tp, _, _, .int q8, rfl, rfl, st_of htp, atI_nat (j := 0) rfl, _, rfl, _, rfl, tp, _, _, .int q8, rfl, rfl, st_of htp, atI_nat (j := 0) rfl, cp, _, _, _, rfl, rfl, sq_of hc10, atI_nat (j := q8) (cat (by omega)), _, rfl, dp, _, _, _, rfl, rfl, sq_of hd10, atI_nat (j := 9) (dat (by decide)), _, _, rfl, rfl, (by show (0 : Int) < 3; decide), _, _, rfl, rfl, sz _ (by show 2 ≤ 100000; decide), fun wp nwp => ?_⟩
    have s11 : Same H10 (upd H10 wp (.tup [.int q8, .int (cs.getD q8 0 + ds.getD 9 0 % 3)])) := same_upd nwp
    have hwp : (upd H10 wp (.tup [.int q8, .int (cs.getD q8 0 + ds.getD 9 0 % 3)])) wp = some (.tup ([(q8 : Int), cs.getD q8 0 + ds.getD 9 0 % 3].map V.int)) := upd_same
    generalize upd H10 wp (.tup [.int q8, .int (cs.getD q8 0 + ds.getD 9 0 % 3)]) = H11 at s11 hwp ⊢
    have hd11 := s11 _ _ hd10
    have hc11 := s11 _ _ hc10
    have hp11 := s11 _ _ hp10
    have hP11 := hP10.mono s11
    have hb11 := s11 _ _ hbp
    have ht11 := s11 _ _ htp
    -- what is refused for the place and so on
    have hRf : ∀ (H' : Hp) (vm vz : V) (t : Addr) (kd : Option (List Int)), Same H11 H' → IB vm → IB vz → VF K H' t kd → okArgs cs vm vz kd = false → Refused K false (.ref cp) vm vz (.ref t) H' := fun H' vm vz t kd s' h1 h2 h3 h4 =>
      (show ∃ (a t : Addr) (cs : List Int) (kd : Option (List Int)), _ from ⟨cp, _, cs, kd, rfl, s' _ _ hc11, hcl1000, hokm, h1, h2, rfl, h3, h4⟩)
    have hpl : ∀ (vm vz : V) (kd : Option (List Int)), okpl cs kd = false → okArgs cs vm vz kd = false := fun vm vz kd h => by unfold okArgs; rw [h, Bool.and_false, Bool.and_false]
    have hpl2 : ∀ x y : Int, (x < 0 ∨ 9 ≤ x ∨ y < 0 ∨ (cs.getD x.toNat 0 ≤ y)) → okpl cs (some [x, y]) = false := fun x y h => by
      show (okn cs.length (.int x) && (decide (0 ≤ y) && decide (y < cs.getD x.toNat 0))) = false
      rw [okn_int, hcl]
      rcases h with h | h | h | h
      · rw [decide_eq_false (p := 0 ≤ x) (by omega)]; simp
      · rw [decide_eq_false (p := x < ((9 : Nat) : Int)) (by omega)]; simp
      · rw [decide_eq_false (p := 0 ≤ y) (by omega)]; simp
      · rw [decide_eq_false (p := y < cs.getD x.toNat 0) (by omega)]; simp
    have hd9n := hdn 9
    refine gname_intro ?_
    dsimp only
    refine rd_told (cnt := false) (bp := bp) (fun R k => ⟨_, rfl, _, rfl, _, rfl, _, rfl, k _ _ _ _ _ (.refl _) (hRf _ _ _ _ (some [(q8 : Int), cs.getD q8 0 + ds.getD 9 0 % 3]) (.refl _) (.inl ⟨_, rfl⟩) (.inl ⟨_, rfl⟩) hwp (hpl _ _ _ (hpl2 _ _ (.inr (.inr (.inr (by rw [Int.toNat_natCast]; omega)))))))⟩) rfl hb11 fun H12 s12 => ?_
    have hone : ∀ v : Nat, okArgs cs (.int v) (.int (n : Int)) (some [(q8 : Int), -1]) = false := fun v => hpl _ _ _ (hpl2 _ _ (.inr (.inr (.inl (by decide)))))
    refine iteF (rd_told (cnt := false) (bp := bp) (fun R k => ⟨_, rfl, _, rfl, _, rfl, _, rfl, dp, _, _, _, rfl, rfl, sq_of (s12 _ _ hd11), atI_nat (j := 9) (dat (by decide)), _, _, rfl, rfl, sz _ (by show 2 ≤ 100000; decide), fun t nt => k _ _ _ _ _ (same_upd nt)
      (hRf _ _ _ _ (some [9 + ds.getD 9 0, 0]) (s12.trans (same_upd nt)) (.inl ⟨_, rfl⟩) (.inl ⟨_, rfl⟩) upd_same (hpl _ _ _ (hpl2 _ _ (.inr (.inl (by omega))))))⟩) rfl (s12 _ _ hb11) fun H13 s13 => ?_)
    have z13 := s12.trans s13
    refine iteF (next_intro ?_)
    dsimp only
    refine (rd_told (cnt := false) (bp := bp) (fun R k => ⟨_, rfl, _, rfl, _, rfl, sz _ (by show 2 ≤ 100000; decide), fun t nt => k _ _ _ _ _ (same_upd nt)
      (hRf _ _ _ _ (some [0, 0]) (z13.trans (same_upd nt)) (.inl ⟨_, rfl⟩) (.inl ⟨_, rfl⟩) upd_same (hpl _ _ _ (hpl2 _ _ (.inr (.inr (.inr (by show cs.getD 0 0 ≤ 0; omega)))))))⟩) rfl (z13 _ _ hb11) fun H14 s14 => ?_)
    have z14 := z13.trans s14
    refine iteF (rd_told (cnt := false) (bp := bp) (fun R k => ⟨_, rfl, _, rfl, _, rfl, _, rfl, tp, _, _, .int q8, rfl, rfl, st_of (z14 _ _ ht11), atI_nat (j := 0) rfl, _, rfl, sz _ (by show 2 ≤ 100000; decide), fun t nt => k _ _ _ _ _ (same_upd nt)
      (hRf _ _ _ _ (some [(q8 : Int), -1]) (z14.trans (same_upd nt)) (.inl ⟨_, rfl⟩) (.inl ⟨_, rfl⟩) upd_same (hpl _ _ _ (hpl2 _ _ (.inr (.inr (.inl (by decide)))))))⟩) rfl (z14 _ _ hb11) fun H15 s15 => ?_)
    have z15 := z14.trans s15
    refine iteF ?_
    refine next_intro ?_
    dsimp only
    refine seq_intro (fun _ _ => True) (fun hr => ?_) (fun σ' H' _ => ?_)
    · refine ⟨_, rfl, pp, _, rfl, .inl (sq_of (z15 _ _ hp11)), _, _, rfl, rfl, _, rfl, ite2 (fun cp0 => ?_) (fun _ => hr _ _ trivial)⟩
      have hxl : 0 < xs.length := by
        have : (0 : Int) < (xs.length : Int) := of_decide_eq_true cp0
        omega
      have hd15 := z15 _ _ hd11
      have hp15 := z15 _ _ hp11
      have b10 : 0 ≤ ds.getD 10 0 % (xs.length : Int) ∧ ds.getD 10 0 % (xs.length : Int) < (xs.length : Int) := mr 10 xs.length (by omega)
      obtain ⟨ix, eix⟩ : ∃ z : Nat, ds.getD 10 0 % (xs.length : Int) = z := ⟨(ds.getD 10 0 % (xs.length : Int)).toNat, by omega⟩
      have hix : ix < xs.length := by omega
      obtain ⟨p, pa, hp, hxx, hpa⟩ := hP11.of (List.getElem?_eq_getElem hix)
      have hxi : xs[ix]? = some (.ref pa) := by rw [List.getElem?_eq_getElem hix, hxx]
      obtain ⟨_, hp9, hp2⟩ := mem_plsL (List.mem_of_getElem? hp)
      refine ⟨_, rfl, _, rfl, dp, _, _, _, rfl, rfl, sq_of hd15, atI_nat (j := 10) (dat (by decide)), _, rfl, pp, _, rfl, .inl (sq_of hp15), _, _, rfl, rfl, (by show (0 : Int) < (xs.length : Int); omega), pp, _, _, .ref pa, rfl, rfl, sq_of hp15, atI_of (j := ix) eix hxi, ?_⟩
      refine gname_intro ?_
      dsimp only
      have hpa15 := z15 _ _ hpa
      have hVF : ∀ H', Same H15 H' → VF K H' pa (some [(p.1 : Int), (p.2 : Int)]) := fun H' s' => s' _ _ hpa15
      have hk9 : okn cs.length (.int 9) = false := by rw [okn_int, hcl]; rfl
      have hkm : okn cs.length (.int (-1)) = false := by rw [okn_int]; rfl
      refine rd_told (cnt := false) (bp := bp) (fun R k => ⟨_, rfl, _, rfl, _, rfl, k _ _ _ _ _ (.refl _) (hRf _ _ _ _ _ z15 (.inl ⟨_, rfl⟩) (.inl ⟨_, rfl⟩) (hVF _ (.refl _)) (by unfold okArgs; rw [hk9]; rfl))⟩) rfl (z15 _ _ hb11) fun H16 s16 => ?_
      refine iteF (rd_told (cnt := false) (bp := bp) (fun R k => ⟨_, rfl, _, rfl, _, rfl, k _ _ _ _ _ (.refl _) (hRf _ _ _ _ _ (z15.trans s16) (.inl ⟨_, rfl⟩) (.inl ⟨_, rfl⟩) (hVF _ s16) (by unfold okArgs; rw [hk9, Bool.false_and, Bool.and_false]))⟩) rfl ((z15.trans s16) _ _ hb11) fun H17 s17 => ?_)
      have y17 := s16.trans s17
      refine iteF (next_intro ?_)
      dsimp only
      refine rd_told (cnt := false) (bp := bp) (fun R k => ⟨_, rfl, _, rfl, _, rfl, _, rfl, k _ _ _ _ _ (.refl _) (hRf _ _ _ _ _ (z15.trans y17) (.inl ⟨_, rfl⟩) (.inl ⟨_, rfl⟩) (hVF _ y17) (by unfold okArgs; rw [hkm]; rfl))⟩) rfl ((z15.trans y17) _ _ hb11) fun H18 s18 => ?_
      have y18 := y17.trans s18
      refine iteF (rd_told (cnt := false) (bp := bp) (fun R k => ⟨_, rfl, _, rfl, _, rfl, k _ _ _ _ _ (.refl _) (hRf _ _ _ _ _ (z15.trans y18) (.inl ⟨_, rfl⟩) (.inr ⟨_, rfl⟩) (hVF _ y18) (by unfold okArgs; rw [show okn cs.length (.bl true) = false from rfl, Bool.false_and, Bool.and_false]))⟩) rfl ((z15.trans y18) _ _ hb11) fun H19 s19 => ?_)
      have y19 := y18.trans s19
      refine iteF (next_intro ?_)
      dsimp only
      refine rd_told (cnt := false) (bp := bp) (fun R k => ⟨_, rfl, _, rfl, _, rfl, _, rfl, pa, _, rfl, .inr (st_of (y19 _ _ hpa15)), fun l nl => k _ _ _ _ _ (same_upd nl) (hRf _ _ _ _ none ((z15.trans y19).trans (same_upd nl)) (.inl ⟨_, rfl⟩) (.inl ⟨_, rfl⟩) ⟨_, upd_same⟩ (hpl _ _ _ rfl))⟩) rfl ((z15.trans y19) _ _ hb11) fun H20 s20 => ?_
      have y20 := y19.trans s20
      refine iteF (rd_told (cnt := false) (bp := bp) (fun R k => ⟨_, rfl, _, rfl, _, rfl, _, rfl, sz _ (by show 1 ≤ 100000; decide), fun t nt => ⟨pa, t, _, _, rfl, rfl, st_of (same_upd nt _ _ (y20 _ _ hpa15)), st_of upd_same, sz _ (by show 3 ≤ 100000; decide), fun e => (by cases e), fun _ e => (by cases e), fun _ _ t2 nt2 => ?_⟩⟩) rfl ((z15.trans y20) _ _ hb11) fun H21 s21 => ?_)
      · exact k _ _ _ _ _ ((same_upd nt).trans (same_upd nt2)) (hRf _ _ _ _ (some [(p.1 : Int), (p.2 : Int), 0]) ((z15.trans y20).trans ((same_upd nt).trans (same_upd nt2))) (.inl ⟨_, rfl⟩) (.inl ⟨_, rfl⟩) upd_same (hpl _ _ _ rfl))
      have y21 := y20.trans s21
      refine iteF (next_intro ?_)
      dsimp only
      have hc21 := (z15.trans y21) _ _ hc11
      refine rd_told2 (cnt := true) (fun R k => ⟨sz _ (by show 1 ≤ 100000; decide), fun l1 nl1 => ⟨_, rfl, 1, rfl, cp, _, rfl, sq_of (same_upd nl1 _ _ hc21), fun l2 nl2 => ?_⟩⟩) fun H22 s22 => ?_
      · have l12 : l1 ≠ l2 := fun e => by rw [← e, upd_same] at nl2; cases nl2
        have ecut : cutV (cs.map V.int) (some 1) none = (cs.drop 1).map V.int := by
          rw [List.map_drop]
          exact cutV_from (cs.map V.int) 1
        refine ⟨l1, l2, [.int 1], (cs.drop 1).map V.int, rfl, rfl, by rw [upd_ne l12]; exact upd_same, by rw [upd_same, ecut], sz _ (by rw [List.length_map, List.length_drop]; simp; omega), fun l3 nl3 => ⟨_, rfl, _, rfl, _, rfl, k _ _ _ _ _ (((same_upd nl1).trans (same_upd nl2)).trans (same_upd nl3)) ?_⟩⟩
        show V.ref l3 = .non ∨ ∃ (a : Addr) (cs : List Int), _
        refine .inr ⟨l3, 1 :: cs.drop 1, rfl, upd_same, by rw [List.length_cons, List.length_drop]; omega, ?_⟩
        unfold okm
        rw [show (1 :: cs.drop 1).getD 0 0 = 1 from rfl]
        simp
      refine iteF (rd_told2 (cnt := true) (fun R k => k _ _ _ _ _ (.refl _) (.inl rfl)) fun H23 s23 => ?_)
      refine iteF ?_
      exact hr _ _ trivial
    · refine rd_tell (cnt := true) (fun R k => ⟨_, rfl, sz _ (by show 2 ≤ 100000; decide), fun l nl => ⟨sz _ (by show 2 ≤ 100000; decide), fun t nt => k _ _ _ _ _ ((same_upd nl).trans (same_upd nt)) (.inr ⟨l, [0, -1], rfl, same_upd nt _ _ upd_same, by decide, by decide⟩)⟩⟩) fun H1 s1 => ?_
      refine ⟨_, rfl, iteT ?_⟩
      refine rd_tell (cnt := true) (fun R k => ⟨Nat.zero_le _, fun l nl => ⟨sz _ (by show 2 ≤ 100000; decide), fun t nt => k _ _ _ _ _ ((same_upd nl).trans (same_upd nt)) (.inr ⟨l, [], rfl, same_upd nt _ _ upd_same, by decide, by decide⟩)⟩⟩) fun H2 s2 => ?_
      exact q _
end
end SM

namespace SM
open PySem L2 SMath
theorem kit_type {K : PySem.W.Frag} {C : Addr} {T : String} {b : Bool} (h : PySem.W.kitMeta T = true) (e : PySem.W.subIn K (.ref C) (.type T) = some b) : PySem.W.kitOne K (.ref C) (.type T) = some b := by
  unfold PySem.W.kitOne
  rw [if_neg (by intro z; cases beq_iff_eq.mp z)]
  show (if PySem.W.kitMeta T = true then _ else none) = _
  rw [if_pos h]
  exact e
theorem kit_ref {K : PySem.W.Frag} {C D : Addr} (e0 : PySem.W.subIn K (.ref C) (.ref C) = some true) (i : PySem.W.isClsIn K D = true) (t : PySem.W.typeIn K (.ref D) = some (.type "type")) (e : PySem.W.subIn K (.ref C) (.ref D) = some false) : PySem.W.kitOne K (.ref C) (.ref D) = some false := by
  unfold PySem.W.kitOne
  rw [if_neg (by
    intro z
    have z' := beq_iff_eq.mp z
    rw [← z', e0] at e
    cases e)]
  show (if ((PySem.W.clsIn K D).isSome && PySem.W.typeIn K (.ref D) == some (.type "type")) = true then _ else none) = _
  rw [if_pos (by rw [show (PySem.W.clsIn K D).isSome = true from i, t]; rfl)]
  exact e
theorem all_mk {l : PySem.W.OpenLaw} {w : World} {K : PySem.W.Frag} {h : Heap} {mg : Str → Option Value} {fa : Addr} (X : K.In h) (G : h.Ns mainGlobals mg) (hfa : mg "law" = some (.ref fa))
    {f0 : Addr} {oc0 kV0 dc0 pm0 cd0 ct0 : Value} {od0 an0 : Option Addr} {sl0 : Array (Option Value)}
    {f1 : Addr} {oc1 kV1 dc1 pm1 cd1 ct1 : Value} {od1 an1 : Option Addr} {sl1 : Array (Option Value)}
    {f2 : Addr} {oc2 kV2 dc2 pm2 cd2 ct2 : Value} {od2 an2 : Option Addr} {sl2 : Array (Option Value)}
    {f3 : Addr} {oc3 kV3 dc3 pm3 cd3 ct3 : Value} {od3 an3 : Option Addr} {sl3 : Array (Option Value)}
    {f4 : Addr} {oc4 kV4 dc4 pm4 cd4 ct4 : Value} {od4 an4 : Option Addr} {sl4 : Array (Option Value)}
    {f5 : Addr} {oc5 kV5 dc5 pm5 cd5 ct5 : Value} {od5 an5 : Option Addr} {sl5 : Array (Option Value)}
    {f6 : Addr} {oc6 kV6 dc6 pm6 cd6 ct6 : Value} {od6 an6 : Option Addr} {sl6 : Array (Option Value)}
    {f7 : Addr} {oc7 kV7 dc7 pm7 cd7 ct7 : Value} {od7 an7 : Option Addr} {sl7 : Array (Option Value)}
    {f8 : Addr} {oc8 kV8 dc8 pm8 cd8 ct8 : Value} {od8 an8 : Option Addr} {sl8 : Array (Option Value)}
    {f9 : Addr} {oc9 kV9 dc9 pm9 cd9 ct9 : Value} {od9 an9 : Option Addr} {sl9 : Array (Option Value)}
    {f10 : Addr} {oc10 kV10 dc10 pm10 cd10 ct10 : Value} {od10 an10 : Option Addr} {sl10 : Array (Option Value)}
    {f11 : Addr} {oc11 kV11 dc11 pm11 cd11 ct11 : Value} {od11 an11 : Option Addr} {sl11 : Array (Option Value)}
    {f12 : Addr} {oc12 kV12 dc12 pm12 cd12 ct12 : Value} {od12 an12 : Option Addr} {sl12 : Array (Option Value)}
    {cM cC cP cS : Addr}
    {f100 : Addr} {oc100 kV100 dc100 pm100 cd100 ct100 : Value} {od100 an100 : Option Addr} {sl100 : Array (Option Value)}
    {f101 : Addr} {oc101 kV101 dc101 pm101 cd101 ct101 : Value} {od101 an101 : Option Addr} {sl101 : Array (Option Value)}
    {f102 : Addr} {oc102 kV102 dc102 pm102 cd102 ct102 : Value} {od102 an102 : Option Addr} {sl102 : Array (Option Value)}
    {tM : Tok}
    (a0 : PySem.W.nsIn K mainGlobals "is_whole" = some (some (.ref f0)))
    (l0 : K.lookup f0 = some ⟨oc0, od0, .func (PySem.W.fnOf "is_whole" "is_whole" (defArgs s_is_whole) (defBody s_is_whole) (defScope s_is_whole) .none kV0 dc0 pm0 an0 cd0 ct0), sl0⟩) (c0 : PySem.W.codeIn K cd0 "is_whole" = true) (k0 : PySem.W.keepIn K (.ref f0) = true)
    (a1 : PySem.W.nsIn K mainGlobals "check_counts" = some (some (.ref f1)))
    (l1 : K.lookup f1 = some ⟨oc1, od1, .func (PySem.W.fnOf "check_counts" "check_counts" (defArgs s_check_counts) (defBody s_check_counts) (defScope s_check_counts) .none kV1 dc1 pm1 an1 cd1 ct1), sl1⟩) (c1 : PySem.W.codeIn K cd1 "check_counts" = true) (k1 : PySem.W.keepIn K (.ref f1) = true)
    (a2 : PySem.W.nsIn K mainGlobals "check_member_counts" = some (some (.ref f2)))
    (l2 : K.lookup f2 = some ⟨oc2, od2, .func (PySem.W.fnOf "check_member_counts" "check_member_counts" (defArgs s_check_member_counts) (defBody s_check_member_counts) (defScope s_check_member_counts) .none kV2 dc2 pm2 an2 cd2 ct2), sl2⟩) (c2 : PySem.W.codeIn K cd2 "check_member_counts" = true) (k2 : PySem.W.keepIn K (.ref f2) = true)
    (a3 : PySem.W.nsIn K mainGlobals "check_number" = some (some (.ref f3)))
    (l3 : K.lookup f3 = some ⟨oc3, od3, .func (PySem.W.fnOf "check_number" "check_number" (defArgs s_check_number) (defBody s_check_number) (defScope s_check_number) .none kV3 dc3 pm3 an3 cd3 ct3), sl3⟩) (c3 : PySem.W.codeIn K cd3 "check_number" = true) (k3 : PySem.W.keepIn K (.ref f3) = true)
    (a4 : PySem.W.nsIn K mainGlobals "check_place" = some (some (.ref f4)))
    (l4 : K.lookup f4 = some ⟨oc4, od4, .func (PySem.W.fnOf "check_place" "check_place" (defArgs s_check_place) (defBody s_check_place) (defScope s_check_place) .none kV4 dc4 pm4 an4 cd4 ct4), sl4⟩) (c4 : PySem.W.codeIn K cd4 "check_place" = true) (k4 : PySem.W.keepIn K (.ref f4) = true)
    (a5 : PySem.W.nsIn K mainGlobals "sets_from" = some (some (.ref f5)))
    (l5 : K.lookup f5 = some ⟨oc5, od5, .func (PySem.W.fnOf "sets_from" "sets_from" (defArgs s_sets_from) (defBody s_sets_from) (defScope s_sets_from) .none kV5 dc5 pm5 an5 cd5 ct5), sl5⟩) (c5 : PySem.W.codeIn K cd5 "sets_from" = true) (k5 : PySem.W.keepIn K (.ref f5) = true)
    (a6 : PySem.W.nsIn K mainGlobals "repeated" = some (some (.ref f6)))
    (l6 : K.lookup f6 = some ⟨oc6, od6, .func (PySem.W.fnOf "repeated" "repeated" (defArgs s_repeated) (defBody s_repeated) (defScope s_repeated) .none kV6 dc6 pm6 an6 cd6 ct6), sl6⟩) (c6 : PySem.W.codeIn K cd6 "repeated" = true) (k6 : PySem.W.keepIn K (.ref f6) = true)
    (a7 : PySem.W.nsIn K mainGlobals "_law_draws" = some (some (.ref f7)))
    (l7 : K.lookup f7 = some ⟨oc7, od7, .func (PySem.W.fnOf "_law_draws" "_law_draws" (defArgs s__law_draws) (defBody s__law_draws) (defScope s__law_draws) .none kV7 dc7 pm7 an7 cd7 ct7), sl7⟩) (c7 : PySem.W.codeIn K cd7 "_law_draws" = true) (k7 : PySem.W.keepIn K (.ref f7) = true)
    (a8 : PySem.W.nsIn K mainGlobals "_law_is_number" = some (some (.ref f8)))
    (l8 : K.lookup f8 = some ⟨oc8, od8, .func (PySem.W.fnOf "_law_is_number" "_law_is_number" (defArgs s__law_is_number) (defBody s__law_is_number) (defScope s__law_is_number) .none kV8 dc8 pm8 an8 cd8 ct8), sl8⟩) (c8 : PySem.W.codeIn K cd8 "_law_is_number" = true) (k8 : PySem.W.keepIn K (.ref f8) = true)
    (a9 : PySem.W.nsIn K mainGlobals "_law_sets" = some (some (.ref f9)))
    (l9 : K.lookup f9 = some ⟨oc9, od9, .func (PySem.W.fnOf "_law_sets" "_law_sets" (defArgs s__law_sets) (defBody s__law_sets) (defScope s__law_sets) .none kV9 dc9 pm9 an9 cd9 ct9), sl9⟩) (c9 : PySem.W.codeIn K cd9 "_law_sets" = true) (k9 : PySem.W.keepIn K (.ref f9) = true)
    (a10 : PySem.W.nsIn K mainGlobals "_law_chosen" = some (some (.ref f10)))
    (l10 : K.lookup f10 = some ⟨oc10, od10, .func (PySem.W.fnOf "_law_chosen" "_law_chosen" (defArgs s__law_chosen) (defBody s__law_chosen) (defScope s__law_chosen) .none kV10 dc10 pm10 an10 cd10 ct10), sl10⟩) (c10 : PySem.W.codeIn K cd10 "_law_chosen" = true) (k10 : PySem.W.keepIn K (.ref f10) = true)
    (a11 : PySem.W.nsIn K mainGlobals "_law_told" = some (some (.ref f11)))
    (l11 : K.lookup f11 = some ⟨oc11, od11, .func (PySem.W.fnOf "_law_told" "_law_told" (defArgs s__law_told) (defBody s__law_told) (defScope s__law_told) .none kV11 dc11 pm11 an11 cd11 ct11), sl11⟩) (c11 : PySem.W.codeIn K cd11 "_law_told" = true) (k11 : PySem.W.keepIn K (.ref f11) = true)
    (a12 : PySem.W.nsIn K mainGlobals "law" = some (some (.ref f12)))
    (l12 : K.lookup f12 = some ⟨oc12, od12, .func (PySem.W.fnOf "law" "law" (defArgs s_law) (defBody s_law) (defScope s_law) .none kV12 dc12 pm12 an12 cd12 ct12), sl12⟩) (c12 : PySem.W.codeIn K cd12 "law" = true) (k12 : PySem.W.keepIn K (.ref f12) = true)
    (a100 : PySem.W.findIn K (.ref cM) "__init__" = some (some (.ref f100))) (i100 : PySem.W.isFn K (.ref f100) = true)
    (l100 : K.lookup f100 = some ⟨oc100, od100, .func (PySem.W.fnOf "__init__" "Bags.__init__" (defArgs s_Bags_init) (defBody s_Bags_init) (defScope s_Bags_init) .none kV100 dc100 pm100 an100 cd100 ct100), sl100⟩) (c100 : PySem.W.codeIn K cd100 "Bags.__init__" = true) (k100 : PySem.W.keepIn K (.ref f100) = true)
    (a101 : PySem.W.findIn K (.ref cM) "with_allowed" = some (some (.ref f101))) (i101 : PySem.W.isFn K (.ref f101) = true)
    (l101 : K.lookup f101 = some ⟨oc101, od101, .func (PySem.W.fnOf "with_allowed" "Bags.with_allowed" (defArgs s_Bags_with_allowed) (defBody s_Bags_with_allowed) (defScope s_Bags_with_allowed) .none kV101 dc101 pm101 an101 cd101 ct101), sl101⟩) (c101 : PySem.W.codeIn K cd101 "Bags.with_allowed" = true) (k101 : PySem.W.keepIn K (.ref f101) = true)
    (a102 : PySem.W.findIn K (.ref cM) "exactly" = some (some (.ref f102))) (i102 : PySem.W.isFn K (.ref f102) = true)
    (l102 : K.lookup f102 = some ⟨oc102, od102, .func (PySem.W.fnOf "exactly" "Bags.exactly" (defArgs s_Bags_exactly) (defBody s_Bags_exactly) (defScope s_Bags_exactly) .none kV102 dc102 pm102 an102 cd102 ct102), sl102⟩) (c102 : PySem.W.codeIn K cd102 "Bags.exactly" = true) (k102 : PySem.W.keepIn K (.ref f102) = true)
    (n_isinstance : PySem.W.nsIn K mainGlobals "isinstance" = some none)
    (n_int : PySem.W.nsIn K mainGlobals "int" = some none)
    (n_bool : PySem.W.nsIn K mainGlobals "bool" = some none)
    (n_list : PySem.W.nsIn K mainGlobals "list" = some none)
    (n_tuple : PySem.W.nsIn K mainGlobals "tuple" = some none)
    (n_len : PySem.W.nsIn K mainGlobals "len" = some none)
    (n_abs : PySem.W.nsIn K mainGlobals "abs" = some none)
    (n_any : PySem.W.nsIn K mainGlobals "any" = some none)
    (n_sum : PySem.W.nsIn K mainGlobals "sum" = some none)
    (n_range : PySem.W.nsIn K mainGlobals "range" = some none)
    (n_max : PySem.W.nsIn K mainGlobals "max" = some none)
    (n_min : PySem.W.nsIn K mainGlobals "min" = some none)
    (m_comb : PySem.W.nsIn K mainGlobals "comb" = some (some (.builtin "math.comb")))
    (g_MOST_ITEMS : PySem.W.nsIn K mainGlobals "MOST_ITEMS" = some (some (.int 61 tM)))
    (g_Bags : PySem.W.nsIn K mainGlobals "Bags" = some (some (.ref cM)))
    (g_BadCounts : PySem.W.nsIn K mainGlobals "BadCounts" = some (some (.ref cC)))
    (g_BadPlace : PySem.W.nsIn K mainGlobals "BadPlace" = some (some (.ref cP)))
    (g_SpeciesError : PySem.W.nsIn K mainGlobals "SpeciesError" = some (some (.ref cS)))
    (M_pg : PySem.W.plainGet K cM Str.empty = true) (M_hd : PySem.W.hasDictIn K cM = true) (M_po : PySem.W.plainOver K cM = true) (M_sa : PySem.W.findIn K (.ref cM) "__setattr__" = some (some (.builtin "object.__setattr__"))) (M_mk : PySem.W.makesIn K cM = true) (M_kc : PySem.W.keepIn K (.ref cM) = true)
    (M_counts : PySem.W.findIn K (.ref cM) "counts" = some none)
    (M_tables : PySem.W.findIn K (.ref cM) "tables" = some none)
    (C_x : PySem.W.excIn K cC [.type "ValueError", .type "Exception", .type "BaseException", .type "object"] "ValueError.__new__" = true) (C_k : PySem.W.keepIn K (.ref cC) = true) (C_b : PySem.W.subIn K (.ref cC) (.type "BaseException") = some true) (C_t : PySem.W.typeIn K (.ref cC) = some (.type "type"))
    (C_ga : PySem.W.findIn K (.ref cC) "__getattribute__" = some (some (.builtin "BaseException.__getattribute__"))) (C_gt : PySem.W.findIn K (.ref cC) "__getattr__" = some none) (C_hd : PySem.W.hasDictIn K cC = true) (C_ca : PySem.W.findIn K (.ref cC) "__class__" = some (some (.builtin "object.__class__"))) (C_cm : PySem.W.mroIn K cC (.type "object") = some true)
    (C_s : PySem.W.subIn K (.ref cC) (.ref cS) = some true) (C_e : PySem.W.subIn K (.ref cC) (.ref cC) = some true) (C_i : PySem.W.isClsIn K cC = true)
    (P_x : PySem.W.excIn K cP [.type "ValueError", .type "Exception", .type "BaseException", .type "object"] "ValueError.__new__" = true) (P_k : PySem.W.keepIn K (.ref cP) = true) (P_b : PySem.W.subIn K (.ref cP) (.type "BaseException") = some true) (P_t : PySem.W.typeIn K (.ref cP) = some (.type "type"))
    (P_ga : PySem.W.findIn K (.ref cP) "__getattribute__" = some (some (.builtin "BaseException.__getattribute__"))) (P_gt : PySem.W.findIn K (.ref cP) "__getattr__" = some none) (P_hd : PySem.W.hasDictIn K cP = true) (P_ca : PySem.W.findIn K (.ref cP) "__class__" = some (some (.builtin "object.__class__"))) (P_cm : PySem.W.mroIn K cP (.type "object") = some true)
    (P_s : PySem.W.subIn K (.ref cP) (.ref cS) = some true) (P_e : PySem.W.subIn K (.ref cP) (.ref cP) = some true) (P_i : PySem.W.isClsIn K cP = true)
    (B_cn : PySem.W.specialIn K (.builtin "object.__class__") "__get__" = some (some (.builtin "getset_descriptor.__get__"))) (B_ct : PySem.W.takesIn K (.builtin "object.__class__") = some true) (J_cp : PySem.W.subIn K (.ref cC) (.ref cP) = some false) (J_pc : PySem.W.subIn K (.ref cP) (.ref cC) = some false)
    (S_b : PySem.W.subIn K (.ref cS) (.type "BaseException") = some true) (S_hd : PySem.W.hasDictIn K cS = true) (S_t : PySem.W.typeIn K (.ref cS) = some (.type "type")) :
    ∃ fd : FuncData, (∀ (s : Shared) (v : Value), BindsTo s fd ⟨[v], []⟩ [("script", v)]) ∧ ∀ base : Heap, K.In base → base.Ns mainGlobals mg → FnOk l.prog w K mg base CX0 7 fa fd ["script"] (spLaw K) := by
  have e := hfa.symm.trans (PySem.W.mg_of X G a12)
  cases e
  have F0 := fun_mk (st := s_is_whole) l0 c0 k0
  have D0 : Df K mg "is_whole" s_is_whole ["value"] := ⟨f0, _, PySem.W.mg_of X G a0, F0, F0.binds (ps := ["value"]) fun _ _ _ _ _ _ us hl => match us, hl with | [_], _ => rfl⟩
  have F1 := fun_mk (st := s_check_counts) l1 c1 k1
  have D1 : Df K mg "check_counts" s_check_counts ["counts"] := ⟨f1, _, PySem.W.mg_of X G a1, F1, F1.binds (ps := ["counts"]) fun _ _ _ _ _ _ us hl => match us, hl with | [_], _ => rfl⟩
  have F2 := fun_mk (st := s_check_member_counts) l2 c2 k2
  have D2 : Df K mg "check_member_counts" s_check_member_counts ["counts"] := ⟨f2, _, PySem.W.mg_of X G a2, F2, F2.binds (ps := ["counts"]) fun _ _ _ _ _ _ us hl => match us, hl with | [_], _ => rfl⟩
  have F3 := fun_mk (st := s_check_number) l3 c3 k3
  have D3 : Df K mg "check_number" s_check_number ["counts", "value"] := ⟨f3, _, PySem.W.mg_of X G a3, F3, F3.binds (ps := ["counts", "value"]) fun _ _ _ _ _ _ us hl => match us, hl with | [_, _], _ => rfl⟩
  have F4 := fun_mk (st := s_check_place) l4 c4 k4
  have D4 : Df K mg "check_place" s_check_place ["counts", "value"] := ⟨f4, _, PySem.W.mg_of X G a4, F4, F4.binds (ps := ["counts", "value"]) fun _ _ _ _ _ _ us hl => match us, hl with | [_, _], _ => rfl⟩
  have F5 := fun_mk (st := s_sets_from) l5 c5 k5
  have D5 : Df K mg "sets_from" s_sets_from ["counts", "members", "size", "first"] := ⟨f5, _, PySem.W.mg_of X G a5, F5, F5.binds (ps := ["counts", "members", "size", "first"]) fun _ _ _ _ _ _ us hl => match us, hl with | [_, _, _, _], _ => rfl⟩
  have F6 := fun_mk (st := s_repeated) l6 c6 k6
  have D6 : Df K mg "repeated" s_repeated ["allowed", "times"] := ⟨f6, _, PySem.W.mg_of X G a6, F6, F6.binds (ps := ["allowed", "times"]) fun _ _ _ _ _ _ us hl => match us, hl with | [_, _], _ => rfl⟩
  have F7 := fun_mk (st := s__law_draws) l7 c7 k7
  have D7 : Df K mg "_law_draws" s__law_draws ["script", "many"] := ⟨f7, _, PySem.W.mg_of X G a7, F7, F7.binds (ps := ["script", "many"]) fun _ _ _ _ _ _ us hl => match us, hl with | [_, _], _ => rfl⟩
  have F8 := fun_mk (st := s__law_is_number) l8 c8 k8
  have D8 : Df K mg "_law_is_number" s__law_is_number ["value"] := ⟨f8, _, PySem.W.mg_of X G a8, F8, F8.binds (ps := ["value"]) fun _ _ _ _ _ _ us hl => match us, hl with | [_], _ => rfl⟩
  have F9 := fun_mk (st := s__law_sets) l9 c9 k9
  have D9 : Df K mg "_law_sets" s__law_sets ["places", "members", "size"] := ⟨f9, _, PySem.W.mg_of X G a9, F9, F9.binds (ps := ["places", "members", "size"]) fun _ _ _ _ _ _ us hl => match us, hl with | [_, _, _], _ => rfl⟩
  have F10 := fun_mk (st := s__law_chosen) l10 c10 k10
  have D10 : Df K mg "_law_chosen" s__law_chosen ["count", "times"] := ⟨f10, _, PySem.W.mg_of X G a10, F10, F10.binds (ps := ["count", "times"]) fun _ _ _ _ _ _ us hl => match us, hl with | [_, _], _ => rfl⟩
  have F11 := fun_mk (st := s__law_told) l11 c11 k11
  have D11 : Df K mg "_law_told" s__law_told ["counts", "members", "size", "first"] := ⟨f11, _, PySem.W.mg_of X G a11, F11, F11.binds (ps := ["counts", "members", "size", "first"]) fun _ _ _ _ _ _ us hl => match us, hl with | [_, _, _, _], _ => rfl⟩
  have F12 := fun_mk (st := s_law) l12 c12 k12
  have F100 := fun_mk (st := s_Bags_init) l100 c100 k100
  have D100 : DfM K cM "__init__" "Bags.__init__" s_Bags_init ["self", "counts"] := ⟨f100, _, ⟨a100, i100, k100⟩, F100, F100.binds (ps := ["self", "counts"]) fun _ _ _ _ _ _ us hl => match us, hl with | [_, _], _ => rfl⟩
  have F101 := fun_mk (st := s_Bags_with_allowed) l101 c101 k101
  have D101 : DfM K cM "with_allowed" "Bags.with_allowed" s_Bags_with_allowed ["self", "least", "allowed", "members", "size"] := ⟨f101, _, ⟨a101, i101, k101⟩, F101, F101.binds (ps := ["self", "least", "allowed", "members", "size"]) fun _ _ _ _ _ _ us hl => match us, hl with | [_, _, _, _, _], _ => rfl⟩
  have F102 := fun_mk (st := s_Bags_exactly) l102 c102 k102
  have D102 : DfM K cM "exactly" "Bags.exactly" s_Bags_exactly ["self", "members", "size", "first"] := ⟨f102, _, ⟨a102, i102, k102⟩, F102, F102.binds (ps := ["self", "members", "size", "first"]) fun _ _ _ _ _ _ us hl => match us, hl with | [_, _, _, _], _ => rfl⟩
  have T : Tx K mg ⟨cM, cC, cP, cS, .int 61 tM⟩ := ⟨PySem.W.mg_none_of X G n_isinstance, PySem.W.mg_none_of X G n_int, PySem.W.mg_none_of X G n_bool, PySem.W.mg_none_of X G n_list, PySem.W.mg_none_of X G n_tuple, PySem.W.mg_none_of X G n_len, PySem.W.mg_none_of X G n_abs, PySem.W.mg_none_of X G n_any, PySem.W.mg_none_of X G n_sum, PySem.W.mg_none_of X G n_range, PySem.W.mg_none_of X G n_max, PySem.W.mg_none_of X G n_min, PySem.W.mg_of X G m_comb, PySem.W.mg_of X G g_MOST_ITEMS, ⟨_, rfl⟩, ⟨PySem.W.mg_of X G g_BadCounts, C_x, C_k, C_b, C_t⟩, ⟨PySem.W.mg_of X G g_BadPlace, P_x, P_k, P_b, P_t⟩, PySem.W.mg_of X G g_Bags, ⟨M_pg, M_hd, M_po, M_sa⟩, M_counts, M_tables⟩
  have kk : ∀ c : Addr, PySem.W.kitOne K (.ref c) (.ref c) = some true := fun c => by (unfold PySem.W.kitOne; rw [if_pos (beq_self_eq_true _)])
  have XX : Ex K mg ⟨cM, cC, cP, cS, .int 61 tM⟩ := ⟨PySem.W.mg_of X G g_SpeciesError, ⟨C_ga, C_gt, C_b, C_hd, C_ca, B_cn, B_ct, C_cm⟩, ⟨P_ga, P_gt, P_b, P_hd, P_ca, B_cn, B_ct, P_cm⟩, PySem.W.exm_ref S_b S_hd S_t C_s, PySem.W.exm_ref S_b S_hd S_t P_s, kk cC, kit_ref C_e P_i P_t J_cp, kit_ref P_e C_i C_t J_pc, kk cP⟩
  refine ⟨PySem.W.fnOf "law" "law" (defArgs s_law) (defBody s_law) (defScope s_law) .none kV12 dc12 pm12 an12 cd12 ct12, fun s v => .of_eq rfl, fun base _ _ => ?_⟩
  have c1 := ok_is_whole (P := l.prog) (w := w) (base := base) T D0
  have c2 := ok_check T D1 c1
  have c3 := ok_mc T D2 c2
  have c4 := ok_num T D3 c1
  have c5 := ok_place T D4 c1 c4
  have c6 := ok_rep (P := l.prog) (w := w) (base := base) T D6
  have c7 := ok_wa T D101 c6
  have c8 := ok_ex T D102 c7
  have c9 := ok_binit T D100 c7
  obtain ⟨fi, fdi, mi, bi, gi⟩ := c9.ex
  have c10 := ok_sets T D5 c3 c4 c5 ⟨fi, ⟨M_mk, mi.at_, mi.fn, M_kc⟩, fdi, bi, gi⟩ c8
  have c11 := ok_draws (P := l.prog) (w := w) (base := base) T D7
  have c12 := ok_number (P := l.prog) (w := w) (base := base) T D8
  have c13 := ok_lsets (P := l.prog) (w := w) (base := base) T D9
  have c14 := ok_chosen (P := l.prog) (w := w) (base := base) T D10
  have c15 := ok_told T XX D11 c10
  exact ok_law T F12 c11 c10 c12 c13 c14 c15
theorem walk {l : PySem.W.OpenLaw} {q : Program} {loose : List Str} {XP : (Str → Option Value) → Heap → Prop} {YP : World → Heap → Prop} {d : DefRec} {K : Params → PySem.W.Frag} (hn : l.most = some 63) (hdf : d.params.defaults = [])
    (hY : ∀ (w : World) (h : Heap), YP w h → (K w.params).In h)
    (F : ∀ (w : World) (mg : Str → Option Value) (fa : Addr) (h : Heap), (K w.params).In h → h.Ns mainGlobals mg → mg d.name = some (.ref fa) →
      ∃ fd : FuncData, (∀ (s : Shared) (u : Value), BindsTo s fd ⟨[u], []⟩ [("script", u)]) ∧ ∀ base : Heap, (K w.params).In base → base.Ns mainGlobals mg → FnOk l.prog w (K w.params) mg base CX0 7 fa fd ["script"] (spLaw (K w.params))) :
    PySem.W.WalkO q loose XP YP l.row.toRowW d [] (fun f vs => PySem.call f vs) :=
  L2.walk_of (n := 63) (k := 7) (x := "script") (CX := fun _ => CX0) (sp := fun w => spLaw (K w.params)) hn (by decide) hdf ⟨rfl, by decide, by decide⟩ hY F (fun _ _ a ns hl _ hS => ⟨a, ns, rfl, hS, hl, fun _ => rfl⟩) fun _ _ _ _ _ z => z
end SM

open PySem PySem.W PyProof.Rows
set_option maxRecDepth 100000 in
set_option maxHeartbeats 0 in
theorem PySem.Challenge.cw_speciesmill_k41_sets_from_a_place_on_holds : PySem.Challenge.rw_speciesmill_k41_sets_from_a_place_on.Holds := by
  w_on; o_law; k_head; (case hw => w_witness2)
  k_fill
  refine SM.walk (l := PySem.Challenge.rw_speciesmill_k41_sets_from_a_place_on) rfl rfl (fun w h Y => PySem.W.kIn_of Y) ?F
  case F =>
    intro w mg fa h KX G hmg
    refine' SM.all_mk KX G hmg ?a0 ?l0 ?c0 ?k0 ?a1 ?l1 ?c1 ?k1 ?a2 ?l2 ?c2 ?k2 ?a3 ?l3 ?c3 ?k3 ?a4 ?l4 ?c4 ?k4 ?a5 ?l5 ?c5 ?k5 ?a6 ?l6 ?c6 ?k6 ?a7 ?l7 ?c7 ?k7 ?a8 ?l8 ?c8 ?k8 ?a9 ?l9 ?c9 ?k9 ?a10 ?l10 ?c10 ?k10 ?a11 ?l11 ?c11 ?k11 ?a12 ?l12 ?c12 ?k12 ?a100 ?i100 ?l100 ?c100 ?k100 ?a101 ?i101 ?l101 ?c101 ?k101 ?a102 ?i102 ?l102 ?c102 ?k102 ?n_isinstance ?n_int ?n_bool ?n_list ?n_tuple ?n_len ?n_abs ?n_any ?n_sum ?n_range ?n_max ?n_min ?m_comb ?g_MOST_ITEMS ?g_Bags ?g_BadCounts ?g_BadPlace ?g_SpeciesError ?M_pg ?M_hd ?M_po ?M_sa ?M_mk ?M_kc ?M_counts ?M_tables ?C_x ?C_k ?C_b ?C_t ?C_ga ?C_gt ?C_hd ?C_ca ?C_cm ?C_s ?C_e ?C_i ?P_x ?P_k ?P_b ?P_t ?P_ga ?P_gt ?P_hd ?P_ca ?P_cm ?P_s ?P_e ?P_i ?B_cn ?B_ct ?J_cp ?J_pc ?S_b ?S_hd ?S_t
    (case g_Bags => k_is); (case g_BadCounts => k_is); (case g_BadPlace => k_is); (case g_SpeciesError => k_is); (case a0 => k_is); (case l0 => k_is); (case c0 => k_is); (case k0 => k_is)
    (case a1 => k_is); (case l1 => k_is); (case c1 => k_is); (case k1 => k_is); (case a2 => k_is); (case l2 => k_is); (case c2 => k_is); (case k2 => k_is)
    (case a3 => k_is); (case l3 => k_is); (case c3 => k_is); (case k3 => k_is); (case a4 => k_is); (case l4 => k_is); (case c4 => k_is); (case k4 => k_is)
    (case a5 => k_is); (case l5 => k_is); (case c5 => k_is); (case k5 => k_is); (case a6 => k_is); (case l6 => k_is); (case c6 => k_is); (case k6 => k_is)
    (case a7 => k_is); (case l7 => k_is); (case c7 => k_is); (case k7 => k_is); (case a8 => k_is); (case l8 => k_is); (case c8 => k_is); (case k8 => k_is)
    (case a9 => k_is); (case l9 => k_is); (case c9 => k_is); (case k9 => k_is); (case a10 => k_is); (case l10 => k_is); (case c10 => k_is); (case k10 => k_is)
    (case a11 => k_is); (case l11 => k_is); (case c11 => k_is); (case k11 => k_is); (case a12 => k_is); (case l12 => k_is); (case c12 => k_is); (case k12 => k_is)
    (case a100 => k_is); (case i100 => k_is); (case l100 => k_is); (case c100 => k_is); (case k100 => k_is); (case a101 => k_is); (case i101 => k_is); (case l101 => k_is)
    (case c101 => k_is); (case k101 => k_is); (case a102 => k_is); (case i102 => k_is); (case l102 => k_is); (case c102 => k_is); (case k102 => k_is); (case n_isinstance => k_is)
    (case n_int => k_is); (case n_bool => k_is); (case n_list => k_is); (case n_tuple => k_is); (case n_len => k_is); (case n_abs => k_is); (case n_any => k_is); (case n_sum => k_is)
    (case n_range => k_is); (case n_max => k_is); (case n_min => k_is); (case m_comb => k_is); (case g_MOST_ITEMS => k_is); (case M_pg => k_is); (case M_hd => k_is); (case M_po => k_is)
    (case M_sa => k_is); (case M_mk => k_is); (case M_kc => k_is); (case M_counts => k_is); (case M_tables => k_is); (case C_x => k_exc); (case C_k => k_is); (case C_b => k_is)
    (case C_t => k_is); (case C_ga => k_is); (case C_gt => k_is); (case C_hd => k_is); (case C_ca => k_is); (case C_cm => k_is); (case C_s => first | k_is | rfl); (case C_e => first | k_is | rfl)
    (case C_i => k_is); (case P_x => k_exc); (case P_k => k_is); (case P_b => k_is); (case P_t => k_is); (case P_ga => k_is); (case P_gt => k_is); (case P_hd => k_is)
    (case P_ca => k_is); (case P_cm => k_is); (case P_s => first | k_is | rfl); (case P_e => first | k_is | rfl); (case P_i => k_is); (case B_cn => k_is); (case B_ct => k_is); (case J_cp => k_is)
    (case J_pc => k_is); (case S_b => k_is); (case S_hd => k_is); (case S_t => k_is)
#print axioms PySem.Challenge.cw_speciesmill_k41_sets_from_a_place_on_holds

