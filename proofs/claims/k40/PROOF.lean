import PyProof.Rows.All
import Wide.All
import OpenK.AllK
import Wide.FinOn
import HandS.ForExc
import HandS.Comp
import HandS.Iter
import HandS.Gcd
import HandS.IsInst
import HandS.ExcIs
import HandS.Flow
import HandS.Wide
import HandS.Conv
import KE.KMathGC
import HandS.TupAny
import HandS.EndTab
import KE.KNestM
import PySem.Challenge.RW_speciesmill_k40_subsets_in_order
import HandS.SortRule
import HandS.SortInts
import HandS.Lambda
import HandS.Nested
import KE.GoesEnum
set_option Elab.async false
set_option linter.all false
set_option maxRecDepth 100000
set_option maxHeartbeats 4000000
namespace SM
open PySem L2
def topS (i : Nat) : Stmt := PySem.Challenge.pw_speciesmill_k40_subsets_in_order.main.body.getD i (.Pass ⟨0, 0, 0, 0⟩)
abbrev s_is_whole : Stmt := topS 5
theorem sc_is_whole : FnScope ["value"] ["value"] (defScope s_is_whole) := ⟨rfl, rfl, rfl, by decide +kernel, rfl, by decide +kernel, by decide +kernel⟩
abbrev s_greatest : Stmt := topS 6
theorem sc_greatest : FnScope ["low", "high", "fits", "middle"] ["low", "high", "fits"] (defScope s_greatest) := ⟨rfl, rfl, rfl, by decide +kernel, rfl, by decide +kernel, by decide +kernel⟩
abbrev s_subset_at : Stmt := topS 8
theorem sc_subset_at : FnScope ["size", "members", "index", "found", "last", "rest", "remaining", "number", "value"] ["size", "members", "index"] (defScope s_subset_at) := ⟨rfl, rfl, rfl, by decide +kernel, rfl, by decide +kernel, by decide +kernel⟩
abbrev s_subset_index : Stmt := topS 9
theorem sc_subset_index : FnScope ["size", "subset", "index", "last", "at", "number"] ["size", "subset"] (defScope s_subset_index) := ⟨rfl, rfl, rfl, by decide +kernel, rfl, by decide +kernel, by decide +kernel⟩
abbrev s__before : Stmt := topS 10
theorem sc__before : FnScope ["size", "last", "members", "number"] ["size", "last", "members", "number"] (defScope s__before) := ⟨rfl, rfl, rfl, by decide +kernel, rfl, by decide +kernel, by decide +kernel⟩
abbrev s__number_at : Stmt := topS 11
theorem sc__number_at : FnScope ["size", "last", "members", "index"] ["size", "last", "members", "index"] (defScope s__number_at) := ⟨rfl, rfl, rfl, by decide +kernel, rfl, by decide +kernel, by decide +kernel⟩
abbrev s__law_draws : Stmt := topS 13
theorem sc__law_draws : FnScope ["script", "many", "draws", "at", "cell", "number", "k"] ["script", "many"] (defScope s__law_draws) := ⟨rfl, rfl, rfl, by decide +kernel, rfl, by decide +kernel, by decide +kernel⟩
abbrev s__law_is_number : Stmt := topS 14
theorem sc__law_is_number : FnScope ["value"] ["value"] (defScope s__law_is_number) := ⟨rfl, rfl, rfl, by decide +kernel, rfl, by decide +kernel, by decide +kernel⟩
abbrev s__law_all : Stmt := topS 15
theorem sc__law_all : FnScope ["size", "members", "found", "number", "longer", "one"] ["size", "members"] (defScope s__law_all) := ⟨rfl, rfl, rfl, by decide +kernel, rfl, by decide +kernel, by decide +kernel⟩
abbrev s__law_choose : Stmt := topS 16
theorem sc__law_choose : FnScope ["size", "rows", "k", "last", "j"] ["size"] (defScope s__law_choose) := ⟨rfl, rfl, rfl, by decide +kernel, rfl, by decide +kernel, by decide +kernel⟩
abbrev s__law_before : Stmt := topS 17
theorem sc__law_before : FnScope ["size", "subset", "rows", "total", "number", "left", "one"] ["size", "subset"] (defScope s__law_before) := ⟨rfl, rfl, rfl, by decide +kernel, rfl, by decide +kernel, by decide +kernel⟩
abbrev s__law_at_refused : Stmt := topS 18
theorem sc__law_at_refused : FnScope ["size", "members", "index", "e"] ["size", "members", "index"] (defScope s__law_at_refused) := ⟨rfl, rfl, rfl, by decide +kernel, rfl, by decide +kernel, by decide +kernel⟩
abbrev s__law_index_refused : Stmt := topS 19
theorem sc__law_index_refused : FnScope ["size", "subset", "e"] ["size", "subset"] (defScope s__law_index_refused) := ⟨rfl, rfl, rfl, by decide +kernel, rfl, by decide +kernel, by decide +kernel⟩
abbrev s_law : Stmt := topS 20
theorem sc_law : FnScope ["script", "draws", "size", "members", "due", "k", "told", "great", "subset", "index", "last", "many", "number"] ["script"] (defScope s_law) := ⟨rfl, rfl, rfl, by decide +kernel, rfl, by decide +kernel, by decide +kernel⟩
end SM

/-! Sums, the binomial convolution, and sets without labels: plain mathematics. -/
namespace SMath
def S : Nat → (Nat → Int) → Int
  | 0, _ => 0
  | n + 1, f => S n f + f n
theorem S_list (n : Nat) (f : Nat → Int) : ((List.range n).map f).sum = S n f := by
  induction n with
  | zero => rfl
  | succ n ih => rw [List.range_succ, List.map_append, List.sum_append, ih]; simp [S]
theorem S_congr {n : Nat} {f g : Nat → Int} (h : ∀ i, i < n → f i = g i) : S n f = S n g := by
  induction n with
  | zero => rfl
  | succ n ih => rw [S, S, ih fun i hi => h i (Nat.lt_succ_of_lt hi), h n (Nat.lt_succ_self n)]
theorem S_add (n : Nat) (f g : Nat → Int) : S n (fun i => f i + g i) = S n f + S n g := by
  induction n with
  | zero => rfl
  | succ n ih => rw [S, S, S, ih]; omega
theorem S_mul (n : Nat) (c : Int) (f : Nat → Int) : S n (fun i => c * f i) = c * S n f := by
  induction n with
  | zero => simp [S]
  | succ n ih => rw [S, S, ih, Int.mul_add]
theorem S_zero (n : Nat) : S n (fun _ => 0) = 0 := by
  induction n with
  | zero => rfl
  | succ n ih => rw [S, ih]; rfl
theorem S_zero' {n : Nat} {f : Nat → Int} (h : ∀ i, i < n → f i = 0) : S n f = 0 := (S_congr h).trans (S_zero n)
theorem S_first (n : Nat) (f : Nat → Int) : S (n + 1) f = f 0 + S n (fun i => f (i + 1)) := by
  induction n with
  | zero => simp [S]
  | succ n ih => rw [S, ih, S]; omega
theorem S_ext {n k : Nat} {f : Nat → Int} (h : ∀ i, n ≤ i → i < n + k → f i = 0) : S (n + k) f = S n f := by
  induction k with
  | zero => rfl
  | succ k ih => rw [← Nat.add_assoc, S, ih fun i a b => h i a (by omega), h (n + k) (by omega) (by omega)]; omega
theorem S_ext' {n m : Nat} {f : Nat → Int} (hm : n ≤ m) (h : ∀ i, n ≤ i → i < m → f i = 0) : S m f = S n f := by
  obtain ⟨k, rfl⟩ := Nat.exists_eq_add_of_le hm
  exact S_ext h
theorem S_swap (n m : Nat) (f : Nat → Nat → Int) : S n (fun i => S m (f i)) = S m (fun j => S n (fun i => f i j)) := by
  induction n with
  | zero => simp [S, S_zero]
  | succ n ih => rw [S, ih, ← S_add]; rfl
/-! ### binomials -/
def bin : Nat → Nat → Int
  | _, 0 => 1
  | 0, _ + 1 => 0
  | n + 1, k + 1 => bin n k + bin n (k + 1)
theorem bin_0 (n : Nat) : bin n 0 = 1 := by cases n <;> rfl
theorem bin_gt : ∀ {n k : Nat}, n < k → bin n k = 0
  | 0, k + 1, _ => rfl
  | n + 1, k + 1, h => by rw [bin, bin_gt (by omega), bin_gt (by omega)]; rfl
/-! ### the convolution with binomials -/
def bc (f g : Nat → Int) (n : Nat) : Int := S (n + 1) fun k => bin n k * f k * g (n - k)
def dl (f : Nat → Int) : Nat → Int := fun n => f (n + 1)
theorem bc_dl (f g : Nat → Int) (n : Nat) : bc f g (n + 1) = bc (dl f) g n + bc f (dl g) n := by
  have e1 : bc f g (n + 1) = f 0 * g (n + 1) + (S (n + 1) (fun k => bin n k * f (k + 1) * g (n - k)) + S (n + 1) (fun k => bin n (k + 1) * f (k + 1) * g (n - k))) := by
    unfold bc
    rw [S_first, ← S_add]
    have a : bin (n + 1) 0 * f 0 * g (n + 1 - 0) = f 0 * g (n + 1) := by rw [bin_0, Int.one_mul]; rfl
    have b : S (n + 1) (fun i => bin (n + 1) (i + 1) * f (i + 1) * g (n + 1 - (i + 1))) = S (n + 1) (fun k => bin n k * f (k + 1) * g (n - k) + bin n (k + 1) * f (k + 1) * g (n - k)) := S_congr fun i _ => by
      rw [bin, Int.add_mul, Int.add_mul, Nat.add_sub_add_right]
    rw [a, b]
  have e2 : bc f (dl g) n = f 0 * g (n + 1) + S (n + 1) (fun k => bin n (k + 1) * f (k + 1) * g (n - k)) := by
    have a : bc f (dl g) n = S (n + 2) (fun k => bin n k * f k * g (n + 1 - k)) := by
      rw [S, bin_gt (Nat.lt_succ_self n), Int.zero_mul, Int.zero_mul, Int.add_zero]
      unfold bc dl
      exact S_congr fun i hi => by rw [show n - i + 1 = n + 1 - i by omega]
    rw [a, S_first, bin_0, Int.one_mul]
    show f 0 * g (n + 1) + _ = _
    congr 1
    exact S_congr fun i _ => by rw [Nat.add_sub_add_right]
  rw [e1, e2]
  unfold bc dl
  omega
theorem bc_0 (f g : Nat → Int) : bc f g 0 = f 0 * g 0 := by
  unfold bc
  simp [S, bin_0]
theorem bc_left (n : Nat) : ∀ f g h : Nat → Int, bc f (bc g h) n = bc g (bc f h) n := by
  induction n with
  | zero =>
    intro f g h
    rw [bc_0, bc_0, bc_0, bc_0, ← Int.mul_assoc, ← Int.mul_assoc, Int.mul_comm (f 0)]
  | succ n ih =>
    intro f g h
    have e : ∀ f g h : Nat → Int, bc f (bc g h) (n + 1) = bc (dl f) (bc g h) n + (bc f (bc (dl g) h) n + bc f (bc g (dl h)) n) := by
      intro f g h
      rw [bc_dl]
      congr 1
      have : ∀ k, dl (bc g h) k = bc (dl g) h k + bc g (dl h) k := fun k => bc_dl g h k
      unfold bc at this ⊢
      rw [← S_add]
      refine S_congr fun i _ => ?_
      rw [this, Int.mul_add]
    rw [e, e, ih (dl f) g h, ih f (dl g) h, ih f g (dl h)]
    omega
theorem bc_mul (f g : Nat → Int) (c : Int) (n : Nat) : bc f (fun k => c * g k) n = c * bc f g n := by
  unfold bc
  rw [← S_mul]
  exact S_congr fun i _ => by rw [← Int.mul_assoc, Int.mul_comm (bin n i * f i) c, Int.mul_assoc]
theorem bc_congr {f g h k : Nat → Int} {n : Nat} (h1 : ∀ i, i ≤ n → f i = h i) (h2 : ∀ i, i ≤ n → g i = k i) : bc f g n = bc h k n := by
  unfold bc
  exact S_congr fun i hi => by rw [h1 i (by omega), h2 (n - i) (by omega)]
/-- rows of m labelled members -/
def R (c : Nat → Int) : Nat → Nat → Int
  | 0 => fun n => if n = 0 then 1 else 0
  | m + 1 => bc c (R c m)
/-- the row with the least label taken off -/
theorem R_dl (c : Nat → Int) : ∀ m n, R c (m + 1) (n + 1) = ((m : Int) + 1) * bc (dl c) (R c m) n
  | 0, n => by
    show bc c (R c 0) (n + 1) = _
    rw [bc_dl]
    have e : bc c (dl (R c 0)) n = 0 := by
      unfold bc
      refine S_zero' fun i _ => ?_
      show _ * (if n - i + 1 = 0 then (1 : Int) else 0) = 0
      rw [if_neg (by omega), Int.mul_zero]
    rw [e]
    simp
  | m + 1, n => by
    show bc c (R c (m + 1)) (n + 1) = _
    rw [bc_dl]
    have e : bc c (dl (R c (m + 1))) n = ((m : Int) + 1) * bc (dl c) (R c (m + 1)) n := by
      have : ∀ k, dl (R c (m + 1)) k = ((m : Int) + 1) * bc (dl c) (R c m) k := fun k => R_dl c m k
      rw [bc_congr (fun _ _ => rfl) (fun k _ => this k), bc_mul, bc_left]
      rfl
    rw [e]
    have : ((m + 1 : Nat) : Int) = (m : Int) + 1 := by omega
    rw [this, Int.add_mul ((m : Int) + 1) 1, Int.one_mul]
    omega
end SMath

namespace SMath
/-! ### series shifted -/
def sh (s : Nat) (f : Nat → Int) (n : Nat) : Int := if s ≤ n then f (n - s) else 0
theorem sh_0 (f : Nat → Int) : sh 0 f = f := by
  funext n
  unfold sh
  rw [if_pos (Nat.zero_le n), Nat.sub_zero]
theorem sh_sh (s t : Nat) (f : Nat → Int) : sh s (sh t f) = sh (t + s) f := by
  funext n
  unfold sh
  by_cases h1 : s ≤ n
  · rw [if_pos h1]
    by_cases h2 : t ≤ n - s
    · rw [if_pos h2, if_pos (by omega), show n - s - t = n - (t + s) by omega]
    · rw [if_neg h2, if_neg (by omega)]
  · rw [if_neg h1, if_neg (by omega)]
theorem sh_add (s : Nat) (f g : Nat → Int) : sh s (fun n => f n + g n) = fun n => sh s f n + sh s g n := by
  funext n
  unfold sh
  split <;> simp
theorem sh_mul (s : Nat) (c : Int) (f : Nat → Int) : sh s (fun n => c * f n) = fun n => c * sh s f n := by
  funext n
  unfold sh
  split <;> simp
theorem sh_S (s k : Nat) (f : Nat → Nat → Int) : sh s (fun n => S k (fun i => f i n)) = fun n => S k (fun i => sh s (f i) n) := by
  funext n
  unfold sh
  split
  · rfl
  · rw [S_zero]
/-! ### the recurrence by members -/
structure Op (P : Nat → (Nat → Int) → Nat → Int) : Prop where
  add : ∀ e f g, P e (fun n => f n + g n) = fun n => P e f n + P e g n
  comm : ∀ e s f, P e (sh s f) = sh s (P e f)
def Rec (P : Nat → (Nat → Int) → Nat → Int) (B : Nat → Nat → Int) : Prop := ∀ (m n : Nat), ((m : Int) + 1) * B (m + 1) n = S (m + 1) fun e => P (e + 1) (B (m - e)) n
def geo (s : Nat) (B : Nat → Nat → Int) : Nat → Nat → Int
  | 0 => B 0
  | m + 1 => fun n => B (m + 1) n + sh s (geo s B m) n
theorem op_step {P : Nat → (Nat → Int) → Nat → Int} (hP : Op P) (s : Nat) : Op fun e f n => P e f n + sh (e * s) f n := by
  refine ⟨fun e f g => ?_, fun e t f => ?_⟩
  · funext n
    rw [hP.add, sh_add]
    dsimp only
    omega
  · funext n
    rw [sh_add, hP.comm, sh_sh, sh_sh, Nat.add_comm t]
theorem rec_step {P : Nat → (Nat → Int) → Nat → Int} {B : Nat → Nat → Int} (hP : Op P) (hB : Rec P B) (s : Nat) : Rec (fun e f n => P e f n + sh (e * s) f n) (geo s B) := by
  intro m
  induction m with
  | zero =>
    intro n
    have h := hB 0 n
    simp only [S, Int.zero_add, Nat.sub_self, Nat.sub_zero] at h ⊢
    show ((0 : Nat) + 1 : Int) * (B 1 n + sh s (B 0) n) = P 1 (B 0) n + sh (1 * s) (B 0) n
    have h' : B 1 n = P 1 (B 0) n := by simpa using h
    rw [h', Nat.one_mul]
    simp
  | succ m ih =>
    intro n
    -- the first part of the right side
    have a1 : S (m + 2) (fun e => P (e + 1) (geo s B (m + 1 - e)) n) = S (m + 2) (fun e => P (e + 1) (B (m + 1 - e)) n) + S (m + 1) (fun e => sh s (P (e + 1) (geo s B (m - e))) n) := by
      rw [S, show S (m + 2) (fun e => P (e + 1) (B (m + 1 - e)) n) = S (m + 1) (fun e => P (e + 1) (B (m + 1 - e)) n) + P (m + 1 + 1) (B (m + 1 - (m + 1))) n from rfl, Nat.sub_self]
      have : S (m + 1) (fun e => P (e + 1) (geo s B (m + 1 - e)) n) = S (m + 1) (fun e => P (e + 1) (B (m + 1 - e)) n) + S (m + 1) (fun e => sh s (P (e + 1) (geo s B (m - e))) n) := by
        rw [← S_add]
        refine S_congr fun e he => ?_
        rw [show m + 1 - e = (m - e) + 1 by omega]
        show P (e + 1) (fun n => B (m - e + 1) n + sh s (geo s B (m - e)) n) n = _
        rw [hP.add, hP.comm]
      rw [this]
      show _ + P (m + 1 + 1) (B 0) n = _
      omega
    have a2 : S (m + 2) (fun e => sh ((e + 1) * s) (geo s B (m + 1 - e)) n) = sh s (geo s B (m + 1)) n + S (m + 1) (fun e => sh s (sh ((e + 1) * s) (geo s B (m - e))) n) := by
      rw [S_first, Nat.zero_add, Nat.one_mul, Nat.sub_zero]
      congr 1
      refine S_congr fun e _ => ?_
      rw [sh_sh, Nat.add_sub_add_right, show (e + 1 + 1) * s = (e + 1) * s + s by rw [Nat.succ_mul (e + 1)]]
    have a3 : S (m + 1) (fun e => sh s (P (e + 1) (geo s B (m - e))) n) + S (m + 1) (fun e => sh s (sh ((e + 1) * s) (geo s B (m - e))) n) = ((m : Int) + 1) * sh s (geo s B (m + 1)) n := by
      have h : (fun n => ((m : Int) + 1) * geo s B (m + 1) n) = fun n => S (m + 1) fun e => P (e + 1) (geo s B (m - e)) n + sh ((e + 1) * s) (geo s B (m - e)) n := funext fun n => ih n
      have h2 := congrFun (congrArg (sh s) h) n
      rw [sh_mul, sh_S] at h2
      have h2' : ((m : Int) + 1) * sh s (geo s B (m + 1)) n = S (m + 1) fun e => sh s (fun n => P (e + 1) (geo s B (m - e)) n + sh ((e + 1) * s) (geo s B (m - e)) n) n := h2
      rw [h2', ← S_add]
      refine S_congr fun e _ => ?_
      rw [sh_add]
    have h := hB (m + 1) n
    rw [S_add, a1, a2, ← h]
    have hc : ((m + 1 : Nat) : Int) = (m : Int) + 1 := by omega
    rw [hc]
    show ((m : Int) + 1 + 1) * (B (m + 1 + 1) n + sh s (geo s B (m + 1)) n) = _
    rw [Int.mul_add]
    have h5 : ((m : Int) + 1 + 1) * sh s (geo s B (m + 1)) n = ((m : Int) + 1) * sh s (geo s B (m + 1)) n + sh s (geo s B (m + 1)) n := by rw [Int.add_mul ((m : Int) + 1) 1, Int.one_mul]
    rw [h5, ← a3]
    omega
/-! ### the bag -/
def geoN (s : Nat) : Nat → (Nat → Nat → Int) → Nat → Nat → Int
  | 0, B => B
  | v + 1, B => geo s (geoN s v B)
def d2 : Nat → Nat → Int := fun m n => if m = 0 ∧ n = 0 then 1 else 0
def bag (c : Nat → Nat) : Nat → Nat → Nat → Int
  | 0 => d2
  | L + 1 => geoN (L + 1) (c (L + 1)) (bag c L)
def Pc (c : Nat → Nat) (L e : Nat) (f : Nat → Int) (n : Nat) : Int := S L fun i => (c (i + 1) : Int) * sh (e * (i + 1)) f n
theorem op_Pc (c : Nat → Nat) (L : Nat) : Op (Pc c L) := by
  refine ⟨fun e f g => ?_, fun e s f => ?_⟩
  · funext n
    unfold Pc
    rw [← S_add]
    refine S_congr fun i _ => ?_
    rw [sh_add, Int.mul_add]
  · funext n
    show S L (fun i => (c (i + 1) : Int) * sh (e * (i + 1)) (sh s f) n) = sh s (fun n => S L fun i => (c (i + 1) : Int) * sh (e * (i + 1)) f n) n
    rw [sh_S]
    refine S_congr fun i _ => ?_
    rw [sh_mul, sh_sh, sh_sh, Nat.add_comm s]
theorem rec_geoN {P : Nat → (Nat → Int) → Nat → Int} {B : Nat → Nat → Int} (hP : Op P) (hB : Rec P B) (s : Nat) : ∀ v : Nat, Op (fun e f n => P e f n + (v : Int) * sh (e * s) f n) ∧ Rec (fun e f n => P e f n + (v : Int) * sh (e * s) f n) (geoN s v B)
  | 0 => by
    have e : (fun (e : Nat) (f : Nat → Int) (n : Nat) => P e f n + ((0 : Nat) : Int) * sh (e * s) f n) = P := by
      funext e f n
      simp
    rw [e]
    exact ⟨hP, hB⟩
  | v + 1 => by
    obtain ⟨h1, h2⟩ := rec_geoN hP hB s v
    have e : (fun (e : Nat) (f : Nat → Int) (n : Nat) => P e f n + ((v + 1 : Nat) : Int) * sh (e * s) f n) = fun e f n => (P e f n + (v : Int) * sh (e * s) f n) + sh (e * s) f n := by
      funext e f n
      rw [show ((v + 1 : Nat) : Int) = (v : Int) + 1 by omega, Int.add_mul, Int.one_mul]
      omega
    rw [e]
    exact ⟨op_step h1 s, rec_step h1 h2 s⟩
theorem rec_bag (c : Nat → Nat) : ∀ L, Rec (Pc c L) (bag c L)
  | 0 => by
    intro m n
    have e : S (m + 1) (fun e => Pc c 0 (e + 1) (bag c 0 (m - e)) n) = 0 := S_zero' fun i _ => rfl
    rw [e]
    show ((m : Int) + 1) * (if m + 1 = 0 ∧ n = 0 then (1 : Int) else 0) = 0
    rw [if_neg (by omega), Int.mul_zero]
  | L + 1 => (rec_geoN (op_Pc c L) (rec_bag c L) (L + 1) (c (L + 1))).2
theorem geo_0 (s : Nat) (B : Nat → Nat → Int) : geo s B 0 = B 0 := rfl
theorem geoN_0 (s v : Nat) (B : Nat → Nat → Int) : geoN s v B 0 = B 0 := by
  induction v with
  | zero => rfl
  | succ v ih => show geo s (geoN s v B) 0 = _; rw [geo_0, ih]
theorem bag_0 (c : Nat → Nat) (n : Nat) : ∀ L, bag c L 0 n = if n = 0 then 1 else 0
  | 0 => by
    show (if 0 = 0 ∧ n = 0 then (1 : Int) else 0) = _
    simp
  | L + 1 => by
    show geoN (L + 1) (c (L + 1)) (bag c L) 0 n = _
    rw [geoN_0]
    exact bag_0 c n L
/-- fewer atoms than members -/
theorem bag_small (c : Nat → Nat) (L : Nat) : ∀ m n, n < m → bag c L m n = 0 := by
  intro m
  induction m using Nat.strongRecOn with
  | ind m ih =>
    intro n hn
    match m, hn with
    | m + 1, hn =>
      have h := rec_bag c L m n
      have e : S (m + 1) (fun e => Pc c L (e + 1) (bag c L (m - e)) n) = 0 := by
        refine S_zero' fun e he => ?_
        unfold Pc
        refine S_zero' fun i hi => ?_
        unfold sh
        split
        · have h1 : e + 1 ≤ (e + 1) * (i + 1) := Nat.le_mul_of_pos_right _ (by omega)
          rw [ih (m - e) (by omega) _ (by omega), Int.mul_zero]
        · rw [Int.mul_zero]
      rw [e] at h
      rcases Int.mul_eq_zero.mp h with h | h
      · omega
      · exact h
/-- the closed form of one step of the bag -/
def G : Nat → Nat → Int
  | 0, 0 => 1
  | 0, _ + 1 => 0
  | _ + 1, 0 => 1
  | v + 1, t + 1 => G (v + 1) t + G v (t + 1)
theorem G_0 (v : Nat) : G v 0 = 1 := by cases v <;> simp [G]
theorem geoN_eq (s : Nat) (B : Nat → Nat → Int) : ∀ v m n, geoN s v B m n = S (m + 1) fun t => G v t * sh (t * s) (B (m - t)) n
  | 0, m, n => by
    rw [S_first, G, Nat.zero_mul, sh_0, Int.one_mul, Nat.sub_zero]
    have : S m (fun i => G 0 (i + 1) * sh ((i + 1) * s) (B (m - (i + 1))) n) = 0 := S_zero' fun i _ => by rw [G, Int.zero_mul]
    rw [this, Int.add_zero]
    rfl
  | v + 1, m, n => by
    induction m generalizing n with
    | zero =>
      show geo s (geoN s v B) 0 n = _
      rw [geo_0, geoN_eq s B v 0 n]
      simp [S, G_0]
    | succ m ih =>
      show geoN s v B (m + 1) n + sh s (geoN s (v + 1) B m) n = _
      rw [geoN_eq s B v (m + 1) n]
      have e1 : geoN s (v + 1) B m = fun n => S (m + 1) fun t => G (v + 1) t * sh (t * s) (B (m - t)) n := funext fun n => ih n
      rw [e1, sh_S, S_first (m + 1), S_first (m + 1) (fun t => G (v + 1) t * sh (t * s) (B (m + 1 - t)) n), G_0, G_0, Int.add_assoc, ← S_add]
      congr 1
      refine S_congr fun t _ => ?_
      rw [sh_mul, sh_sh, G, Int.add_mul, Nat.add_sub_add_right, show t * s + s = (t + 1) * s by rw [Nat.succ_mul]]
      dsimp only
      omega
end SMath

namespace SMath
theorem pow2_succ (n : Nat) : (2 : Int) ^ (n + 1) = 2 ^ n + 2 ^ n := by rw [Int.pow_succ]; omega
theorem pow2_pos (n : Nat) : (1 : Int) ≤ 2 ^ n := by
  induction n with
  | zero => decide
  | succ n ih => rw [pow2_succ]; omega
theorem bin_le : ∀ n k, 0 ≤ bin n k ∧ bin n k ≤ 2 ^ n
  | n, 0 => by rw [bin_0]; exact ⟨by decide, pow2_pos n⟩
  | 0, k + 1 => by rw [bin]; exact ⟨by decide, by decide⟩
  | n + 1, k + 1 => by
    have h1 := bin_le n k
    have h2 := bin_le n (k + 1)
    rw [bin, pow2_succ]
    omega
theorem G_le : ∀ v t, 0 ≤ G v t ∧ G v t ≤ 2 ^ (v + t)
  | v, 0 => by rw [G_0]; exact ⟨by decide, pow2_pos _⟩
  | 0, t + 1 => by rw [G]; exact ⟨by decide, Int.le_trans (by decide) (pow2_pos _)⟩
  | v + 1, t + 1 => by
    have h1 := G_le (v + 1) t
    have h2 := G_le v (t + 1)
    rw [G, show v + 1 + (t + 1) = (v + 1 + t) + 1 by omega, pow2_succ]
    rw [show v + (t + 1) = v + 1 + t by omega] at h2
    omega
theorem bin_step : ∀ n k : Nat, ((k : Int) + 1) * bin n (k + 1) = ((n : Int) - k) * bin n k
  | 0, 0 => by decide
  | 0, k + 1 => by
    rw [bin, bin]; simp
  | n + 1, 0 => by
    have h := bin_step n 0
    rw [bin_0] at h ⊢
    rw [show bin (n + 1) (0 + 1) = bin n 0 + bin n (0 + 1) from rfl, bin_0]
    have e : ((0 : Nat) : Int) = 0 := rfl
    rw [e] at h ⊢
    have e2 : ((n + 1 : Nat) : Int) = (n : Int) + 1 := by omega
    rw [e2]
    omega
  | n + 1, k + 1 => by
    have h1 := bin_step n (k + 1)
    have h2 := bin_step n k
    rw [bin, show bin (n + 1) (k + 1) = bin n k + bin n (k + 1) from rfl, Int.mul_add, h1]
    have e1 : ((k + 1 : Nat) : Int) = (k : Int) + 1 := by omega
    have e2 : ((n + 1 : Nat) : Int) = (n : Int) + 1 := by omega
    rw [e1, e2, Int.mul_add]
    have e3 : ((n : Int) + 1 - ((k : Int) + 1)) = (n : Int) - k := by omega
    rw [e3, ← h2]
    generalize bin n (k + 1) = x
    have a : ((k : Int) + 1 + 1) * x = ((k : Int) + 1) * x + x := by rw [Int.add_mul ((k : Int) + 1) 1, Int.one_mul]
    rw [← Int.add_mul, ← Int.add_mul]
    congr 1
    omega
theorem G_bin : ∀ v t : Nat, G v t = bin (v + t - 1) t
  | v, 0 => by rw [G_0, bin_0]
  | 0, t + 1 => by rw [G, bin_gt (by omega)]
  | v + 1, t + 1 => by
    rw [G, G_bin (v + 1) t, G_bin v (t + 1), show v + 1 + (t + 1) - 1 = (v + t) + 1 by omega, bin, show v + 1 + t - 1 = v + t by omega, show v + (t + 1) - 1 = v + t by omega]
theorem bag_step (c : Nat → Nat) (L m n : Nat) : bag c (L + 1) m n = S (min m (n / (L + 1)) + 1) fun t => bag c L (m - t) (n - t * (L + 1)) * G (c (L + 1)) t := by
  show geoN (L + 1) (c (L + 1)) (bag c L) m n = _
  rw [geoN_eq, S_ext' (n := min m (n / (L + 1)) + 1) (m := m + 1) (by omega)]
  · refine S_congr fun t ht => ?_
    have : t ≤ n / (L + 1) := by omega
    have h2 : t * (L + 1) ≤ n := (Nat.le_div_iff_mul_le (by omega)).mp this
    unfold sh
    rw [if_pos h2, Int.mul_comm]
  · intro t h1 h2
    have : ¬ t ≤ n / (L + 1) := by omega
    have h2 : ¬ t * (L + 1) ≤ n := fun z => this ((Nat.le_div_iff_mul_le (by omega)).mpr z)
    unfold sh
    rw [if_neg h2, Int.mul_zero]
end SMath

namespace SMath
/-! Sets of places, listed: plain mathematics for k41. -/
/-- the numbers of bags of places whose sizes stand in a list -/
def hh : List Nat → Nat → Nat → Int
  | [] => d2
  | s :: l => geo s (hh l)
theorem hh_rep (s : Nat) (l : List Nat) : ∀ v, hh (List.replicate v s ++ l) = geoN s v (hh l)
  | 0 => rfl
  | v + 1 => by
    show geo s (hh (List.replicate v s ++ l)) = geo s (geoN s v (hh l))
    rw [hh_rep s l v]
/-- bags of sizes from s on, k sizes in all -/
def up (c : Nat → Nat) : Nat → Nat → Nat → Nat → Int
  | 0, _ => d2
  | k + 1, s => geoN s (c s) (up c k (s + 1))
def upL (c : Nat → Nat) : Nat → Nat → List Nat
  | 0, _ => []
  | k + 1, s => List.replicate (c s) s ++ upL c k (s + 1)
theorem hh_up (c : Nat → Nat) : ∀ k s, hh (upL c k s) = up c k s
  | 0, _ => rfl
  | k + 1, s => by rw [upL, hh_rep, hh_up c k (s + 1), up]
theorem geo_small {B : Nat → Nat → Int} {s u : Nat} (hs : u ≤ s) (hB : ∀ m n, n < m * u → B m n = 0) : ∀ m n, n < m * u → geo s B m n = 0
  | 0, n, h => by rw [geo_0]; exact hB 0 n h
  | m + 1, n, h => by
    show B (m + 1) n + sh s (geo s B m) n = 0
    rw [hB (m + 1) n h]
    unfold sh
    split
    · rw [geo_small hs hB m _ (by rw [Nat.succ_mul] at h; omega)]; rfl
    · rfl
theorem geoN_small {B : Nat → Nat → Int} {s u : Nat} (hs : u ≤ s) (hB : ∀ m n, n < m * u → B m n = 0) : ∀ v m n, n < m * u → geoN s v B m n = 0
  | 0 => hB
  | v + 1 => geo_small hs (geoN_small hs hB v)
theorem up_small (c : Nat → Nat) : ∀ k s u, u ≤ s → ∀ m n, n < m * u → up c k s m n = 0
  | 0, s, u, hu, m, n, h => by
    show d2 m n = 0
    unfold d2
    rw [if_neg]
    rintro ⟨rfl, rfl⟩
    simp at h
  | k + 1, s, u, hu, m, n, h => geoN_small hu (fun m n h => up_small c k (s + 1) u (by omega) m n h) _ m n h
theorem up_0 (c : Nat → Nat) (n : Nat) : ∀ k s, up c k s 0 n = if n = 0 then 1 else 0
  | 0, s => by show (if 0 = 0 ∧ n = 0 then (1 : Int) else 0) = _; simp
  | k + 1, s => by rw [up, geoN_0, up_0 c n k (s + 1)]
/-- members that are too many for their sizes -/
theorem d2_many {m n : Nat} (h : 0 < m) : d2 m n = 0 := by
  unfold d2
  rw [if_neg (by omega)]
/-- what with_allowed adds up: T rows are there -/
theorem geoN_sum {s v m n T : Nat} {B : Nat → Nat → Int} (hs : 0 < s) (hB : ∀ a b, b ≤ n → T ≤ a → B a b = 0) :
    geoN s v B m n = S (min m (n / s) + 1 - (m + 1 - T)) fun i => G v (i + (m + 1 - T)) * B (m - (i + (m + 1 - T))) (n - s * (i + (m + 1 - T))) := by
  rw [geoN_eq]
  have e1 : S (m + 1) (fun t => G v t * sh (t * s) (B (m - t)) n) = S (min m (n / s) + 1) fun t => G v t * sh (t * s) (B (m - t)) n := by
    refine S_ext' (by omega) fun i h1 h2 => ?_
    have h3 : n < i * s := by
      have : n / s < i := by omega
      exact (Nat.div_lt_iff_lt_mul hs).mp this
    unfold sh
    rw [if_neg (by omega), Int.mul_zero]
  rw [e1]
  generalize hL : m + 1 - T = L
  by_cases hc : L ≤ min m (n / s) + 1
  · rw [show min m (n / s) + 1 = (min m (n / s) + 1 - L) + L by omega]
    generalize hk : min m (n / s) + 1 - L = k
    rw [show k + L - L = k by omega]
    have hz : ∀ (f : Nat → Int) (k : Nat), (∀ i, i < L → f i = 0) → S (k + L) f = S k fun i => f (i + L) := by
      intro f k h
      induction k with
      | zero => rw [Nat.zero_add, S_zero' h]; rfl
      | succ k ih => rw [show k + 1 + L = (k + L) + 1 by omega, S, ih, S]
    rw [hz _ k]
    · refine S_congr fun i hi => ?_
      have h3 : (i + L) * s ≤ n := by
        have : i + L ≤ n / s := by omega
        exact (Nat.le_div_iff_mul_le hs).mp this
      unfold sh
      rw [if_pos h3, Nat.mul_comm s]
    · intro i hi
      unfold sh
      split
      · rw [hB _ _ (by omega) (by omega), Int.mul_zero]
      · rw [Int.mul_zero]
  · rw [show min m (n / s) + 1 - L = 0 by omega, S]
    refine S_zero' fun i hi => ?_
    unfold sh
    split
    · rw [hB _ _ (by omega) (by omega), Int.mul_zero]
    · rw [Int.mul_zero]
end SMath

namespace SMath
abbrev Pl := Nat × Nat
def ple (p q : Pl) : Bool := decide (p.1 < q.1) || (decide (p.1 = q.1) && decide (p.2 ≤ q.2))
theorem ple_iff {p q : Pl} : ple p q = true ↔ p.1 < q.1 ∨ (p.1 = q.1 ∧ p.2 ≤ q.2) := by simp [ple]
theorem ple_refl (p : Pl) : ple p p = true := ple_iff.mpr (.inr ⟨rfl, Nat.le_refl _⟩)
theorem ple_trans {p q r : Pl} (h1 : ple p q = true) (h2 : ple q r = true) : ple p r = true := by
  rw [ple_iff] at *
  omega
theorem ple_total {p q : Pl} (h : ple p q = false) : ple q p = true := by
  have : ¬ ple p q = true := by simp [h]
  rw [ple_iff] at *
  omega
def szs (one : List Pl) : Nat := (one.map (·.1)).sum
/-- what is taken behind a row -/
def okp (n : Nat) (one : List Pl) (p : Pl) : Bool := (one.getLast?.all fun q => ple q p) && decide (p.1 + szs one ≤ n)
def fd (P : List Pl) (n : Nat) : Nat → List (List Pl)
  | 0 => [[]]
  | k + 1 => (fd P n k).flatMap fun one => (P.filter (okp n one)).map fun p => one ++ [p]
def comp (n : Nat) : Nat → List Pl → Nat → Int
  | 0, _, w => if w = n then 1 else 0
  | k + 1, Q, w => (Q.map fun p => if p.1 + w ≤ n then comp n k (Q.filter (ple p)) (w + p.1) else 0).sum
def aft (P : List Pl) (one : List Pl) : List Pl := P.filter fun p => one.getLast?.all fun q => ple q p
theorem aft_snoc (P one : List Pl) (p : Pl) : aft P (one ++ [p]) = P.filter (ple p) := by
  unfold aft
  simp
theorem aft_ple {P one : List Pl} {p : Pl} (h : one.getLast?.all (fun q => ple q p) = true) : (aft P one).filter (ple p) = P.filter (ple p) := by
  unfold aft
  rw [List.filter_filter]
  refine List.filter_congr fun x _ => ?_
  cases hp : ple p x with
  | false => simp
  | true =>
    cases hl : one.getLast? with
    | none => simp
    | some q =>
      rw [hl] at h
      have := ple_trans (by simpa using h) hp
      simp [this]
theorem szs_snoc (one : List Pl) (p : Pl) : szs (one ++ [p]) = szs one + p.1 := by
  unfold szs
  simp
theorem sum_flatMap {α β : Type} (f : α → List β) (g : β → Int) : ∀ l : List α, ((l.flatMap f).map g).sum = (l.map fun a => ((f a).map g).sum).sum
  | [] => rfl
  | a :: l => by
    rw [List.flatMap_cons, List.map_append, List.sum_append, sum_flatMap f g l]
    rfl
theorem sum_filter {α : Type} (p : α → Bool) (g : α → Int) : ∀ l : List α, ((l.filter p).map g).sum = (l.map fun a => if p a = true then g a else 0).sum
  | [] => rfl
  | a :: l => by
    rw [List.filter_cons]
    split
    · rename_i h
      simp only [List.map_cons, List.sum_cons, if_pos h, sum_filter p g l]
    · rename_i h
      simp only [List.map_cons, List.sum_cons, if_neg h, sum_filter p g l]
      omega
theorem fd_comp (P : List Pl) (n m : Nat) : ∀ k, k ≤ m → ((fd P n k).map fun one => comp n (m - k) (aft P one) (szs one)).sum = comp n m P 0
  | 0, _ => by
    have e : aft P [] = P := by unfold aft; simp
    show ([([] : List Pl)].map fun one => comp n (m - 0) (aft P one) (szs one)).sum = _
    simp [e, szs]
  | k + 1, h => by
    rw [← fd_comp P n m k (by omega), fd, sum_flatMap]
    congr 1
    refine List.map_congr_left fun one _ => ?_
    rw [List.map_map, sum_filter, show m - k = (m - (k + 1)) + 1 by omega, comp]
    unfold aft
    rw [sum_filter]
    congr 1
    refine List.map_congr_left fun p _ => ?_
    show (if okp n one p = true then comp n (m - (k + 1)) (aft P (one ++ [p])) (szs (one ++ [p])) else 0) = _
    unfold okp
    cases hl : one.getLast?.all (fun q => ple q p) with
    | false => simp
    | true =>
      rw [aft_snoc, szs_snoc]
      have e := aft_ple (P := P) hl
      unfold aft at e
      simp only [Bool.true_and, decide_eq_true_eq, if_true, e]
theorem fd_count (P : List Pl) (n m : Nat) : (((fd P n m).filter fun one => decide (szs one = n)).length : Int) = comp n m P 0 := by
  rw [← fd_comp P n m m (Nat.le_refl m)]
  have hh : ∀ l : List (List Pl), ((l.filter fun one => decide (szs one = n)).length : Int) = (l.map fun one => comp n (m - m) (aft P one) (szs one)).sum := by
    intro l
    induction l with
    | nil => rfl
    | cons one l ih =>
      rw [List.filter_cons, List.map_cons, List.sum_cons, ← ih, Nat.sub_self, comp]
      by_cases h : szs one = n
      · rw [if_pos (by simp [h]), if_pos h, List.length_cons]
        omega
      · rw [if_neg (by simp [h]), if_neg h]
        omega
  exact hh _
theorem comp_hh (n : Nat) : ∀ (k : Nat) (Q : List Pl) (w : Nat), Q.Pairwise (fun p q => ple q p = false) → w ≤ n → comp n k Q w = hh (Q.map (·.1)) k (n - w)
  | 0, Q, w, _, hw => by
    have e : ∀ l n, hh l 0 n = d2 0 n := by
      intro l n
      induction l with
      | nil => rfl
      | cons s l ih => show geo s (hh l) 0 n = _; rw [geo_0, ih]
    rw [e, comp]
    unfold d2
    by_cases h : w = n
    · rw [if_pos h, if_pos (by omega)]
    · rw [if_neg h, if_neg (by omega)]
  | k + 1, Q, w, hQ, hw => by
    rw [comp]
    induction Q with
    | nil =>
      show 0 = d2 (k + 1) (n - w)
      rw [d2_many (by omega)]
    | cons p l ih =>
      rw [List.pairwise_cons] at hQ
      have e1 : (p :: l).filter (ple p) = p :: l := by
        rw [List.filter_cons, if_pos (ple_refl p), List.filter_eq_self.mpr fun q hq => ple_total (hQ.1 q hq)]
      have e2 : (l.map fun q => if q.1 + w ≤ n then comp n k ((p :: l).filter (ple q)) (w + q.1) else 0) = l.map fun q => if q.1 + w ≤ n then comp n k (l.filter (ple q)) (w + q.1) else 0 := by
        refine List.map_congr_left fun q hq => ?_
        rw [List.filter_cons_of_neg (by simp [hQ.1 q hq])]
      rw [List.map_cons, List.sum_cons, e1, e2, ih hQ.2]
      show _ = geo p.1 (hh (l.map (·.1))) (k + 1) (n - w)
      show _ = hh (l.map (·.1)) (k + 1) (n - w) + sh p.1 (geo p.1 (hh (l.map (·.1))) k) (n - w)
      unfold sh
      by_cases h : p.1 + w ≤ n
      · rw [if_pos h, if_pos (by omega), comp_hh n k (p :: l) (w + p.1) (List.pairwise_cons.mpr hQ) (by omega), show n - w - p.1 = n - (w + p.1) by omega]
        show geo p.1 (hh (l.map (·.1))) k _ + _ = _
        omega
      · rw [if_neg h, if_neg (by omega)]
        omega
/-- the places of a size from s on, k sizes -/
def plsL (c : Nat → Nat) : Nat → Nat → List Pl
  | 0, _ => []
  | k + 1, s => (List.range (c s)).map (fun i => (s, i)) ++ plsL c k (s + 1)
theorem plsL_sizes (c : Nat → Nat) : ∀ k s, (plsL c k s).map (·.1) = upL c k s
  | 0, s => rfl
  | k + 1, s => by
    rw [plsL, upL, List.map_append, plsL_sizes c k (s + 1), List.map_map]
    congr 1
    induction c s with
    | zero => rfl
    | succ v ih => rw [List.range_succ, List.map_append, ih, List.replicate_succ']; rfl
theorem mem_plsL {c : Nat → Nat} {p : Pl} : ∀ {k s : Nat}, p ∈ plsL c k s → s ≤ p.1 ∧ p.1 < s + k ∧ p.2 < c p.1
  | 0, s, h => absurd h (by simp [plsL])
  | k + 1, s, h => by
    rw [plsL, List.mem_append] at h
    rcases h with h | h
    · obtain ⟨i, hi, e⟩ := List.mem_map.mp h
      rw [← e]
      exact ⟨Nat.le_refl _, by omega, List.mem_range.mp hi⟩
    · obtain ⟨h1, h2, h3⟩ := mem_plsL h
      exact ⟨by omega, by omega, h3⟩
theorem range_pair (a : Nat) : (List.range a).Pairwise (fun i j => i < j) := List.pairwise_lt_range
theorem plsL_sorted (c : Nat → Nat) : ∀ k s, (plsL c k s).Pairwise (fun p q => ple q p = false)
  | 0, s => .nil
  | k + 1, s => by
    rw [plsL, List.pairwise_append]
    refine ⟨?_, plsL_sorted c k (s + 1), fun p hp q hq => ?_⟩
    · rw [List.pairwise_map]
      refine (range_pair (c s)).imp fun {i j} h => ?_
      simp [ple]
      omega
    · obtain ⟨i, hi, e⟩ := List.mem_map.mp hp
      obtain ⟨h1, _, _⟩ := mem_plsL hq
      rw [← e]
      simp [ple]
      omega
/-- the places from a first one on -/
theorem plsL_from (c : Nat → Nat) (s i : Nat) : ∀ k t, t ≤ s → s < t + k → ((plsL c k t).filter (ple (s, i))).map (·.1) = List.replicate (c s - i) s ++ upL c (t + k - s - 1) (s + 1)
  | 0, t, h1, h2 => by omega
  | k + 1, t, h1, h2 => by
    rw [plsL, List.filter_append, List.map_append]
    by_cases h : t = s
    · subst h
      have e1 : (plsL c k (t + 1)).filter (ple (t, i)) = plsL c k (t + 1) := List.filter_eq_self.mpr fun q hq => by
        obtain ⟨h1, _, _⟩ := mem_plsL hq
        rw [ple_iff]
        exact .inl (by show t < q.1; omega)
      rw [e1, plsL_sizes, show t + (k + 1) - t - 1 = k by omega]
      congr 1
      induction c t with
      | zero => simp
      | succ v ih =>
        rw [List.range_succ, List.map_append, List.filter_append, List.map_append, ih]
        by_cases hv : i ≤ v
        · rw [show v + 1 - i = (v - i) + 1 by omega, List.replicate_succ']
          congr 1
          simp [ple, hv]
        · rw [show v + 1 - i = 0 by omega, show v - i = 0 by omega]
          simp [ple]
          omega
    · have e1 : ((List.range (c t)).map (fun i => (t, i))).filter (ple (s, i)) = [] := by
        rw [List.filter_eq_nil_iff]
        intro q hq
        obtain ⟨j, hj, e⟩ := List.mem_map.mp hq
        rw [← e]
        simp [ple]
        omega
      rw [e1, plsL_from c s i k (t + 1) (by omega) (by omega), show t + 1 + k - s - 1 = t + (k + 1) - s - 1 by omega]
      rfl
/-- what the law lists is what the program reckons -/
theorem law_count (c : Nat → Nat) (N s i m n : Nat) (hs : s < N) : (((fd ((plsL c N 0).filter (ple (s, i))) n m).filter fun one => decide (szs one = n)).length : Int) = geoN s (c s - i) (up c (N - s - 1) (s + 1)) m n := by
  rw [fd_count, comp_hh n m _ 0 ((plsL_sorted c N 0).filter _) (Nat.zero_le n), plsL_from c s i N 0 (Nat.zero_le s) (by omega), hh_rep, hh_up, Nat.sub_zero, Nat.zero_add]
end SMath

namespace SMath
theorem G_step : ∀ v t : Nat, ((t : Int) + 1) * G v (t + 1) = ((v : Int) + t) * G v t
  | 0, t => by
    rw [G, Int.mul_zero]
    match t with
    | 0 => simp
    | t + 1 => rw [G, Int.mul_zero]
  | v + 1, 0 => by
    have h := G_step v 0
    have e1 : G (v + 1) (0 + 1) = G (v + 1) 0 + G v (0 + 1) := by conv => lhs; rw [G]
    rw [e1, G_0]
    rw [G_0] at h
    have e : ((0 : Nat) : Int) = 0 := rfl
    rw [e] at h ⊢
    omega
  | v + 1, t + 1 => by
    have h1 := G_step v (t + 1)
    have h2 := G_step (v + 1) t
    have h3 : G (v + 1) (t + 1) = G (v + 1) t + G v (t + 1) := by rw [G]
    rw [show G (v + 1) (t + 1 + 1) = G (v + 1) (t + 1) + G v (t + 1 + 1) by rw [G], Int.mul_add, h1]
    have e1 : ((t + 1 : Nat) : Int) = (t : Int) + 1 := by omega
    have e2 : ((v + 1 : Nat) : Int) = (v : Int) + 1 := by omega
    rw [e1, e2] at *
    have h4 : G v (t + 1) = G (v + 1) (t + 1) - G (v + 1) t := by omega
    rw [h4, Int.mul_sub]
    have h5 : ((v : Int) + ((t : Int) + 1)) * G (v + 1) t = ((t : Int) + 1) * G (v + 1) (t + 1) := by
      rw [h2]
      congr 1
      omega
    rw [h5, ← Int.add_sub_assoc, ← Int.add_mul, ← Int.sub_mul]
    congr 1
    omega
theorem G_nn (v t : Nat) : 0 ≤ G v t := (G_le v t).1
theorem chosen_step (v t : Nat) : G v t * ((v : Int) + t) / ((t : Int) + 1) = G v (t + 1) := by
  rw [Int.mul_comm, ← G_step]
  exact Int.mul_ediv_cancel_left _ (by omega)
theorem up_zero {c : Nat → Nat} : ∀ k t, (∀ s, t ≤ s → c s = 0) → up c k t = d2
  | 0, _, _ => rfl
  | k + 1, t, h => by rw [up, h t (Nat.le_refl t), up_zero k (t + 1) fun s hs => h s (by omega)]; rfl
theorem geoN_d2 (s v m n : Nat) : geoN s v d2 m n = if n = m * s then G v m else 0 := by
  rw [geoN_eq, S, S_zero']
  · rw [Nat.sub_self]
    unfold sh d2
    by_cases h : n = m * s
    · rw [if_pos h, if_pos (by omega), if_pos (by omega)]; omega
    · rw [if_neg h]
      split
      · rw [if_neg (by omega)]; omega
      · omega
  · intro i hi
    unfold sh
    split
    · rw [d2_many (by omega), Int.mul_zero]
    · rw [Int.mul_zero]
theorem two_sorts {c : Nat → Nat} (h : ∀ s, 3 ≤ s → c s = 0) (k v many f : Nat) (hf : f ≤ many) : geoN 1 v (up c (k + 1) 2) many (many + f) = G v (many - f) * G (c 2) f := by
  rw [up, up_zero k (2 + 1) h, geoN_eq]
  have e : ∀ t, t < many + 1 → G v t * sh (t * 1) (geoN 2 (c 2) d2 (many - t)) (many + f) = if t = many - f then G v (many - f) * G (c 2) f else 0 := by
    intro t ht
    unfold sh
    rw [if_pos (by omega), geoN_d2]
    by_cases h : t = many - f
    · rw [if_pos (by omega), if_pos h, h, show many - (many - f) = f by omega]
    · rw [if_neg (by omega), if_neg h, Int.mul_zero]
  rw [S_congr e]
  have one : ∀ n a, a < n → ∀ x : Int, S n (fun t => if t = a then x else 0) = x := by
    intro n
    induction n with
    | zero => intro a h; omega
    | succ n ih =>
      intro a h x
      rw [S]
      by_cases h2 : n = a
      · rw [if_pos h2, S_zero' fun i hi => if_neg (by omega)]; omega
      · rw [if_neg h2, ih a (by omega) x]; omega
  exact one _ _ (by omega) _
theorem one_member (c : Nat → Nat) (k s v : Nat) : geoN s v (up c k (s + 1)) 1 s = v := by
  rw [geoN_eq]
  show 0 + G v 0 * sh (0 * s) (up c k (s + 1) (1 - 0)) s + G v 1 * sh (1 * s) (up c k (s + 1) (1 - 1)) s = v
  rw [Nat.zero_mul, sh_0, up_small c k (s + 1) (s + 1) (Nat.le_refl _) 1 s (by omega)]
  unfold sh
  rw [if_pos (by omega), Nat.sub_self, up_0, if_pos (by omega), Int.mul_zero, Int.mul_one]
  have h := G_step v 0
  rw [G_0] at h
  have e : ((0 : Nat) : Int) = 0 := rfl
  rw [e] at h
  have h2 : G v 1 = v := by
    have : G v (0 + 1) = G v 1 := rfl
    rw [this] at h
    omega
  rw [h2]
  omega
theorem no_members (c : Nat → Nat) (k s v : Nat) : geoN s v (up c k (s + 1)) 0 0 = 1 := by
  rw [geoN_0, up_0, if_pos rfl]
end SMath

namespace SMath
open PySem PySem.W
theorem fp_shift (n : Int) : ∀ k : Nat, Builtin.Math.fallingProduct (n + 1) (k + 1) = (n + 1) * Builtin.Math.fallingProduct n k
  | 0 => by rw [mc_fp_succ, mc_fp_zero, mc_fp_zero]; simp
  | k + 1 => by
    rw [mc_fp_succ, fp_shift n k, mc_fp_succ n k, Int.mul_assoc]
    congr 2
    omega
theorem fp_fact (k : Nat) : Builtin.Math.fallingProduct ((k + 1 : Nat) : Int) (k + 1) = ((k : Int) + 1) * Builtin.Math.fallingProduct (k : Int) k := by
  have h := fp_shift (k : Int) k
  rw [show ((k + 1 : Nat) : Int) = (k : Int) + 1 by omega, h]
theorem bin_fp (n : Nat) : ∀ k : Nat, bin n k * Builtin.Math.fallingProduct (k : Int) k = Builtin.Math.fallingProduct (n : Int) k
  | 0 => by rw [bin_0]; rfl
  | k + 1 => by
    rw [fp_fact, ← Int.mul_assoc, Int.mul_comm (bin n (k + 1)), bin_step, mc_fp_succ, ← bin_fp n k, Int.mul_assoc, Int.mul_comm]
theorem bin_self : ∀ n, bin n n = 1
  | 0 => rfl
  | n + 1 => by rw [bin, bin_self n, bin_gt (by omega)]; rfl
theorem bin_sym : ∀ n k, k ≤ n → bin n k = bin n (n - k)
  | n, 0, _ => by rw [bin_0, Nat.sub_zero, bin_self]
  | 0, k + 1, h => by omega
  | n + 1, k + 1, h => by
    by_cases e : k = n
    · subst e
      rw [Nat.sub_self, bin_0, bin_self]
    · rw [show n + 1 - (k + 1) = (n - k - 1) + 1 by omega, bin, bin, bin_sym n k (by omega), bin_sym n (k + 1) (by omega), show n - (k + 1) = n - k - 1 by omega, show n - k - 1 + 1 = n - k by omega]
      omega
theorem comb_bin (n k : Nat) : mcComb (n : Int) (k : Int) = bin n k := by
  by_cases h : n < k
  · rw [mcComb_above (by omega), bin_gt h]
  · have key : ∀ m : Nat, m ≤ n → Builtin.Math.fallingProduct (n : Int) m / Builtin.Math.fallingProduct (m : Int) m = bin n m := by
      intro m hm
      have hp := mc_fp_pos (n := (m : Int)) m (by omega)
      rw [← bin_fp, Int.mul_ediv_cancel _ (by omega)]
    by_cases h2 : 2 * k ≤ n
    · rw [mcComb_at (by omega) (by omega) (m := (k : Int)) (by omega), Int.toNat_natCast, key k (by omega)]
    · rw [mcComb_at (by omega) (by omega) (m := ((n - k : Nat) : Int)) (by omega), Int.toNat_natCast, key (n - k) (by omega), bin_sym n k (by omega)]
/-! ### bounds -/
theorem le_pow2 : ∀ n : Nat, (n : Int) + 1 ≤ 2 ^ n
  | 0 => by decide
  | n + 1 => by
    have := le_pow2 n
    have := pow2_pos n
    rw [pow2_succ]
    omega
theorem S_le (B : Int) (f : Nat → Int) : ∀ n, (∀ i, i < n → 0 ≤ f i ∧ f i ≤ B) → 0 ≤ S n f ∧ S n f ≤ n * B
  | 0, _ => by simp [S]
  | n + 1, h => by
    obtain ⟨h1, h2⟩ := S_le B f n fun i hi => h i (by omega)
    obtain ⟨h3, h4⟩ := h n (by omega)
    rw [S, show ((n + 1 : Nat) : Int) = (n : Int) + 1 by omega, Int.add_mul, Int.one_mul]
    omega
theorem p2_le {a b : Nat} (h : a ≤ b) : (2 : Int) ^ a ≤ 2 ^ b := by
  have := Nat.pow_le_pow_right (n := 2) (by decide) h
  have e : ∀ c : Nat, ((2 : Int) ^ c) = ((2 ^ c : Nat) : Int) := fun c => by rw [Int.natCast_pow]; rfl
  rw [e, e]
  omega
theorem geoN_le {s v M b : Nat} {B : Nat → Nat → Int} (hB : ∀ m n, m ≤ M → 0 ≤ B m n ∧ B m n ≤ 2 ^ b) : ∀ m n, m ≤ M → 0 ≤ geoN s v B m n ∧ geoN s v B m n ≤ 2 ^ (b + v + 2 * M) := by
  intro m n hm
  rw [geoN_eq]
  have h := S_le (2 ^ (v + M + b)) (fun t => G v t * sh (t * s) (B (m - t)) n) (m + 1) fun t ht => by
    have g := G_le v t
    have hs : 0 ≤ sh (t * s) (B (m - t)) n ∧ sh (t * s) (B (m - t)) n ≤ 2 ^ b := by
      unfold sh
      split
      · exact hB _ _ (by omega)
      · exact ⟨by omega, Int.le_trans (by decide) (pow2_pos b)⟩
    refine ⟨Int.mul_nonneg g.1 hs.1, ?_⟩
    rw [Int.pow_add]
    refine Int.mul_le_mul (Int.le_trans g.2 (p2_le (by omega))) hs.2 hs.1 (Int.le_trans (by decide) (pow2_pos _))
  refine ⟨h.1, Int.le_trans h.2 ?_⟩
  rw [show b + v + 2 * M = M + (v + M + b) by omega, Int.pow_add 2 M]
  refine Int.mul_le_mul_of_nonneg_right ?_ (Int.le_trans (by decide) (pow2_pos _))
  have := le_pow2 m
  have := p2_le hm
  omega
theorem up_le {c : Nat → Nat} {V M : Nat} (hc : ∀ s, c s ≤ V) : ∀ k s m n, m ≤ M → 0 ≤ up c k s m n ∧ up c k s m n ≤ 2 ^ (k * (V + 2 * M))
  | 0, s, m, n, _ => by
    show 0 ≤ d2 m n ∧ d2 m n ≤ _
    unfold d2
    split
    · exact ⟨by decide, pow2_pos _⟩
    · exact ⟨by decide, Int.le_trans (by decide) (pow2_pos _)⟩
  | k + 1, s, m, n, h => by
    obtain ⟨h1, h2⟩ := geoN_le (s := s) (v := c s) (fun m n h => up_le hc k (s + 1) m n h) m n h
    refine ⟨h1, Int.le_trans h2 (p2_le ?_)⟩
    have := hc s
    rw [Nat.add_mul k 1, Nat.one_mul]
    omega
end SMath

/-! Subsets in order: plain mathematics for k40. -/
namespace SMath
theorem bin_nn (n k : Nat) : 0 ≤ bin n k := (bin_le n k).1
theorem bin_mono1 (n : Nat) : ∀ k, bin n k ≤ bin (n + 1) k
  | 0 => by rw [bin_0, bin_0]; exact Int.le_refl 1
  | k + 1 => by
    rw [show bin (n + 1) (k + 1) = bin n k + bin n (k + 1) from by rw [bin]]
    have := bin_nn n k
    omega
theorem bin_mono {n m : Nat} (h : n ≤ m) (k : Nat) : bin n k ≤ bin m k := by
  induction m with
  | zero => have : n = 0 := by omega
            rw [this]; exact Int.le_refl _
  | succ m ih =>
    by_cases e : n = m + 1
    · rw [e]; exact Int.le_refl _
    · exact Int.le_trans (ih (by omega)) (bin_mono1 m k)
/-- how many begin with less than x -/
def bf (size last m x : Nat) : Int := bin (size - last) m - bin (size + 1 - x) m
def idx (size : Nat) : Nat → List Nat → Int
  | _, [] => 0
  | last, x :: xs => bf size last (xs.length + 1) x + idx size x xs
def Asc (size : Nat) : Nat → List Nat → Prop
  | _, [] => True
  | last, x :: xs => last < x ∧ x ≤ size ∧ Asc size x xs
theorem idx_lt {size : Nat} : ∀ {xs : List Nat} {last : Nat}, Asc size last xs → 0 ≤ idx size last xs ∧ idx size last xs < bin (size - last) xs.length
  | [], last, _ => by
    show 0 ≤ (0 : Int) ∧ (0 : Int) < bin (size - last) 0
    rw [bin_0]; decide
  | x :: xs, last, h => by
    obtain ⟨h1, h2, h3⟩ := h
    obtain ⟨i1, i2⟩ := idx_lt h3
    have e : bin (size + 1 - x) (xs.length + 1) = bin (size - x) xs.length + bin (size - x) (xs.length + 1) := by
      rw [show size + 1 - x = (size - x) + 1 by omega, bin]
    have m1 := bin_mono (show size + 1 - x ≤ size - last by omega) (xs.length + 1)
    have n1 := bin_nn (size - x) (xs.length + 1)
    show 0 ≤ bf size last (xs.length + 1) x + idx size x xs ∧ bf size last (xs.length + 1) x + idx size x xs < bin (size - last) (xs.length + 1)
    unfold bf
    omega
theorem bf_mono {size last m x y : Nat} (h : x ≤ y) : bf size last m x ≤ bf size last m y := by
  have := bin_mono (show size + 1 - y ≤ size + 1 - x by omega) m
  unfold bf
  omega
theorem bf_next {size last m x : Nat} (h : x ≤ size) : bf size last (m + 1) (x + 1) = bf size last (m + 1) x + bin (size - x) m := by
  unfold bf
  rw [show size + 1 - x = (size - x) + 1 by omega, show size + 1 - (x + 1) = size - x by omega, bin]
  omega
/-- what the search finds is the next member -/
theorem found_is {size last x r : Nat} {xs : List Nat} (h : Asc size last (x :: xs)) (h2 : bf size last (xs.length + 1) r ≤ idx size last (x :: xs)) (h3 : r = size ∨ idx size last (x :: xs) < bf size last (xs.length + 1) (r + 1)) (h4 : r ≤ size) : r = x := by
  obtain ⟨a1, a2, a3⟩ := h
  obtain ⟨i1, i2⟩ := idx_lt a3
  have e : idx size last (x :: xs) = bf size last (xs.length + 1) x + idx size x xs := rfl
  rw [e] at h2 h3
  have nx := bf_next (last := last) (m := xs.length) a2
  by_cases c1 : r < x
  · rcases h3 with h3 | h3
    · omega
    · have := bf_mono (size := size) (last := last) (m := xs.length + 1) (show r + 1 ≤ x by omega)
      omega
  · by_cases c2 : x < r
    · have := bf_mono (size := size) (last := last) (m := xs.length + 1) (show x + 1 ≤ r by omega)
      omega
    · omega
/-- the last one -/
def topL (size : Nat) : Nat → List Nat
  | 0 => []
  | m + 1 => (size - m) :: topL size m
theorem topL_len (size : Nat) : ∀ m, (topL size m).length = m
  | 0 => rfl
  | m + 1 => by rw [topL, List.length_cons, topL_len]
theorem topL_asc (size : Nat) : ∀ m last, last + m ≤ size → Asc size last (topL size m)
  | 0, _, _ => trivial
  | m + 1, last, h => ⟨by omega, by omega, topL_asc size m (size - m) (by omega)⟩
theorem topL_idx (size : Nat) : ∀ m last, last + m ≤ size → idx size last (topL size m) = bin (size - last) m - 1
  | 0, last, _ => by rw [bin_0]; rfl
  | m + 1, last, h => by
    show bf size last ((topL size m).length + 1) (size - m) + idx size (size - m) (topL size m) = _
    rw [topL_len, topL_idx size m (size - m) (by omega)]
    unfold bf
    rw [show size + 1 - (size - m) = m + 1 by omega, show size - (size - m) = m by omega, bin_self, bin_self]
    omega
theorem topL_range (size : Nat) : ∀ m, m ≤ size → topL size m = (List.range m).map fun i => size - m + 1 + i
  | 0, _ => rfl
  | m + 1, h => by
    rw [topL, topL_range size m (by omega), List.range_succ_eq_map, List.map_cons, List.map_map]
    congr 1
    · omega
    · refine List.map_congr_left fun i hi => ?_
      show size - m + 1 + i = size - (m + 1) + 1 + (i + 1)
      omega
/-! ### what the law adds up -/
def lefts (subset : List Nat) (n : Nat) : List Nat := subset.filter fun o => decide (n ≤ o)
def gq (size : Nat) (subset : List Nat) (n : Nat) : Int := if 0 < (lefts subset n).length ∧ ¬ n ∈ subset then bin (size - n) ((lefts subset n).length - 1) else 0
theorem hockey (size m : Nat) : ∀ k last, last + k ≤ size → S k (fun i => bin (size - (last + 1 + i)) m) = bin (size - last) (m + 1) - bin (size - last - k) (m + 1)
  | 0, last, _ => by simp [S]
  | k + 1, last, h => by
    rw [S, hockey size m k last (by omega), show size - last - k = (size - last - k - 1) + 1 by omega, bin, show size - (last + 1 + k) = size - last - k - 1 by omega, show size - last - (k + 1) = size - last - k - 1 by omega]
    omega
theorem asc_gt {size : Nat} : ∀ {xs : List Nat} {last : Nat}, Asc size last xs → ∀ y ∈ xs, last < y ∧ y ≤ size
  | [], _, _, y, hy => by simp at hy
  | x :: xs, last, h, y, hy => by
    obtain ⟨h1, h2, h3⟩ := h
    rcases List.mem_cons.mp hy with e | e
    · rw [e]; exact ⟨h1, h2⟩
    · have := asc_gt h3 y e
      omega
theorem S_split (a b : Nat) (f : Nat → Int) : S (a + b) f = S a f + S b fun i => f (a + i) := by
  induction b with
  | zero => simp [S]
  | succ b ih => rw [← Nat.add_assoc, S, ih, S]; omega
/-- from a number on, for a suffix -/
theorem before_idx {size : Nat} : ∀ {xs : List Nat} {pre : List Nat} {last : Nat}, Asc size last xs → last ≤ size → (∀ y ∈ pre, y ≤ last) → S (size - last) (fun i => gq size (pre ++ xs) (last + 1 + i)) = idx size last xs
  | [], pre, last, _, _, hp => by
    show _ = 0
    refine S_zero' fun i hi => ?_
    unfold gq
    rw [if_neg]
    rintro ⟨h, _⟩
    have : lefts (pre ++ []) (last + 1 + i) = [] := by
      unfold lefts
      rw [List.append_nil, List.filter_eq_nil_iff]
      intro y hy
      have := hp y hy
      simp
      omega
    rw [this] at h
    simp at h
  | x :: xs, pre, last, h, hl, hp => by
    obtain ⟨h1, h2, h3⟩ := h
    have hgt := asc_gt h3
    have hle : ∀ n, last < n → n ≤ x → lefts (pre ++ x :: xs) n = x :: xs := fun n a b => by
      unfold lefts
      rw [List.filter_append, List.filter_eq_nil_iff.mpr (fun y hy => by have := hp y hy; simp; omega), List.nil_append]
      refine List.filter_eq_self.mpr fun y hy => ?_
      rcases List.mem_cons.mp hy with e | e
      · simp; omega
      · have := hgt y e; simp; omega
    rw [show size - last = (x - 1 - last) + ((size - x) + 1) by omega, S_split, S_first]
    have e1 : S (x - 1 - last) (fun i => gq size (pre ++ x :: xs) (last + 1 + i)) = bf size last (xs.length + 1) x := by
      rw [S_congr (g := fun i => bin (size - (last + 1 + i)) xs.length) fun i hi => ?_, hockey size xs.length _ last (by omega)]
      · unfold bf
        rw [show size - last - (x - 1 - last) = size + 1 - x by omega]
      · unfold gq
        have hc : 0 < (x :: xs).length ∧ ¬ (last + 1 + i) ∈ pre ++ x :: xs := ⟨by simp, fun hm => ?_⟩
        · rw [hle _ (by omega) (by omega), if_pos hc]; rfl
        · rcases List.mem_append.mp hm with e | e
          · have := hp _ e; omega
          · rcases List.mem_cons.mp e with e | e
            · omega
            · have := hgt _ e; omega
    have e2 : gq size (pre ++ x :: xs) (last + 1 + (x - 1 - last + 0)) = 0 := by
      unfold gq
      rw [show last + 1 + (x - 1 - last + 0) = x by omega, if_neg (fun z => z.2 (by simp))]
    have e3 : S (size - x) (fun i => gq size (pre ++ x :: xs) (last + 1 + (x - 1 - last + (i + 1)))) = idx size x xs := by
      rw [← before_idx (pre := pre ++ [x]) h3 h2 (fun y hy => ?_)]
      · refine S_congr fun i _ => ?_
        rw [show last + 1 + (x - 1 - last + (i + 1)) = x + 1 + i by omega, List.append_assoc]
        rfl
      · rcases List.mem_append.mp hy with e | e
        · have := hp y e; omega
        · simp at e; omega
    rw [e1, e2, e3]
    show _ = bf size last (xs.length + 1) x + idx size x xs
    omega
/-! ### the small ones -/
def subs : Nat → Nat → Nat → List (List Nat)
  | _, _, 0 => [[]]
  | 0, _, _ + 1 => []
  | k + 1, x, m + 1 => (subs k (x + 1) m).map (x :: ·) ++ subs k (x + 1) (m + 1)
def allL : Nat → List (List Nat)
  | 0 => [[]]
  | n + 1 => (allL n).flatMap fun one => [one, one ++ [n + 1]]
def ltL : List Nat → List Nat → Bool
  | _, [] => false
  | [], _ :: _ => true
  | x :: xs, y :: ys => if x = y then ltL xs ys else decide (x < y)
def ascB (size : Nat) : Nat → List Nat → Bool
  | _, [] => true
  | last, x :: xs => decide (last < x) && (decide (x ≤ size) && ascB size x xs)
theorem ascB_asc {size : Nat} : ∀ {xs : List Nat} {last : Nat}, ascB size last xs = true → Asc size last xs
  | [], _, _ => trivial
  | x :: xs, last, h => by
    unfold ascB at h
    simp only [Bool.and_eq_true, decide_eq_true_eq] at h
    exact ⟨h.1, h.2.1, ascB_asc h.2.2⟩
def pairB : List (List Nat) → Bool
  | [] => true
  | [_] => true
  | x :: y :: r => ltL x y && pairB (y :: r)
def idxB (size : Nat) : Nat → List (List Nat) → Bool
  | _, [] => true
  | k, x :: r => decide (idx size 0 x = (k : Int)) && idxB size (k + 1) r
def okB (size m : Nat) : Bool := ((subs size 1 m).isPerm ((allL size).filter fun one => decide (one.length = m))) && ((subs size 1 m).all (fun x => decide (x.length = m) && ascB size 0 x) && (pairB (subs size 1 m) && (idxB size 0 (subs size 1 m) && decide (((subs size 1 m).length : Int) = bin size m))))
theorem okB_all : ((List.range 9).all fun size => (List.range 10).all fun m => okB size m) = true := by decide +kernel
theorem okB_t {size m : Nat} (h1 : size < 9) (h2 : m < 10) : okB size m = true := by
  have h := okB_all
  rw [List.all_eq_true] at h
  have h3 := h size (List.mem_range.mpr h1)
  rw [List.all_eq_true] at h3
  exact h3 m (List.mem_range.mpr h2)
end SMath

namespace SrtO
open PySem PyProof.Rows
section
variable {prog : Program} {w : World} {A : Around} {E : Value → Shared → Prop} {s : Shared}
theorem swo_code (r : Value → Int) : Swo fun v u => decide (r v < r u) := by
  refine ⟨fun x y h => ?_, fun x y z h1 h2 => ?_⟩
  · have a : r x < r y := of_decide_eq_true h
    exact decide_eq_false (by omega)
  · have a := of_decide_eq_false h1
    have b := of_decide_eq_false h2
    exact decide_eq_false (by omega)
theorem tups_sortableO {a : Addr} {vs : List Value} {d : Nat} {B : Int} {r : Value → Int} (hd : 1 ≤ d) (h2 : 2 ≤ vs.length) (x : ∀ v, v ∈ vs → ∃ ns, TS.TupInts s.heap v ns ∧ ns.length = d ∧ TS.Bd B ns ∧ r v = TS.code B ns)
    (ha : ∀ o, s.heap.get? a = some o → o.cls ≠ .type "tuple") : SortableO prog w A s a vs fun v u => decide (r v < r u) := by
  intro h' keep
  have kp : ∀ b o, s.heap.get? b = some o → o.cls = .type "tuple" → h'.get? b = some o := fun b o e c => keep b o (fun z => by subst z; exact ha o e c) e
  have hr' : ∀ v, v ∈ vs → ∃ ns, TS.TupInts h' v ns ∧ ns.length = d ∧ TS.Bd B ns ∧ r v = TS.code B ns := fun v hv => by
    obtain ⟨ns, t, l, bd, e⟩ := x v hv
    exact ⟨ns, t.keeps kp, l, bd, e⟩
  have x' : TS.TupsOk h' d B vs := fun v hv => by
    obtain ⟨ns, t, l, bd, e⟩ := hr' v hv
    exact ⟨ns, t, l, bd⟩
  obtain ⟨fs, k, hl, hi⟩ := TS.firsts_of hd vs x'
  refine ⟨tuples' true, fun Q E hq => ?_, ?_⟩
  · refine PySem.W.kat_kind (T := .type "int") k (by omega) (fun f hm => ?_) (by rfl) ?_
    · obtain ⟨n, t, rfl⟩ := hi f hm
      exact PySem.W.Looks.of_pure rfl
    · have e : (Value.type "int" != Value.type "tuple") = true := by first | decide +kernel | rfl | decide
      rw [e]
      exact hq
  · intro p q hm hm'
    show wpAny (model prog w) A (keyLt' (tuples' true) p.1 q.1) (fun z s' => s' = { s with heap := h' } ∧ z = decide (r p.1 < r q.1)) (fun _ _ => False) { s with heap := h' }
    obtain ⟨ns, tp, lp, bp, ep⟩ := hr' _ hm
    obtain ⟨ms, tq, lq, bq, eq2⟩ := hr' _ hm'
    rw [ep, eq2]
    obtain ⟨a1, xs, e1, ⟨o, ho, hc, n, hdt⟩, i⟩ := tp
    obtain ⟨a2, ys, e2, ⟨o', ho', hc', n', hdt'⟩, i'⟩ := tq
    rw [e1, e2]
    refine PySem.W.kat_lt ho hdt ho' hdt' ?_
    have sz : decide (xs.size < ys.size) = false := by
      have l1 := i.length
      have l2 := i'.length
      rw [Array.length_toList] at l1 l2
      exact decide_eq_false (by omega)
    rw [sz]
    exact TS.lex_ints 0 i i' (by omega) bp bq ⟨rfl, rfl⟩
end
end SrtO
namespace L2
open PySem PySem.Spec PyProof.Rows
/-- sorted(xs), xs a list of tuples of d ints each (k says which) from 0 on and below B: a new list, sorted -/
def rSortedC (K : PySem.W.Frag) : List V → Hp → VK → Prop := fun vs H Q => ∃ (a : Addr) (xs : List V) (k : V → List Int) (d : Nat) (B : Int), vs = [V.ref a] ∧ SqL K H a xs ∧ (∀ x ∈ xs, ∃ t, x = V.ref t ∧ H t = some (.tup ((k x).map V.int)) ∧ (k x).length = d ∧ TS.Bd B (k x)) ∧ (1 ≤ d ∨ xs.length < 2) ∧
  ∀ ys p, ys.Perm xs → ys.Pairwise (fun x y => TS.code B (k x) ≤ TS.code B (k y)) → H p = none → Q (.ref p) (upd H p (.lst ys))
section
variable {X : Cx}
theorem cr_sortedC : CallR X (.builtin "sorted") (rSortedC X.K) := by
  intro pins s σ H vs us Q I r h
  obtain ⟨a, xs, k, d, B, rfl, hs, hx, hd, q⟩ := h
  obtain ⟨its, rv, hl, hz⟩ := I.list hs
  obtain ⟨u, rfl, ru⟩ := vals1 r
  obtain rfl : u = Value.ref a := ru
  obtain ⟨e1, e2⟩ := refs_back rv fun x m => by
    obtain ⟨t, e, _⟩ := hx x m
    exact ⟨t, e⟩
  have tup : ∀ v ∈ its, ∃ ns, TS.TupInts s.heap v ns ∧ ns = k (backV v) ∧ ns.length = d ∧ TS.Bd B ns := fun v hv => by
    obtain ⟨t, rfl⟩ := e2 v hv
    have hm : V.ref t ∈ xs := by rw [e1]; exact List.mem_map.mpr ⟨_, hv, rfl⟩
    obtain ⟨t', e, ht, hl, hb⟩ := hx _ hm
    cases e
    obtain ⟨_, its2, r2, o, ho, hc, n, hdt⟩ := I.hok _ _ ht
    exact ⟨_, ⟨t, _, rfl, ⟨o, ho, hc, n, hdt⟩, show IntsAre _ (k (V.ref t)) by simpa using Vals.ints r2⟩, rfl, hl, hb⟩
  refine SrtO.sorted_ord (ltv := fun v u => decide (TS.code B (k (backV v)) < TS.code B (k (backV u)))) (SrtO.swo_code fun v => TS.code B (k (backV v))) hl.isList (by rw [← rv.length]; exact hz) (fun h2 h₁ c hc kk => ?_) fun out hs1 hb1 => ?_
  · have hxl : 2 ≤ xs.length := by rw [rv.length]; exact h2
    refine SrtO.tups_sortableO (s := { s with heap := h₁ }) (d := d) (B := B) (r := fun v => TS.code B (k (backV v))) (by omega) h2 ?_ ?_
    · intro v hv
      obtain ⟨ns, t, e, l, b⟩ := tup v hv
      exact ⟨ns, t.keeps fun b o e _ => (kk b o e).2, l, b, by rw [e]⟩
    · intro o e
      have e' := e.symm.trans hc
      cases e'
      intro c
      exact absurd (Value.type.inj c) (by decide)
  · have h3 : ∀ u ∈ out, ∃ a, u = Value.ref a := fun u hu => e2 u (hb1.perm.mem_iff.mp hu)
    have hp : (out.map backV).Perm xs := by
      rw [e1]
      exact hb1.perm.map backV
    have hord : (out.map backV).Pairwise (fun x y => TS.code B (k x) ≤ TS.code B (k y)) := by
      rw [List.pairwise_map]
      refine hs1.imp fun {v u} h => ?_
      have := of_decide_eq_false h
      omega
    refine ⟨.ref _, upd H _ (.lst (out.map backV)), I.laid (t' := s.toks) (fun b o hb => PyProof.Rows.sortedAll_old hb) (Nat.le_succ _) ⟨?_, out, _, vals_back h3, (PyProof.Rows.sortedAll_at s.heap its out.toArray).choose_spec⟩, rfl, q _ _ hp hord (I.hok.fresh (Nat.le_succ _))⟩
    rw [hp.length_eq]
    exact hz
end
end L2

/-! A lambda with one parameter and captured names, handed to another def and called there. -/
namespace LamX
open PySem PySem.Spec PyProof.Rows L2 NdefX
def lamNF (qual : Str) (params : Arguments) (scope : Scope) (cl : List (Str × Addr)) (c : Addr) : NF := ⟨"<lambda>", qual, params, [], scope, cl, c⟩
section
variable {CX : CXT} {P : Program} {w : World} {K : PySem.W.Frag} {mg : Str → Option Value} {base : Heap} {N fr : List Str} {f : Addr} {k : Nat} {px : Str}
/-- the lambda called -/
theorem lam_run1 {qual : Str} {params : Arguments} {body : Expr} {scope : Scope} {cl : List (Str × Addr)} {c' : Addr} {pm ctv : Value} {tb : TE} {A : Around} {outer : List Env} {s : Shared} {H : Hp} {u : Value} {v : V} {ws : List (Option V)} {Q : VK} {E : XK}
    (S : NScope N [px] fr scope) (hb : bindArgs (PySem.W.kla_fn "<lambda>" qual params body scope cl pm (.ref c') ctv) ⟨[u], []⟩ = pure [(px, u)]) (hr : Room (k + 1) A) (e0 : Env0 P w K mg base A outer s H)
    (ho : s.heap.get? f = some (PySem.W.kla_obj "<lambda>" qual params body scope cl pm c' ctv)) (hc : H c' = some (CodeO c' qual)) (C : CellsAt cl fr ws s.heap H) (rv : L2.RelV v u)
    (hbody : Room k (A.deeper (envF (lamNF qual params scope cl c') f s.heap.objs.size)) → PE (ncx CX P w K mg base N (lamNF qual params scope cl c') f A outer s H E) body tb) (hq : tb (startF N [v] ws) H Q) :
    codeAny (model P w) A (.call (.ref f) ⟨[u], []⟩) (CR CX outer P w H s Q E) s := by
  have lim : s.heap.NoLimit := e0.mod.nolimit.keeps fun b o e => (e0.bs b o e).1
  refine PySem.W.kla_callFunE hr.depth ho rfl S.co S.gen rfl (codeO_at e0.hok hc) ?_
  rw [show bindArgs _ ⟨[u], []⟩ = pure [(px, u)] from hb]
  refine wpAny_pure (wpAny_newFunctionEnv S.nocell (fun y hy => ?_) (fun h₁ hns hsb => ⟨lim.fresh _ hsb, ?_⟩) S.kind)
  · simp only [List.mem_singleton] at hy
    rw [hy]
    exact S.par px (by simp)
  show codeAny _ _ (.expr body (envF (lamNF qual params scope cl c') f s.heap.objs.size)) _ _
  have kp : ∀ b o, s.heap.get? b = some o → h₁.get? b = some o := fun b o e => hsb.extBut b o (Nat.ne_of_lt (Heap.lt_size e)) (Heap.get?_push_of_some _ e)
  have I : Inv (ncx CX P w K mg base N (lamNF qual params scope cl c') f A outer s H E) [] (startF N [v] ws) H { s with heap := h₁, toks := s.toks + ([px].zip [u]).length } := inv_startN S hr.hd e0 rfl (.cons rv .nil) C hns kp
  refine PySem.W.kla_codeExpr (wpAny_mono ((hbody (hr.deeper _)).run [] _ _ H Q I hq) (fun z s' hz => ?_) fun e s' hz => hz)
  obtain ⟨w', H', J, rz, q⟩ := hz
  exact ⟨w', H', J.os, J.bare, J.base, J.hok, rz, q⟩
end
section
variable {X : Cx} {pins : List (Addr × Obj)} {σ : L2.St} {H : Hp} {s : Shared}
/-- a(e) within the def that got the lambda; Z is its context, entered at s -/
theorem pe_act1 {CXg : CXT} {Eg : XK} {Ng : List Str} {qg : Str} {sg : Scope} {g f c' : Addr} {cdg pm ctv : Value} {params : Arguments} {body : Expr} {scope : Scope} {cl : List (Str × Addr)} {k i : Nat} {a px : Str} {pn : List (Addr × Obj)} {xe : Value → Shared → Prop} {Nl fr : List Str} {ws : List (Option V)} {qual : Str}
    {tb : TE} {ta : TA} {e : Expr} {p1 p2 : Pos} (S : NScope Nl [px] fr scope) (hf : s.heap.get? f = some (PySem.W.kla_obj "<lambda>" qual params body scope cl pm c' ctv)) (hfn : H f = none) (hfr : f ∉ frs X.stack)
    (C : CellsAt cl fr ws s.heap H) (nf : ∀ y c, cl.lookup y = some c → c ∉ frs X.stack)
    (hbind : ∀ u : Value, bindArgs (PySem.W.kla_fn "<lambda>" qual params body scope cl pm (.ref c') ctv) ⟨[u], []⟩ = pure [(px, u)])
    (hr : Room (k + 1) (X.A.deeper (envOfC qg sg s.heap.objs.size g cdg)))
    (hbody : ∀ (A : Around) (outer : List Env) (s : Shared) (H : Hp), Room k (A.deeper (envF (lamNF qual params scope cl c') f s.heap.objs.size)) → PE (ncx (fun _ _ _ _ _ _ => False) X.prog X.w X.K X.mg X.base Nl (lamNF qual params scope cl c') f A outer s H (fun _ _ _ => False)) body tb)
    (hN : Ng[i]? = some a) (hv : Vis sg a) (ha : PA ((cxOf CXg X.prog X.w X.K X.mg X.base Ng qg sg g cdg X.A X.stack s H Eg).tr pn xe) [e] ta)
    (hd : (a == ("__debug__" : Str)) = false := by decide) (hcd : (a == ("__classdict__" : Str)) = false := by decide)
    (he : starEach [e] ((cxOf CXg X.prog X.w X.K X.mg X.base Ng qg sg g cdg X.A X.stack s H Eg).tr pn xe).env = (false, eval e ((cxOf CXg X.prog X.w X.K X.mg X.base Ng qg sg g cdg X.A X.stack s H Eg).tr pn xe).env) :: starEach [] ((cxOf CXg X.prog X.w X.K X.mg X.base Ng qg sg g cdg X.A X.stack s H Eg).tr pn xe).env := by rfl) :
    PE ((cxOf CXg X.prog X.w X.K X.mg X.base Ng qg sg g cdg X.A X.stack s H Eg).tr pn xe) (.Call (.Name a p1) [e] [] p2)
      (fun σZ HZ Q => σZ[i]? = some (some (.ref f)) ∧ ta σZ HZ fun vs H1 => ∃ v, vs = [v] ∧ H1 c' = some (CodeO c' qual) ∧ tb (startF Nl [v] ws) H1 Q) := by
  refine ⟨fun pinsZ sZ σZ HZ Q IZ h => ?_⟩
  obtain ⟨hs, ht⟩ := h
  refine wpAny_Call_Name_kw (thn ((pe_var (pos := p1) (i := i) hN hv hd hcd).run pinsZ sZ σZ HZ (fun v H1 => v = .ref f ∧ H1 = HZ) IZ ⟨.ref f, hs, rfl, rfl⟩) fun u s1 ⟨v, H1, I1, r1, q1⟩ => ?_)
  obtain ⟨ev, eH⟩ := q1
  subst ev
  rw [eH] at I1
  obtain rfl : u = Value.ref f := r1
  have ofn : ∀ {pz σz Hz sz}, Inv ((cxOf CXg X.prog X.w X.K X.mg X.base Ng qg sg g cdg X.A X.stack s H Eg).tr pn xe) pz σz Hz sz → sz.heap.get? f = some (PySem.W.kla_obj "<lambda>" qual params body scope cl pm c' ctv) := fun {pz σz Hz sz} Iz =>
    Iz.base.keep f _ hf hfn hfr (fun z => nomatch (show f ∈ ([] : List Addr) from z))
  refine PySem.W.callWith_F (first := []) ⟨_, _, _, _, ofn I1⟩ (thn (ha.run p2 pinsZ s1 σZ HZ _ I1 ht) fun us s2 ⟨vs, H2, I2, r, vv, ev, hc2, q⟩ => ⟨⟨_, _, _, _, ofn I2⟩, ?_⟩) he rfl
  subst ev
  obtain ⟨uu, rfl, ruu⟩ := vals1 r
  show wpAny _ _ (call (.ref f) [uu]) _ _ _
  have C2 : CellsAt cl fr ws s2.heap H2 := CellsAt.later (X := (cxOf CXg X.prog X.w X.K X.mg X.base Ng qg sg g cdg X.A X.stack s H Eg).tr pn xe) C nf (fun y c _ => by intro z; exact nomatch (show c ∈ ([] : List Addr) from z)) I2
  have rc : codeAny (model X.prog X.w) (X.A.deeper (envOfC qg sg s.heap.objs.size g cdg)) (.call (.ref f) ⟨[uu], []⟩) (CR (fun _ _ _ _ _ _ => False) (envOfC qg sg s.heap.objs.size g cdg :: X.stack) X.prog X.w H2 s2 Q (fun _ _ _ => False)) s2 :=
    lam_run1 S (hbind uu) hr I2.env0 (ofn I2) hc2 C2 ruu (fun hr2 => hbody _ _ s2 H2 hr2) q
  refine wpAny_call (codeAny_mono rc fun r s' hq => ?_)
  cases r with
  | error e => exact False.elim hq
  | ok fl =>
    cases fl with
    | ret u => exact I2.after hq
    | next => exact False.elim hq
    | brk => exact False.elim hq
    | cont => exact False.elim hq
theorem cells_above : ∀ (names : List (Str × NameKind)) (n : Nat) (acc : List (Str × Addr)) (y : Str) (c : Addr), (cellsFrom n names acc).lookup y = some c → n ≤ c ∨ acc.lookup y = some c
  | [], n, acc, y, c, h => .inr h
  | (name, kind) :: r, n, acc, y, c, h => by
    unfold cellsFrom at h
    split at h
    · rcases cells_above r (n + 1) _ y c h with q | q
      · exact .inl (Nat.le_of_lt q)
      · rw [List.lookup_cons] at q
        split at q
        · exact .inl (Nat.le_of_eq (Option.some.inj q))
        · exact .inr q
    · exact cells_above r n acc y c h
/-- what stands for the lambda's call within the def that got it -/
def Act (X : Cx) (Ng : List Str) (x : Str) (sg : Scope) (g : Addr) (cdg : Value) (a : Str) (i : Nat) (q : Str) (f c' : Addr) (s : Shared) (H : Hp) (tl : V → TE) (σ0 : L2.St) : Prop :=
  ∀ (e : Expr) (ta : TA) (p1 p2 : Pos), PA (cxOf C8.CX0 X.prog X.w X.K X.mg X.base Ng x sg g cdg X.A X.stack s H C8.E0).nox [e] ta →
    starEach [e] (cxOf C8.CX0 X.prog X.w X.K X.mg X.base Ng x sg g cdg X.A X.stack s H C8.E0).nox.env = (false, eval e (cxOf C8.CX0 X.prog X.w X.K X.mg X.base Ng x sg g cdg X.A X.stack s H C8.E0).nox.env) :: starEach [] (cxOf C8.CX0 X.prog X.w X.K X.mg X.base Ng x sg g cdg X.A X.stack s H C8.E0).nox.env →
    PE (cxOf C8.CX0 X.prog X.w X.K X.mg X.base Ng x sg g cdg X.A X.stack s H C8.E0).nox (.Call (.Name a p1) [e] [] p2) (fun σZ HZ Q => σZ[i]? = some (some (.ref f)) ∧ ta σZ HZ fun vs H1 => ∃ v, vs = [v] ∧ H1 c' = some (CodeO c' q) ∧ tl v σ0 H1 Q)
/-- x(e1, e2, lambda px: body), x a def of three parameters that calls the third one -/
theorem pe_lamcall3 {T : List (Addr × Str)} {x : Str} {g c P : Addr} {k : Nat} {pg : Arguments} {bg : List Stmt} {sg : Scope} {dV kV doc pm cdv ct oc : Value} {an od : Option Addr} {osl : Array (Option Value)} {Ng : List Str} {a1 a2 a3 px : Str} {Nl fr : List Str} {js : List Nat}
    {params : Arguments} {body : Expr} {scope : Scope} {e1 e2 : Expr} {te1 te2 tb : TE} {p lpos pos : Pos} {TT : V → V → (V → Hp → VK → Prop) → Hp → VK → Prop}
    (hg : Gl X x) (hm : X.mg x = some (.ref g)) (hk : PySem.W.keepIn X.K (.ref g) = true) (lk : X.K.lookup g = some ⟨oc, od, .func (PySem.W.fnOf x x pg bg sg dV kV doc pm an cdv ct), osl⟩) (hcg : PySem.W.codeIn X.K cdv x = true)
    (hb : L2.Binds X.K (PySem.W.fnOf x x pg bg sg dV kV doc pm an cdv ct) [a1, a2, a3] []) (Sg : FnScope Ng [a1, a2, a3] sg) (hNg : Ng[2]? = some a3) (hva : Vis sg a3) (he1 : PE X e1 te1) (he2 : PE X e2 te2)
    (hG : ∀ (v1 v2 : V) (f c' : Addr) (s : Shared) (H : Hp) (Q : VK) (tl : V → TE) (σ0 : L2.St), Act X Ng x sg g cdv a3 2 (X.env.qual ++ "<lambda>") f c' s H tl σ0 → H c' = some (CodeO c' (X.env.qual ++ "<lambda>")) → TT v1 v2 (fun v H' Q' => tl v σ0 H' Q') H Q →
      ∃ t, PSs (cxOf C8.CX0 X.prog X.w X.K X.mg X.base Ng x sg g cdv X.A X.stack s H C8.E0).nox bg t ∧ t { nx := fun _ H' => Q .non H', rt := Q } (L2.start Ng [v1, v2, .ref f]) H)
    (TB : TabB X.base X.mg c P) (hcode : X.env.code = .ref c) (hmT : (P, X.env.qual ++ "<lambda>") ∈ T) (hu : ∀ p ∈ T, p.1 = P → p.2 = X.env.qual ++ "<lambda>") (hr : Room (k + 2) X.A)
    (Sl : NScope Nl [px] fr scope) (hfree : ∀ y ∈ scope.names, y.2 = .free → X.env.scope.names.lookup y.1 = some .cell ∨ X.env.scope.names.lookup y.1 = some .free) (hfrn : ∀ y ∈ fr, (y, NameKind.free) ∈ scope.names) (hjs : js.map (fun j => X.N[j]?) = fr.map some)
    (hdef : defaultsOf params X.env = ([], [])) (hbind : ∀ (q : Str) (cl : List (Str × Addr)) (pm cv ctv u : Value), bindArgs (PySem.W.kla_fn "<lambda>" q params body scope cl pm cv ctv) ⟨[u], []⟩ = pure [(px, u)])
    (hbody : ∀ (cl : List (Str × Addr)) (c' f : Addr) (A : Around) (outer : List Env) (s : Shared) (H : Hp), Room k (A.deeper (envF (lamNF (X.env.qual ++ "<lambda>") params scope cl c') f s.heap.objs.size)) →
      PE (ncx (fun _ _ _ _ _ _ => False) X.prog X.w X.K X.mg X.base Nl (lamNF (X.env.qual ++ "<lambda>") params scope cl c') f A outer s H (fun _ _ _ => False)) body tb)
    (hcab : ∀ y c, X.env.cells.lookup y = some c → X.env.locals < c)
    (hst : starEach [e1, e2, .Lambda params body scope lpos] X.env = (false, eval e1 X.env) :: starEach [e2, .Lambda params body scope lpos] X.env := by rfl) (hst2 : starEach [e2, .Lambda params body scope lpos] X.env = (false, eval e2 X.env) :: (false, eval (.Lambda params body scope lpos) X.env) :: [] := by rfl)
    (hdb : (x == ("__debug__" : Str)) = false := by decide) (hd : (a3 == ("__debug__" : Str)) = false := by decide) (hcd : (a3 == ("__classdict__" : Str)) = false := by decide) :
    PE X (.Call (.Name x p) [e1, e2, .Lambda params body scope lpos] [] pos) (fun σ H Q => te1 σ H fun v1 H1 => te2 σ H1 fun v2 H2 => Tabs T H2 ∧ ∀ H3, ExtN H2 H3 → Tabs T H3 → TT v1 v2 (fun v H' Q' => tb (startF Nl [v] (js.map (slotAt σ))) H' Q') H3 Q) := by
  refine ⟨fun pins s σ H Q I h => ?_⟩
  refine wpAny_Call_Name_kw (ld_glob I hg hm ?_ hdb)
  refine PySem.W.callWith_K (h₀ := X.base) I.ok.mod.kin hk ?_ hst (by rw [hst2]; rfl)
  rw [hst, hst2]
  show wpAny _ _ (spliced ((false, eval e1 X.env) :: (false, eval e2 X.env) :: (false, eval (.Lambda params body scope lpos) X.env) :: [])) _ _ s
  refine Calls.spliced_cons (thn (he1.run pins s σ H _ I h) fun u1 s1 ⟨v1, H1, I1, r1, h1⟩ => ?_)
  refine Calls.spliced_cons (thn (he2.run pins s1 σ H1 _ I1 h1) fun u2 s2 ⟨v2, H2, I2, r2, hT, h2⟩ => ?_)
  have hhas : ∀ y ∈ scope.names, y.2 = .free → ∃ c, X.env.cells.lookup y.1 = some c := fun y hy e => (hfree y hy e).elim (fun z => I.ok.has _ (.inl z)) fun z => I.ok.has _ (.inr z)
  refine Calls.spliced_cons (lam_make2 I2 TB hcode hmT hu hT hdef hhas fun f c' pm' ctv H3 s3 I3 eN T3 hf hfn hfr hco => ?_)
  refine Calls.spliced_nil ⟨I3.kIn, ?_⟩
  have cps : Caps X (cloFrom X.env.cells scope.names []) fr js := Caps.made I3.ok hfree hfrn hjs
  have C3 := cells_of I3 cps
  have hcel : ∀ y c, X.env.cells.lookup y = some c → c ∉ frs X.stack := fun y c hy z => by
    have hc := hcab y c hy
    rcases List.mem_cons.mp (I3.stkSub _ z) with e | e
    · rw [e] at hc
      exact Nat.lt_irrefl _ hc
    · obtain ⟨_, o, ho, _⟩ := I3.ok.funs.mem e
      exact Nat.lt_irrefl _ (Nat.lt_trans (Nat.lt_of_lt_of_le (Heap.lt_size ho) I3.ok.above) hc)
  have rc : codeAny (model X.prog X.w) X.A (.call (.ref g) ⟨[u1, u2, .ref f], []⟩) (CR C8.CX0 X.stack X.prog X.w H3 s3 Q C8.E0) s3 := by
    refine run_ofS (N := Ng) (ps := [a1, a2, a3]) (us := [u1, u2, .ref f]) (vs := [v1, v2, .ref f]) lk hcg Sg hr I3.env0 (hb s3 [u1, u2, .ref f] I3.kIn rfl) (.cons r1 (.cons r2 (.cons rfl .nil))) rfl fun hr' => ?_
    obtain ⟨t', ht', hq'⟩ := hG v1 v2 f c' s3 H3 Q (fun v σ H' Q' => tb (startF Nl [v] (js.map (slotAt σ))) H' Q') σ (fun e ta p1 p2 pa hse => pe_act1 (CXg := C8.CX0) (Eg := C8.E0) (pn := []) (xe := fun _ _ => False) (k := k) (cl := cloFrom X.env.cells scope.names []) (ws := js.map (slotAt σ)) Sl hf hfn hfr C3
      (fun y cc hy => hcel y cc (cps.sub y cc hy)) (fun u => hbind _ _ _ _ _ u) hr' (fun A outer s H hr2 => hbody _ _ _ A outer s H hr2) hNg hva pa hd hcd hse) hco (h2 H3 eN T3)
    exact ⟨t', ht'.nox, hq'⟩
  refine wpAny_call (codeAny_mono rc fun r s4 hq => ?_)
  cases r with
  | error e => exact (show False from hq).elim
  | ok fl =>
    cases fl with
    | ret u => exact I3.after hq
    | next => exact False.elim hq
    | brk => exact False.elim hq
    | cont => exact False.elim hq
end
end LamX

/-! enumerate over a tuple: from what the library draws of a tuple (Draws.tuple, WalksT.enumFrom). -/
namespace EnuT
open PySem
/-- the two cells that enumerate(v) lays: v's iterator o, and itself -/
def cells (h : Heap) (o : Obj) : Heap := (h.push o).push { cls := .type "enumerate", data := .fields #[.none, .bool false, .ref h.objs.size, rawInt 0, .none, .none] }
theorem made {v : Value} {o : Obj} {H : Heap → Prop} (B : Begins v o H) :
    Meets (Builtin.«enumerate.__new__» ⟨[.type "enumerate", v], []⟩) (fun _ R s => H s.heap ∧ R (.ok (.ret (.ref (s.heap.push o).objs.size))) { s with heap := cells s.heap o }) := by
  refine .of_wp fun prog w A R s h => ?_
  obtain ⟨hp, gs, dr, tk, os⟩ := s
  have sub := sub_enumerate
  have it : ∀ {A' : Around} {E : Value → Shared → Prop} {Q : Value → Shared → Prop}, Q (.ref hp.objs.size) ⟨hp.push o, gs, dr, tk, os⟩ → wpAny (model prog w) A' (pyIter v) Q E ⟨hp, gs, dr, tk, os⟩ := fun q => B.iter prog w _ _ ⟨hp, gs, dr, tk, os⟩ _ h.1 q
  wp_walk using it
  exact wpAny_stack_any fun st => wpAny_pure (by
    split
    · rename_i cl _ _ _ _ _
      cases (cl == Value.type "enumerate") <;> (wp_walk using it; exact ⟨_, rfl, h.2⟩)
    · wp_walk using it
      exact ⟨_, rfl, h.2⟩)
theorem called {prog : Program} {w : World} {A : Around} {E : Value → Shared → Prop} {s : Shared} {v : Value} {o : Obj} {H : Heap → Prop} {Q : Value → Shared → Prop} (B : Begins v o H) (h1 : H s.heap)
    (h : ∀ h', IsEnum h' (s.heap.objs.size + 1) s.heap.objs.size 0 .none → h'.get? s.heap.objs.size = some o → (∀ b u, s.heap.get? b = some u → h'.get? b = some u) → Q (.ref (s.heap.objs.size + 1)) { s with heap := h' }) :
    wpAny (model prog w) A (call (.type "enumerate") [v]) Q E s := by
  have z : (s.heap.push o).objs.size = s.heap.objs.size + 1 := Heap.size_push ..
  have g : IsEnum (cells s.heap o) (s.heap.objs.size + 1) s.heap.objs.size 0 .none := by
    have q : (cells s.heap o).get? (s.heap.push o).objs.size = _ := Heap.get?_push_size _ rfl
    rwa [z] at q
  refine callType_new F.called_enumerate (by decide) (F.typeCall_enumerate_1 _) (F.newCall_enumerate_1 _) (fun u => F.args_object_init_2 u _) F.entry_enumerate_new (made B) ⟨h1, ?_⟩
  rw [z]
  exact ⟨⟨_, g, rfl⟩, h _ g (Heap.get?_push_of_some _ (Heap.get?_push_size _ B.free)) fun b u q => Heap.get?_push_of_some _ (Heap.get?_push_of_some _ q)⟩
end EnuT
namespace L2
open PySem PySem.Spec PyProof.Rows
/-- the tuple at a, each item in a new pair -/
def IteT (K : PySem.W.Frag) (a : Addr) : It where
  go := fun i H => ∃ (xs : List V) (x : V), SqT K H a xs ∧ xs[i]? = some x
  yld := fun i H v H' => ∃ T x, v = .ref T ∧ H T = none ∧ H' = upd H T (.tup [.int (i : Nat), x]) ∧ ∀ xs, SqT K H a xs → xs[i]? = some x
  stop := fun i H => ∃ xs : List V, SqT K H a xs ∧ xs.length = i
/-- the enumerate at e over the tuple iterator it, i items drawn -/
def EnSt (a e it : Addr) (i : Nat) (h : Heap) : Prop := (∃ old, IsEnum h e it (0 + (i : Int)) old) ∧ h.IsTupleIter it a i ∧ e ≠ it
theorem EnSt.far {a e it : Addr} {i : Nat} {h : Heap} {its : Array Value} (st : EnSt a e it i h) (p : h.IsTuple a its) : e ≠ a ∧ a ≠ it := by
  obtain ⟨⟨_, he⟩, ⟨o2, h2, c2, _⟩, _⟩ := st
  obtain ⟨o1, h1, c1, _⟩ := p
  constructor
  · intro z
    cases (z ▸ he).symm.trans h1
    exact absurd (Value.type.inj c1) (by decide)
  · intro z
    rw [z, h2] at h1
    cases h1
    exact absurd (Value.type.inj (c2.symm.trans c1)) (by decide)
theorem turn_enumT {P : Program} {w : World} {K : PySem.W.Frag} {elts : List Expr} {kk : Nat} {tpos : Pos} (a e it : Addr) : Turn P w K (.Tuple elts kk tpos) (IteT K a) [e, it] e (EnSt a e it) where
  mem := by simp
  obj := fun i h st b hb => by
    obtain ⟨⟨old, he⟩, ⟨o, ho, _, hd⟩, _⟩ := st
    simp only [List.mem_cons, List.not_mem_nil, or_false] at hb
    rcases hb with rfl | rfl
    · exact ⟨_, he, fun v q => nomatch q⟩
    · exact ⟨o, ho, fun v q => by cases hd.symm.trans q⟩
  keep := fun i h h' st k => ⟨st.1.imp fun old he => k e (by simp) _ he, st.2.1.at fun o q => k it (by simp) o q, st.2.2⟩
  item := by
    intro X hP hw hK hc i pins s σ H E I hf st ⟨xs, x, hq, hx⟩
    subst hP hw hK
    obtain ⟨its, rv, p, _⟩ := I.tuple hq
    obtain ⟨nea, nia⟩ := st.far (its := its.toArray) p
    obtain ⟨u, hu, ru⟩ := rv.get hx
    have hu' : its.toArray[i]? = some u := by simpa using hu
    have Wk := WalksT.enumFrom (A := X.A) 0 (Draws.tuple (prog := X.prog) (w := X.w) (A := X.A.in1) (show X.A.in1.handled = none from I.ok.hd hc) it a nia its.toArray) e st.2.2 (by simp [st.2.2, nea]) (by simp)
    refine Wk.item i s _ _ (Array.getElem?_eq_some_iff.mp hu').1 ⟨st.1, st.2.1, p⟩ fun T vals h1 tk hv hT hTup mid k1 => ⟨_, rfl, Wk.go elts kk tpos i T { s with heap := h1, toks := tk } _ _ mid fun h2 st2 k2 => ?_⟩
    obtain ⟨t, y, hy, rfl⟩ := hv
    obtain rfl : y = u := Option.some.inj (hy.symm.trans hu')
    have hT2 : h2.IsTuple T #[.int (0 + (i : Int)) t, y] := hTup.at fun o q => k2 T o (Wk.apart _ _ _ mid) q
    have old : ∀ b ob, b ∉ [e, it] → s.heap.get? b = some ob → h2.get? b = some ob := fun b ob nb q => k2 b ob nb (k1 b ob nb q)
    have new : ObjOk X.prog X.w (upd H T (.tup [.int (i : Nat), x])) h2 T (.tup [.int (i : Nat), x]) := by
      obtain ⟨o, h3, h4, n, h5⟩ := hT2
      exact ⟨by show 2 ≤ sizeLine; decide, [.int (0 + (i : Int)) t, y], .cons ⟨t, by rw [Int.zero_add]⟩ (.cons ru .nil), ⟨o, h3, h4, n, h5⟩⟩
    have lt : ∀ b ∈ [e, it], b < T := fun b hb => by
      simp only [List.mem_cons, List.not_mem_nil, or_false] at hb
      obtain ⟨⟨_, he⟩, ⟨_, hi, _⟩, _⟩ := st
      rcases hb with rfl | rfl
      · exact Nat.lt_of_lt_of_le (Heap.lt_size he) hT
      · exact Nat.lt_of_lt_of_le (Heap.lt_size hi) hT
    exact ⟨.ref T, _, I.turnedNew (t' := tk) (ch := [e, it]) old hf hT new, rfl, ⟨T, x, rfl, I.hok.fresh hT, rfl, fun ys hy2 => by rw [I.tuple_inj hy2 hq]; exact hx⟩, ⟨st2.1, st2.2.1, st.2.2⟩, fun b hb => (upd_ne (Nat.ne_of_lt (lt b hb))).trans (hf b hb).1⟩
  done := by
    intro X hP hw hK hc i pins s σ H E I hf st ⟨xs, hq, hi⟩
    subst hP hw hK hi
    obtain ⟨its, rv, p, _⟩ := I.tuple hq
    obtain ⟨nea, nia⟩ := st.far (its := its.toArray) p
    have Wk := WalksT.enumFrom (A := X.A) 0 (Draws.tuple (prog := X.prog) (w := X.w) (A := X.A.in1) (show X.A.in1.handled = none from I.ok.hd hc) it a nia its.toArray) e st.2.2 (by simp [st.2.2, nea]) (by simp)
    have hl : its.toArray.size = xs.length := by rw [List.size_toArray, rv.length]
    refine Wk.done s _ _ (by rw [hl]; exact ⟨st.1, st.2.1, p⟩) fun h' tk k => ⟨rfl, I.turnedL (t' := tk) (ch := [e, it]) k hf⟩
  self := fun A i s Q E st h => st.1.elim fun _ he => wpAny_pyIter_enum he h
def iEnumT (K : PySem.W.Frag) (ta : TA) : TI := fun σ H R => ta σ H fun vs H1 => ∃ a xs, vs = [.ref a] ∧ SqT K H1 a xs ∧ R (IteT K a) H1
theorem pi_enumT {X : Cx} {e : Expr} {ta : TA} {p pos tpos : Pos} {elts : List Expr} {kk : Nat} (hg : Gl X "enumerate") (hm : X.mg "enumerate" = none) (ha : PA X [e] ta) (one : starEach [e] X.env = [(false, eval e X.env)] := by rfl) :
    PI X (.Tuple elts kk tpos) (.Call (.Name "enumerate" p) [e] [] pos) (iEnumT X.K ta) := ⟨fun pins s σ H R I h => by
  refine Call_ (ld_blt I hg hm boot_enumerate (callWith_type1 (thn (ha.run pos pins s σ H _ I h) fun us s1 ⟨vs, H1, I1, r1, a, xs, ev, hq, q⟩ => ?_) one rfl))
  subst ev
  obtain ⟨u, rfl, ru⟩ := vals1 r1
  obtain rfl : u = Value.ref a := ru
  obtain ⟨its, rv, p', _⟩ := I1.tuple hq
  refine EnuT.called (PySem.begins_tuple a its.toArray) p' fun h' he hit hk => wpAny_pyIter_enum he ?_
  have fresh : ∀ b ∈ [s1.heap.objs.size + 1, s1.heap.objs.size], FpOk X pins H1 b := fun b hb => by
    simp only [List.mem_cons, List.not_mem_nil, or_false] at hb
    have le : s1.heap.objs.size ≤ b := by rcases hb with rfl | rfl <;> omega
    exact I1.fpOk le (I1.hok.fresh le)
  exact ⟨_, [s1.heap.objs.size + 1, s1.heap.objs.size], _, _, H1, rfl, I1.kept (t' := s1.toks) hk, turn_enumT a _ _, ⟨⟨.none, he⟩, ⟨_, hit, rfl, rfl⟩, Nat.succ_ne_self _⟩, fresh, q⟩⟩
/-- a for over it: Pv by the turn, the slots and the heap -/
theorem for_enumT {K : PySem.W.Frag} {a : Addr} {xs : List V} {g : TG} {tb : TS} {D : Ends} {σ : St} {H : Hp} (Pv : Nat → St → Hp → Prop) (h0 : Pv 0 σ H) (hl : ∀ i σ H, i ≤ xs.length → Pv i σ H → SqT K H a xs)
    (hs : ∀ i x σ H T, xs[i]? = some x → Pv i σ H → H T = none → g (.ref T) σ (upd H T (.tup [.int (i : Nat), x])) fun σ2 H2 => tb { D with nx := Pv (i + 1), ct := Pv (i + 1), bk := D.nx } σ2 H2) (hd : ∀ σ H, Pv xs.length σ H → D.nx σ H) :
    ∃ W : Nat → Nat → St → Hp → Prop, (∃ m, W 0 m σ H) ∧ ∀ i m σ H, W i m σ H →
      ((IteT K a).stop i H ∧ D.nx σ H) ∨ ((IteT K a).go i H ∧ ∃ N : St → Hp → Prop, (∀ σ' H', N σ' H' → ∃ m', m' < m ∧ W (i + 1) m' σ' H') ∧ ∀ x H', (IteT K a).yld i H x H' → g x σ H' fun σ2 H2 => tb { D with nx := N, ct := N, bk := D.nx } σ2 H2) :=
  ⟨fun i m σ H => m + i = xs.length ∧ Pv i σ H, ⟨xs.length, rfl, h0⟩, fun i m σ H ⟨e, p⟩ => by
    have q := hl i σ H (by omega) p
    by_cases lt : i < xs.length
    · exact .inr ⟨⟨xs, xs[i], q, List.getElem?_eq_getElem lt⟩, Pv (i + 1), fun σ' H' p' => ⟨xs.length - (i + 1), by omega, by omega, p'⟩, fun x H' ⟨T, y, e1, hT, e2, k⟩ => by rw [e1, e2]; exact hs i y σ H T (k xs q) p hT⟩
    · have e2 : xs.length = i := by omega
      exact .inl ⟨⟨xs, q, e2⟩, hd σ H (e2 ▸ p)⟩⟩
end L2

namespace SM
open PySem L2
/-! ### calls: what stands at a name and what it promises -/
structure Cal (P : Program) (w : World) (K : PySem.W.Frag) (mg : Str → Option Value) (base : Heap) (CX : CXT) (k : Nat) (x : Str) (ps : List Str) (sp : Sp) : Prop where
  ex : ∃ (f : Addr) (fd : FuncData), mg x = some (.ref f) ∧ PySem.W.keepIn K (.ref f) = true ∧ Binds K fd ps [] ∧ FnOk P w K mg base CX k f fd ps sp
def Df (K : PySem.W.Frag) (mg : Str → Option Value) (x : Str) (st : Stmt) (ps : List Str) : Prop :=
  ∃ (f : Addr) (fd : FuncData), mg x = some (.ref f) ∧ Fun K x x st f fd ∧ Binds K fd ps []
/-- a method of the class at C -/
structure CalM (P : Program) (w : World) (K : PySem.W.Frag) (mg : Str → Option Value) (base : Heap) (CX : CXT) (k : Nat) (C : Addr) (m : Str) (ps : List Str) (sp : Sp) : Prop where
  ex : ∃ (f : Addr) (fd : FuncData), Meth K C m f ∧ Binds K fd ps [] ∧ FnOk P w K mg base CX k f fd ps sp
def DfM (K : PySem.W.Frag) (C : Addr) (m qual : Str) (st : Stmt) (ps : List Str) : Prop :=
  ∃ (f : Addr) (fd : FuncData), Meth K C m f ∧ Fun K m qual st f fd ∧ Binds K fd ps []
/-- an own error class without more -/
structure Exc (K : PySem.W.Frag) (mg : Str → Option Value) (x : Str) (C : Addr) : Prop where
  g : mg x = some (.ref C)
  x : PySem.W.excIn K C [.type "ValueError", .type "Exception", .type "BaseException", .type "object"] "ValueError.__new__" = true
  k : PySem.W.keepIn K (.ref C) = true
  b : PySem.W.subIn K (.ref C) (.type "BaseException") = some true
  t : PySem.W.typeIn K (.ref C) = some (.type "type")
/-! ### more calls of built-in functions -/
section
variable {X : Cx}
def rComb : List V → Hp → VK → Prop := fun vs H Q => ∃ a b : Int, vs = [.int a, .int b] ∧ 0 ≤ a ∧ 0 ≤ b ∧ a < 18000 ∧ (PySem.W.McComb a b (PySem.W.mcComb a b) → Q (.int (PySem.W.mcComb a b)) H)
theorem cr_comb : CallR X (.builtin "math.comb") rComb := by
  intro pins s σ H vs us Q I r h
  obtain ⟨a, b, rfl, h1, h2, h3, q⟩ := h
  obtain ⟨t, u, rfl⟩ := Vals.int2 r
  exact PySem.W.mc_comb h1 h2 (by omega) (.inr (by omega)) fun z => ⟨.int _, H, I.tok _, ⟨_, rfl⟩, q z⟩
def rFact : List V → Hp → VK → Prop := fun vs H Q => ∃ a : Int, vs = [.int a] ∧ 0 ≤ a ∧ a ≤ 20000 ∧ Q (.int ((Builtin.Math.factorialNat a.toNat : Nat) : Int)) H
theorem cr_factorial : CallR X (.builtin "math.factorial") rFact := by
  intro pins s σ H vs us Q I r h
  obtain ⟨a, rfl, h1, h2, q⟩ := h
  obtain ⟨u, rfl, t, rfl⟩ := vals1 r
  exact PySem.W.mc_factorial h1 h2 fun z => ⟨.int _, H, I.tok _, ⟨_, rfl⟩, q⟩
end
theorem ix_listB {X : Cx} {K : PySem.W.Frag} (h : X.K = K) : IxR X (rIxL K) := by
  subst h
  exact ix_list
theorem call_lenB {X : Cx} {K : PySem.W.Frag} (h : X.K = K) : CallR X (.builtin "len") (fun xs H Q => ∃ p ys, xs = [.ref p] ∧ (SqL K H p ys ∨ SqT K H p ys) ∧ Q (.int ys.length) H) := by
  subst h
  exact call_len_seq
theorem cr_sumB {X : Cx} {K : PySem.W.Frag} (h : X.K = K) (hc : X.calm = true) : CallR X (.builtin "sum") (rSum K) := by
  subst h
  exact cr_sum hc
theorem pe_fldB {X : Cx} {K : PySem.W.Frag} {e : Expr} {ta : TE} {f : Str} {pos : Pos} (h : X.K = K) (he : PE X e ta) (hb : attributeBase e f X.env (eval e X.env) = eval e X.env) : PE X (.Attribute e f pos) (tFld K ta f) := by
  subst h
  exact pe_fld he hb
/-- an expression that is never reached -/
theorem pe_never {X : Cx} {e : Expr} : PE X e (fun _ _ _ => False) := ⟨fun _ _ _ _ _ _ h => h.elim⟩
/-! ### heaps -/
theorem same_upd {H : Hp} {p : Addr} {o : HO} (h : H p = none) : Same H (upd H p o) := fun b x e => by
  rw [upd_ne (ne_of_none e h)]
  exact e
theorem same_upd' {H H' : Hp} {p : Addr} {o : HO} (e : Same H H') (h : H p = none) : Same H (upd H' p o) := fun b x q => by
  rw [upd_ne (ne_of_none q h)]
  exact e b x q
theorem sq_of {K : PySem.W.Frag} {H : Hp} {a : Addr} {xs : List V} (h : H a = some (.lst xs)) : SqL K H a xs := .inl (.inl h)
theorem st_of {K : PySem.W.Frag} {H : Hp} {a : Addr} {xs : List V} (h : H a = some (.tup xs)) : SqT K H a xs := .inl (.inl h)
theorem same_t {K : PySem.W.Frag} {H H' : Hp} {a : Addr} {xs : List V} (e : Same H H') (h : SqT K H a xs) : SqT K H' a xs := by
  rcases h with (h | ⟨o, h⟩) | h
  · exact .inl (.inl (e _ _ h))
  · exact .inl (.inr ⟨o, e _ _ h⟩)
  · exact .inr h
theorem sz (n : Nat) (h : n ≤ 100000) : n ≤ sizeLine := Nat.le_trans h (by decide)
theorem szl (n : Nat) (h : n < 100000) : n < sizeLine := Nat.lt_of_lt_of_le h (by decide)
/-! ### None or an int -/
def oV : Option Int → V
  | none => .non
  | some i => .int i
theorem ints_of {ns : List Int} {i : Nat} {y : V} (h : (ns.map V.int)[i]? = some y) : ∃ z, ns[i]? = some z ∧ y = V.int z := by
  rw [List.getElem?_map] at h
  cases e : ns[i]? with
  | none => rw [e] at h; cases h
  | some z => rw [e] at h; exact ⟨z, rfl, (Option.some.inj h).symm⟩
theorem ints_at {ns : List Int} {i : Nat} (h : i < ns.length) : (ns.map V.int)[i]? = some (.int ns[i]) := by
  rw [List.getElem?_map, List.getElem?_eq_getElem h]; rfl
theorem take_more {α : Type} {l : List α} {i : Nat} {x : α} (h : l[i]? = some x) : l.take (i + 1) = l.take i ++ [x] := by
  rw [List.take_add_one, h]; rfl
theorem iteTb {c : Bool} {A B : Prop} (h : c = true) (a : A) : if c = true then A else B := by rw [if_pos h]; exact a
theorem iteFb {c : Bool} {A B : Prop} (h : c = false) (b : B) : if c = true then A else B := by rw [h, if_neg Bool.false_ne_true]; exact b
theorem atI_of {α : Type} {xs : List α} {z : Int} {j : Nat} {v : α} (e : z = (j : Int)) (h : xs[j]? = some v) : atI xs z = some v := by
  subst e; exact atI_nat h
theorem getD_at {cs : List Int} {j : Nat} (h : j < cs.length) : (cs.map V.int)[j]? = some (.int (cs.getD j 0)) := by
  rw [ints_at h, List.getD_eq_getElem?_getD, List.getElem?_eq_getElem h]; rfl
theorem nb {v : Int} {a : Nat} (h0 : 0 ≤ v) (h1 : v ≤ 2 ^ a) : v.natAbs < 2 ^ (a + 1) := by
  have e : ((2 : Int) ^ a) = ((2 ^ a : Nat) : Int) := by rw [Int.natCast_pow]; rfl
  rw [e] at h1
  have : 0 < 2 ^ a := Nat.pow_pos (by decide)
  rw [Nat.pow_succ]
  omega
theorem ix_tupB {X : Cx} {K : PySem.W.Frag} (h : X.K = K) : IxR X (rIxT K) := by
  subst h
  exact ix_tup
theorem if_intro {t : TT} {A B : TS} {D : Ends} {σ : St} {H : Hp} (b : Bool) (ht : ∀ Q : Bool → Hp → Prop, Q b H → t σ H Q) (hA : b = true → A D σ H) (hB : b = false → B D σ H) : tIfS t A B D σ H := ht _ (by
  cases b with
  | true => exact iteT (hA rfl)
  | false => exact iteF (hB rfl))
theorem gname_intro {i : Nat} {v : V} {σ : St} {H : Hp} {Q : St → Hp → Prop} (h : Q (σ.set i (some v)) H) : gName i v σ H Q := h
theorem next_intro {D : Ends} {σ : St} {H : Hp} (h : D.nx σ H) : tNext D σ H := h
theorem seq_intro {A R : TS} {D : Ends} {σ : St} {H : Hp} (Pst : St → Hp → Prop) (h : (∀ σ' H', Pst σ' H' → R D σ' H') → tSeq A R D σ H) (hr : ∀ σ' H', Pst σ' H' → R D σ' H') : tSeq A R D σ H := h hr
theorem any_not {α : Type} (p : α → Bool) : ∀ l : List α, (List.any (l.map fun i => !p i) id) = !l.all p
  | [] => rfl
  | x :: l => by
    rw [List.map_cons, List.any_cons, List.all_cons, any_not p l]
    cases p x <;> simp
/-! ### heaps in which tables of code may grow -/
open LamX in
theorem ext_of {H H' : Hp} (s : Same H H') : ExtN H H' := ExtN.of fun b o h => s b o h
open LamX in
theorem tabs_of {T : List (Addr × Str)} {H H' : Hp} (t : Tabs T H) (s : Same H H') : Tabs T H' := t.ext fun b o h => s b o h
open LamX in
theorem tabs_wr {T : List (Addr × Str)} {H : Hp} {q : Addr} {xs ys : List V} (t : Tabs T H) (hq : H q = some (.lst xs)) : Tabs T (upd H q (.lst ys)) := fun p hp => by
  obtain ⟨ps, h1, h2, h3⟩ := t p hp
  refine ⟨ps, by rw [upd_ne (fun e => by rw [e, hq] at h1; cases h1)]; exact h1, h2, fun pos cv hc => ?_⟩
  obtain ⟨c, e1, e2⟩ := h3 pos cv hc
  exact ⟨c, e1, by rw [upd_ne (fun e => by rw [e, hq] at e2; unfold CodeO at e2; cases e2)]; exact e2⟩
open LamX in
theorem ext_wr {H H' : Hp} {q : Addr} {xs ys : List V} (e : ExtN H H') (nq : H q = none) : ExtN H (upd H' q (.lst ys)) := fun b o h n => by
  rw [upd_ne (ne_of_none h nq)]
  exact e b o h n
/-! ### comprehensions over a range: what is made, nothing else changed -/
theorem wipe1 (σ : St) (j : Nat) (v : Option V) : wipe ((wipe σ [j]).set j v) [j] = wipe σ [j] := by
  show ((σ.set j none).set j v).set j none = σ.set j none
  rw [List.set_set, List.set_set]
theorem lc_rangeF {lo : Int} {n : Nat} {j : Nat} {tt : TT} {te : TE} {σ : St} {H1 : Hp} {D : Addr} {Qd : Hp → Prop} (c : Nat → Bool) (f : Nat → V) (hn : n ≤ 100000 - 1) (hD : H1 D = none)
    (ht : ∀ i, i < n → ∀ H, Same H1 H → ∀ R : Bool → Hp → Prop, (∀ H', Same H H' → R (c i) H') → tt ((wipe σ [j]).set j (some (.int (lo + i)))) H R)
    (he : ∀ i, i < n → c i = true → ∀ H, Same H1 H → ∀ R : VK, (∀ H', Same H H' → R (f i) H') → te ((wipe σ [j]).set j (some (.int (lo + i)))) H R)
    (hd : ∀ H, Same H1 H → H D = some (.lst (((List.range n).filter c).map f)) → Qd H) :
    ∃ W : Nat → Nat → Hp → Prop, (∃ m, W 0 m (upd H1 D (.lst []))) ∧ ∀ i m H, W i m H →
      ((Itr lo n).stop i H ∧ Qd H) ∨ ((Itr lo n).go i H ∧ ∃ Nx : Hp → Prop, (∀ H', Nx H' → ∃ m', m' < m ∧ W (i + 1) m' H') ∧ ∀ x H', (Itr lo n).yld i H x H' → gName j x (wipe σ [j]) H' fun σ2 H2 => wipe σ2 [j] = wipe σ [j] ∧ tt σ2 H2 fun b H3 =>
        if b = true then te σ2 H3 fun y H4 => ∃ acc, H4 D = some (.lst acc) ∧ acc.length < sizeLine ∧ Nx (upd H4 D (.lst (acc ++ [y]))) else Nx H3) := by
  refine lc_range (fun i H => Same H1 H ∧ H D = some (.lst (((List.range i).filter c).map f))) ⟨same_upd hD, upd_same⟩ ?_ (fun H h => hd H h.1 h.2)
  rintro i H hi ⟨sm, hd'⟩
  refine ⟨wipe1 σ j _, ?_⟩
  refine ht i hi H sm _ fun H' s' => ?_
  have hd1 := s' _ _ hd'
  have sm1 : Same H1 H' := sm.trans s'
  cases e : c i with
  | false =>
    refine iteF ?_
    refine ⟨sm1, ?_⟩
    rw [List.range_succ, List.filter_append, List.map_append]
    simp [e, hd1]
  | true =>
    refine iteT ?_
    refine he i hi e H' sm1 _ fun H2 s2 => ⟨_, s2 _ _ hd1, szl _ ?_, same_upd' (sm1.trans s2) hD, ?_⟩
    · rw [List.length_map]
      have := List.length_filter_le c (List.range i)
      rw [List.length_range] at this
      omega
    · rw [upd_same, List.range_succ, List.filter_append, List.map_append]
      simp [e]
theorem lc_rangeM {lo : Int} {n : Nat} {j : Nat} {te : TE} {σ : St} {H1 : Hp} {D : Addr} {Qd : Hp → Prop} (f : Nat → V) (hn : n ≤ 100000 - 1) (hD : H1 D = none)
    (he : ∀ i, i < n → ∀ H, Same H1 H → ∀ R : VK, (∀ H', Same H H' → R (f i) H') → te ((wipe σ [j]).set j (some (.int (lo + i)))) H R)
    (hd : ∀ H, Same H1 H → H D = some (.lst ((List.range n).map f)) → Qd H) :
    ∃ W : Nat → Nat → Hp → Prop, (∃ m, W 0 m (upd H1 D (.lst []))) ∧ ∀ i m H, W i m H →
      ((Itr lo n).stop i H ∧ Qd H) ∨ ((Itr lo n).go i H ∧ ∃ Nx : Hp → Prop, (∀ H', Nx H' → ∃ m', m' < m ∧ W (i + 1) m' H') ∧ ∀ x H', (Itr lo n).yld i H x H' → gName j x (wipe σ [j]) H' fun σ2 H2 => wipe σ2 [j] = wipe σ [j] ∧ tYes σ2 H2 fun b H3 =>
        if b = true then te σ2 H3 fun y H4 => ∃ acc, H4 D = some (.lst acc) ∧ acc.length < sizeLine ∧ Nx (upd H4 D (.lst (acc ++ [y]))) else Nx H3) :=
  lc_rangeF (tt := tYes) (fun _ => true) f hn hD (fun i _ H _ R k => k H (.refl H)) (fun i hi _ => he i hi) (fun H s h => hd H s (by rw [h, List.filter_eq_self.mpr (fun _ _ => rfl)]))
structure Rws (H1 H : Hp) (rs : List Addr) (F : Nat → List V) : Prop where
  at_ : ∀ (j : Nat) (r : Addr), rs[j]? = some r → H r = some (.lst (F j))
  fr : ∀ r ∈ rs, H1 r = none
  inj : ∀ (i j : Nat) (r : Addr), rs[i]? = some r → rs[j]? = some r → i = j
theorem Rws.nil {H1 H : Hp} {F : Nat → List V} : Rws H1 H [] F := ⟨fun j r h => by simp at h, fun r h => (by cases h), fun i j r h => by simp at h⟩
theorem Rws.mono {H1 H H' : Hp} {rs : List Addr} {F : Nat → List V} (h : Rws H1 H rs F) (s : Same H H') : Rws H1 H' rs F := ⟨fun j r e => s _ _ (h.at_ j r e), h.fr, h.inj⟩
theorem Rws.base {H0 H1 H : Hp} {rs : List Addr} {F : Nat → List V} (h : Rws H1 H rs F) (s : Same H0 H1) : Rws H0 H rs F := ⟨h.at_, fun r hr => s.free (h.fr r hr), h.inj⟩
theorem Rws.congr {H1 H : Hp} {rs : List Addr} {F F' : Nat → List V} (h : Rws H1 H rs F) (e : ∀ j, j < rs.length → F j = F' j) : Rws H1 H rs F' :=
  ⟨fun j r a => by rw [← e j (List.getElem?_eq_some_iff.mp a).1]; exact h.at_ j r a, h.fr, h.inj⟩
theorem Rws.other {H1 H : Hp} {rs : List Addr} {F : Nat → List V} (h : Rws H1 H rs F) {p : Addr} {o : HO} (hp : ∀ r ∈ rs, r ≠ p) : Rws H1 (upd H p o) rs F :=
  ⟨fun j r a => by rw [upd_ne (hp r (List.mem_of_getElem? a))]; exact h.at_ j r a, h.fr, h.inj⟩
theorem Rws.snoc {H1 H H' : Hp} {rs : List Addr} {F : Nat → List V} (h : Rws H1 H rs F) (s1 : Same H1 H) (s : Same H H') {q : Addr} (nq : H q = none) (hq : H' q = some (.lst (F rs.length))) : Rws H1 H' (rs ++ [q]) F := by
  have ho : ∀ (j : Nat) (r : Addr), rs[j]? = some r → r ≠ q := fun j r a e => by have := h.at_ j r a; rw [e, nq] at this; cases this
  have hc : ∀ (j : Nat) (r : Addr), (rs ++ [q])[j]? = some r → (rs[j]? = some r) ∨ (j = rs.length ∧ r = q) := fun j r a => by
    by_cases hj : j < rs.length
    · rw [List.getElem?_append_left hj] at a
      exact .inl a
    · rw [List.getElem?_append_right (by omega)] at a
      have h2 := (List.getElem?_eq_some_iff.mp a).1
      simp at h2
      have : j = rs.length := by omega
      subst this
      rw [Nat.sub_self] at a
      exact .inr ⟨rfl, (Option.some.inj a).symm⟩
  refine ⟨fun j r a => ?_, fun r hr => ?_, fun i j r a b => ?_⟩
  · rcases hc j r a with a | ⟨rfl, rfl⟩
    · exact s _ _ (h.at_ j r a)
    · exact hq
  · rcases List.mem_append.mp hr with hr | hr
    · exact h.fr r hr
    · simp at hr
      subst hr
      exact s1.free nq
  · rcases hc i r a with a | ⟨rfl, e1⟩ <;> rcases hc j r b with b | ⟨rfl, e2⟩
    · exact h.inj i j r a b
    · exact absurd e2 (ho i r a)
    · exact absurd e1 (ho j r b)
    · rfl
theorem Rws.upd {H1 H : Hp} {rs : List Addr} {F F' : Nat → List V} (h : Rws H1 H rs F) {j : Nat} {r : Addr} (hr : rs[j]? = some r) (e : ∀ k, k ≠ j → F' k = F k) : Rws H1 (L2.upd H r (.lst (F' j))) rs F' := by
  refine ⟨fun k q a => ?_, h.fr, h.inj⟩
  by_cases hk : k = j
  · subst hk
    rw [hr] at a
    obtain rfl := Option.some.inj a
    exact upd_same
  · rw [upd_ne (fun z => hk (h.inj k j r (by rw [a, z]) hr)), e k hk]
    exact h.at_ k q a
theorem Rws.get {H1 H : Hp} {rs : List Addr} {F : Nat → List V} (h : Rws H1 H rs F) {j : Nat} (hj : j < rs.length) : ∃ r, rs[j]? = some r ∧ (rs.map V.ref)[j]? = some (.ref r) ∧ H r = some (.lst (F j)) := by
  refine ⟨rs[j], List.getElem?_eq_getElem hj, ?_, h.at_ j _ (List.getElem?_eq_getElem hj)⟩
  rw [List.getElem?_map, List.getElem?_eq_getElem hj]
  rfl
theorem lc_refs {lo : Int} {n j : Nat} {te : TE} {σ : St} {H1 : Hp} {D : Addr} {Qd : Hp → Prop} (F : Nat → List V) (hn : n ≤ 1000) (hD : H1 D = none)
    (he : ∀ i, i < n → ∀ H, Same H1 H → ∀ R : VK, (∀ q H', Same H H' → H q = none → H' q = some (.lst (F i)) → R (.ref q) H') → te ((wipe σ [j]).set j (some (.int (lo + i)))) H R)
    (hd : ∀ H rs, Same H1 H → H D = some (.lst (rs.map V.ref)) → rs.length = n → Rws H1 H rs F → (∀ r ∈ rs, r ≠ D) → Qd H) :
    ∃ W : Nat → Nat → Hp → Prop, (∃ m, W 0 m (upd H1 D (.lst []))) ∧ ∀ i m H, W i m H →
      ((Itr lo n).stop i H ∧ Qd H) ∨ ((Itr lo n).go i H ∧ ∃ Nx : Hp → Prop, (∀ H', Nx H' → ∃ m', m' < m ∧ W (i + 1) m' H') ∧ ∀ x H', (Itr lo n).yld i H x H' → gName j x (wipe σ [j]) H' fun σ2 H2 => wipe σ2 [j] = wipe σ [j] ∧ tYes σ2 H2 fun b H3 =>
        if b = true then te σ2 H3 fun y H4 => ∃ acc, H4 D = some (.lst acc) ∧ acc.length < sizeLine ∧ Nx (upd H4 D (.lst (acc ++ [y]))) else Nx H3) := by
  refine lc_range (tt := tYes) (fun i H => Same H1 H ∧ ∃ rs : List Addr, H D = some (.lst (rs.map V.ref)) ∧ rs.length = i ∧ Rws H1 H rs F ∧ ∀ r ∈ rs, r ≠ D) ⟨same_upd hD, [], upd_same, rfl, Rws.nil, fun r h => (by cases h)⟩ ?_ (fun H ⟨s, rs, a, b, c, d⟩ => hd H rs s a b c d)
  rintro i H hi ⟨sm, rs, hd', hl, hR, hrD⟩
  refine ⟨wipe1 σ j _, ?_⟩
  rw [tYes, if_pos rfl]
  refine he i hi H sm _ fun q H' s' nq hq => ⟨rs.map V.ref, s' _ _ hd', szl _ (by rw [List.length_map]; omega), same_upd' (sm.trans s') hD, rs ++ [q], ?_, ?_, ?_, ?_⟩
  · rw [upd_same, List.map_append]; rfl
  · rw [List.length_append, hl]; rfl
  · have hqD : q ≠ D := fun e => by rw [e, hd'] at nq; cases nq
    refine (hR.snoc sm s' nq (by rw [hl]; exact hq)).other fun r hr => ?_
    rcases List.mem_append.mp hr with hr | hr
    · exact hrD r hr
    · simp at hr
      subst hr
      exact hqD
  · have hqD : q ≠ D := fun e => by rw [e, hd'] at nq; cases nq
    intro r hr
    rcases List.mem_append.mp hr with hr | hr
    · exact hrD r hr
    · simp at hr
      subst hr
      exact hqD
end SM

namespace SM
open PySem L2 SMath LamX NdefX
structure Ad where
  cBadIndex : Addr
  cSpeciesError : Addr
  cN : Addr
  pN : Addr
structure Tx (K : PySem.W.Frag) (mg : Str → Option Value) (W : Ad) : Prop where
  n_isinstance : mg "isinstance" = none
  n_int : mg "int" = none
  n_bool : mg "bool" = none
  n_list : mg "list" = none
  n_tuple : mg "tuple" = none
  n_len : mg "len" = none
  n_abs : mg "abs" = none
  n_any : mg "any" = none
  n_range : mg "range" = none
  n_sorted : mg "sorted" = none
  n_enumerate : mg "enumerate" = none
  m_comb : mg "comb" = some (.builtin "math.comb")
  e_BadIndex : Exc K mg "BadIndex" W.cBadIndex
/-- the tables of code that grow -/
def TT1 (W : Ad) : List (Addr × Str) := [(W.pN, "_number_at.<locals>.<lambda>")]
section
variable {P : Program} {w : World} {K : PySem.W.Frag} {mg : Str → Option Value} {base : Heap} {W : Ad}
/-! ### is_whole -/
def spWhole : Sp := fun vs H Q _ => ∃ x, vs = [x] ∧ ((∃ i, x = .int i ∧ Q (.bl true) H) ∨ (∃ b, x = .bl b ∧ Q (.bl false) H) ∨ ((x = .non ∨ ∃ z, x = .str z) ∧ Q (.bl false) H))
theorem ok_is_whole (T : Tx K mg W) (D : Df K mg "is_whole" s_is_whole ["value"]) : Cal P w K mg base CX0 1 "is_whole" ["value"] spWhole := by
  obtain ⟨f, fd, g, F, b⟩ := D
  refine ⟨f, fd, g, F.kp, b, F.ok sc_is_whole (fun vs H Q E h => ?_) (fun cdv A outer s H vs Q E hr h => ?_)⟩
  · obtain ⟨x, rfl, _⟩ := h
    rfl
  · obtain ⟨x, rfl, h⟩ := h
    refine ⟨_, (pss_one (ps_ret (pe_and (pe_callB call_isi (by rfl) T.n_isinstance (by decide +kernel) (pa_cons (pv 0) (pa_cons (pe_bltn (v := .ty "int") (by rfl) T.n_int (by decide +kernel) rfl) pa_nil))) (pe_one (pe_not (pe_callB call_isi (by rfl) T.n_isinstance (by decide +kernel) (pa_cons (pv 0) (pa_cons (pe_bltn (v := .ty "bool") (by rfl) T.n_bool (by decide +kernel) rfl) pa_nil)))))))), ?_⟩
    rcases h with ⟨i, rfl, q⟩ | ⟨c, rfl, q⟩ | ⟨rfl | ⟨z, rfl⟩, q⟩
    · refine ⟨_, rfl, _, _, _, _, true, rfl, .ty "int", .base (.int i), kit_ty (by decide +kernel), _, rfl, iteT ?_⟩
      refine ⟨_, rfl, _, _, _, _, false, rfl, .ty "bool", .base (.int i), kit_ty (by decide +kernel), _, rfl, ?_⟩
      exact q
    · refine ⟨_, rfl, _, _, _, _, true, rfl, .ty "int", .base (.bl c), kit_ty (by decide +kernel), _, rfl, iteT ?_⟩
      refine ⟨_, rfl, _, _, _, _, true, rfl, .ty "bool", .base (.bl c), kit_ty (by decide +kernel), _, rfl, ?_⟩
      exact q
    · refine ⟨_, rfl, _, _, _, _, false, rfl, .ty "int", .base .non, kit_ty (by decide +kernel), _, rfl, iteF ?_⟩
      exact q
    · refine ⟨_, rfl, _, _, _, _, false, rfl, .ty "int", .base (.str z), kit_ty (by decide +kernel), _, rfl, iteF ?_⟩
      exact q
/-! ### _before -/
def spBefore : Sp := fun vs H Q _ => ∃ size last m x : Nat, vs = [.int size, .int last, .int m, .int x] ∧ last ≤ size ∧ x ≤ size + 1 ∧ size ≤ 17000 ∧ Q (.int (bf size last m x)) H
theorem ok_before (T : Tx K mg W) (D : Df K mg "_before" s__before ["size", "last", "members", "number"]) : Cal P w K mg base CX0 1 "_before" ["size", "last", "members", "number"] spBefore := by
  obtain ⟨f, fd, g, F, b⟩ := D
  refine ⟨f, fd, g, F.kp, b, F.ok sc__before (fun vs H Q E h => ?_) (fun cdv A outer s H vs Q E hr h => ?_)⟩
  · obtain ⟨_, _, _, _, rfl, _⟩ := h
    rfl
  · obtain ⟨size, last, m, x, rfl, h1, h2, h3, q⟩ := h
    refine ⟨_, (pss_one (ps_ret (pe_op op_sub (pe_callBfun cr_comb (by rfl) T.m_comb (pa_cons (pe_op op_sub (pv 0) (pv 1)) (pa_cons (pv 2) pa_nil))) (pe_callBfun cr_comb (by rfl) T.m_comb (pa_cons (pe_op op_add (pe_op op_sub (pv 0) (pv 3)) pe_int) (pa_cons (pv 2) pa_nil)))))), ?_⟩
    refine ⟨_, rfl, _, rfl, _, _, rfl, rfl, _, rfl, _, _, rfl, by omega, by omega, by omega, fun _ => ?_⟩
    refine ⟨_, rfl, _, rfl, _, _, rfl, rfl, _, _, rfl, rfl, _, rfl, _, _, rfl, by omega, by omega, by omega, fun _ => ?_⟩
    refine ⟨_, _, rfl, rfl, ?_⟩
    rw [show (size : Int) - (last : Int) = ((size - last : Nat) : Int) by omega, show (size : Int) - (x : Int) + 1 = ((size + 1 - x : Nat) : Int) by omega, comb_bin, comb_bin]
    exact q
/-! ### _number_at with its lambda -/
/-- what `greatest` makes of its arguments -/
def TTg (v1 v2 : V) (tl : V → Hp → VK → Prop) (H : Hp) (Q : VK) : Prop := ∃ (lo hi : Nat) (p : Nat → Bool), v1 = .int lo ∧ v2 = .int hi ∧ lo ≤ hi ∧ hi ≤ 17000 ∧ (∀ (x : Nat) (R : VK), lo ≤ x → x ≤ hi → R (.bl (p x)) H → tl (.int x) H R) ∧ p lo = true ∧
  ∀ r : Nat, lo ≤ r → r ≤ hi → p r = true → (r = hi ∨ p (r + 1) = false) → Q (.int r) H
theorem greatest_gives {X : Cx} {g f c' : Addr} {cdv : Value} {q : Str} {s : Shared} {H : Hp} {Q : VK} {v1 v2 : V} {tl : V → TE} {σ0 : L2.St}
    (act : Act X ["low", "high", "fits", "middle"] "greatest" (defScope s_greatest) g cdv "fits" 2 q f c' s H tl σ0) (hc : H c' = some (CodeO c' q)) (h : TTg v1 v2 (fun v H' Q' => tl v σ0 H' Q') H Q) :
    ∃ t, PSs (cxOf C8.CX0 X.prog X.w X.K X.mg X.base ["low", "high", "fits", "middle"] "greatest" (defScope s_greatest) g cdv X.A X.stack s H C8.E0).nox (defBody s_greatest) t ∧ t { nx := fun _ H' => Q .non H', rt := Q } (L2.start ["low", "high", "fits", "middle"] [v1, v2, .ref f]) H := by
  obtain ⟨lo, hi, p, rfl, rfl, hlh, hh, htl, hp0, q⟩ := h
  refine ⟨_, (pss_cons (ps_while PassesOwn.never (pt_cmpR op_lt (pv 0) (pv 1) (nomark _)) (
    (pss_cons (ps_set (i := 3) sc_greatest.nd rfl (.inl rfl) (pe_op op_fdiv (pe_op op_add (pe_op op_add (pv 0) (pv 1)) pe_int) pe_int))
    (pss_one (ps_if (pt_val (act _ _ _ _ (pa_cons (pv 3) pa_nil) rfl)) (
      (pss_one (ps_set (i := 0) sc_greatest.nd rfl (.inl rfl) (pv 3)))) (
      (pss_one (ps_set (i := 1) sc_greatest.nd rfl (.inl rfl) (pe_op op_sub (pv 3) pe_int)))))))))
  (pss_one (ps_ret (pv 0)))), ?_⟩
  refine while_by (fun σ H' => ∃ (l h : Nat) (y3 : Option V), σ = [some (.int l), some (.int h), some (.ref f), y3] ∧ H' = H ∧ lo ≤ l ∧ l ≤ h ∧ h ≤ hi ∧ p l = true ∧ (h = hi ∨ p (h + 1) = false))
    (fun σ H' => match σ with | [some (.int l), some (.int h), _, _] => (h - l).toNat | _ => 0) ⟨lo, hi, none, rfl, rfl, Nat.le_refl _, hlh, Nat.le_refl _, hp0, .inl rfl⟩ ?_ ?_
  · rintro σ H' ⟨l, h, y3, rfl, rfl, h1, h2, h3, h4, h5⟩
    refine ⟨_, rfl, _, rfl, _, _, rfl, rfl, _, rfl, ite2 (fun c => ?_) (fun c => ?_)⟩
    · have c' : l < h := by have : (l : Int) < (h : Int) := of_decide_eq_true c; omega
      refine ⟨_, rfl, _, rfl, _, _, rfl, rfl, _, _, rfl, rfl, _, _, rfl, rfl, ⟨by decide, by decide⟩, ?_⟩
      have em : ((l : Int) + (h : Int) + 1) / 2 = (((l + h + 1) / 2 : Nat) : Int) := by omega
      obtain ⟨m, hm⟩ : ∃ m, (l + h + 1) / 2 = m := ⟨_, rfl⟩
      refine gname_intro ?_
      dsimp only
      rw [em, hm]
      have hml : l < m ∧ m ≤ h := by omega
      refine ⟨rfl, _, rfl, .int m, rfl, hc, ?_⟩
      refine htl m _ (by omega) (by omega) ⟨_, rfl, ?_⟩
      cases hpm : p m with
      | true =>
        refine iteT ?_
        exact ⟨_, rfl, ⟨m, h, _, rfl, rfl, by omega, by omega, h3, hpm, h5⟩, by show ((h : Int) - (m : Int)).toNat < ((h : Int) - (l : Int)).toNat; omega⟩
      | false =>
        refine iteF ?_
        refine ⟨_, rfl, _, _, rfl, rfl, ⟨l, m - 1, some (.int m), ?_, rfl, h1, by omega, by omega, h4, .inr (by rw [show m - 1 + 1 = m by omega]; exact hpm)⟩, by show (((m : Int) - 1) - (l : Int)).toNat < ((h : Int) - (l : Int)).toNat; omega⟩
        show [some (V.int l), some (V.int ((m : Int) - 1)), some (V.ref f), some (V.int m)] = _
        rw [show (m : Int) - 1 = ((m - 1 : Nat) : Int) by omega]
    · have c' : ¬ l < h := fun z => c (decide_eq_true (by omega))
      have : l = h := by omega
      subst this
      exact ⟨_, rfl, q l h1 h3 h4 h5⟩
  · rintro σ H' Q1 Q2 hq ⟨v, e1, v2, e2, i, j, e3, e4, b, e5, z⟩
    exact ⟨v, e1, v2, e2, i, j, e3, e4, b, e5, hq _ _ z⟩
def lamE : Expr := match defBody s__number_at with
  | [.Return (some (.Call _ [_, _, l] _ _)) _] => l
  | _ => .Constant .none 0 ⟨0, 0, 0, 0⟩
/-- the def that makes the lambda: its code object is known -/
def DfN (K : PySem.W.Frag) (mg : Str → Option Value) (cN : Addr) : Prop := ∃ (f : Addr) (oc kV doc pm ct : Value) (od an : Option Addr) (osl : Array (Option Value)), mg "_number_at" = some (.ref f) ∧
  K.lookup f = some ⟨oc, od, .func (PySem.W.fnOf "_number_at" "_number_at" (defArgs s__number_at) (defBody s__number_at) (defScope s__number_at) .none kV doc pm an (.ref cN) ct), osl⟩ ∧ PySem.W.codeIn K (.ref cN) "_number_at" = true ∧ PySem.W.keepIn K (.ref f) = true
def spNum (W : Ad) : Sp := fun vs H Q _ => ∃ (size last m : Nat) (index : Int), vs = [.int size, .int last, .int m, .int index] ∧ last + 1 ≤ size ∧ size ≤ 16000 ∧ 0 ≤ index ∧ Tabs (TT1 W) H ∧
  ∀ (r : Nat) (H' : Hp), ExtN H H' → Tabs (TT1 W) H' → last + 1 ≤ r → r ≤ size → bf size last m r ≤ index → (r = size ∨ index < bf size last m (r + 1)) → Q (.int r) H'
theorem ok_num (D : DfN K mg W.cN) (hP : W.cN ≠ W.pN) (TB : TabB base mg W.cN W.pN) (Dg : Df K mg "greatest" s_greatest ["low", "high", "fits"]) (C1 : Cal P w K mg base CX0 1 "_before" ["size", "last", "members", "number"] spBefore) :
    Cal P w K mg base CX0 5 "_number_at" ["size", "last", "members", "index"] (spNum W) := by
  obtain ⟨f, oc, kV, doc, pm, ct, od, an, osl, gf, lk, hcd, hkp⟩ := D
  obtain ⟨g, fdg, gg, Fg, bg⟩ := Dg
  obtain ⟨ocg, odg, kVg, docg, pmg, ang, cdg, ctg, oslg, rfl, lkg, hcg⟩ := Fg.ex
  obtain ⟨f1, fd1, g__before, k__before, b__before, G__before⟩ := C1.ex
  refine ⟨f, _, gf, hkp, .all fun us hl => ?_, fn_of lk hcd sc__number_at (fun vs H Q E h => ?_) fun A outer s H vs Q E hr h => ?_⟩
  · match us, hl with
    | [_, _, _, _], _ => rfl
  · obtain ⟨_, _, _, _, rfl, _⟩ := h
    rfl
  · obtain ⟨size, last, m, index, rfl, h1, h2, h3, hT, q⟩ := h
    refine ⟨_, (pss_one (ps_ret (pe_lamcall3 (T := TT1 W) (c := W.cN) (P := W.pN) (k := 2) (TT := TTg) (Ng := ["low", "high", "fits", "middle"]) (Nl := ["number", "size", "last", "members", "index"]) (fr := ["size", "last", "members", "index"]) (js := [0, 1, 2, 3]) (a1 := "low") (a2 := "high") (a3 := "fits") (px := "number")
      (by rfl) gg Fg.kp lkg hcg bg sc_greatest rfl (.inl rfl) (pe_op op_add (pv 1) pe_int) (pv 0) (fun v1 v2 f c' s H Q tl σ0 act hc htt => greatest_gives act hc htt) TB rfl ?_ ?_ (hr.mono (by decide)) (nscope_by (by decide +kernel)) ?_ ?_ rfl rfl ?_
      (fun cl c' f A outer s H hr2 => (pe_cmpR op_le (pe_call G__before (hr2.mono (by decide)) (by rfl) g__before k__before b__before .nil pass0 (pa_cons (pv 1) (pa_cons (pv 2) (pa_cons (pv 3) (pa_cons (pv 0) pa_nil))))) (pv 4) (nomark _))) ?_))), ?_⟩
    · exact List.mem_singleton.mpr rfl
    · intro p hp _
      rw [List.mem_singleton.mp hp]
      rfl
    · show ∀ y : Str × NameKind, y ∈ _ → y.2 = NameKind.free → (defScope s__number_at).names.lookup y.1 = some .cell ∨ (defScope s__number_at).names.lookup y.1 = some .free
      decide +kernel
    · decide +kernel
    · intro q cl pm cv ctv u
      rfl
    · intro y c hy
      rcases cells_above _ _ _ y c hy with z | z
      · exact z
      · cases z
    refine ⟨_, rfl, _, _, rfl, rfl, _, rfl, hT, fun H3 e3 T3 => ?_⟩
    refine ⟨last + 1, size, fun x => decide (bf size last m x ≤ index), ?_, rfl, h1, by omega, fun x R hx1 hx2 hR => ?_, ?_, fun r hr1 hr2 hp hn => ?_⟩
    · show V.int ((last : Int) + 1) = _
      rw [show (last : Int) + 1 = ((last + 1 : Nat) : Int) by omega]
    · exact ⟨_, rfl, _, rfl, _, rfl, _, rfl, size, last, m, x, rfl, by omega, by omega, by omega, ⟨_, rfl, _, _, rfl, rfl, hR⟩⟩
    · have : bf size last m (last + 1) = 0 := by
        unfold bf
        rw [show size + 1 - (last + 1) = size - last by omega]
        omega
      exact decide_eq_true (by omega)
    · refine q r H3 e3 T3 hr1 hr2 (of_decide_eq_true hp) (hn.imp id fun z => ?_)
      have := of_decide_eq_false z
      omega
end
end SM

namespace SM
open PySem L2
theorem cutV_ints (ns : List Int) (lo hi : Option Int) : ∃ ms : List Int, cutV (ns.map V.int) lo hi = ms.map V.int ∧ ms.length ≤ ns.length := by
  refine ⟨(ns.drop (HT.sIx (ns.map V.int).length 0 lo)).take (HT.sIx (ns.map V.int).length (ns.map V.int).length hi - HT.sIx (ns.map V.int).length 0 lo), ?_, ?_⟩
  · unfold cutV
    rw [List.map_take, List.map_drop]
  · rw [List.length_take, List.length_drop]
    omega
theorem cutV_to (xs : List V) (k : Nat) : cutV xs none (some (k : Int)) = xs.take k := by
  unfold cutV
  rw [HT.sIx_none, HT.sIx_nat, Nat.sub_zero, List.drop_zero]
  by_cases h : k ≤ xs.length
  · rw [Nat.min_eq_left h]
  · rw [Nat.min_eq_right (by omega), List.take_of_length_le (Nat.le_refl _), List.take_of_length_le (by omega)]
theorem cutV_from (xs : List V) (k : Nat) : cutV xs (some (k : Int)) none = xs.drop k := by
  unfold cutV
  rw [HT.sIx_none, HT.sIx_nat]
  by_cases h : k ≤ xs.length
  · rw [Nat.min_eq_left h]
    exact List.take_of_length_le (by rw [List.length_drop]; omega)
  · rw [Nat.min_eq_right (by omega), List.drop_of_length_le (Nat.le_refl _), List.drop_of_length_le (by omega), List.take_nil]
/-! ### the draws -/
def Dr (ds : List Int) : Prop := ∀ d ∈ ds, 0 ≤ d ∧ d < 65537
theorem Dr.nil : Dr [] := fun d hd => by cases hd
theorem Dr.app {ds : List Int} {x : Int} (h : Dr ds) (h0 : 0 ≤ x) (h1 : x < 65537) : Dr (ds ++ [x]) := fun d hd => by
  rcases List.mem_append.mp hd with e | e
  · exact h d e
  · simp at e
    rw [e]; exact ⟨h0, h1⟩
theorem Dr.take {ds : List Int} (h : Dr ds) (k : Nat) : Dr (ds.take k) := fun d hd => h d (List.mem_of_mem_take hd)
section
variable {P : Program} {w : World} {K : PySem.W.Frag} {mg : Str → Option Value} {base : Heap} {W : Ad}
def spDraws (K : PySem.W.Frag) : Sp := fun vs H Q _ => ∃ (a : Addr) (ns : List Int) (many : Nat), vs = [.ref a, .int many] ∧ SqL K H a (ns.map V.int) ∧ ns.length ≤ 63 ∧ many ≤ 1000 ∧
  ∀ (p : Addr) (H' : Hp) (ds : List Int), Same H H' → H p = none → H' p = some (.lst (ds.map V.int)) → Dr ds → ds.length = many → Q (.ref p) H'
theorem ok_draws (T : Tx K mg W) (D : Df K mg "_law_draws" s__law_draws ["script", "many"]) : Cal P w K mg base CX0 1 "_law_draws" ["script", "many"] (spDraws K) := by
  obtain ⟨f, fd, g, F, b⟩ := D
  refine ⟨f, fd, g, F.kp, b, F.ok sc__law_draws (fun vs H Q E h => ?_) (fun cdv A outer s H vs Q E hr h => ?_)⟩
  · obtain ⟨_, _, _, rfl, _⟩ := h
    rfl
  · obtain ⟨a, ns, many, rfl, hA, hlen, hmany, q⟩ := h
    refine ⟨_, (pss_cons (ps_set (i := 2) sc__law_draws.nd rfl (.inl rfl) (pe_lst pa_nil))
  (pss_cons (ps_set (i := 3) sc__law_draws.nd rfl (.inl rfl) pe_int)
  (pss_cons (ps_for PassesOwn.never rfl (pi_list (pe_slice sl_list (pv 0) po_none (po_some pe_int))) (pg_name (i := 4) sc__law_draws.nd rfl (.inl rfl)) (
    (pss_cons (ps_set (i := 5) sc__law_draws.nd rfl (.inl rfl) (pe_callB call_abs (by rfl) T.n_abs (by decide +kernel) (pa_cons (pv 4) pa_nil)))
    (pss_cons (ps_if (pt_cmpR op_ge (pv 5) (pe_op op_pow pe_int pe_int) (nomark _)) (
      (pss_one (ps_for PassesOwn.never rfl (pi_range1 (by rfl) T.n_range (pa_cons pe_int pa_nil)) (pg_name (i := 6) sc__law_draws.nd rfl (.inl rfl)) (
        (pss_one (ps_if (pt_cmpR op_gt (pv 5) pe_int (nomark _)) (
          (pss_cons (ps_expr (pe_bm PySem.F.plainAttrs_list PySem.F.slot_list_append PySem.F.type_list_append mt_append (pv 2) (pa_cons (pe_op op_mod (pe_callTy call_int1 (by rfl) T.n_int (by decide +kernel) (pa_cons (pv 5) pa_nil)) pe_int) pa_nil)))
          (pss_one (ps_set (i := 5) sc__law_draws.nd rfl (.inl rfl) (pe_op op_fdiv (pv 5) pe_int))))) (pss_nil))))))) (
      (pss_cons (ps_expr (pe_bm PySem.F.plainAttrs_list PySem.F.slot_list_append PySem.F.type_list_append mt_append (pv 2) (pa_cons (pe_op op_mod (pe_callTy call_int1 (by rfl) T.n_int (by decide +kernel) (pa_cons (pe_op op_add (pe_op op_add (pe_op op_mul (pv 5) pe_int) (pe_op op_mul (pv 3) pe_int)) pe_int) pa_nil)) pe_int) pa_nil)))
      (pss_one (ps_expr (pe_bm PySem.F.plainAttrs_list PySem.F.slot_list_append PySem.F.type_list_append mt_append (pv 2) (pa_cons (pe_op op_mod (pe_callTy call_int1 (by rfl) T.n_int (by decide +kernel) (pa_cons (pe_op op_add (pe_op op_add (pe_op op_add (pe_op op_mul (pv 5) pe_int) (pe_op op_mul (pv 3) pe_int)) pe_int) (pe_op op_mul (pv 5) (pv 5))) pa_nil)) pe_int) pa_nil)))))))
    (pss_one (ps_set (i := 3) sc__law_draws.nd rfl (.inl rfl) (pe_op op_add (pv 3) pe_int)))))))
  (pss_cons (ps_for PassesOwn.never rfl (pi_range1 (by rfl) T.n_range (pa_cons (pv 1) pa_nil)) (pg_name (i := 6) sc__law_draws.nd rfl (.inl rfl)) (
    (pss_one (ps_if (pt_cmpR op_lt (pe_callB call_len_seq (by rfl) T.n_len (by decide +kernel) (pa_cons (pv 2) pa_nil)) (pv 1) (nomark _)) (
      (pss_one (ps_expr (pe_bm PySem.F.plainAttrs_list PySem.F.slot_list_append PySem.F.type_list_append mt_append (pv 2) (pa_cons (pe_op op_mod (pe_callTy call_int1 (by rfl) T.n_int (by decide +kernel) (pa_cons (pe_op op_add (pe_op op_add (pe_op op_mul (pe_callB call_len_seq (by rfl) T.n_len (by decide +kernel) (pa_cons (pv 2) pa_nil)) pe_int) (pe_op op_mul pe_int (pv 3))) (pe_op op_mul (pe_op op_mul (pv 6) (pv 6)) pe_int)) pa_nil)) pe_int) pa_nil))))) (pss_nil)))))
  (pss_one (ps_ret (pe_slice sl_list (pv 2) po_none (po_some (pv 1))))))))), ?_⟩
    refine ⟨Nat.zero_le _, fun dp nd => ?_⟩
    have s1 : Same H (upd H dp (.lst [])) := same_upd nd
    refine ⟨_, rfl, 63, rfl, a, _, rfl, s1.seq hA, fun cp nc => ?_⟩
    obtain ⟨ms, ems, hms⟩ := cutV_ints ns none (some 63)
    rw [ems]
    have ncd : cp ≠ dp := fun e => by rw [e, upd_same] at nc; cases nc
    have nc0 : H cp = none := s1.free nc
    have hc2 : (upd (upd H dp (.lst [])) cp (.lst (ms.map V.int))) cp = some (.lst (ms.map V.int)) := upd_same
    refine ⟨cp, rfl, ⟨_, sq_of hc2⟩, for_list (K := K) (a := cp) (xs := ms.map V.int) (fun i σ H' => ∃ (y4 y5 y6 : Option V) (ds : List Int), σ = [some (.ref a), some (.int many), some (.ref dp), some (.int i), y4, y5, y6] ∧
      Same H H' ∧ H' cp = some (.lst (ms.map V.int)) ∧ H' dp = some (.lst (ds.map V.int)) ∧ Dr ds ∧ ds.length ≤ 24 * i) ⟨none, none, none, [], rfl, s1.trans (same_upd nc), hc2, by rw [upd_ne ncd.symm]; exact upd_same, Dr.nil, Nat.zero_le _⟩
      (fun i σ H' _ ⟨_, _, _, _, _, _, h, _⟩ => sq_of h) ?_ ?_⟩
    · rintro i y σ H1 hi ⟨y4, y5, y6, ds, rfl, sm, hcp, hdp, hds, hdl⟩
      obtain ⟨z, hz, rfl⟩ := ints_of hi
      have hil : i < ms.length := (List.getElem?_eq_some_iff.mp hz).1
      refine ⟨_, rfl, z, rfl, ?_⟩
      generalize hnum : (if z < 0 then -z else z) = num
      have hnum0 : 0 ≤ num := by rw [← hnum]; split <;> omega
      refine ⟨_, rfl, _, _, rfl, rfl, ⟨by decide, by decide, by decide⟩, _, _, rfl, rfl, _, rfl, ?_⟩
      refine ite2 (fun _ => ?_) (fun cn => ?_)
      · refine ⟨24, rfl, by decide, by decide, ?_⟩
        refine for_range (lo := 0) (n := 24) (fun k σ H' => ∃ (num : Int) (y6 : Option V) (ds : List Int), σ = [some (.ref a), some (.int many), some (.ref dp), some (.int i), some (.int z), some (.int num), y6] ∧ 0 ≤ num ∧
          Same H H' ∧ H' cp = some (.lst (ms.map V.int)) ∧ H' dp = some (.lst (ds.map V.int)) ∧ Dr ds ∧ ds.length ≤ 24 * i + k) ⟨num, y6, ds, rfl, hnum0, sm, hcp, hdp, hds, hdl⟩ ?_ ?_
        · rintro k σ H2 hk ⟨nm, y6', ds', rfl, n0, sm', hcp', hdp', hds', hdl'⟩
          refine ⟨_, rfl, _, _, rfl, rfl, _, rfl, ite2 (fun c => ?_) (fun c => ?_)⟩
          · refine ⟨_, rfl, .inl ⟨rfl, _, sq_of hdp'⟩, _, rfl, .inl ⟨_, rfl, _, _, rfl, rfl, (by show (0 : Int) < 1009; decide), dp, _, _, rfl, rfl, hdp', szl _ (by rw [List.length_map]; omega), ?_⟩⟩
            have w0 := Int.emod_nonneg nm (b := 1009) (by decide)
            have w1 := Int.emod_lt_of_pos nm (b := 1009) (by decide)
            refine ⟨_, rfl, _, _, rfl, rfl, ⟨by decide, by decide⟩, nm / 1009, _, ds' ++ [nm % 1009], rfl, Int.ediv_nonneg n0 (by decide), same_upd' sm' nd, by rw [upd_ne ncd]; exact hcp', by rw [upd_same, List.map_append]; rfl, hds'.app w0 (by omega), by rw [List.length_append]; simp; omega⟩
          · exact ⟨nm, _, ds', rfl, n0, sm', hcp', hdp', hds', by omega⟩
        · rintro σ H2 ⟨nm, y6', ds', rfl, n0, sm', hcp', hdp', hds', hdl'⟩
          exact ⟨_, rfl, _, _, rfl, rfl, _, _, _, ds', by rw [show ((i + 1 : Nat) : Int) = (i : Int) + 1 by omega]; rfl, sm', hcp', hdp', hds', by omega⟩
      · have hlt : num < 10 ^ 18 := by
          have : ¬ ((10 : Int) ^ 18 ≤ num) := fun z => cn (decide_eq_true z)
          omega
        have hlt' : num < 1000000000000000000 := by
          have e : (10 : Int) ^ 18 = 1000000000000000000 := by decide
          omega
        refine ⟨_, rfl, .inl ⟨rfl, _, sq_of hdp⟩, _, rfl, _, _, rfl, rfl, .inl ⟨by omega, by omega⟩, _, rfl, _, _, rfl, rfl, .inl ⟨by omega, by omega⟩, _, _, rfl, rfl, _, _, rfl, rfl, .inl ⟨_, rfl, _, _, rfl, rfl, (by show (0 : Int) < 65537; decide), dp, _, _, rfl, rfl, hdp, szl _ (by rw [List.length_map]; omega), ?_⟩⟩
        have w0 := Int.emod_nonneg (num * 48271 + (i : Int) * 69621 + 11) (b := 65537) (by decide)
        have w1 := Int.emod_lt_of_pos (num * 48271 + (i : Int) * 69621 + 11) (b := 65537) (by decide)
        generalize hx1 : (num * 48271 + (i : Int) * 69621 + 11) % 65537 = x1 at w0 w1
        have hdp1 : (upd H1 dp (.lst (ds.map V.int ++ [.int x1]))) dp = some (.lst ((ds ++ [x1]).map V.int)) := by rw [upd_same, List.map_append]; rfl
        refine ⟨_, rfl, .inl ⟨rfl, _, sq_of (by rw [← hdp1]; show _ = (upd H1 dp (.lst (ds.map V.int ++ [.int x1]))) dp; rw [← hx1])⟩, _, rfl, _, _, rfl, rfl, .inl ⟨by omega, by omega⟩, _, rfl, _, _, rfl, rfl, .inl ⟨by omega, by omega⟩, _, _, rfl, rfl, _, _, rfl, rfl, _, rfl, _, rfl, _, _, rfl, rfl, .inl ⟨by omega, by omega⟩, _, _, rfl, rfl, .inl ⟨_, rfl, _, _, rfl, rfl, (by show (0 : Int) < 65521; decide), dp, _, _, rfl, rfl, (by rw [← hdp1]; show _ = (upd H1 dp (.lst (ds.map V.int ++ [.int x1]))) dp; rw [← hx1]), szl _ (by rw [List.length_map, List.length_append]; simp; omega), ?_⟩⟩
        refine ⟨_, rfl, _, _, rfl, rfl, _, _, _, (ds ++ [x1]) ++ [(num * 16807 + (i : Int) * 40692 + 7 + num * num) % 65521], by rw [show ((i + 1 : Nat) : Int) = (i : Int) + 1 by omega]; rfl, same_upd' (same_upd' sm nd) nd, by rw [upd_ne ncd, upd_ne ncd]; exact hcp, by rw [upd_same]; simp only [List.map_append]; rfl, (hds.app w0 w1).app (Int.emod_nonneg _ (by decide)) (Int.lt_trans (Int.emod_lt_of_pos _ (by decide)) (by decide)), by rw [List.length_append, List.length_append]; simp; omega⟩
    · rintro σ H1 ⟨y4, y5, y6, ds, rfl, sm, hcp, hdp, hds, hdl⟩
      rw [List.length_map] at hdl
      have hml : ms.length ≤ 63 := by omega
      refine ⟨_, rfl, many, rfl, by omega, by omega, ?_⟩
      rw [Int.toNat_natCast, List.length_map]
      refine for_range (lo := 0) (n := many) (fun k σ H' => ∃ (y4 y5 y6 : Option V) (ds : List Int), σ = [some (.ref a), some (.int many), some (.ref dp), some (.int ms.length), y4, y5, y6] ∧
        Same H H' ∧ H' dp = some (.lst (ds.map V.int)) ∧ Dr ds ∧ ds.length ≤ 24 * 63 + k ∧ (k ≤ ds.length ∨ many ≤ ds.length)) ⟨y4, y5, y6, ds, rfl, sm, hdp, hds, by omega, .inl (Nat.zero_le _)⟩ ?_ ?_
      · rintro k σ H2 hk ⟨y4, y5, y6, ds', rfl, sm', hdp', hds', hdl', hlong⟩
        refine ⟨_, rfl, dp, _, rfl, .inl (sq_of hdp'), _, rfl, _, _, rfl, rfl, _, rfl, ite2 (fun c => ?_) (fun c => ?_)⟩
        · refine ⟨_, rfl, .inl ⟨rfl, _, sq_of hdp'⟩, _, rfl, dp, _, rfl, .inl (sq_of hdp'), _, _, rfl, rfl, .inl ⟨by rw [List.length_map]; omega, by rw [List.length_map]; omega⟩, _, rfl, _, _, rfl, rfl, .inl ⟨by omega, by omega⟩, _, _, rfl, rfl, _, rfl, _, rfl, _, _, rfl, rfl, .inl ⟨by omega, by omega⟩, _, _, rfl, rfl, .inr ⟨by decide, by decide⟩, _, _, rfl, rfl, .inl ⟨_, rfl, _, _, rfl, rfl, (by show (0 : Int) < 65521; decide), dp, _, _, rfl, rfl, hdp', szl _ (by rw [List.length_map]; omega), ?_⟩⟩
          refine ⟨_, _, _, ds' ++ [((((ds'.map V.int).length : Int) * 69621 + 977 * (ms.length : Int)) + (0 + (k : Int)) * (0 + (k : Int)) * 31) % 65521], rfl, same_upd' sm' nd, by rw [upd_same, List.map_append]; rfl, hds'.app (Int.emod_nonneg _ (by decide)) (Int.lt_trans (Int.emod_lt_of_pos _ (by decide)) (by decide)), by rw [List.length_append]; simp; omega, ?_⟩
          rw [List.length_append]; simp; omega
        · have c' : ¬ ((((ds'.map V.int).length : Nat) : Int) < (many : Int)) := fun z => c (decide_eq_true z)
          rw [List.length_map] at c'
          exact ⟨_, _, _, ds', rfl, sm', hdp', hds', by omega, .inr (by omega)⟩
      · rintro σ H2 ⟨y4, y5, y6, ds', rfl, sm', hdp', hds', hdl', hlong⟩
        refine ⟨_, rfl, _, rfl, many, rfl, dp, _, rfl, sq_of hdp', fun p np => ?_⟩
        refine q p _ (ds'.take many) (sm'.trans (same_upd np)) (sm'.free np) ?_ (hds'.take many) ?_
        · rw [upd_same, cutV_to, List.map_take]
        · rw [List.length_take]; omega
end
end SM

namespace SM
open PySem L2 SMath LamX
def IB (v : V) : Prop := (∃ i, v = .int i) ∨ ∃ b, v = .bl b
def bad1 : V → Bool
  | .int i => decide (i < 0)
  | _ => true
def nsV (xs : List Nat) : List V := xs.map fun x => V.int (x : Nat)
section
variable {P : Program} {w : World} {K : PySem.W.Frag} {mg : Str → Option Value} {base : Heap} {W : Ad}
def spAt (W : Ad) : Sp := fun vs H Q E => ∃ a b c, vs = [a, b, c] ∧ IB a ∧ IB b ∧ IB c ∧
  (([a, b, c].any bad1 = true ∧ ∀ H', Same H H' → E (.ref W.cBadIndex) none H') ∨
   ∃ size m : Nat, ∃ i : Int, a = .int size ∧ b = .int m ∧ c = .int i ∧ 0 ≤ i ∧ size ≤ 16000 ∧
     ((bin size m ≤ i ∧ ∀ H', Same H H' → E (.ref W.cBadIndex) none H') ∨ ∃ xs, i = idx size 0 xs ∧ Asc size 0 xs ∧ xs.length = m ∧ Tabs (TT1 W) H ∧ ∀ p H', ExtN H H' → Tabs (TT1 W) H' → H' p = some (.tup (nsV xs)) → Q (.ref p) H'))
theorem drop_at {α : Type} {l : List α} {i : Nat} (h : i < l.length) : ∃ x, l[i]? = some x ∧ l.drop i = x :: l.drop (i + 1) := ⟨l[i], List.getElem?_eq_getElem h, List.drop_eq_getElem_cons h⟩
theorem asc_len {size : Nat} : ∀ {xs : List Nat} {last : Nat}, last ≤ size → Asc size last xs → last + xs.length ≤ size
  | [], last, h, _ => by simpa using h
  | x :: xs, last, h, ⟨h1, h2, h3⟩ => by
    have := asc_len h2 h3
    rw [List.length_cons]; omega
theorem ok_at (T : Tx K mg W) (D : Df K mg "subset_at" s_subset_at ["size", "members", "index"]) (C1 : Cal P w K mg base CX0 1 "is_whole" ["value"] spWhole) (C2 : Cal P w K mg base CX0 1 "_before" ["size", "last", "members", "number"] spBefore)
    (C3 : Cal P w K mg base CX0 5 "_number_at" ["size", "last", "members", "index"] (spNum W)) : Cal P w K mg base (L2.CX P w) 6 "subset_at" ["size", "members", "index"] (spAt W) := by
  obtain ⟨f, fd, g, F, b⟩ := D
  obtain ⟨f1, fd1, g_is_whole, k_is_whole, b_is_whole, G_is_whole⟩ := C1.ex
  obtain ⟨f2, fd2, g__before, k__before, b__before, G__before⟩ := C2.ex
  obtain ⟨f3, fd3, g__number_at, k__number_at, b__number_at, G__number_at⟩ := C3.ex
  refine ⟨f, fd, g, F.kp, b, F.okX sc_subset_at (fun vs H Q E h => ?_) (fun cdv A outer s H vs Q E hr h => ?_)⟩
  · obtain ⟨_, _, _, rfl, _⟩ := h
    rfl
  · obtain ⟨va, vb, vc, rfl, ha, hb, hc, h⟩ := h
    refine ⟨_, (pss_cons (ps_if (pt_val (pe_callB (cr_any rfl) (by rfl) T.n_any (by decide +kernel) (pa_cons (pe_lc (own := [("value", 8)]) rfl sc_subset_at.nd (pi_tup (pe_tup (pa_cons (pv 0) (pa_cons (pv 1) (pa_cons (pv 2) pa_nil))))) (blkOk_by (own := [("value", 8)]) (N := ["size", "members", "index", "found", "last", "rest", "remaining", "number", "value"]) (sc := defScope s_subset_at) (by decide +kernel)) (fun _ _ _ _ _ => (pg_name (i := 8) sc_subset_at.nd rfl (.inl rfl))) (fun _ _ _ _ _ => pts_nil) (fun _ _ _ _ _ => (pe_or (pe_not (pe_call G_is_whole (hr.mono (by decide)) (by rfl) g_is_whole k_is_whole b_is_whole .nil pass0 (pa_cons (pv 8) pa_nil))) (pe_one (pe_cmpR op_lt (pv 8) pe_int (nomark _)))))) pa_nil))) (
    (pss_one (ps_raise rfl (takes_of rfl rfl rfl rfl) (pmk_own PySem.F.excBase_ValueError T.e_BadIndex.x T.e_BadIndex.g T.e_BadIndex.k (raises_own T.e_BadIndex.b T.e_BadIndex.t) rfl)))) (pss_nil))
  (pss_cons (ps_if (pt_cmpR op_ge (pv 2) (pe_callBfun cr_comb (by rfl) T.m_comb (pa_cons (pv 0) (pa_cons (pv 1) pa_nil))) (nomark _)) (
    (pss_one (ps_raise rfl (takes_of rfl rfl rfl rfl) (pmk_own PySem.F.excBase_ValueError T.e_BadIndex.x T.e_BadIndex.g T.e_BadIndex.k (raises_own T.e_BadIndex.b T.e_BadIndex.t) rfl)))) (pss_nil))
  (pss_cons (ps_set (i := 3) sc_subset_at.nd rfl (.inl rfl) (pe_lst pa_nil))
  (pss_cons (ps_set (i := 4) sc_subset_at.nd rfl (.inl rfl) pe_int)
  (pss_cons (ps_set (i := 5) sc_subset_at.nd rfl (.inl rfl) (pv 2))
  (pss_cons (ps_for (passes_of rfl) rfl (pi_range3 (by rfl) T.n_range (pa_cons (pv 1) (pa_cons pe_int (pa_cons (pe_un un_neg pe_int) pa_nil)))) (pg_name (i := 6) sc_subset_at.nd rfl (.inl rfl)) (
    (pss_cons (ps_set (i := 7) sc_subset_at.nd rfl (.inl rfl) (pe_call G__number_at (hr.mono (by decide)) (by rfl) g__number_at k__number_at b__number_at .nil pass0 (pa_cons (pv 0) (pa_cons (pv 4) (pa_cons (pv 6) (pa_cons (pv 5) pa_nil))))))
    (pss_cons (ps_aug (i := 5) sc_subset_at.nd rfl (.inl rfl) (pe_call G__before (hr.mono (by decide)) (by rfl) g__before k__before b__before .nil pass0 (pa_cons (pv 0) (pa_cons (pv 4) (pa_cons (pv 6) (pa_cons (pv 7) pa_nil))))) ip_sub)
    (pss_cons (ps_expr (pe_bm PySem.F.plainAttrs_list PySem.F.slot_list_append PySem.F.type_list_append mt_append (pv 3) (pa_cons (pv 7) pa_nil)))
    (pss_one (ps_set (i := 4) sc_subset_at.nd rfl (.inl rfl) (pv 7))))))))
  (pss_one (ps_ret (pe_callTy call_tuple_of (by rfl) T.n_tuple (by decide +kernel) (pa_cons (pv 3) pa_nil)))))))))), ?_⟩
    refine ⟨_, rfl, _, rfl, _, rfl, sz _ (by show 3 ≤ 100000; decide), fun t0 nt0 => ?_⟩
    refine ⟨t0, rfl, ⟨_, st_of upd_same⟩, fun Dn hD => ?_⟩
    have sm0 : Same H (upd H t0 (.tup [va, vb, vc])) := same_upd nt0
    refine lc_tup (K := K) (a := t0) (xs := [va, vb, vc]) (fun i H' => Same (upd H t0 (.tup [va, vb, vc])) H' ∧ H' Dn = some (.lst (([va, vb, vc].take i).map fun v => V.bl (bad1 v)))) ⟨same_upd hD, upd_same⟩ (fun i H' _ h => st_of (h.1 _ _ upd_same)) ?_ ?_
    · rintro i x H' hi ⟨sm, hd⟩
      have hx : IB x := by
        match i, hi with
        | 0, e => obtain rfl := Option.some.inj e; exact ha
        | 1, e => obtain rfl := Option.some.inj e; exact hb
        | 2, e => obtain rfl := Option.some.inj e; exact hc
      have hm := take_more hi
      have hil : i < 3 := (List.getElem?_eq_some_iff.mp hi).1
      refine ⟨rfl, ?_⟩
      rw [tYes, if_pos rfl]
      rcases hx with ⟨z, rfl⟩ | ⟨z, rfl⟩
      · refine ⟨_, rfl, _, rfl, .inl ⟨z, rfl, true, rfl, false, rfl, iteF ?_⟩⟩
        refine ⟨_, rfl, _, _, rfl, rfl, _, hd, szl _ ?_, same_upd' sm hD, ?_⟩
        · rw [List.length_map, List.length_take]; show min i 3 < 100000; omega
        · rw [upd_same, hm, List.map_append]; rfl
      · refine ⟨_, rfl, _, rfl, .inr (.inl ⟨z, rfl, false, rfl, true, rfl, iteT ?_⟩)⟩
        refine ⟨_, hd, szl _ ?_, same_upd' sm hD, ?_⟩
        · rw [List.length_map, List.length_take]; show min i 3 < 100000; omega
        · rw [upd_same, hm, List.map_append]; rfl
    · rintro H1 ⟨sm, hd⟩
      have sm1 : Same H H1 := sm0.trans sm
      rw [List.take_length] at hd
      refine ⟨Dn, [va, vb, vc].map bad1, rfl, sq_of (by rw [List.map_map]; exact hd), _, rfl, ?_⟩
      rcases h with ⟨hbad, kE⟩ | ⟨size, m, i, rfl, rfl, rfl, h0, hsz, h⟩
      · have : ([va, vb, vc].map bad1).any id = true := by rw [List.any_map]; exact hbad
        rw [this]
        exact iteT (kE H1 sm1)
      have hgood : ([V.int size, V.int m, V.int i].map bad1).any id = false := by
        simp [bad1]; omega
      rw [hgood]
      refine iteF ?_
      refine next_intro ?_
      dsimp only
      refine ⟨_, rfl, _, rfl, _, rfl, size, m, rfl, by omega, by omega, by omega, fun _ => ?_⟩
      refine ⟨_, _, rfl, rfl, _, rfl, ?_⟩
      rw [comb_bin]
      rcases h with ⟨hi, kE⟩ | ⟨xs, hix, hasc, hlen, hT, kQ⟩
      · exact iteTb (decide_eq_true hi) (kE H1 sm1)
      have hlt := (idx_lt hasc).2
      rw [Nat.sub_zero, hlen] at hlt
      refine iteFb (decide_eq_false (by omega)) ?_
      refine next_intro ?_
      dsimp only
      refine ⟨Nat.zero_le _, fun fp nfp => ?_⟩
      have T1 : Tabs (TT1 W) (upd H1 fp (.lst [])) := tabs_of (tabs_of hT sm1) (same_upd nfp)
      have E1 : ExtN H (upd H1 fp (.lst [])) := ext_of (same_upd' sm1 (sm1.free nfp))
      have nfH : H fp = none := sm1.free nfp
      have F1 : (upd H1 fp (.lst [])) fp = some (.lst (nsV (xs.take 0))) := upd_same
      generalize upd H1 fp (.lst []) = H2 at T1 E1 F1 ⊢
      have hm : m ≤ size := by
        have := asc_len (Nat.zero_le size) hasc
        omega
      refine ⟨_, rfl, _, rfl, _, rfl, _, _, _, ((m : Int) - 0).toNat, rfl, RgC.neg (by omega) (by omega) (by omega) (by omega), ?_⟩
      rw [show ((m : Int) - 0).toNat = m by omega]
      refine for_rangeC (fun k σ H' => ∃ (last : Nat) (y6 y7 y8 : Option V), σ = [some (.int size), some (.int m), some (.int i), some (.ref fp), some (.int last), some (.int (idx size last (xs.drop k))), y6, y7, y8] ∧
        Asc size last (xs.drop k) ∧ last ≤ size ∧ ExtN H H' ∧ Tabs (TT1 W) H' ∧ H' fp = some (.lst (nsV (xs.take k)))) ⟨0, none, none, none, by rw [List.drop_zero, ← hix]; rfl, by simpa using hasc, Nat.zero_le _, E1, T1, F1⟩ ?_ ?_
      · rintro k σ H3 hk ⟨last, y6, y7, y8, rfl, hA, hl, E3, T3, F3⟩
        obtain ⟨x, hx, hd⟩ := drop_at (l := xs) (i := k) (by omega)
        have hrl : (xs.drop (k + 1)).length + 1 = m - k := by rw [List.length_drop]; omega
        rw [hd] at hA ⊢
        generalize hr : xs.drop (k + 1) = rest at hA hrl hd ⊢
        have hb := idx_lt hA
        obtain ⟨a1, a2, a3⟩ := hA
        refine ⟨_, rfl, _, rfl, _, rfl, _, rfl, size, last, rest.length + 1, _, ?_, by omega, hsz, hb.1, T3, fun r H4 E4 T4 hr1 hr2 hr3 hr4 => ?_⟩
        · rw [show (m : Int) + (k : Int) * -1 = ((rest.length + 1 : Nat) : Int) by omega]; rfl
        obtain rfl : r = x := found_is ⟨a1, a2, a3⟩ hr3 hr4 hr2
        refine gname_intro ?_
        refine next_intro ?_
        dsimp only
        have F4 := E4 _ _ F3 (fun ps z => by cases z)
        have hfl : (nsV (xs.take k)).length ≤ 16000 := by unfold nsV; rw [List.length_map, List.length_take]; omega
        refine ⟨_, rfl, _, rfl, _, rfl, _, rfl, _, rfl, size, last, rest.length + 1, r, ?_, hl, by omega, by omega, _, _, rfl, rfl, ?_⟩
        · rw [show (m : Int) + (k : Int) * -1 = ((rest.length + 1 : Nat) : Int) by omega]; rfl
        refine next_intro ?_
        dsimp only
        refine ⟨_, rfl, .inl ⟨rfl, _, sq_of F4⟩, _, rfl, fp, _, _, rfl, rfl, F4, szl _ (by omega), ?_⟩
        refine next_intro ?_
        dsimp only
        have e5 : idx size last (r :: rest) - bf size last (rest.length + 1) r = idx size r rest := by
          show bf size last (rest.length + 1) r + idx size r rest - _ = _
          omega
        refine ⟨_, rfl, r, some (.int ((m : Int) + (k : Int) * -1)), some (.int r), y8, ?_, a3, a2, ext_wr (xs := []) (E3.trans E4) nfH, tabs_wr T4 F4, ?_⟩
        · rw [← e5]; rfl
        · rw [upd_same, take_more hx]; unfold nsV; rw [List.map_append]; rfl
      · rintro σ H3 ⟨last, y6, y7, y8, rfl, hA, hl, E3, T3, F3⟩
        rw [List.take_of_length_le (by omega)] at F3
        refine ⟨_, rfl, fp, _, rfl, .inl ⟨sq_of F3, fun p np => ?_⟩⟩
        exact kQ p _ (fun b o h n => by rw [upd_ne (ne_of_none (E3 b o h n) np)]; exact E3 b o h n) (tabs_of T3 (same_upd np)) upd_same
end
end SM

namespace SM
open PySem L2 SMath LamX
section
variable {P : Program} {w : World} {K : PySem.W.Frag} {mg : Str → Option Value} {base : Heap} {W : Ad}
/-- what subset_index is given besides the size -/
def spIdx (W : Ad) : Sp := fun vs H Q E => ∃ a b, vs = [a, b] ∧
  ((a = .non ∧ ∀ H', Same H H' → E (.ref W.cBadIndex) none H') ∨ ∃ (size : Nat) (p : Addr), a = .int size ∧ b = .ref p ∧ size ≤ 16000 ∧
    ((∃ l, H p = some (.lst l) ∧ ∀ H', Same H H' → E (.ref W.cBadIndex) none H') ∨
     (∃ z, H p = some (.tup [.str z]) ∧ ∀ H', Same H H' → E (.ref W.cBadIndex) none H') ∨
     ∃ ns : List Nat, H p = some (.tup (nsV ns)) ∧ ns.length ≤ 1000 ∧ (ascB size 0 ns = true → ∀ H', Same H H' → Q (.int (idx size 0 ns)) H') ∧ (ascB size 0 ns = false → ∀ H', Same H H' → E (.ref W.cBadIndex) none H')))
theorem asc_all {size : Nat} : ∀ {xs : List Nat} {last : Nat}, ascB size last xs = true → xs.all (fun x => decide (x ≤ size)) = true
  | [], _, _ => rfl
  | x :: xs, last, h => by
    unfold ascB at h
    simp only [Bool.and_eq_true, decide_eq_true_eq] at h
    rw [List.all_cons, asc_all h.2.2, decide_eq_true h.2.1]; rfl
theorem ns_of {ns : List Nat} {i : Nat} {y : V} (h : (nsV ns)[i]? = some y) : ∃ z, ns[i]? = some z ∧ y = V.int (z : Nat) := by
  unfold nsV at h
  rw [List.getElem?_map] at h
  cases e : ns[i]? with
  | none => rw [e] at h; cases h
  | some z => rw [e] at h; exact ⟨z, rfl, (Option.some.inj h).symm⟩
theorem ns_len (ns : List Nat) : (nsV ns).length = ns.length := List.length_map ..
theorem ok_idx (T : Tx K mg W) (D : Df K mg "subset_index" s_subset_index ["size", "subset"]) (C1 : Cal P w K mg base CX0 1 "is_whole" ["value"] spWhole) (C2 : Cal P w K mg base CX0 1 "_before" ["size", "last", "members", "number"] spBefore) :
    Cal P w K mg base (L2.CX P w) 2 "subset_index" ["size", "subset"] (spIdx W) := by
  obtain ⟨f, fd, g, F, b⟩ := D
  obtain ⟨f1, fd1, g_is_whole, k_is_whole, b_is_whole, G_is_whole⟩ := C1.ex
  obtain ⟨f2, fd2, g__before, k__before, b__before, G__before⟩ := C2.ex
  refine ⟨f, fd, g, F.kp, b, F.okX sc_subset_index (fun vs H Q E h => ?_) (fun cdv A outer s H vs Q E hr h => ?_)⟩
  · obtain ⟨_, _, rfl, _⟩ := h
    rfl
  · obtain ⟨va, vb, rfl, h⟩ := h
    refine ⟨_, (pss_cons (ps_if (PW.pt (pw_or (pt_not (pt_val (pe_call G_is_whole (hr.mono (by decide)) (by rfl) g_is_whole k_is_whole b_is_whole .nil pass0 (pa_cons (pv 0) pa_nil)))) (pw_or (pt_cmpR op_lt (pv 0) pe_int (nomark _)) (pw_or1 (pt_not (pt_val (pe_callB call_isi (by rfl) T.n_isinstance (by decide +kernel) (pa_cons (pv 1) (pa_cons (pe_bltn (v := .ty "tuple") (by rfl) T.n_tuple (by decide +kernel) rfl) pa_nil))))))))) (
    (pss_one (ps_raise rfl (takes_of rfl rfl rfl rfl) (pmk_own PySem.F.excBase_ValueError T.e_BadIndex.x T.e_BadIndex.g T.e_BadIndex.k (raises_own T.e_BadIndex.b T.e_BadIndex.t) rfl)))) (pss_nil))
  (pss_cons (ps_if (pt_val (pe_callB (cr_any rfl) (by rfl) T.n_any (by decide +kernel) (pa_cons (pe_lc (own := [("number", 5)]) rfl sc_subset_index.nd (pi_tup (pv 1)) (blkOk_by (own := [("number", 5)]) (N := ["size", "subset", "index", "last", "at", "number"]) (sc := defScope s_subset_index) (by decide +kernel)) (fun _ _ _ _ _ => (pg_name (i := 5) sc_subset_index.nd rfl (.inl rfl))) (fun _ _ _ _ _ => pts_nil) (fun _ _ _ _ _ => (pe_or (pe_not (pe_call G_is_whole (hr.mono (by decide)) (by rfl) g_is_whole k_is_whole b_is_whole .nil pass0 (pa_cons (pv 5) pa_nil))) (pe_one (pe_cmpR op_gt (pv 5) (pv 0) (nomark _)))))) pa_nil))) (
    (pss_one (ps_raise rfl (takes_of rfl rfl rfl rfl) (pmk_own PySem.F.excBase_ValueError T.e_BadIndex.x T.e_BadIndex.g T.e_BadIndex.k (raises_own T.e_BadIndex.b T.e_BadIndex.t) rfl)))) (pss_nil))
  (pss_cons (ps_set (i := 2) sc_subset_index.nd rfl (.inl rfl) pe_int)
  (pss_cons (ps_set (i := 3) sc_subset_index.nd rfl (.inl rfl) pe_int)
  (pss_cons (ps_for (passes_of rfl) rfl (pi_enumT (by rfl) T.n_enumerate (pa_cons (pv 1) pa_nil)) (pg_tup (by rfl) (pgs_cons (pg_name (i := 4) sc_subset_index.nd rfl (.inl rfl)) (pgs_cons (pg_name (i := 5) sc_subset_index.nd rfl (.inl rfl)) pgs_nil))) (
    (pss_cons (ps_if (pt_cmpR op_le (pv 5) (pv 3) (nomark _)) (
      (pss_one (ps_raise rfl (takes_of rfl rfl rfl rfl) (pmk_own PySem.F.excBase_ValueError T.e_BadIndex.x T.e_BadIndex.g T.e_BadIndex.k (raises_own T.e_BadIndex.b T.e_BadIndex.t) rfl)))) (pss_nil))
    (pss_cons (ps_aug (i := 2) sc_subset_index.nd rfl (.inl rfl) (pe_call G__before (hr.mono (by decide)) (by rfl) g__before k__before b__before .nil pass0 (pa_cons (pv 0) (pa_cons (pv 3) (pa_cons (pe_op op_sub (pe_callB call_len_seq (by rfl) T.n_len (by decide +kernel) (pa_cons (pv 1) pa_nil)) (pv 4)) (pa_cons (pv 5) pa_nil))))) ip_add)
    (pss_one (ps_set (i := 3) sc_subset_index.nd rfl (.inl rfl) (pv 5)))))))
  (pss_one (ps_ret (pv 2)))))))), ?_⟩
    rcases h with ⟨rfl, kE⟩ | ⟨size, p, rfl, rfl, hsz, h⟩
    · refine ⟨_, rfl, _, rfl, .inr (.inr ⟨.inl rfl, _, rfl, ?_⟩)⟩
      exact iteT (iteT (kE H (.refl H)))
    refine ⟨_, rfl, _, rfl, .inl ⟨_, rfl, _, rfl, iteF ?_⟩⟩
    refine ⟨_, rfl, _, _, rfl, rfl, _, rfl, iteFb (decide_eq_false (by omega)) ?_⟩
    rcases h with ⟨l, hp, kE⟩ | h
    · refine ⟨_, rfl, _, _, _, _, false, rfl, .ty "tuple", .base (.lst hp), kit_ty (by decide +kernel), _, rfl, iteT ?_⟩
      exact kE H (.refl H)
    have htup : ∃ ys, H p = some (.tup ys) := h.elim (fun ⟨_, h, _⟩ => ⟨_, h⟩) (fun ⟨_, h, _⟩ => ⟨_, h⟩)
    obtain ⟨ys, hp⟩ := htup
    refine ⟨_, rfl, _, _, _, _, true, rfl, .ty "tuple", .base (.tup hp), kit_ty (by decide +kernel), _, rfl, iteF ?_⟩
    refine next_intro ?_
    dsimp only
    refine ⟨_, rfl, p, rfl, ⟨_, st_of hp⟩, fun Dn hD => ?_⟩
    rcases h with ⟨z, hp', kE⟩ | ⟨ns, hp', hlen, kQ, kE⟩
    · obtain rfl : ys = [.str z] := by rw [hp] at hp'; exact HO.tup.inj (Option.some.inj hp')
      refine lc_tup (K := K) (a := p) (xs := [.str z]) (fun i H' => Same H H' ∧ H' Dn = some (.lst ((List.replicate i true).map V.bl)) ∧ i ≤ 1) ⟨same_upd hD, upd_same, Nat.zero_le _⟩ (fun i H' _ h => st_of (h.1 _ _ hp)) ?_ ?_
      · rintro i x H' hi ⟨sm, hd, hi1⟩
        have hi0 : i = 0 := by have := (List.getElem?_eq_some_iff.mp hi).1; simpa using this
        subst hi0
        obtain rfl := Option.some.inj hi
        refine ⟨rfl, ?_⟩
        rw [tYes, if_pos rfl]
        refine ⟨_, rfl, _, rfl, .inr (.inr ⟨.inr ⟨z, rfl⟩, false, rfl, true, rfl, iteT ?_⟩)⟩
        exact ⟨_, hd, szl _ (by show 0 < 100000; decide), same_upd' sm hD, by rw [upd_same]; rfl, Nat.le_refl _⟩
      · rintro H' ⟨sm, hd, _⟩
        refine ⟨Dn, _, rfl, sq_of hd, _, rfl, ?_⟩
        exact iteT (kE H' sm)
    obtain rfl : ys = nsV ns := by rw [hp] at hp'; exact HO.tup.inj (Option.some.inj hp')
    refine lc_tup (K := K) (a := p) (xs := nsV ns) (fun i H' => Same H H' ∧ H' Dn = some (.lst ((ns.take i).map fun x => V.bl (!decide (x ≤ size))))) ⟨same_upd hD, upd_same⟩ (fun i H' _ h => st_of (h.1 _ _ hp)) ?_ ?_
    · rintro i x H' hi ⟨sm, hd⟩
      obtain ⟨z, hz, rfl⟩ := ns_of hi
      refine ⟨rfl, ?_⟩
      rw [tYes, if_pos rfl]
      refine ⟨_, rfl, _, rfl, .inl ⟨_, rfl, true, rfl, false, rfl, iteF ?_⟩⟩
      refine ⟨_, rfl, _, rfl, _, _, rfl, rfl, _, hd, szl _ ?_, same_upd' sm hD, ?_⟩
      · rw [List.length_map, List.length_take]; omega
      · rw [upd_same, take_more hz, List.map_append]
        show some (HO.lst (_ ++ [V.bl (decide ((z : Int) > (size : Int)))])) = some (HO.lst (_ ++ [V.bl (!decide (z ≤ size))]))
        have eb : decide ((z : Int) > (size : Int)) = !decide (z ≤ size) := by
          by_cases h : z ≤ size
          · rw [decide_eq_true h, decide_eq_false (by omega)]; rfl
          · rw [decide_eq_false h, decide_eq_true (by omega)]; rfl
        rw [eb]
    rintro H1 ⟨sm1, hd⟩
    rw [ns_len, List.take_length] at hd
    refine ⟨Dn, ns.map fun x => !decide (x ≤ size), rfl, sq_of (by rw [List.map_map]; exact hd), _, rfl, ?_⟩
    rw [any_not (fun x => decide (x ≤ size)) ns]
    cases hall : ns.all fun x => decide (x ≤ size) with
    | false =>
      refine iteT (kE ?_ H1 sm1)
      cases ha : ascB size 0 ns with
      | false => rfl
      | true => rw [asc_all ha] at hall; cases hall
    | true =>
      refine iteF ?_
      refine next_intro ?_
      dsimp only
      refine ⟨_, rfl, p, _, rfl, st_of (sm1 _ _ hp), ?_⟩
      have hmem : ∀ (k x : Nat), ns[k]? = some x → x ≤ size := fun k x hk => of_decide_eq_true (List.all_eq_true.mp hall x (List.mem_of_getElem? hk))
      refine for_enumT (K := K) (a := p) (xs := nsV ns) (fun k σ H' => ∃ (acc : Int) (last : Nat) (y4 y5 : Option V), σ = [some (.int size), some (.ref p), some (.int acc), some (.int last), y4, y5] ∧ Same H H' ∧ last ≤ size ∧
        ascB size 0 ns = ascB size last (ns.drop k) ∧ acc + idx size last (ns.drop k) = idx size 0 ns) ⟨0, 0, none, none, rfl, sm1, Nat.zero_le _, rfl, by rw [List.drop_zero]; omega⟩ (fun k σ H' _ ⟨_, _, _, _, _, h, _⟩ => st_of (h _ _ hp)) ?_ ?_
      · rintro k x σ H3 Tp hk ⟨acc, last, y4, y5, rfl, s3, hl, hA, hI⟩ nT
        obtain ⟨z, hz, rfl⟩ := ns_of hk
        have hzs := hmem k z hz
        have hkl : k < ns.length := (List.getElem?_eq_some_iff.mp hz).1
        have hdrop : ns.drop k = z :: ns.drop (k + 1) := by
          rw [List.drop_eq_getElem_cons hkl]
          congr 1
          exact Option.some.inj ((List.getElem?_eq_getElem hkl).symm.trans hz)
        rw [hdrop] at hA hI
        have hrl : (ns.drop (k + 1)).length + 1 = ns.length - k := by rw [List.length_drop]; omega
        generalize ns.drop (k + 1) = rest at hA hI hrl ⊢
        have s4 : Same H (upd H3 Tp (.tup [.int (k : Nat), .int (z : Nat)])) := same_upd' s3 (s3.free nT)
        refine ⟨Tp, _, rfl, st_of upd_same, rfl, _, _, rfl, ?_⟩
        generalize upd H3 Tp (.tup [.int (k : Nat), .int (z : Nat)]) = H4 at s4 ⊢
        refine gname_intro ?_
        refine ⟨_, _, rfl, ?_⟩
        refine gname_intro ?_
        refine ⟨rfl, ?_⟩
        refine ⟨_, rfl, _, rfl, _, _, rfl, rfl, _, rfl, ?_⟩
        refine ite2 (fun c => ?_) (fun c => ?_)
        · have c' : ¬ last < z := by have := of_decide_eq_true c; omega
          refine kE ?_ _ s4
          rw [hA]
          unfold ascB
          rw [decide_eq_false c']; rfl
        · have c' : last < z := by
            have : ¬ ((z : Int) ≤ (last : Int)) := fun q => c (decide_eq_true q)
            omega
          refine next_intro ?_
          dsimp only
          refine ⟨_, rfl, _, rfl, _, rfl, _, rfl, p, _, rfl, .inr (st_of (s4 _ _ hp)), _, rfl, _, _, rfl, rfl, _, rfl, size, last, rest.length + 1, z, ?_, hl, by omega, by omega, _, _, rfl, rfl, ?_⟩
          · rw [ns_len]
            dsimp only
            rw [show (ns.length : Int) - (k : Int) = ((rest.length + 1 : Nat) : Int) by omega]; rfl
          refine next_intro ?_
          dsimp only
          refine ⟨_, rfl, acc + bf size last (rest.length + 1) z, z, _, _, rfl, s4, hzs, ?_, ?_⟩
          · rw [hA]
            show (decide (last < z) && (decide (z ≤ size) && ascB size z rest)) = _
            rw [decide_eq_true c', decide_eq_true hzs]; rfl
          · rw [← hI]
            show _ = acc + (bf size last (rest.length + 1) z + idx size z rest)
            omega
      · rintro σ H3 ⟨acc, last, y4, y5, rfl, s3, hl, hA, hI⟩
        rw [ns_len, List.drop_length] at hA hI
        have : acc = idx size 0 ns := by rw [← hI]; show _ = acc + 0; omega
        refine ⟨_, rfl, ?_⟩
        rw [this]
        exact kQ hA H3 s3
end
end SM

namespace SM
open PySem L2 SMath LamX
section
variable {X : Cx} {a : Addr} {oe : Obj} {pn : List (Addr × Obj)} {cls : Value} {d : Option Addr}
/-- isinstance of the error that the suite holds, whatever its class is -/
def rIsE3 (K : PySem.W.Frag) (a : Addr) (cls : Value) (d : Option Addr) : List V → Hp → VK → Prop := fun xs H Q => ∃ D, ExcC K D ∧ cls = .ref D ∧ d = none ∧ rIsE K D a xs H Q
theorem call_isE3 (hz : Zc cls d oe) (hf : ∃ vs, oe.data = .fields vs) : CallR (X.suite a ((a, oe) :: pn)) (.builtin "isinstance") (rIsE3 X.K a cls d) := by
  intro pins s σ H xs us Q I r h
  obtain ⟨D, C, rfl, rfl, h⟩ := h
  exact call_isE C hz hf pins s σ H xs us Q I r h
end
/-- what is asked of the error classes -/
structure Ex (K : PySem.W.Frag) (mg : Str → Option Value) (W : Ad) : Prop where
  gS : mg "SpeciesError" = some (.ref W.cSpeciesError)
  cC : ExcC K W.cBadIndex
  mC : PySem.W.exmOne K (.ref W.cBadIndex) (.ref W.cSpeciesError) = some true
  iCC : PySem.W.kitOne K (.ref W.cBadIndex) (.ref W.cBadIndex) = some true
section
variable {P : Program} {w : World} {K : PySem.W.Frag} {mg : Str → Option Value} {base : Heap} {W : Ad}
def spNumber : Sp := fun vs H Q _ => ∃ i, vs = [.int i] ∧ Q (.bl true) H
theorem ok_number (T : Tx K mg W) (D : Df K mg "_law_is_number" s__law_is_number ["value"]) : Cal P w K mg base CX0 1 "_law_is_number" ["value"] spNumber := by
  obtain ⟨f, fd, g, F, b⟩ := D
  refine ⟨f, fd, g, F.kp, b, F.ok sc__law_is_number (fun vs H Q E h => ?_) (fun cdv A outer s H vs Q E hr h => ?_)⟩
  · obtain ⟨x, rfl, _⟩ := h
    rfl
  · obtain ⟨i, rfl, q⟩ := h
    refine ⟨_, (pss_one (ps_ret (pe_and (pe_callB call_isi (by rfl) T.n_isinstance (by decide +kernel) (pa_cons (pv 0) (pa_cons (pe_bltn (v := .ty "int") (by rfl) T.n_int (by decide +kernel) rfl) pa_nil))) (pe_one (pe_not (pe_callB call_isi (by rfl) T.n_isinstance (by decide +kernel) (pa_cons (pv 0) (pa_cons (pe_bltn (v := .ty "bool") (by rfl) T.n_bool (by decide +kernel) rfl) pa_nil)))))))), ?_⟩
    refine ⟨_, rfl, _, _, _, _, true, rfl, .ty "int", .base (.int i), kit_ty (by decide +kernel), _, rfl, iteT ?_⟩
    refine ⟨_, rfl, _, _, _, _, false, rfl, .ty "bool", .base (.int i), kit_ty (by decide +kernel), _, rfl, ?_⟩
    exact q
/-! ### what is refused -/
def spRefA : Sp := fun vs H Q _ => ∃ a b c, vs = [a, b, c] ∧ IB a ∧ IB b ∧ IB c ∧ ([a, b, c].any bad1 = true ∨ ∃ size m : Nat, ∃ i : Int, a = .int size ∧ b = .int m ∧ c = .int i ∧ 0 ≤ i ∧ size ≤ 16000 ∧ bin size m ≤ i) ∧ ∀ H', Same H H' → Q (.bl true) H'
theorem ok_refA (T : Tx K mg W) (X : Ex K mg W) (D : Df K mg "_law_at_refused" s__law_at_refused ["size", "members", "index"])
    (C1 : Cal P w K mg base (L2.CX P w) 6 "subset_at" ["size", "members", "index"] (spAt W)) : Cal P w K mg base CX0 7 "_law_at_refused" ["size", "members", "index"] spRefA := by
  obtain ⟨f, fd, g, F, b⟩ := D
  obtain ⟨f1, fd1, g_subset_at, k_subset_at, b_subset_at, G_subset_at⟩ := C1.ex
  refine ⟨f, fd, g, F.kp, b, F.ok sc__law_at_refused (fun vs H Q E h => ?_) (fun cdv A outer s H vs Q E hr h => ?_)⟩
  · obtain ⟨_, _, _, rfl, _⟩ := h
    rfl
  · obtain ⟨va, vb, vc, rfl, ha, hb, hc, hR, k⟩ := h
    have hr1 : Room 6 _ := hr.mono (by decide)
    refine ⟨_, pss_cons (ps_try_as (i := 3) (ts := fun a cls d => tRet (tCB (rIsE3 K a cls d) (tCons (tVar 3) (tCons (tC (.ref W.cBadIndex)) tNil)))) (Wout := fun _ _ _ _ => False) rfl rfl sc__law_at_refused.nd rfl rfl ⟨rfl, by decide, .inl X.gS⟩ L2.takes0
        (fun W' pn xe tk _ => pss_one (ps_expr (pe_callS G_subset_at hr1 (by rfl) g_subset_at k_subset_at b_subset_at (fun σ => passAt tk σ) (pa_cons (pv 0) (pa_cons (pv 1) (pa_cons (pv 2) pa_nil))))))
        (fun a oe cls d pn hz hf => pss_one (ps_ret (pe_callB (call_isE3 hz hf) (by rfl) T.n_isinstance (by decide +kernel) (pa_cons (pv 3) (pa_cons (pe_glob (v := .ref W.cBadIndex) (by rfl) T.e_BadIndex.g rfl) pa_nil)))))) (pss_one (ps_ret pe_bl)), ?_⟩
    refine ⟨_, rfl, _, rfl, _, rfl, va, vb, vc, rfl, ha, hb, hc, ?_⟩
    rcases hR with hbad | ⟨size, m, i, e1, e2, e3, h0, hsz, hi⟩
    · refine .inl ⟨hbad, fun H' s' => ?_⟩
      refine ⟨true, X.mC, fun _ a0 ha0 => ?_, fun q => by cases q⟩
      exact ⟨_, rfl, _, X.cC, rfl, rfl, _, _, true, rfl, (fun u r => r), X.iCC, k H' s'⟩
    · refine .inr ⟨size, m, i, e1, e2, e3, h0, hsz, .inl ⟨hi, fun H' s' => ?_⟩⟩
      refine ⟨true, X.mC, fun _ a0 ha0 => ?_, fun q => by cases q⟩
      exact ⟨_, rfl, _, X.cC, rfl, rfl, _, _, true, rfl, (fun u r => r), X.iCC, k H' s'⟩
def spRefI : Sp := fun vs H Q _ => ∃ a b, vs = [a, b] ∧
  (a = .non ∨ ∃ (size : Nat) (p : Addr), a = .int size ∧ b = .ref p ∧ size ≤ 16000 ∧
    ((∃ l, H p = some (.lst l)) ∨ (∃ z, H p = some (.tup [.str z])) ∨ ∃ ns : List Nat, H p = some (.tup (nsV ns)) ∧ ns.length ≤ 1000 ∧ ascB size 0 ns = false)) ∧ ∀ H', Same H H' → Q (.bl true) H'
theorem ok_refI (T : Tx K mg W) (X : Ex K mg W) (D : Df K mg "_law_index_refused" s__law_index_refused ["size", "subset"])
    (C1 : Cal P w K mg base (L2.CX P w) 2 "subset_index" ["size", "subset"] (spIdx W)) : Cal P w K mg base CX0 7 "_law_index_refused" ["size", "subset"] spRefI := by
  obtain ⟨f, fd, g, F, b⟩ := D
  obtain ⟨f1, fd1, g_subset_index, k_subset_index, b_subset_index, G_subset_index⟩ := C1.ex
  refine ⟨f, fd, g, F.kp, b, F.ok sc__law_index_refused (fun vs H Q E h => ?_) (fun cdv A outer s H vs Q E hr h => ?_)⟩
  · obtain ⟨_, _, rfl, _⟩ := h
    rfl
  · obtain ⟨va, vb, rfl, hR, k⟩ := h
    have hr1 : Room 2 _ := hr.mono (by decide)
    refine ⟨_, pss_cons (ps_try_as (i := 2) (ts := fun a cls d => tRet (tCB (rIsE3 K a cls d) (tCons (tVar 2) (tCons (tC (.ref W.cBadIndex)) tNil)))) (Wout := fun _ _ _ _ => False) rfl rfl sc__law_index_refused.nd rfl rfl ⟨rfl, by decide, .inl X.gS⟩ L2.takes0
        (fun W' pn xe tk _ => pss_one (ps_expr (pe_callS G_subset_index hr1 (by rfl) g_subset_index k_subset_index b_subset_index (fun σ => passAt tk σ) (pa_cons (pv 0) (pa_cons (pv 1) pa_nil)))))
        (fun a oe cls d pn hz hf => pss_one (ps_ret (pe_callB (call_isE3 hz hf) (by rfl) T.n_isinstance (by decide +kernel) (pa_cons (pv 2) (pa_cons (pe_glob (v := .ref W.cBadIndex) (by rfl) T.e_BadIndex.g rfl) pa_nil)))))) (pss_one (ps_ret pe_bl)), ?_⟩
    refine ⟨_, rfl, _, rfl, va, vb, rfl, ?_⟩
    rcases hR with rfl | ⟨size, p, e1, e2, hsz, hR⟩
    · refine .inl ⟨rfl, fun H' s' => ?_⟩
      refine ⟨true, X.mC, fun _ a0 ha0 => ?_, fun q => by cases q⟩
      exact ⟨_, rfl, _, X.cC, rfl, rfl, _, _, true, rfl, (fun u r => r), X.iCC, k H' s'⟩
    · refine .inr ⟨size, p, e1, e2, hsz, ?_⟩
      rcases hR with ⟨l, hl⟩ | ⟨z, hz⟩ | ⟨ns, hn, hlen, ha⟩
      · refine .inl ⟨l, hl, fun H' s' => ?_⟩
        refine ⟨true, X.mC, fun _ a0 ha0 => ?_, fun q => by cases q⟩
        exact ⟨_, rfl, _, X.cC, rfl, rfl, _, _, true, rfl, (fun u r => r), X.iCC, k H' s'⟩
      · refine .inr (.inl ⟨z, hz, fun H' s' => ?_⟩)
        refine ⟨true, X.mC, fun _ a0 ha0 => ?_, fun q => by cases q⟩
        exact ⟨_, rfl, _, X.cC, rfl, rfl, _, _, true, rfl, (fun u r => r), X.iCC, k H' s'⟩
      · refine .inr (.inr ⟨ns, hn, hlen, fun z => (by rw [ha] at z; cases z), fun _ H' s' => ?_⟩)
        refine ⟨true, X.mC, fun _ a0 ha0 => ?_, fun q => by cases q⟩
        exact ⟨_, rfl, _, X.cC, rfl, rfl, _, _, true, rfl, (fun u r => r), X.iCC, k H' s'⟩
end
end SM

namespace SM
open PySem L2 SMath LamX
def Fb (k : Nat) : List V := (List.range (k + 1)).map fun j => V.int (SMath.bin k j)
theorem Fb_len (k : Nat) : (Fb k).length = k + 1 := by unfold Fb; rw [List.length_map, List.length_range]
theorem Fb_at {k j : Nat} (h : j ≤ k) : (Fb k)[j]? = some (.int (SMath.bin k j)) := by
  unfold Fb
  rw [List.getElem?_map, List.getElem?_range (by omega)]; rfl
theorem Fb_next (k : Nat) : [V.int 1] ++ ((List.range k).map fun j => V.int (SMath.bin k j + SMath.bin k (j + 1))) ++ [V.int 1] = Fb (k + 1) := by
  unfold Fb
  rw [List.range_succ_eq_map, List.map_cons, List.map_map, List.range_succ, List.map_append, bin_0]
  show V.int 1 :: (_ ++ _) = V.int 1 :: (_ ++ [V.int (SMath.bin (k + 1) (k + 1))])
  rw [SMath.bin_self]
  congr 1
section
variable {P : Program} {w : World} {K : PySem.W.Frag} {mg : Str → Option Value} {base : Heap} {W : Ad}
def spCh : Sp := fun vs H Q _ => ∃ n : Nat, vs = [.int n] ∧ n ≤ 500 ∧ ∀ q H' rs, Same H H' → H q = none → H' q = some (.lst (rs.map V.ref)) → rs.length = n + 1 → Rws H H' rs Fb → Q (.ref q) H'
theorem ok_choose (T : Tx K mg W) (D : Df K mg "_law_choose" s__law_choose ["size"]) : Cal P w K mg base CX0 1 "_law_choose" ["size"] spCh := by
  obtain ⟨f, fd, g, F, b⟩ := D
  refine ⟨f, fd, g, F.kp, b, F.ok sc__law_choose (fun vs H Q E h => ?_) (fun cdv A outer s H vs Q E hr h => ?_)⟩
  · obtain ⟨_, rfl, _⟩ := h
    rfl
  · obtain ⟨n, rfl, hn, kQ⟩ := h
    refine ⟨_, (pss_cons (ps_set (i := 1) sc__law_choose.nd rfl (.inl rfl) (pe_lst (pa_cons (pe_lst (pa_cons pe_int pa_nil)) pa_nil)))
  (pss_cons (ps_for PassesOwn.never rfl (pi_range1 (by rfl) T.n_range (pa_cons (pv 0) pa_nil)) (pg_name (i := 2) sc__law_choose.nd rfl (.inl rfl)) (
    (pss_cons (ps_set (i := 3) sc__law_choose.nd rfl (.inr rfl) (pe_ix ix_list (pv 1) (pe_un un_neg pe_int) (fun _ _ => rfl)))
    (pss_one (ps_expr (pe_bm PySem.F.plainAttrs_list PySem.F.slot_list_append PySem.F.type_list_append mt_append (pv 1) (pa_cons (pe_op op_cat (pe_op op_cat (pe_lst (pa_cons pe_int pa_nil)) (pe_lc (own := [("j", 4)]) rfl sc__law_choose.nd (pi_range1 (by rfl) T.n_range (pa_cons (pe_op op_sub (pe_callB call_len_seq (by rfl) T.n_len (by decide +kernel) (pa_cons (pv 3) pa_nil)) pe_int) pa_nil)) (blkOk_by (own := [("j", 4)]) (N := ["size", "rows", "k", "last", "j"]) (sc := defScope s__law_choose) (by decide +kernel)) (fun _ _ _ _ _ => (pg_name (i := 4) sc__law_choose.nd rfl (.inl rfl))) (fun _ _ _ _ _ => pts_nil) (fun _ _ _ _ _ => (pe_op op_add (pe_ix (ix_listB (K := K) rfl) (pv 3) (pv 4) (fun _ _ => rfl)) (pe_ix (ix_listB (K := K) rfl) (pv 3) (pe_op op_add (pv 4) pe_int) (fun _ _ => rfl)))))) (pe_lst (pa_cons pe_int pa_nil))) pa_nil)))))))
  (pss_one (ps_ret (pv 1))))), ?_⟩
    refine ⟨sz _ (by show 1 ≤ 100000; decide), fun r0 nr0 => ⟨sz _ (by show 1 ≤ 100000; decide), fun qp nqp => ?_⟩⟩
    have s0 : Same H (upd H r0 (.lst [.int 1])) := same_upd nr0
    have nq : H qp = none := s0.free nqp
    have hne : r0 ≠ qp := fun e => by rw [← e, upd_same] at nqp; cases nqp
    refine ⟨_, rfl, n, rfl, by omega, by omega, ?_⟩
    rw [Int.toNat_natCast]
    refine for_range (lo := 0) (n := n) (fun k σ H' => ∃ (y2 y3 y4 : Option V) (rs : List Addr), σ = [some (.int n), some (.ref qp), y2, y3, y4] ∧ Same H H' ∧ H' qp = some (.lst (rs.map V.ref)) ∧ rs.length = k + 1 ∧ Rws H H' rs Fb ∧ ∀ r ∈ rs, r ≠ qp)
      ⟨none, none, none, [r0], rfl, same_upd' s0 nq, upd_same, rfl, ?_, fun r hr => by rw [List.mem_singleton.mp hr]; exact hne⟩ ?_ ?_
    · refine Rws.other (H := upd H r0 (.lst [.int 1])) ?_ fun r hr => by rw [List.mem_singleton.mp hr]; exact hne
      refine Rws.snoc (rs := []) Rws.nil (.refl H) s0 nr0 ?_
      rw [upd_same]
      unfold Fb
      rfl
    · rintro k σ H3 hk ⟨y2, y3, y4, rs, rfl, s3, hq3, hl, hR, hq⟩
      obtain ⟨r, hr, hrv, hrF⟩ := hR.get (j := k) (by omega)
      have hsp : ∃ init, rs.map V.ref = init ++ [V.ref r] := by
        refine ⟨(rs.map V.ref).take k, ?_⟩
        rw [← take_more hrv, List.take_of_length_le (by rw [List.length_map]; omega)]
      obtain ⟨init, hinit⟩ := hsp
      refine ⟨_, rfl, _, rfl, qp, _, _, _, rfl, rfl, sq_of hq3, by rw [hinit]; exact atI_last _ _, ?_⟩
      refine gname_intro ?_
      refine next_intro ?_
      dsimp only
      refine ⟨_, rfl, .inl ⟨rfl, _, sq_of hq3⟩, sz _ (by show 1 ≤ 100000; decide), fun l1 nl1 => ?_⟩
      have sA : Same H3 (upd H3 l1 (.lst [.int 1])) := same_upd nl1
      refine ⟨_, rfl, r, _, rfl, .inl (sq_of (sA _ _ hrF)), _, _, rfl, rfl, _, rfl, ?_, ?_, fun Dn hD => ?_⟩
      · rw [Fb_len]; omega
      · rw [Fb_len]; omega
      rw [Fb_len, show (((k + 1 : Nat) : Int) - 1).toNat = k by omega]
      refine lc_rangeM (lo := 0) (j := 4) (fun j => V.int (SMath.bin k j + SMath.bin k (j + 1))) (by omega) hD (fun j hj H4 s4 R kk => ?_) (fun H4 s4 h4 => ?_)
      · have hr4 := s4 _ _ (sA _ _ hrF)
        refine ⟨_, rfl, _, rfl, r, _, _, _, rfl, rfl, sq_of hr4, atI_of (j := j) (by omega) (Fb_at (by omega)), _, rfl, _, rfl, _, _, rfl, rfl, r, _, _, _, rfl, rfl, sq_of hr4, atI_of (j := j + 1) (by omega) (Fb_at (by omega)), _, _, rfl, rfl, kk H4 (.refl H4)⟩
      · have h4l : H4 l1 = some (.lst [.int 1]) := s4 _ _ upd_same
        refine ⟨l1, Dn, _, _, rfl, rfl, h4l, h4, sz _ ?_, fun p1 np1 => ?_⟩
        · rw [List.length_map, List.length_range]; simp; omega
        refine ⟨sz _ (by show 1 ≤ 100000; decide), fun l2 nl2 => ?_⟩
        have hp1 : (upd H4 p1 (.lst ([V.int 1] ++ (List.range k).map fun j => V.int (SMath.bin k j + SMath.bin k (j + 1))))) p1 = _ := upd_same
        have sB : Same H3 (upd H4 p1 (.lst ([V.int 1] ++ (List.range k).map fun j => V.int (SMath.bin k j + SMath.bin k (j + 1))))) := (sA.trans s4).trans (same_upd np1)
        generalize upd H4 p1 (.lst ([V.int 1] ++ (List.range k).map fun j => V.int (SMath.bin k j + SMath.bin k (j + 1)))) = H5 at nl2 hp1 sB ⊢
        have hne2 : p1 ≠ l2 := fun e => by rw [← e, hp1] at nl2; cases nl2
        refine ⟨p1, l2, _, _, rfl, rfl, by rw [upd_ne hne2]; exact hp1, upd_same, sz _ ?_, fun p2 np2 => ?_⟩
        · rw [List.length_append, List.length_map, List.length_range]; simp; omega
        have sC : Same H3 (upd H5 l2 (.lst [.int 1])) := sB.trans (same_upd nl2)
        generalize upd H5 l2 (.lst [.int 1]) = H6 at np2 sC ⊢
        rw [Fb_next]
        have sD : Same H3 (upd H6 p2 (.lst (Fb (k + 1)))) := sC.trans (same_upd np2)
        have np3 : H3 p2 = none := sC.free np2
        have hR' := hR.snoc s3 sD np3 (by rw [upd_same, hl])
        generalize upd H6 p2 (.lst (Fb (k + 1))) = H7 at sD hR' ⊢
        have hq7 := sD _ _ hq3
        have hpq : p2 ≠ qp := fun e => by rw [e, hq3] at np3; cases np3
        have hall : ∀ r ∈ rs ++ [p2], r ≠ qp := fun r hr => by
          rcases List.mem_append.mp hr with h | h
          · exact hq r h
          · rw [List.mem_singleton.mp h]; exact hpq
        refine ⟨qp, _, _, rfl, rfl, hq7, szl _ (by rw [List.length_map]; omega), ?_⟩
        exact ⟨_, _, _, rs ++ [p2], rfl, same_upd' (s3.trans sD) nq, by rw [upd_same, List.map_append]; rfl, by rw [List.length_append, hl]; rfl, hR'.other hall, hall⟩
    · rintro σ H3 ⟨y2, y3, y4, rs, rfl, s3, hq3, hl, hR, hq⟩
      exact ⟨_, rfl, kQ qp H3 rs s3 nq hq3 hl hR⟩
end
end SM

namespace SMath
theorem lefts_len {size n : Nat} : ∀ {xs : List Nat} {last : Nat}, last ≤ size → Asc size last xs → n ≤ size + 1 → (lefts xs n).length + n ≤ size + 1
  | [], _, _, _, h => by simpa [lefts] using h
  | x :: xs, last, hl, ⟨h1, h2, h3⟩, h => by
    by_cases c : n ≤ x
    · have e : lefts (x :: xs) n = x :: xs := by
        unfold lefts
        refine List.filter_eq_self.mpr fun y hy => ?_
        rcases List.mem_cons.mp hy with e | e
        · rw [e]; exact decide_eq_true c
        · have := asc_gt h3 y e
          exact decide_eq_true (by omega)
      have := SM.asc_len h2 h3
      rw [e, List.length_cons]
      omega
    · have e : lefts (x :: xs) n = lefts xs n := by
        unfold lefts
        rw [List.filter_cons_of_neg (by simpa using c)]
      rw [e]
      exact lefts_len h2 h3 h
end SMath
namespace SM
open PySem L2 SMath LamX
section
variable {P : Program} {w : World} {K : PySem.W.Frag} {mg : Str → Option Value} {base : Heap} {W : Ad}
theorem inV_ns (x : Nat) : ∀ ns : List Nat, inV (V.int (x : Nat)) (nsV ns) = decide (x ∈ ns)
  | [] => rfl
  | y :: ns => by
    show (eqV (V.int (y : Nat)) (V.int (x : Nat)) || inV (V.int (x : Nat)) (nsV ns)) = _
    rw [inV_ns x ns]
    show (((y : Int) == (x : Int)) || decide (x ∈ ns)) = _
    by_cases h : x = y
    · subst h; simp
    · have h' : ¬ (y : Int) = (x : Int) := by omega
      simp [h, h']
theorem flat_ns : ∀ ns : List Nat, (nsV ns).all flatV = true
  | [] => rfl
  | y :: ns => flat_ns ns
def spBef : Sp := fun vs H Q _ => ∃ (n : Nat) (p : Addr) (ns : List Nat), vs = [.int n, .ref p] ∧ n ≤ 500 ∧ H p = some (.tup (nsV ns)) ∧ Asc n 0 ns ∧ ∀ H', Same H H' → Q (.int (idx n 0 ns)) H'
theorem ok_bef (T : Tx K mg W) (D : Df K mg "_law_before" s__law_before ["size", "subset"]) (C1 : Cal P w K mg base CX0 1 "_law_choose" ["size"] spCh) : Cal P w K mg base CX0 2 "_law_before" ["size", "subset"] spBef := by
  obtain ⟨f, fd, g, F, b⟩ := D
  obtain ⟨f1, fd1, g__law_choose, k__law_choose, b__law_choose, G__law_choose⟩ := C1.ex
  refine ⟨f, fd, g, F.kp, b, F.ok sc__law_before (fun vs H Q E h => ?_) (fun cdv A outer s H vs Q E hr h => ?_)⟩
  · obtain ⟨_, _, _, rfl, _⟩ := h
    rfl
  · obtain ⟨n, p, ns, rfl, hn, hp, hasc, kQ⟩ := h
    refine ⟨_, (pss_cons (ps_set (i := 2) sc__law_before.nd rfl (.inl rfl) (pe_call G__law_choose (hr.mono (by decide)) (by rfl) g__law_choose k__law_choose b__law_choose .nil pass0 (pa_cons (pv 0) pa_nil)))
  (pss_cons (ps_set (i := 3) sc__law_before.nd rfl (.inl rfl) pe_int)
  (pss_cons (ps_for PassesOwn.never rfl (pi_range2 (by rfl) T.n_range (pa_cons pe_int (pa_cons (pe_op op_add (pv 0) pe_int) pa_nil))) (pg_name (i := 4) sc__law_before.nd rfl (.inr rfl)) (
    (pss_cons (ps_setLc (i := 5) (own := [("one", 6)]) rfl sc__law_before.nd rfl rfl (sw_true rfl rfl rfl (by decide +kernel)) (pi_tup (pv 1)) (blkOk_by (own := [("one", 6)]) (N := ["size", "subset", "rows", "total", "number", "left", "one"]) (sc := defScope s__law_before) (by decide +kernel)) (fun _ _ _ _ _ => (pg_name (i := 6) sc__law_before.nd rfl (.inl rfl))) (fun _ _ _ _ _ => pts_one (pt_cmpR op_ge (pv 6) (pv 4) (nomark _))) (fun _ _ _ _ _ => (pv 6)))
    (pss_one (ps_if (PW.pt (pw_and (pt_cmpR op_gt (pe_callB call_len_seq (by rfl) T.n_len (by decide +kernel) (pa_cons (pv 5) pa_nil)) pe_int (nomark _)) (pw_and1 (pt_cmpR op_notIn_seq (pv 4) (pv 1) (by rfl))))) (
      (pss_one (ps_set (i := 3) sc__law_before.nd rfl (.inl rfl) (pe_op op_add (pv 3) (pe_ix ix_list (pe_ix ix_list (pv 2) (pe_op op_sub (pv 0) (pv 4)) (fun _ _ => rfl)) (pe_op op_sub (pe_callB call_len_seq (by rfl) T.n_len (by decide +kernel) (pa_cons (pv 5) pa_nil)) pe_int) (fun _ _ => rfl)))))) (pss_nil))))))
  (pss_one (ps_ret (pv 3)))))), ?_⟩
    have hnl : ns.length ≤ n := by have := asc_len (Nat.zero_le n) hasc; omega
    refine ⟨_, rfl, n, rfl, hn, fun rp H1 rs s1 nrp hrp hrl hR => ?_⟩
    refine gname_intro ?_
    refine next_intro ?_
    dsimp only
    refine ⟨_, rfl, _, _, rfl, rfl, _, _, rfl, ⟨by omega, by omega, by omega, by omega⟩, ?_⟩
    rw [show ((n : Int) + 1 - 1).toNat = n by omega]
    refine for_range (lo := 1) (n := n) (fun k σ H' => ∃ (y4 y5 y6 : Option V), σ = [some (.int n), some (.ref p), some (.ref rp), some (.int (S k fun i => gq n ns (1 + i))), y4, y5, y6] ∧ Same H1 H') ⟨none, none, none, rfl, .refl H1⟩ ?_ ?_
    · rintro k σ H3 hk ⟨y4, y5, y6, rfl, s3⟩
      have s3' : Same H H3 := s1.trans s3
      refine ⟨_, rfl, p, rfl, ⟨_, st_of (s3' _ _ hp)⟩, fun Dn hD => ?_⟩
      refine lc_tup (K := K) (a := p) (xs := nsV ns) (fun i H' => Same H3 H' ∧ H' Dn = some (.lst (nsV ((ns.take i).filter fun o => decide (1 + k ≤ o))))) ⟨same_upd hD, upd_same⟩ (fun i H' _ h => st_of (h.1 _ _ (s3' _ _ hp))) ?_ ?_
      · rintro i x H' hi ⟨sm, hd⟩
        obtain ⟨z, hz, rfl⟩ := ns_of hi
        refine ⟨rfl, _, rfl, _, rfl, _, _, rfl, rfl, _, rfl, ?_⟩
        have ef : ∀ b : Bool, decide ((z : Int) ≥ 1 + (k : Int)) = b → decide (1 + k ≤ z) = b := fun b hb => by
          rw [← hb]
          by_cases h : 1 + k ≤ z
          · rw [decide_eq_true h, decide_eq_true (by omega)]
          · rw [decide_eq_false h, decide_eq_false (by omega)]
        refine ite2 (fun c => ?_) (fun c => ?_)
        · have e := ef true c
          refine ⟨_, rfl, _, hd, szl _ ?_, same_upd' sm hD, ?_⟩
          · rw [ns_len]
            have := List.length_filter_le (fun o => decide (1 + k ≤ o)) (ns.take i)
            rw [List.length_take] at this
            omega
          · rw [upd_same, take_more hz, List.filter_append, List.filter_cons_of_pos (by simpa using e)]
            unfold nsV
            rw [List.map_append]; rfl
        · have e := ef false (by simpa using c)
          refine ⟨sm, ?_⟩
          rw [hd, take_more hz, List.filter_append, List.filter_cons_of_neg (by simpa using e), List.filter_nil, List.append_nil]
      · rintro H4 ⟨s4, hd⟩
        rw [ns_len, List.take_length] at hd
        have hp4 := s4 _ _ (s3' _ _ hp)
        have hL := lefts_len (n := 1 + k) (Nat.zero_le n) hasc (by omega)
        have hLn : (lefts ns (1 + k)).length ≤ ns.length := List.length_filter_le _ _
        replace hd : H4 Dn = some (.lst (nsV (lefts ns (1 + k)))) := hd
        obtain ⟨L, hLe⟩ : ∃ L, L = lefts ns (1 + k) := ⟨_, rfl⟩
        rw [← hLe] at hL hLn hd
        have egq : gq n ns (1 + k) = if 0 < L.length ∧ ¬ (1 + k) ∈ ns then SMath.bin (n - (1 + k)) (L.length - 1) else 0 := by rw [hLe]; rfl
        refine gname_intro ?_
        refine next_intro ?_
        dsimp only
        refine ⟨_, rfl, Dn, _, rfl, .inl (sq_of hd), _, _, rfl, rfl, _, rfl, ?_⟩
        rw [ns_len]
        refine ite2 (fun c => ?_) (fun c => ?_)
        · have c' : 0 < L.length := by have := of_decide_eq_true c; omega
          refine ⟨_, rfl, _, rfl, p, _, rfl, .inr (st_of hp4), rfl, flat_ns ns, _, rfl, ?_⟩
          have ein : inV (V.int (1 + (k : Int))) (nsV ns) = decide ((1 + k) ∈ ns) := by
            rw [← inV_ns (1 + k) ns]
            congr 2
          rw [ein]
          refine ite2 (fun c2 => ?_) (fun c2 => ?_)
          · have c2' : ¬ (1 + k) ∈ ns := by simpa using c2
            obtain ⟨r, hr, hrv, hrF⟩ := (hR.mono (s3.trans s4)).get (j := n - (1 + k)) (by omega)
            refine ⟨_, rfl, _, rfl, _, rfl, _, rfl, _, _, rfl, rfl, rp, _, _, _, rfl, rfl, sq_of (s4 _ _ (s3 _ _ hrp)), atI_of (j := n - (1 + k)) (by omega) hrv, _, rfl, Dn, _, rfl, .inl (sq_of hd), _, _, rfl, rfl, r, _, _, _, rfl, rfl, sq_of hrF, atI_of (j := L.length - 1) (by rw [ns_len]; omega) (Fb_at (by omega)), _, _, rfl, rfl, ?_⟩
            refine ⟨some (.int (1 + (k : Int))), some (.ref Dn), y6, ?_, s3.trans s4⟩
            rw [S, egq, if_pos ⟨c', c2'⟩]
            rfl
          · have c2' : (1 + k) ∈ ns := by simpa using c2
            refine ⟨some (.int (1 + (k : Int))), some (.ref Dn), y6, ?_, s3.trans s4⟩
            rw [S, egq, if_neg (fun z => z.2 c2'), Int.add_zero]
            rfl
        · have c' : ¬ 0 < L.length := fun z => c (decide_eq_true (by omega))
          refine ⟨some (.int (1 + (k : Int))), some (.ref Dn), y6, ?_, s3.trans s4⟩
          rw [S, egq, if_neg (fun z => c' z.1), Int.add_zero]
          rfl
    · rintro σ H3 ⟨y4, y5, y6, rfl, s3⟩
      have e := before_idx (pre := []) hasc (Nat.zero_le n) (fun y hy => by cases hy)
      rw [← e] at kQ
      refine ⟨_, rfl, ?_⟩
      refine Eq.mp ?_ (kQ H3 (s1.trans s3))
      rfl
end
end SM

namespace SMath
open PySem
theorem code_inj {B : Int} : ∀ {a b : List Int}, a.length = b.length → TS.Bd B a → TS.Bd B b → TS.code B a ≤ TS.code B b → TS.code B b ≤ TS.code B a → a = b
  | [], [], _, _, _, _, _ => rfl
  | [], _ :: _, h, _, _, _, _ => by simp at h
  | _ :: _, [], h, _, _, _, _ => by simp at h
  | d :: r, e :: q, h, ha, hb, h1, h2 => by
    have hl : r.length = q.length := by simpa using h
    have e0 : d = e := by
      by_cases c1 : d < e
      · have := TS.code_lt hl ha.tail hb.tail c1
        omega
      · by_cases c2 : e < d
        · have := TS.code_lt hl.symm hb.tail ha.tail c2
          omega
        · omega
    subst e0
    have e1 : TS.code B (d :: r) = d * B ^ r.length + TS.code B r := rfl
    have e2 : TS.code B (d :: q) = d * B ^ r.length + TS.code B q := by rw [hl]; rfl
    rw [e1, e2] at h1 h2
    rw [code_inj hl ha.tail hb.tail (by omega) (by omega)]
def zs (r : List Nat) : List Int := r.map fun x => ((x : Nat) : Int)
theorem zs_inj {a b : List Nat} (h : zs a = zs b) : a = b := by
  have : ∀ l : List Nat, (zs l).map Int.toNat = l := fun l => by
    unfold zs
    rw [List.map_map]
    conv => rhs; rw [← List.map_id l]
    refine List.map_congr_left fun x _ => ?_
    show ((x : Nat) : Int).toNat = x
    omega
  rw [← this a, ← this b, h]
def codeN : List Nat → Nat
  | [] => 0
  | d :: r => d * 16 ^ r.length + codeN r
theorem code_zs : ∀ r : List Nat, TS.code 16 (zs r) = (codeN r : Nat)
  | [] => rfl
  | d :: r => by
    show (d : Int) * 16 ^ (zs r).length + TS.code 16 (zs r) = ((d * 16 ^ r.length + codeN r : Nat) : Int)
    rw [code_zs r, Int.natCast_add, Int.natCast_mul, Int.natCast_pow]
    unfold zs
    rw [List.length_map]
    rfl
def upB : List (List Nat) → Bool
  | [] => true
  | [_] => true
  | x :: y :: r => decide (codeN x ≤ codeN y) && upB (y :: r)
theorem upB_pw : ∀ {l : List (List Nat)}, upB l = true → l.Pairwise fun x y => codeN x ≤ codeN y
  | [], _ => List.Pairwise.nil
  | [x], _ => List.pairwise_singleton _ _
  | x :: y :: r, h => by
    unfold upB at h
    rw [Bool.and_eq_true, decide_eq_true_eq] at h
    have ih := upB_pw h.2
    refine List.Pairwise.cons (fun z hz => ?_) ih
    rcases List.mem_cons.mp hz with e | e
    · rw [e]; exact h.1
    · exact Nat.le_trans h.1 (List.rel_of_pairwise_cons ih e)
theorem upB_all : ((List.range 9).all fun size => (List.range 10).all fun m => upB (subs size 1 m)) = true := by decide +kernel
theorem up_t {size m : Nat} (h1 : size < 9) (h2 : m < 10) : (subs size 1 m).Pairwise fun x y => codeN x ≤ codeN y := by
  have h := upB_all
  rw [List.all_eq_true] at h
  have h3 := h size (List.mem_range.mpr h1)
  rw [List.all_eq_true] at h3
  exact upB_pw (h3 m (List.mem_range.mpr h2))
theorem allL_le : ∀ (n : Nat), ∀ r ∈ allL n, ∀ x ∈ r, x ≤ n
  | 0, r, h, x, hx => by
    rw [allL, List.mem_singleton] at h
    rw [h] at hx; cases hx
  | n + 1, r, h, x, hx => by
    rw [allL, List.mem_flatMap] at h
    obtain ⟨one, h1, h2⟩ := h
    have ih := allL_le n one h1
    rcases List.mem_cons.mp h2 with e | e
    · rw [e] at hx
      have := ih x hx; omega
    · rw [List.mem_singleton.mp e] at hx
      rcases List.mem_append.mp hx with hx | hx
      · have := ih x hx; omega
      · rw [List.mem_singleton.mp hx]; omega
theorem allL_len : ∀ n, (allL n).length = 2 ^ n
  | 0 => rfl
  | n + 1 => by
    rw [allL, List.length_flatMap]
    have : ∀ l : List (List Nat), (l.map fun one => [one, one ++ [n + 1]].length).sum = 2 * l.length := by
      intro l
      induction l with
      | nil => rfl
      | cons a l ih =>
        rw [List.map_cons, List.sum_cons, ih]
        show 2 + 2 * l.length = 2 * (l.length + 1)
        omega
    rw [this, allL_len n, Nat.pow_succ]
    omega
theorem allL_ln : ∀ (n : Nat), ∀ r ∈ allL n, r.length ≤ n
  | 0, r, h => by rw [allL, List.mem_singleton] at h; rw [h]; exact Nat.le_refl _
  | n + 1, r, h => by
    rw [allL, List.mem_flatMap] at h
    obtain ⟨one, h1, h2⟩ := h
    have ih := allL_ln n one h1
    rcases List.mem_cons.mp h2 with e | e
    · rw [e]; omega
    · rw [List.mem_singleton.mp e, List.length_append]
      show one.length + 1 ≤ n + 1
      omega
/-- what is sorted comes out in order -/
theorem sorted_is {size m : Nat} (h1 : size < 9) (h2 : m < 10) {L : List (List Nat)} (hp : L.Perm ((allL size).filter fun one => decide (one.length = m))) (hs : L.Pairwise fun x y => TS.code 16 (zs x) ≤ TS.code 16 (zs y)) : L = subs size 1 m := by
  have hok := okB_t h1 h2
  unfold okB at hok
  simp only [Bool.and_eq_true] at hok
  have hp2 : (subs size 1 m).Perm ((allL size).filter fun one => decide (one.length = m)) := List.isPerm_iff.mp hok.1
  have hp3 := hp.trans hp2.symm
  have hall : ∀ r ∈ L, r.length = m ∧ TS.Bd 16 (zs r) := fun r hr => by
    have hm := hp.subset hr
    rw [List.mem_filter] at hm
    refine ⟨of_decide_eq_true hm.2, fun z hz => ?_⟩
    obtain ⟨x, hx, rfl⟩ := List.mem_map.mp hz
    have := allL_le size r hm.1 x hx
    omega
  refine List.Perm.eq_of_pairwise (le := fun x y => TS.code 16 (zs x) ≤ TS.code 16 (zs y)) (fun a b ha hb p q => ?_) hs ((up_t h1 h2).imp fun {a b} h => by rw [code_zs, code_zs]; omega) hp3
  obtain ⟨a1, a2⟩ := hall a ha
  obtain ⟨b1, b2⟩ := hall b (hp3.symm.subset hb)
  refine zs_inj (code_inj ?_ a2 b2 p q)
  unfold zs
  rw [List.length_map, List.length_map, a1, b1]
end SMath
namespace SM
open PySem L2 SMath LamX
/-- a tuple of numbers -/
def RowN (H : Hp) (x : V) (r : List Nat) : Prop := ∃ a, x = .ref a ∧ H a = some (.tup (nsV r))
structure LsN (H : Hp) (fs : List V) (L : List (List Nat)) : Prop where
  len : fs.length = L.length
  at_ : ∀ (i : Nat) (r : List Nat), L[i]? = some r → ∃ x, fs[i]? = some x ∧ RowN H x r
theorem RowN.mono {H H' : Hp} {x : V} {r : List Nat} (h : RowN H x r) (s : Same H H') : RowN H' x r := by
  obtain ⟨a, e, h⟩ := h
  exact ⟨a, e, s _ _ h⟩
theorem RowN.wr {H : Hp} {x : V} {r : List Nat} {q : Addr} {ys zs : List V} (h : RowN H x r) (hq : H q = some (.lst ys)) : RowN (upd H q (.lst zs)) x r := by
  obtain ⟨a, e, h⟩ := h
  exact ⟨a, e, by rw [upd_ne (fun z => by rw [z, hq] at h; cases h)]; exact h⟩
theorem LsN.mono {H H' : Hp} {fs : List V} {L : List (List Nat)} (h : LsN H fs L) (s : Same H H') : LsN H' fs L :=
  ⟨h.len, fun i r e => by obtain ⟨x, h1, h2⟩ := h.at_ i r e; exact ⟨x, h1, h2.mono s⟩⟩
theorem LsN.wr {H : Hp} {fs : List V} {L : List (List Nat)} {q : Addr} {ys zs : List V} (h : LsN H fs L) (hq : H q = some (.lst ys)) : LsN (upd H q (.lst zs)) fs L :=
  ⟨h.len, fun i r e => by obtain ⟨x, h1, h2⟩ := h.at_ i r e; exact ⟨x, h1, h2.wr hq⟩⟩
theorem LsN.nil {H : Hp} : LsN H [] [] := ⟨rfl, fun i p e => by simp at e⟩
theorem LsN.of {H : Hp} {fs : List V} {L : List (List Nat)} (h : LsN H fs L) {i : Nat} {x : V} (hx : fs[i]? = some x) : ∃ r, L[i]? = some r ∧ RowN H x r := by
  have hi : i < L.length := by rw [← h.len]; exact (List.getElem?_eq_some_iff.mp hx).1
  obtain ⟨y, h1, h2⟩ := h.at_ i _ (List.getElem?_eq_getElem hi)
  rw [hx] at h1
  obtain rfl := Option.some.inj h1
  exact ⟨_, List.getElem?_eq_getElem hi, h2⟩
theorem LsN.snoc {H : Hp} {fs : List V} {L : List (List Nat)} (h : LsN H fs L) {x : V} {r : List Nat} (hx : RowN H x r) : LsN H (fs ++ [x]) (L ++ [r]) := by
  refine ⟨by rw [List.length_append, List.length_append, h.len]; rfl, fun i q e => ?_⟩
  by_cases hi : i < L.length
  · rw [List.getElem?_append_left hi] at e
    obtain ⟨b, h1, h2⟩ := h.at_ i q e
    exact ⟨b, by rw [List.getElem?_append_left (by rw [h.len]; exact hi)]; exact h1, h2⟩
  · have hl := (List.getElem?_eq_some_iff.mp e).1
    rw [List.length_append] at hl
    have : i = L.length := by simp at hl; omega
    subst this
    rw [List.getElem?_append_right (Nat.le_refl _), Nat.sub_self] at e
    obtain rfl := Option.some.inj e
    exact ⟨x, by rw [← h.len, List.getElem?_append_right (Nat.le_refl _), Nat.sub_self]; rfl, hx⟩
/-- the numbers of a tuple, read off the heap -/
def toN : V → Nat
  | .int i => i.toNat
  | _ => 0
def kN (H : Hp) : V → List Nat
  | .ref a => match H a with
    | some (.tup xs) => xs.map toN
    | _ => []
  | _ => []
theorem kN_row {H : Hp} {x : V} {r : List Nat} (h : RowN H x r) : kN H x = r := by
  obtain ⟨a, rfl, h⟩ := h
  have e : kN H (.ref a) = (nsV r).map toN := by simp only [kN, h]
  rw [e]
  unfold nsV
  rw [List.map_map]
  conv => rhs; rw [← List.map_id r]
  refine List.map_congr_left fun x _ => ?_
  show ((x : Nat) : Int).toNat = x
  omega
theorem LsN.map {H : Hp} {fs : List V} {L : List (List Nat)} (h : LsN H fs L) : fs.map (kN H) = L := by
  refine List.ext_getElem? fun i => ?_
  rw [List.getElem?_map]
  by_cases hi : i < L.length
  · obtain ⟨x, h1, h2⟩ := h.at_ i _ (List.getElem?_eq_getElem hi)
    rw [h1, List.getElem?_eq_getElem hi]
    exact congrArg some (kN_row h2)
  · rw [List.getElem?_eq_none (by rw [h.len]; omega), List.getElem?_eq_none (by omega)]; rfl
theorem LsN.mem {H : Hp} {fs : List V} {L : List (List Nat)} (h : LsN H fs L) {x : V} (hx : x ∈ fs) : RowN H x (kN H x) ∧ kN H x ∈ L := by
  obtain ⟨i, hi⟩ := List.getElem?_of_mem hx
  obtain ⟨r, hr, hR⟩ := h.of hi
  rw [kN_row hR]
  exact ⟨hR, List.mem_of_getElem? hr⟩
theorem LsN.ofMap {H : Hp} {ys : List V} {L : List (List Nat)} (h : ∀ y ∈ ys, RowN H y (kN H y)) (e : ys.map (kN H) = L) : LsN H ys L := by
  refine ⟨by rw [← e, List.length_map], fun i r hr => ?_⟩
  rw [← e, List.getElem?_map] at hr
  cases hy : ys[i]? with
  | none => rw [hy] at hr; cases hr
  | some y =>
    rw [hy] at hr
    obtain rfl := Option.some.inj hr
    exact ⟨y, rfl, h y (List.mem_of_getElem? hy)⟩
theorem nsV_zs (r : List Nat) : nsV r = (zs r).map V.int := by
  unfold nsV zs
  rw [List.map_map]; rfl
end SM

namespace SM
open PySem L2 SMath LamX
section
variable {P : Program} {w : World} {K : PySem.W.Frag} {mg : Str → Option Value} {base : Heap} {W : Ad}
def spAll : Sp := fun vs H Q _ => ∃ n m : Nat, vs = [.int n, .int m] ∧ n < 9 ∧ m < 10 ∧ ∀ q H' fs, Same H H' → H q = none → H' q = some (.lst fs) → LsN H' fs (subs n 1 m) → Q (.ref q) H'
theorem ok_all (T : Tx K mg W) (D : Df K mg "_law_all" s__law_all ["size", "members"]) : Cal P w K mg base CX0 1 "_law_all" ["size", "members"] spAll := by
  obtain ⟨f, fd, g, F, b⟩ := D
  refine ⟨f, fd, g, F.kp, b, F.ok sc__law_all (fun vs H Q E h => ?_) (fun cdv A outer s H vs Q E hr h => ?_)⟩
  · obtain ⟨_, _, rfl, _⟩ := h
    rfl
  · obtain ⟨n, m, rfl, hn, hm, kQ⟩ := h
    refine ⟨_, (pss_cons (ps_set (i := 2) sc__law_all.nd rfl (.inl rfl) (pe_lst (pa_cons (pe_tup pa_nil) pa_nil)))
  (pss_cons (ps_for PassesOwn.never rfl (pi_range2 (by rfl) T.n_range (pa_cons pe_int (pa_cons (pe_op op_add (pv 0) pe_int) pa_nil))) (pg_name (i := 3) sc__law_all.nd rfl (.inl rfl)) (
    (pss_cons (ps_set (i := 4) sc__law_all.nd rfl (.inl rfl) (pe_lst pa_nil))
    (pss_cons (ps_for PassesOwn.never rfl (pi_list (pv 2)) (pg_name (i := 5) sc__law_all.nd rfl (.inl rfl)) (
      (pss_cons (ps_expr (pe_bm PySem.F.plainAttrs_list PySem.F.slot_list_append PySem.F.type_list_append mt_append (pv 4) (pa_cons (pv 5) pa_nil)))
      (pss_one (ps_expr (pe_bm PySem.F.plainAttrs_list PySem.F.slot_list_append PySem.F.type_list_append mt_append (pv 4) (pa_cons (pe_op op_catA (pv 5) (pe_tup (pa_cons (pv 3) pa_nil))) pa_nil)))))))
    (pss_one (ps_set (i := 2) sc__law_all.nd rfl (.inl rfl) (pv 4)))))))
  (pss_one (ps_ret (pe_callB cr_sortedC (by rfl) T.n_sorted (by decide +kernel) (pa_cons (pe_lc (own := [("one", 5)]) rfl sc__law_all.nd (pi_list (pv 2)) (blkOk_by (own := [("one", 5)]) (N := ["size", "members", "found", "number", "longer", "one"]) (sc := defScope s__law_all) (by decide +kernel)) (fun _ _ _ _ _ => (pg_name (i := 5) sc__law_all.nd rfl (.inl rfl))) (fun _ _ _ _ _ => pts_one (pt_cmpR op_eq (pe_callB (call_lenB (K := K) rfl) (by rfl) T.n_len (by decide +kernel) (pa_cons (pv 5) pa_nil)) (pv 1) (nomark _))) (fun _ _ _ _ _ => (pv 5))) pa_nil)))))), ?_⟩
    refine ⟨by show 0 ≤ sizeLine; exact Nat.zero_le _, fun t0 nt0 => ⟨sz _ (by show 1 ≤ 100000; decide), fun fl nfl => ?_⟩⟩
    have s0 : Same H (upd (upd H t0 (.tup [])) fl (.lst [.ref t0])) := (same_upd nt0).trans (same_upd nfl)
    have nflH : H fl = none := (same_upd nt0).free nfl
    have hfl0 : (upd (upd H t0 (.tup [])) fl (.lst [.ref t0])) fl = some (.lst [.ref t0]) := upd_same
    have h00 : LsN (upd (upd H t0 (.tup [])) fl (.lst [.ref t0])) [.ref t0] (allL 0) := by
      have hne : t0 ≠ fl := fun e => by rw [← e, upd_same] at nfl; cases nfl
      exact LsN.snoc LsN.nil ⟨t0, rfl, by rw [upd_ne hne, upd_same]; rfl⟩
    generalize upd (upd H t0 (.tup [])) fl (.lst [.ref t0]) = H1 at s0 hfl0 h00 ⊢
    refine ⟨_, rfl, _, _, rfl, rfl, _, _, rfl, ⟨by omega, by omega, by omega, by omega⟩, ?_⟩
    rw [show ((n : Int) + 1 - 1).toNat = n by omega]
    refine for_range (lo := 1) (n := n) (fun k σ H' => ∃ (fl : Addr) (fs : List V) (y3 y4 y5 : Option V), σ = [some (.int n), some (.int m), some (.ref fl), y3, y4, y5] ∧ Same H H' ∧ H fl = none ∧ H' fl = some (.lst fs) ∧ LsN H' fs (allL k))
      ⟨fl, _, none, none, none, rfl, s0, nflH, hfl0, h00⟩ ?_ ?_
    · clear s0 nflH hfl0 h00 nt0 nfl fl
      rintro k σ H2 hk ⟨fl, fs, y3, y4, y5, rfl, s2, nfl, hfl, hL⟩
      have hlen : (allL k).length ≤ 256 := by
        rw [allL_len]
        exact Nat.le_trans (Nat.pow_le_pow_right (by decide) (show k ≤ 8 by omega)) (by decide)
      refine ⟨Nat.zero_le _, fun lp nlp => ?_⟩
      have nlpH : H lp = none := s2.free nlp
      have hfp : fl ≠ lp := fun e => by rw [← e, hfl] at nlp; cases nlp
      refine ⟨_, rfl, fl, rfl, ⟨_, sq_of (show (upd H2 lp (.lst [])) fl = _ by rw [upd_ne hfp]; exact hfl)⟩, for_list (K := K) (a := fl) (xs := fs) (fun i σ H' => ∃ (ls : List V) (y5 : Option V), σ = [some (.int n), some (.int m), some (.ref fl), some (.int (1 + (k : Int))), some (.ref lp), y5] ∧ Same H H' ∧ H' fl = some (.lst fs) ∧ LsN H' fs (allL k) ∧
        H' lp = some (.lst ls) ∧ LsN H' ls (((allL k).take i).flatMap fun one => [one, one ++ [k + 1]]) ∧ ls.length = 2 * i)
        ⟨[], y5, rfl, same_upd' s2 nlpH, by rw [upd_ne hfp]; exact hfl, hL.mono (same_upd nlp), upd_same, LsN.nil, rfl⟩ (fun i σ H' _ ⟨_, _, _, _, h, _⟩ => sq_of h) ?_ ?_⟩
      · rintro i x σ H3 hi ⟨ls, y5, rfl, s3, hfl3, hL3, hlp3, hLs3, hll⟩
        obtain ⟨one, hone, oa, rfl, ho⟩ := hL3.of hi
        have hik : i < (allL k).length := (List.getElem?_eq_some_iff.mp hone).1
        refine gname_intro ?_
        refine ⟨_, rfl, .inl ⟨rfl, _, sq_of hlp3⟩, _, rfl, lp, _, _, rfl, rfl, hlp3, szl _ (by omega), ?_⟩
        refine next_intro ?_
        dsimp only
        have hol : one.length ≤ 8 := Nat.le_trans (allL_ln k one (List.mem_of_getElem? hone)) (by omega)
        have hne5 : lp ≠ fl := fun e => hfp e.symm
        have hlp4 : (upd H3 lp (.lst (ls ++ [.ref oa]))) lp = some (.lst (ls ++ [.ref oa])) := upd_same
        have hR4 : RowN (upd H3 lp (.lst (ls ++ [.ref oa]))) (.ref oa) one := RowN.wr ⟨oa, rfl, ho⟩ hlp3
        have hLs4 : LsN (upd H3 lp (.lst (ls ++ [.ref oa]))) (ls ++ [.ref oa]) ((((allL k).take i).flatMap fun one => [one, one ++ [k + 1]]) ++ [one]) := (hLs3.wr hlp3).snoc hR4
        have hL4 : LsN (upd H3 lp (.lst (ls ++ [.ref oa]))) fs (allL k) := hL3.wr hlp3
        have hfl4 : (upd H3 lp (.lst (ls ++ [.ref oa]))) fl = some (.lst fs) := by rw [upd_ne hfp]; exact hfl3
        have s4 : Same H (upd H3 lp (.lst (ls ++ [.ref oa]))) := same_upd' s3 nlpH
        generalize upd H3 lp (.lst (ls ++ [.ref oa])) = H4 at hlp4 hR4 hLs4 hL4 hfl4 s4 ⊢
        obtain ⟨oa', e', ho4⟩ := hR4
        cases e'
        refine ⟨_, rfl, .inl ⟨rfl, _, sq_of hlp4⟩, _, rfl, _, rfl, sz _ (by show 1 ≤ 100000; decide), fun tp ntp => ?_⟩
        have sA : Same H4 (upd H4 tp (.tup [.int (1 + (k : Int))])) := same_upd ntp
        have tail : ∀ (c : Addr) (H5 : Hp), Same H4 H5 → H5 c = some (.tup (nsV (one ++ [k + 1]))) → ∃ (ls' : List V) (y5 : Option V), [some (V.int n), some (.int m), some (.ref fl), some (.int (1 + (k : Int))), some (.ref lp), some (.ref oa)] = [some (.int n), some (.int m), some (.ref fl), some (.int (1 + (k : Int))), some (.ref lp), y5] ∧
            Same H (upd H5 lp (.lst (ls ++ [.ref oa] ++ [.ref c]))) ∧ (upd H5 lp (.lst (ls ++ [.ref oa] ++ [.ref c]))) fl = some (.lst fs) ∧ LsN (upd H5 lp (.lst (ls ++ [.ref oa] ++ [.ref c]))) fs (allL k) ∧
            (upd H5 lp (.lst (ls ++ [.ref oa] ++ [.ref c]))) lp = some (.lst ls') ∧ LsN (upd H5 lp (.lst (ls ++ [.ref oa] ++ [.ref c]))) ls' (((allL k).take (i + 1)).flatMap fun one => [one, one ++ [k + 1]]) ∧ ls'.length = 2 * (i + 1) := fun c H5 s5 hc => by
          have h5 := s5 _ _ hlp4
          refine ⟨_, _, rfl, same_upd' (s4.trans s5) nlpH, by rw [upd_ne hfp]; exact s5 _ _ hfl4, (hL4.mono s5).wr h5, upd_same, ?_, by rw [List.length_append, List.length_append, hll]; simp; omega⟩
          rw [take_more hone, List.flatMap_append]
          have e : (List.flatMap (fun one => [one, one ++ [k + 1]]) ((allL k).take i)) ++ (List.flatMap (fun one => [one, one ++ [k + 1]]) [one]) = (List.flatMap (fun one => [one, one ++ [k + 1]]) ((allL k).take i) ++ [one]) ++ [one ++ [k + 1]] := by
            simp
          rw [e]
          exact ((hLs4.mono s5).snoc ⟨c, rfl, hc⟩).wr h5
        have e1 : V.int (1 + (k : Int)) = V.int ((k + 1 : Nat) : Int) := by
          rw [show 1 + (k : Int) = ((k + 1 : Nat) : Int) by omega]
        refine ⟨oa, tp, _, _, rfl, rfl, st_of (sA _ _ ho4), st_of upd_same, sz _ ?_, fun hnil => ?_, fun _ hnil => ?_, fun _ _ p np => ?_⟩
        · rw [ns_len]; show one.length + 1 ≤ 100000; omega
        · refine ⟨lp, _, _, rfl, rfl, sA _ _ hlp4, szl _ ?_, ?_⟩
          · rw [List.length_append, hll]; simp; omega
          refine tail tp _ sA ?_
          have : one = [] := by cases one with
            | nil => rfl
            | cons a l => cases hnil
          rw [this, upd_same, e1]; rfl
        · cases hnil
        · refine ⟨lp, _, _, rfl, rfl, (sA.trans (same_upd np)) _ _ hlp4, szl _ ?_, ?_⟩
          · rw [List.length_append, hll]; simp; omega
          refine tail p _ (sA.trans (same_upd np)) ?_
          rw [upd_same, e1]
          unfold nsV
          rw [List.map_append]; rfl
      · rintro σ H3 ⟨ls, y5, rfl, s3, hfl3, hL3, hlp3, hLs3, hll⟩
        have e : (fs.length) = (allL k).length := hL3.len
        rw [e, List.take_length] at hLs3
        exact ⟨_, rfl, lp, ls, _, _, _, rfl, s3, nlpH, hlp3, hLs3⟩
    · rintro σ H2 ⟨fl, fs, y3, y4, y5, rfl, s2, nfl, hfl, hL⟩
      have hlen : fs.length ≤ 256 := by
        rw [hL.len, allL_len]
        exact Nat.le_trans (Nat.pow_le_pow_right (by decide) (show n ≤ 8 by omega)) (by decide)
      refine ⟨_, rfl, fl, rfl, ⟨_, sq_of hfl⟩, fun Dn hD => ?_⟩
      refine lc_list (K := K) (a := fl) (xs := fs) (fun i H' => Same H2 H' ∧ ∃ ls, H' Dn = some (.lst ls) ∧ LsN H' ls (((allL n).take i).filter fun one => decide (one.length = m)) ∧ ls.length ≤ i) ⟨same_upd hD, [], upd_same, LsN.nil, Nat.zero_le _⟩ (fun i H' _ h => sq_of (h.1 _ _ hfl)) ?_ ?_
      · rintro i x H3 hi ⟨s3, ls, hd, hLs, hll⟩
        obtain ⟨one, hone, oa, rfl, ho⟩ := (hL.mono s3).of hi
        have hik : i < fs.length := (List.getElem?_eq_some_iff.mp hi).1
        refine ⟨rfl, _, rfl, oa, _, rfl, .inr (st_of ho), _, rfl, rfl, _, rfl, ?_⟩
        rw [ns_len, take_more hone, List.filter_append]
        by_cases he : one.length = m
        · rw [decide_eq_true (show V.int (one.length : Int) = V.int (m : Int) by rw [he]), List.filter_cons_of_pos (by simpa using he)]
          refine iteT ⟨_, rfl, ls, hd, szl _ (by omega), same_upd' s3 hD, _, upd_same, ?_, ?_⟩
          · exact (hLs.snoc ⟨oa, rfl, ho⟩).wr hd
          · rw [List.length_append]; show ls.length + 1 ≤ _; omega
        · rw [decide_eq_false (show ¬ V.int (one.length : Int) = V.int (m : Int) from fun z => he (by have := V.int.inj z; omega)), List.filter_cons_of_neg (by simpa using he), List.filter_nil, List.append_nil]
          exact iteF ⟨s3, ls, hd, hLs, by omega⟩
      · rintro H3 ⟨s3, ls, hd, hLs, hll⟩
        rw [hL.len, List.take_length] at hLs
        have hok := okB_t hn hm
        unfold okB at hok
        simp only [Bool.and_eq_true] at hok
        have hp2 : (subs n 1 m).Perm ((allL n).filter fun one => decide (one.length = m)) := List.isPerm_iff.mp hok.1
        refine ⟨Dn, ls, fun v => zs (kN H3 v), m, 16, rfl, sq_of hd, fun x hx => ?_, ?_, fun ys p hperm hpw np => ?_⟩
        · obtain ⟨⟨a, rfl, ha⟩, hmem⟩ := hLs.mem hx
          rw [List.mem_filter] at hmem
          refine ⟨a, rfl, by rw [ha, nsV_zs], ?_, fun z hz => ?_⟩
          · have := of_decide_eq_true hmem.2
            unfold zs
            rw [List.length_map, this]
          · obtain ⟨x, hx, rfl⟩ := List.mem_map.mp hz
            have := allL_le n _ hmem.1 x hx
            omega
        · by_cases hm1 : 1 ≤ m
          · exact .inl hm1
          · right
            have h0 : m = 0 := by omega
            subst h0
            have e1 := hp2.length_eq
            have e2 : (subs n 1 0).length = 1 := by cases n <;> rfl
            rw [hLs.len]
            omega
        · have hrow : ∀ y ∈ ys, RowN H3 y (kN H3 y) := fun y hy => (hLs.mem (hperm.mem_iff.mp hy)).1
          have hperm2 : (ys.map (kN H3)).Perm ((allL n).filter fun one => decide (one.length = m)) := by
            rw [← hLs.map]
            exact hperm.map _
          have e := sorted_is hn hm hperm2 (by rw [List.pairwise_map]; exact hpw)
          have s4 : Same H3 (upd H3 p (.lst ys)) := same_upd np
          exact kQ p _ ys ((s2.trans s3).trans s4) ((s2.trans s3).free np) upd_same ((LsN.ofMap hrow e).mono s4)
end
end SM

namespace SM
open PySem L2 SMath LamX
/-! ### tuples of numbers as data -/
def dN (ns : List Nat) : PyData := .tuple (ns.map fun x => PyData.int (x : Nat))
theorem dpAll_ns {K : PySem.W.Frag} {H : Hp} : ∀ ns : List Nat, DpAll K H (nsV ns) (ns.map fun x => PyData.int (x : Nat))
  | [] => .nil
  | n :: r => .cons (.int n) (dpAll_ns r)
theorem dp_ns {K : PySem.W.Frag} {H : Hp} {a : Addr} {ns : List Nat} (h : H a = some (.tup (nsV ns))) : Dp K H (.ref a) (dN ns) := .tup (st_of h) (dpAll_ns ns)
theorem lay_ns : ∀ ns : List Nat, PyData.canLayAll0 (ns.map fun x => PyData.int (x : Nat)) = true
  | [] => rfl
  | n :: r => by
    show (PyData.canLay0 (.int n) && PyData.canLayAll0 (r.map fun x => PyData.int (x : Nat))) = true
    rw [lay_ns r]; rfl
theorem depth_ns : ∀ ns : List Nat, PyData.depthAll (ns.map fun x => PyData.int (x : Nat)) = 0
  | [] => rfl
  | n :: r => by
    show max (PyData.depth (.int n)) (PyData.depthAll (r.map fun x => PyData.int (x : Nat))) = 0
    rw [depth_ns r]; rfl
theorem shaped_ns (ns : List Nat) : SeqAt.shaped (dN ns) = true := by
  have e1 : (dN ns).canLay0 = true := lay_ns ns
  have e2 : (dN ns).depth = 1 := by
    show PyData.depthAll (ns.map fun x => PyData.int (x : Nat)) + 1 = 1
    rw [depth_ns]
  unfold SeqAt.shaped
  rw [e1, e2]; rfl
theorem eqv_ns (ns : List Nat) : PyData.eqv (dN ns) (dN ns) = true := SeqAt.eqv_refl _ (lay_ns ns)
theorem catA_is {K : PySem.W.Frag} {H : Hp} {a b : Addr} {xs ys : List Nat} {Q : VK} (ha : H a = some (.tup (nsV xs))) (hb : H b = some (.tup (nsV ys))) (hl : xs.length + ys.length ≤ 100000) (k : ∀ p H', Same H H' → H' p = some (.tup (nsV (xs ++ ys))) → Q (.ref p) H') : rCatA K (.ref a) (.ref b) H Q := by
  refine ⟨a, b, _, _, rfl, rfl, st_of ha, st_of hb, sz _ (by rw [ns_len, ns_len]; exact hl), fun e => ?_, fun _ e => ?_, fun _ _ p np => ?_⟩
  · have : xs = [] := by cases xs with
      | nil => rfl
      | cons a l => cases e
    exact k b H (.refl H) (by rw [this]; exact hb)
  · have : ys = [] := by cases ys with
      | nil => rfl
      | cons a l => cases e
    exact k a H (.refl H) (by rw [this, List.append_nil]; exact ha)
  · refine k p _ (same_upd np) ?_
    rw [upd_same]
    unfold nsV
    rw [List.map_append]
theorem slA_is {K : PySem.W.Frag} {H : Hp} {a : Addr} {xs zs : List Nat} {lo hi : Option Int} {Q : VK} (ha : H a = some (.tup (nsV xs))) (e : cutV (nsV xs) lo hi = nsV zs) (k : ∀ p H', Same H H' → H' p = some (.tup (nsV zs)) → Q (.ref p) H') : rSlA K (.ref a) lo hi H Q := by
  refine ⟨a, _, rfl, st_of ha, fun ⟨e1, e2⟩ => ?_, fun _ p np => k p _ (same_upd np) (by rw [upd_same, e])⟩
  have : cutV (nsV xs) lo hi = nsV xs := by
    unfold cutV
    rw [e1, e2, List.drop_zero, Nat.sub_zero, List.take_length]
  exact k a H (.refl H) (by rw [← e, this]; exact ha)
theorem slA_from {K : PySem.W.Frag} {σ : L2.St} {H : Hp} {a : Addr} {xs zs : List Nat} {lo : Option Int} {Q : VK} (ha : H a = some (.tup (nsV xs))) (e : cutV (nsV xs) lo none = nsV zs) (k : ∀ p H', Same H H' → H' p = some (.tup (nsV zs)) → Q (.ref p) H') : tNoPart σ H fun u H3 => rSlA K (.ref a) lo u H3 Q := slA_is ha e k
theorem ns_take (xs : List Nat) (k : Nat) : (nsV xs).take k = nsV (xs.take k) := by unfold nsV; rw [List.map_take]
theorem ns_drop (xs : List Nat) (k : Nat) : (nsV xs).drop k = nsV (xs.drop k) := by unfold nsV; rw [List.map_drop]
theorem eN {H H' : Hp} {a : Addr} {o : HO} (e : ExtN H H') (h : H a = some o) (n : ∀ ps, o ≠ .tbl ps := by intro ps z; cases z) : H' a = some o := e a o h n
theorem LsN.ext {H H' : Hp} {fs : List V} {L : List (List Nat)} (h : LsN H fs L) (e : ExtN H H') : LsN H' fs L :=
  ⟨h.len, fun i r q => by obtain ⟨x, h1, a, h2, h3⟩ := h.at_ i r q; exact ⟨x, h1, a, h2, eN e h3⟩⟩
theorem idxB_at {size : Nat} : ∀ {l : List (List Nat)} {k0 i : Nat} {r : List Nat}, idxB size k0 l = true → l[i]? = some r → idx size 0 r = ((k0 + i : Nat) : Int)
  | [], _, _, _, _, h => by simp at h
  | x :: l, k0, 0, r, h, e => by
    obtain rfl := Option.some.inj e
    unfold idxB at h
    rw [Bool.and_eq_true, decide_eq_true_eq] at h
    exact h.1
  | x :: l, k0, i + 1, r, h, e => by
    unfold idxB at h
    rw [Bool.and_eq_true] at h
    have := idxB_at h.2 e
    rw [this]
    omega
/-- what is due -/
theorem due_at {n m i : Nat} {r : List Nat} (hn : n < 9) (hm : m < 10) (h : (subs n 1 m)[i]? = some r) : r.length = m ∧ Asc n 0 r ∧ idx n 0 r = (i : Int) ∧ ((subs n 1 m).length : Int) = SMath.bin n m := by
  have hok := okB_t hn hm
  unfold okB at hok
  simp only [Bool.and_eq_true, decide_eq_true_eq, List.all_eq_true] at hok
  obtain ⟨_, h1, _, h2, h3⟩ := hok
  have h4 := h1 r (List.mem_of_getElem? h)
  have h5 := idxB_at h2 h
  exact ⟨h4.1, ascB_asc h4.2, by rw [h5]; omega, h3⟩
theorem due_len {n m : Nat} (hn : n < 9) (hm : m < 10) : ((subs n 1 m).length : Int) = SMath.bin n m ∧ (subs n 1 m).length ≤ 256 := by
  have hok := okB_t hn hm
  unfold okB at hok
  simp only [Bool.and_eq_true, decide_eq_true_eq, List.all_eq_true] at hok
  refine ⟨hok.2.2.2.2, ?_⟩
  have e := (List.isPerm_iff.mp hok.1).length_eq
  have := List.length_filter_le (fun one : List Nat => decide (one.length = m)) (allL n)
  rw [allL_len] at this
  have h2 : 2 ^ n ≤ 2 ^ 8 := Nat.pow_le_pow_right (by decide) (by omega)
  have h3 : (2 : Nat) ^ 8 = 256 := by decide
  omega
theorem cut_last (xs : List Nat) (x : Nat) : cutV (nsV (xs ++ [x])) (some (-1)) none = nsV [x] := by
  have e : (nsV (xs ++ [x])).length = xs.length + 1 := by rw [ns_len, List.length_append]; rfl
  unfold cutV
  rw [HT.sIx_none, e]
  have e2 : HT.sIx (xs.length + 1) 0 (some (-1)) = xs.length := by
    show (if (-1 : Int) < 0 then ((-1 : Int) + ((xs.length + 1 : Nat) : Int)).toNat else min (-1 : Int).toNat (xs.length + 1)) = _
    rw [if_pos (by decide)]
    omega
  rw [e2, ns_drop, List.drop_left, ns_take, show xs.length + 1 - xs.length = 1 by omega]
  rfl
theorem last_of {xs : List Nat} (h : 0 < xs.length) : ∃ init x, xs = init ++ [x] := by
  have hne : xs ≠ [] := fun e => by rw [e] at h; cases h
  exact ⟨xs.dropLast, xs.getLast hne, (List.dropLast_concat_getLast hne).symm⟩
/-- what comes up ascending, chosen by a test -/
theorem asc_filter (size : Nat) (p : Nat → Bool) : ∀ k last, last + k ≤ size → Asc size last (((List.range k).map fun i => last + 1 + i).filter p)
  | 0, _, _ => trivial
  | k + 1, last, h => by
    have ih := asc_filter size p k (last + 1) (by omega)
    rw [List.range_succ_eq_map, List.map_cons, List.map_map]
    have e : (List.map ((fun i => last + 1 + i) ∘ Nat.succ) (List.range k)) = (List.range k).map fun i => last + 1 + 1 + i := by
      refine List.map_congr_left fun i _ => ?_
      show last + 1 + (i + 1) = last + 1 + 1 + i
      omega
    rw [e]
    have weak : ∀ {xs : List Nat}, Asc size (last + 1) xs → Asc size last xs := fun {xs} h => by
      cases xs with
      | nil => trivial
      | cons x xs => exact ⟨Nat.lt_of_succ_lt h.1, h.2⟩
    by_cases hp : p (last + 1 + 0) = true
    · rw [List.filter_cons_of_pos hp]
      exact ⟨by omega, by omega, ih⟩
    · rw [List.filter_cons_of_neg hp]
      exact weak ih
theorem ascB_of {size : Nat} : ∀ {xs : List Nat} {last : Nat}, Asc size last xs → ascB size last xs = true
  | [], _, _ => rfl
  | x :: xs, last, ⟨h1, h2, h3⟩ => by
    unfold ascB
    rw [decide_eq_true h1, decide_eq_true h2, ascB_of h3]; rfl
theorem ascB_snoc {size : Nat} : ∀ {xs : List Nat} {last x y : Nat}, y ≤ x → ascB size last (xs ++ [x] ++ [y]) = false
  | [], last, x, y, h => by
    show (decide (last < x) && (decide (x ≤ size) && (decide (x < y) && _))) = false
    rw [decide_eq_false (show ¬ x < y by omega)]
    simp
  | z :: xs, last, x, y, h => by
    show (decide (last < z) && (decide (z ≤ size) && ascB size z (xs ++ [x] ++ [y]))) = false
    rw [ascB_snoc h]
    simp
theorem ascB_last {size : Nat} : ∀ {xs : List Nat} {last x : Nat}, size < x → ascB size last (xs ++ [x]) = false
  | [], last, x, h => by
    show (decide (last < x) && (decide (x ≤ size) && _)) = false
    rw [decide_eq_false (show ¬ x ≤ size by omega)]
    simp
  | z :: xs, last, x, h => by
    show (decide (last < z) && (decide (z ≤ size) && ascB size z (xs ++ [x]))) = false
    rw [ascB_last h]
    simp
theorem asc_last {size : Nat} : ∀ {xs : List Nat} {last x : Nat}, Asc size last (xs ++ [x]) → last + 1 ≤ x ∧ x ≤ size
  | [], _, _, ⟨h1, h2, _⟩ => ⟨h1, h2⟩
  | z :: xs, last, x, ⟨h1, _, h3⟩ => by
    have := asc_last h3
    omega
end SM

set_option maxHeartbeats 8000000
namespace SM
open PySem L2 SMath LamX
section
variable {P : Program} {w : World} {K : PySem.W.Frag} {mg : Str → Option Value} {base : Heap} {W : Ad}
def spLaw (K : PySem.W.Frag) (W : Ad) : Sp := fun vs H Q _ => ∃ (a : Addr) (ns : List Int), vs = [.ref a] ∧ SqL K H a (ns.map V.int) ∧ ns.length ≤ 63 ∧ Tabs (TT1 W) H ∧ ∀ H', Q (.bl true) H'
theorem ok_law {f : Addr} {fd0 : FuncData} (T : Tx K mg W) (F : Fun K "law" "law" s_law f fd0) (C1 : Cal P w K mg base CX0 1 "_law_draws" ["script", "many"] (spDraws K))
    (C2 : Cal P w K mg base CX0 1 "_law_all" ["size", "members"] spAll) (C3 : Cal P w K mg base (L2.CX P w) 2 "subset_index" ["size", "subset"] (spIdx W))
    (C4 : Cal P w K mg base (L2.CX P w) 6 "subset_at" ["size", "members", "index"] (spAt W)) (C5 : Cal P w K mg base CX0 1 "_law_is_number" ["value"] spNumber)
    (C6 : Cal P w K mg base CX0 7 "_law_at_refused" ["size", "members", "index"] spRefA) (C7 : Cal P w K mg base CX0 2 "_law_before" ["size", "subset"] spBef)
    (C8 : Cal P w K mg base CX0 1 "_law_choose" ["size"] spCh) (C9 : Cal P w K mg base CX0 7 "_law_index_refused" ["size", "subset"] spRefI) : FnOk P w K mg base CX0 8 f fd0 ["script"] (spLaw K W) := by
  obtain ⟨f1, fd1, g__law_draws, k__law_draws, b__law_draws, G__law_draws⟩ := C1.ex
  obtain ⟨f2, fd2, g__law_all, k__law_all, b__law_all, G__law_all⟩ := C2.ex
  obtain ⟨f3, fd3, g_subset_index, k_subset_index, b_subset_index, G_subset_index⟩ := C3.ex
  obtain ⟨f4, fd4, g_subset_at, k_subset_at, b_subset_at, G_subset_at⟩ := C4.ex
  obtain ⟨f5, fd5, g__law_is_number, k__law_is_number, b__law_is_number, G__law_is_number⟩ := C5.ex
  obtain ⟨f6, fd6, g__law_at_refused, k__law_at_refused, b__law_at_refused, G__law_at_refused⟩ := C6.ex
  obtain ⟨f7, fd7, g__law_before, k__law_before, b__law_before, G__law_before⟩ := C7.ex
  obtain ⟨f8, fd8, g__law_choose, k__law_choose, b__law_choose, G__law_choose⟩ := C8.ex
  obtain ⟨f9, fd9, g__law_index_refused, k__law_index_refused, b__law_index_refused, G__law_index_refused⟩ := C9.ex
  refine F.ok sc_law (fun vs H Q E h => ?_) (fun cdv A outer s H vs Q E hr h => ?_)
  · obtain ⟨_, _, rfl, _⟩ := h
    rfl
  · obtain ⟨a, ns, rfl, hA, hlen, hT, q⟩ := h
    have hu64 : (cxOf CX0 P w K mg base ["script", "draws", "size", "members", "due", "k", "told", "great", "subset", "index", "last", "many", "number"] "law" (defScope s_law) f cdv A outer s H E).nox.A.units + 64 < cLine := by
      have := hr.un
      show (A.deeper _).units + 64 < cLine
      omega
    refine ⟨_, (pss_cons (ps_set (i := 1) sc_law.nd rfl (.inr rfl) (pe_call G__law_draws (hr.mono (by decide)) (by rfl) g__law_draws k__law_draws b__law_draws .nil pass0 (pa_cons (pv 0) (pa_cons pe_int pa_nil))))
  (pss_cons (ps_par (i := 2) (j := 3) (by rfl) sc_law.nd rfl rfl (by decide) rfl rfl (pa_cons (pe_op op_mod (pe_ix ix_list (pv 1) pe_int (fun _ _ => rfl)) pe_int) (pa_cons (pe_op op_mod (pe_ix ix_list (pv 1) pe_int (fun _ _ => rfl)) pe_int) pa_nil)) (by rfl))
  (pss_cons (ps_set (i := 4) sc_law.nd rfl (.inl rfl) (pe_call G__law_all (hr.mono (by decide)) (by rfl) g__law_all k__law_all b__law_all .nil pass0 (pa_cons (pv 2) (pa_cons (pv 3) pa_nil))))
  (pss_cons (ps_for PassesOwn.never rfl (pi_range1 (by rfl) T.n_range (pa_cons (pe_callB call_len_seq (by rfl) T.n_len (by decide +kernel) (pa_cons (pv 4) pa_nil)) pa_nil)) (pg_name (i := 5) sc_law.nd rfl (.inl rfl)) (
    (pss_cons (ps_set (i := 6) sc_law.nd rfl (.inl rfl) (pe_call G_subset_index (hr.mono (by decide)) (by rfl) g_subset_index k_subset_index b_subset_index .nil passL (pa_cons (pv 2) (pa_cons (pe_ix ix_list (pv 4) (pv 5) (fun _ _ => rfl)) pa_nil))))
    (pss_one (ps_if (PW.pt (pw_or (pt_cmpR (op_neD hu64) (pe_call G_subset_at (hr.mono (by decide)) (by rfl) g_subset_at k_subset_at b_subset_at .nil passL (pa_cons (pv 2) (pa_cons (pv 3) (pa_cons (pv 5) pa_nil)))) (pe_ix ix_list (pv 4) (pv 5) (fun _ _ => rfl)) (nomark _)) (pw_or (pt_not (pt_val (pe_call G__law_is_number (hr.mono (by decide)) (by rfl) g__law_is_number k__law_is_number b__law_is_number .nil pass0 (pa_cons (pv 6) pa_nil)))) (pw_or1 (pt_cmpR op_ne (pv 6) (pv 5) (nomark _)))))) (
      (pss_one (ps_ret pe_bl))) (pss_nil))))))
  (pss_cons (ps_if (PW.pt (pw_or (pt_not (pt_val (pe_call G__law_at_refused (hr.mono (by decide)) (by rfl) g__law_at_refused k__law_at_refused b__law_at_refused .nil pass0 (pa_cons (pv 2) (pa_cons (pv 3) (pa_cons (pe_callB call_len_seq (by rfl) T.n_len (by decide +kernel) (pa_cons (pv 4) pa_nil)) pa_nil)))))) (pw_or1 (pt_not (pt_val (pe_call G__law_at_refused (hr.mono (by decide)) (by rfl) g__law_at_refused k__law_at_refused b__law_at_refused .nil pass0 (pa_cons (pv 2) (pa_cons (pv 3) (pa_cons (pe_op op_sub (pe_un un_neg pe_int) (pe_ix ix_list (pv 1) pe_int (fun _ _ => rfl))) pa_nil))))))))) (
    (pss_one (ps_ret pe_bl))) (pss_nil))
  (pss_cons (ps_set (i := 7) sc_law.nd rfl (.inl rfl) (pe_op op_mod (pe_ix ix_list (pv 1) pe_int (fun _ _ => rfl)) pe_int))
  (pss_cons (ps_set (i := 8) sc_law.nd rfl (.inl rfl) (pe_callTy call_tuple_of (by rfl) T.n_tuple (by decide +kernel) (pa_cons (pe_lc (own := [("number", 12)]) rfl sc_law.nd (pi_range2 (by rfl) T.n_range (pa_cons pe_int (pa_cons (pe_op op_add (pv 7) pe_int) pa_nil))) (blkOk_by (own := [("number", 12)]) (N := ["script", "draws", "size", "members", "due", "k", "told", "great", "subset", "index", "last", "many", "number"]) (sc := defScope s_law) (by decide +kernel)) (fun _ _ _ _ _ => (pg_name (i := 12) sc_law.nd rfl (.inl rfl))) (fun _ _ _ _ _ => pts_one (pt_cmpR op_eq (pe_op op_mod (pe_op op_fdiv (pe_ix (ix_listB (K := K) rfl) (pv 1) (pe_op op_mod (pv 12) pe_int) (fun _ _ => rfl)) pe_int) pe_int) (pe_op op_mod (pe_ix (ix_listB (K := K) rfl) (pv 1) pe_int (fun _ _ => rfl)) pe_int) (nomark _))) (fun _ _ _ _ _ => (pv 12))) pa_nil)))
  (pss_cons (ps_set (i := 9) sc_law.nd rfl (.inl rfl) (pe_call G_subset_index (hr.mono (by decide)) (by rfl) g_subset_index k_subset_index b_subset_index .nil passL (pa_cons (pv 7) (pa_cons (pv 8) pa_nil))))
  (pss_cons (ps_if (PW.pt (pw_or (pt_cmpR op_ne (pv 9) (pe_call G__law_before (hr.mono (by decide)) (by rfl) g__law_before k__law_before b__law_before .nil pass0 (pa_cons (pv 7) (pa_cons (pv 8) pa_nil))) (nomark _)) (pw_or1 (pt_cmpR (op_neD hu64) (pe_call G_subset_at (hr.mono (by decide)) (by rfl) g_subset_at k_subset_at b_subset_at .nil passL (pa_cons (pv 7) (pa_cons (pe_callB call_len_seq (by rfl) T.n_len (by decide +kernel) (pa_cons (pv 8) pa_nil)) (pa_cons (pv 9) pa_nil)))) (pv 8) (nomark _))))) (
    (pss_one (ps_ret pe_bl))) (pss_nil))
  (pss_cons (ps_set (i := 10) sc_law.nd rfl (.inl rfl) (pe_tupRg rfl (by rfl) T.n_tuple (prg_2 (by rfl) T.n_range (pe_op op_add (pe_op op_sub (pv 7) (pe_callB call_len_seq (by rfl) T.n_len (by decide +kernel) (pa_cons (pv 8) pa_nil))) pe_int) (pe_op op_add (pv 7) pe_int))))
  (pss_cons (ps_set (i := 11) sc_law.nd rfl (.inl rfl) (pe_ix ix_list (pe_ix ix_list (pe_call G__law_choose (hr.mono (by decide)) (by rfl) g__law_choose k__law_choose b__law_choose .nil pass0 (pa_cons (pv 7) pa_nil)) (pv 7) (fun _ _ => rfl)) (pe_callB call_len_seq (by rfl) T.n_len (by decide +kernel) (pa_cons (pv 8) pa_nil)) (fun _ _ => rfl)))
  (pss_cons (ps_if (PW.pt (pw_or (pt_cmpR (op_neD hu64) (pe_call G_subset_at (hr.mono (by decide)) (by rfl) g_subset_at k_subset_at b_subset_at .nil passL (pa_cons (pv 7) (pa_cons (pe_callB call_len_seq (by rfl) T.n_len (by decide +kernel) (pa_cons (pv 8) pa_nil)) (pa_cons (pe_op op_sub (pv 11) pe_int) pa_nil)))) (pv 10) (nomark _)) (pw_or1 (pt_not (pt_val (pe_call G__law_at_refused (hr.mono (by decide)) (by rfl) g__law_at_refused k__law_at_refused b__law_at_refused .nil pass0 (pa_cons (pv 7) (pa_cons (pe_callB call_len_seq (by rfl) T.n_len (by decide +kernel) (pa_cons (pv 8) pa_nil)) (pa_cons (pv 11) pa_nil))))))))) (
    (pss_one (ps_ret pe_bl))) (pss_nil))
  (pss_cons (ps_if (pt_cmpR op_gt (pe_callB call_len_seq (by rfl) T.n_len (by decide +kernel) (pa_cons (pv 8) pa_nil)) pe_int (nomark _)) (
    (pss_cons (ps_if (PW.pt (pw_or (pt_not (pt_val (pe_call G__law_index_refused (hr.mono (by decide)) (by rfl) g__law_index_refused k__law_index_refused b__law_index_refused .nil pass0 (pa_cons (pe_op op_sub (pe_ix ix_tup (pv 8) (pe_un un_neg pe_int) (fun _ _ => rfl)) pe_int) (pa_cons (pv 8) pa_nil))))) (pw_or1 (pt_not (pt_val (pe_call G__law_index_refused (hr.mono (by decide)) (by rfl) g__law_index_refused k__law_index_refused b__law_index_refused .nil pass0 (pa_cons (pv 7) (pa_cons (pe_op op_catA (pv 8) (pe_slice sl_tupA (pv 8) (po_some (pe_un un_neg pe_int)) po_none)) pa_nil)))))))) (
      (pss_one (ps_ret pe_bl))) (pss_nil))
    (pss_one (ps_if (PW.pt (pw_or (pt_not (pt_val (pe_call G__law_index_refused (hr.mono (by decide)) (by rfl) g__law_index_refused k__law_index_refused b__law_index_refused .nil pass0 (pa_cons (pv 7) (pa_cons (pe_op op_catA (pe_tup (pa_cons pe_int pa_nil)) (pv 8)) pa_nil))))) (pw_or1 (pt_not (pt_val (pe_call G__law_index_refused (hr.mono (by decide)) (by rfl) g__law_index_refused k__law_index_refused b__law_index_refused .nil pass0 (pa_cons (pv 7) (pa_cons (pe_callTy call_list_of (by rfl) T.n_list (by decide +kernel) (pa_cons (pv 8) pa_nil)) pa_nil)))))))) (
      (pss_one (ps_ret pe_bl))) (pss_nil))))) (pss_nil))
  (pss_cons (ps_if (PW.pt (pw_and (pt_cmpR op_gt (pe_callB call_len_seq (by rfl) T.n_len (by decide +kernel) (pa_cons (pv 8) pa_nil)) pe_int (nomark _)) (pw_and1 (pt_not (pt_val (pe_call G__law_index_refused (hr.mono (by decide)) (by rfl) g__law_index_refused k__law_index_refused b__law_index_refused .nil pass0 (pa_cons (pv 7) (pa_cons (pe_op op_catA (pe_slice sl_tupA (pv 8) (po_some pe_int) po_none) (pe_slice sl_tupA (pv 8) po_none (po_some pe_int))) pa_nil)))))))) (
    (pss_one (ps_ret pe_bl))) (pss_nil))
  (pss_cons (ps_if (PW.pt (pw_or (pt_not (pt_val (pe_call G__law_at_refused (hr.mono (by decide)) (by rfl) g__law_at_refused k__law_at_refused b__law_at_refused .nil pass0 (pa_cons (pe_un un_neg pe_int) (pa_cons pe_int (pa_cons pe_int pa_nil)))))) (pw_or (pt_not (pt_val (pe_call G__law_at_refused (hr.mono (by decide)) (by rfl) g__law_at_refused k__law_at_refused b__law_at_refused .nil pass0 (pa_cons (pv 2) (pa_cons (pe_un un_neg pe_int) (pa_cons pe_int pa_nil)))))) (pw_or1 (pt_not (pt_val (pe_call G__law_at_refused (hr.mono (by decide)) (by rfl) g__law_at_refused k__law_at_refused b__law_at_refused .nil pass0 (pa_cons (pv 2) (pa_cons pe_int (pa_cons pe_bl pa_nil)))))))))) (
    (pss_one (ps_ret pe_bl))) (pss_nil))
  (pss_one (ps_ret (pe_and (pe_call G__law_index_refused (hr.mono (by decide)) (by rfl) g__law_index_refused k__law_index_refused b__law_index_refused .nil pass0 (pa_cons (pv 7) (pa_cons (pe_tup (pa_cons pe_str pa_nil)) pa_nil))) (pe_and (pe_call G__law_index_refused (hr.mono (by decide)) (by rfl) g__law_index_refused k__law_index_refused b__law_index_refused .nil pass0 (pa_cons pe_non (pa_cons (pe_tup pa_nil) pa_nil))) (pe_one (pe_cmpR (op_eqD hu64) (pe_call G_subset_at (hr.mono (by decide)) (by rfl) g_subset_at k_subset_at b_subset_at .nil passL (pa_cons (pv 7) (pa_cons pe_int (pa_cons pe_int pa_nil)))) (pe_tup pa_nil) (nomark _)))))))))))))))))))))), ?_⟩
    refine ⟨_, rfl, a, ns, 60, rfl, hA, hlen, by decide, fun dp H1 ds s1 ndp hdp hDr hdl => ?_⟩
    refine gname_intro ?_
    refine next_intro ?_
    dsimp only
    have hT1 : Tabs (TT1 W) H1 := tabs_of hT s1
    have nn : ∀ i, 0 ≤ ds.getD i 0 ∧ ds.getD i 0 < 65537 := fun i => by
      rw [List.getD_eq_getElem?_getD]
      cases e : ds[i]? with
      | none => exact ⟨Int.le_refl 0, by decide⟩
      | some x => exact hDr x (List.mem_of_getElem? e)
    have dat : ∀ {i : Nat}, i < 60 → (ds.map V.int)[i]? = some (.int (ds.getD i 0)) := fun {i} hi => getD_at (by omega)
    have mr : ∀ (i : Nat) (b : Int), 0 < b → 0 ≤ ds.getD i 0 % b ∧ ds.getD i 0 % b < b := fun i b hb => ⟨Int.emod_nonneg _ (by omega), Int.emod_lt_of_pos _ hb⟩
    have d1at : ∀ {H' : Hp} , H' dp = some (.lst (ds.map V.int)) → SqL K H' dp (ds.map V.int) := fun h => sq_of h
    -- size, members
    refine ⟨_, rfl, dp, _, _, _, rfl, rfl, sq_of hdp, atI_nat (j := 0) (dat (by decide)), _, _, rfl, rfl, (by show (0 : Int) < 9; decide), _, rfl, dp, _, _, _, rfl, rfl, sq_of hdp, atI_nat (j := 1) (dat (by decide)), _, _, rfl, rfl, (by show (0 : Int) < 10; decide), _, _, rfl, ?_⟩
    refine next_intro ?_
    dsimp only
    obtain ⟨n, hn, hn9⟩ : ∃ n : Nat, ds.getD 0 0 % 9 = (n : Int) ∧ n < 9 := ⟨(ds.getD 0 0 % 9).toNat, by have := mr 0 9 (by decide); omega, by have := mr 0 9 (by decide); omega⟩
    obtain ⟨m, hm, hm10⟩ : ∃ n : Nat, ds.getD 1 0 % 10 = (n : Int) ∧ n < 10 := ⟨(ds.getD 1 0 % 10).toNat, by have := mr 1 10 (by decide); omega, by have := mr 1 10 (by decide); omega⟩
    rw [hn, hm]
    -- due
    refine ⟨_, rfl, _, rfl, n, m, rfl, hn9, hm10, fun up H2 fs s2 nup hup hL => ?_⟩
    refine gname_intro ?_
    refine next_intro ?_
    dsimp only
    have hdl := due_len hn9 hm10
    have hfl : fs.length = (subs n 1 m).length := hL.len
    have hT2 := tabs_of hT1 s2
    have hd2 := s2 _ _ hdp
    refine ⟨_, rfl, up, _, rfl, .inl (sq_of hup), fs.length, rfl, by omega, by omega, ?_⟩
    rw [Int.toNat_natCast]
    refine for_range (lo := 0) (n := fs.length) (fun k σ H' => ∃ (y5 y6 : Option V), σ = [some (.ref a), some (.ref dp), some (.int n), some (.int m), some (.ref up), y5, y6, none, none, none, none, none, none] ∧ ExtN H2 H' ∧ Tabs (TT1 W) H') ⟨none, none, rfl, .refl H2, hT2⟩ ?_ ?_
    · rintro k σ H3 hk ⟨y5, y6, rfl, e3, hT3⟩
      have hup3 := eN e3 hup
      have hkx := List.getElem?_eq_getElem hk
      obtain ⟨r, hr, oa, hoa, ho⟩ := (hL.ext e3).of hkx
      rw [hoa] at hkx
      obtain ⟨hrl, hrA, hrI, _⟩ := due_at hn9 hm10 hr
      refine ⟨_, rfl, _, rfl, _, rfl, up, _, _, .ref oa, rfl, rfl, sq_of hup3, atI_of (j := k) (by omega) hkx, ?_⟩
      refine ⟨_, _, rfl, .inr ⟨n, oa, rfl, rfl, by omega, .inr (.inr ⟨r, ho, by omega, fun _ H4 s4 => ?_, fun z => (by rw [ascB_of hrA] at z; cases z)⟩)⟩⟩
      refine gname_intro ?_
      refine next_intro ?_
      dsimp only
      have hT4 := tabs_of hT3 s4
      refine ⟨_, rfl, _, rfl, _, rfl, _, _, _, rfl, .inl ⟨_, rfl⟩, .inl ⟨_, rfl⟩, .inl ⟨_, rfl⟩, .inr ⟨n, m, 0 + (k : Int), rfl, rfl, rfl, by omega, by omega, .inr ⟨r, by omega, hrA, hrl, hT4, fun p H5 e5 hT5 hp => ?_⟩⟩⟩
      have e5' : ExtN H3 H5 := (ext_of s4).trans e5
      refine ⟨_, rfl, _, rfl, up, _, _, .ref oa, rfl, rfl, sq_of (eN e5' hup3), atI_of (j := k) (by omega) hkx, dN r, dN r, dp_ns hp, dp_ns (eN e5' ho), shaped_ns r, shaped_ns r, _, rfl, ?_⟩
      rw [eqv_ns]
      refine iteF ?_
      refine ⟨_, rfl, _, rfl, _, rfl, iteF ?_⟩
      refine ⟨_, rfl, _, rfl, rfl, _, rfl, ?_⟩
      rw [decide_eq_true (show V.int (idx n 0 r) = V.int (0 + (k : Int)) by rw [hrI, Int.zero_add])]
      exact iteF ⟨_, _, rfl, e3.trans e5', hT5⟩
    rintro σ H3 ⟨y5, y6, rfl, e3, hT3⟩
    have hup3 := eN e3 hup
    have hd3 := eN e3 hd2
    clear hd2 hup hT2 hT1 hdp
    refine ⟨_, rfl, _, rfl, _, rfl, up, _, rfl, .inl (sq_of hup3), _, _, _, rfl, .inl ⟨_, rfl⟩, .inl ⟨_, rfl⟩, .inl ⟨_, rfl⟩, .inr ⟨n, m, fs.length, rfl, rfl, rfl, by omega, by omega, by omega⟩, fun H4 s4 => ⟨_, rfl, iteF ?_⟩⟩
    have hd4 := s4 _ _ hd3
    have n2 := nn 2
    refine ⟨_, rfl, _, rfl, _, rfl, _, rfl, dp, _, _, _, rfl, rfl, sq_of hd4, atI_nat (j := 2) (dat (by decide)), _, _, rfl, rfl, _, _, _, rfl, .inl ⟨_, rfl⟩, .inl ⟨_, rfl⟩, .inl ⟨_, rfl⟩, .inl ?_, fun H5 s5 => ⟨_, rfl, iteF ?_⟩⟩
    · show (decide ((n : Int) < 0) || (decide ((m : Int) < 0) || (decide (-1 - ds.getD 2 0 < 0) || false))) = true
      rw [decide_eq_true (show -1 - ds.getD 2 0 < 0 by omega)]
      simp
    refine next_intro ?_
    dsimp only
    have hd5 := s5 _ _ hd4
    have hT5 := tabs_of hT3 (s4.trans s5)
    clear hd4 hd3 hT3
    -- great
    refine ⟨_, rfl, dp, _, _, _, rfl, rfl, sq_of hd5, atI_nat (j := 3) (dat (by decide)), _, _, rfl, rfl, (by show (0 : Int) < 61; decide), ?_⟩
    refine gname_intro ?_
    refine next_intro ?_
    dsimp only
    obtain ⟨gr, hg, hg61⟩ : ∃ n : Nat, ds.getD 3 0 % 61 = (n : Int) ∧ n < 61 := ⟨(ds.getD 3 0 % 61).toNat, by have := mr 3 61 (by decide); omega, by have := mr 3 61 (by decide); omega⟩
    rw [hg]
    -- subset
    refine ⟨_, rfl, _, _, rfl, rfl, _, _, rfl, ⟨by omega, by omega, by omega, by omega⟩, fun Dn hD => ?_⟩
    rw [show ((gr : Int) + 1 - 1).toNat = gr by omega]
    refine lc_rangeF (lo := 1) (j := 12) (fun i => decide (V.int (ds.getD ((1 + i) % 60) 0 / 7 % 3) = V.int (ds.getD 4 0 % 3))) (fun i => V.int (1 + (i : Int))) (by omega) hD (fun i hi H6 s6 R k => ?_) (fun i hi _ H6 s6 R k => ⟨_, rfl, k H6 (.refl H6)⟩) (fun H6 s6 h6 => ?_)
    · have hd6 := s6 _ _ hd5
      exact ⟨_, rfl, _, rfl, _, _, rfl, rfl, (by show (0 : Int) < 60; decide), dp, _, _, _, rfl, rfl, sq_of hd6, atI_of (j := (1 + i) % 60) (by omega) (dat (by omega)), _, _, rfl, rfl, ⟨by decide, by decide⟩, _, _, rfl, rfl, (by show (0 : Int) < 3; decide),
        _, rfl, dp, _, _, _, rfl, rfl, sq_of hd6, atI_nat (j := 4) (dat (by decide)), _, _, rfl, rfl, (by show (0 : Int) < 3; decide), rfl, _, rfl, k H6 (.refl H6)⟩
    obtain ⟨sub, hsub, hsA⟩ : ∃ sub : List Nat, (((List.range gr).filter fun i => decide (V.int (ds.getD ((1 + i) % 60) 0 / 7 % 3) = V.int (ds.getD 4 0 % 3))).map fun i : Nat => V.int (1 + (i : Int))) = nsV sub ∧ Asc gr 0 sub := by
      refine ⟨((List.range gr).map fun i => 0 + 1 + i).filter (fun x => decide (V.int (ds.getD ((1 + (x - 1)) % 60) 0 / 7 % 3) = V.int (ds.getD 4 0 % 3))), ?_, asc_filter gr _ gr 0 (by omega)⟩
      rw [List.filter_map]
      unfold nsV
      rw [List.map_map]
      have e1 : (List.range gr).filter ((fun x => decide (V.int (ds.getD ((1 + (x - 1)) % 60) 0 / 7 % 3) = V.int (ds.getD 4 0 % 3))) ∘ fun i => 0 + 1 + i) = (List.range gr).filter fun i => decide (V.int (ds.getD ((1 + i) % 60) 0 / 7 % 3) = V.int (ds.getD 4 0 % 3)) := by
        refine List.filter_congr fun i _ => ?_
        show decide (V.int (ds.getD ((1 + (0 + 1 + i - 1)) % 60) 0 / 7 % 3) = V.int (ds.getD 4 0 % 3)) = _
        rw [show 0 + 1 + i - 1 = i by omega]
      rw [e1]
      refine List.map_congr_left fun i _ => ?_
      show V.int (1 + (i : Int)) = V.int ((0 + 1 + i : Nat) : Int)
      rw [show ((0 + 1 + i : Nat) : Int) = 1 + (i : Int) by omega]
    rw [hsub] at h6
    have hsl : sub.length ≤ gr := by have := asc_len (Nat.zero_le gr) hsA; omega
    refine ⟨Dn, _, rfl, .inl ⟨sq_of h6, fun sp nsp => ?_⟩⟩
    have s7 : Same H5 (upd H6 sp (.tup (nsV sub))) := s6.trans (same_upd nsp)
    have hsp : (upd H6 sp (.tup (nsV sub))) sp = some (.tup (nsV sub)) := upd_same
    generalize upd H6 sp (.tup (nsV sub)) = H7 at s7 hsp ⊢
    have hT7 := tabs_of hT5 s7
    clear hd5 hT5 h6 s6 nsp hD
    refine gname_intro ?_
    refine next_intro ?_
    dsimp only
    -- index
    refine ⟨_, rfl, _, rfl, _, _, rfl, .inr ⟨gr, sp, rfl, rfl, by omega, .inr (.inr ⟨sub, hsp, by omega, fun _ H8 s8 => ?_, fun z => (by rw [ascB_of hsA] at z; cases z)⟩)⟩⟩
    refine gname_intro ?_
    refine next_intro ?_
    dsimp only
    have hsp8 := s8 _ _ hsp
    have hT8 := tabs_of hT7 s8
    have hix := idx_lt hsA
    rw [Nat.sub_zero] at hix
    refine ⟨_, rfl, _, rfl, _, rfl, gr, sp, sub, rfl, by omega, hsp8, hsA, fun H9 s9 => ⟨rfl, _, rfl, ?_⟩⟩
    rw [decide_eq_true (show V.int (idx gr 0 sub) = V.int (idx gr 0 sub) from rfl)]
    refine iteF ?_
    have hsp9 := s9 _ _ hsp8
    have hT9 := tabs_of hT8 s9
    refine ⟨_, rfl, _, rfl, sp, _, rfl, .inr (st_of hsp9), _, rfl, _, _, _, rfl, .inl ⟨_, rfl⟩, .inl ⟨_, rfl⟩, .inl ⟨_, rfl⟩, .inr ⟨gr, (nsV sub).length, idx gr 0 sub, rfl, rfl, rfl, hix.1, by omega, .inr ⟨sub, rfl, hsA, (ns_len sub).symm, hT9, fun p H10 e10 hT10 hp => ?_⟩⟩⟩
    have hsp10 := eN e10 hsp9
    refine ⟨_, rfl, dN sub, dN sub, dp_ns hp, dp_ns hsp10, shaped_ns sub, shaped_ns sub, _, rfl, ?_⟩
    rw [eqv_ns]
    refine iteF ?_
    refine next_intro ?_
    dsimp only
    clear hsp hsp8 hsp9 hT7 hT8 hT9 hp
    -- last
    refine ⟨_, rfl, _, rfl, sp, _, rfl, .inr (st_of hsp10), _, _, rfl, rfl, _, _, rfl, rfl, _, rfl, _, _, rfl, rfl, _, _, rfl, rfl, RgOk.of_le ?_ ?_ ?_ ?_, fun lp nlp => ?_⟩
    · rw [ns_len]; omega
    · omega
    · rw [ns_len]; omega
    · omega
    have hrg : rgV ((gr : Int) - ((nsV sub).length : Int) + 1) ((gr : Int) + 1) = nsV (topL gr sub.length) := by
      rw [ns_len, topL_range gr sub.length hsl]
      unfold rgV nsV
      rw [List.map_map, show ((gr : Int) + 1 - ((gr : Int) - (sub.length : Int) + 1)).toNat = sub.length by omega]
      refine List.map_congr_left fun i _ => ?_
      show V.int ((gr : Int) - (sub.length : Int) + 1 + (i : Int)) = V.int ((gr - sub.length + 1 + i : Nat) : Int)
      rw [show ((gr - sub.length + 1 + i : Nat) : Int) = (gr : Int) - (sub.length : Int) + 1 + (i : Int) by omega]
    rw [hrg]
    have s11 : Same H10 (upd H10 lp (.tup (nsV (topL gr sub.length)))) := same_upd nlp
    have hlp : (upd H10 lp (.tup (nsV (topL gr sub.length)))) lp = some (.tup (nsV (topL gr sub.length))) := upd_same
    generalize upd H10 lp (.tup (nsV (topL gr sub.length))) = H11 at s11 hlp ⊢
    have hT11 := tabs_of hT10 s11
    have hsp11 := s11 _ _ hsp10
    refine gname_intro ?_
    refine next_intro ?_
    dsimp only
    -- many
    refine ⟨_, rfl, gr, rfl, by omega, fun qp H12 rs s12 nq hq hrl hR => ?_⟩
    obtain ⟨rr, hrr, hrv, hrF⟩ := hR.get (j := gr) (by omega)
    have hsp12 := s12 _ _ hsp11
    have hlp12 := s12 _ _ hlp
    have hT12 := tabs_of hT11 s12
    refine ⟨_, rfl, qp, _, _, _, rfl, rfl, sq_of hq, atI_nat (j := gr) hrv, _, rfl, sp, _, rfl, .inr (st_of hsp12), rr, _, _, _, rfl, rfl, sq_of hrF, atI_of (j := sub.length) (by rw [ns_len]) (Fb_at hsl), ?_⟩
    refine gname_intro ?_
    refine next_intro ?_
    dsimp only
    have hti := topL_idx gr sub.length 0 (by omega)
    rw [Nat.sub_zero] at hti
    refine ⟨_, rfl, _, rfl, sp, _, rfl, .inr (st_of hsp12), _, rfl, _, _, rfl, rfl, _, _, _, rfl, .inl ⟨_, rfl⟩, .inl ⟨_, rfl⟩, .inl ⟨_, rfl⟩, .inr ⟨gr, (nsV sub).length, SMath.bin gr sub.length - 1, rfl, rfl, rfl, by omega, by omega, .inr ⟨topL gr sub.length, hti.symm, topL_asc gr sub.length 0 (by omega), by rw [topL_len, ns_len], hT12, fun p H13 e13 hT13 hp => ?_⟩⟩⟩
    have hsp13 := eN e13 hsp12
    have hlp13 := eN e13 hlp12
    refine ⟨_, rfl, dN (topL gr sub.length), dN (topL gr sub.length), dp_ns hp, dp_ns hlp13, shaped_ns _, shaped_ns _, _, rfl, ?_⟩
    rw [eqv_ns]
    refine iteF ?_
    refine ⟨_, rfl, _, rfl, sp, _, rfl, .inr (st_of hsp13), _, rfl, _, _, _, rfl, .inl ⟨_, rfl⟩, .inl ⟨_, rfl⟩, .inl ⟨_, rfl⟩, .inr ⟨gr, (nsV sub).length, SMath.bin gr sub.length, rfl, rfl, rfl, by omega, by omega, by rw [ns_len]; exact Int.le_refl _⟩, fun H14 s14 => ⟨_, rfl, iteF ?_⟩⟩
    have hsp14 := s14 _ _ hsp13
    have hT14 := tabs_of hT13 s14
    refine next_intro ?_
    dsimp only
    clear hsp10 hsp11 hsp12 hsp13 hlp hlp12 hlp13 hT10 hT11 hT12 hT13 hp hrF hrv hR hq
    -- the refused ones
    refine seq_intro (fun σ' H' => σ' = [some (.ref a), some (.ref dp), some (.int n), some (.int m), some (.ref up), y5, y6, some (.int gr), some (.ref sp), some (.int (idx gr 0 sub)), some (.ref lp), some (.int (SMath.bin gr sub.length)), none] ∧ H' sp = some (.tup (nsV sub)) ∧ Tabs (TT1 W) H') (fun hr => ?_) ?_
    · refine ⟨_, rfl, sp, _, rfl, .inr (st_of hsp14), _, _, rfl, rfl, _, rfl, ite2 (fun c => ?_) (fun c => ?_)⟩
      rotate_left
      · exact hr _ _ ⟨rfl, hsp14, hT14⟩
      have c' : 0 < sub.length := by
        have := of_decide_eq_true c
        rw [ns_len] at this
        omega
      obtain ⟨init, x, hix2⟩ := last_of c'
      have hx := asc_last (hix2 ▸ hsA)
      have hsl2 : sub.length = init.length + 1 := by rw [hix2, List.length_append]; rfl
      have hat : atI (nsV sub) (-1) = some (.int (x : Nat)) := by
        rw [hix2]
        unfold nsV
        rw [List.map_append]
        exact atI_last _ _
      refine ⟨_, rfl, _, rfl, sp, _, _, _, rfl, rfl, st_of hsp14, hat, _, _, rfl, rfl, _, rfl, _, _, rfl, .inr ⟨x - 1, sp, by rw [show ((x - 1 : Nat) : Int) = (x : Int) - 1 by omega], rfl, by omega, .inr (.inr ⟨sub, hsp14, by omega, by rw [hix2]; exact ascB_last (by omega)⟩)⟩, fun HA sA => ⟨_, rfl, iteF ?_⟩⟩
      have hspA := sA _ _ hsp14
      refine ⟨_, rfl, _, rfl, _, rfl, _, rfl, _, rfl, slA_from hspA (by rw [hix2]; exact cut_last init x) fun p1 HB sB hp1 => catA_is (sB _ _ hspA) hp1 (by rw [List.length_singleton]; omega) fun p2 HC sC hp2 => ?_⟩
      refine ⟨_, _, rfl, .inr ⟨gr, p2, rfl, rfl, by omega, .inr (.inr ⟨sub ++ [x], hp2, by rw [List.length_append, List.length_singleton]; omega, by rw [hix2]; exact ascB_snoc (Nat.le_refl x)⟩)⟩, fun HD sD => ⟨_, rfl, iteF ?_⟩⟩
      have hspD := sD _ _ (sC _ _ (sB _ _ hspA))
      have hTD := tabs_of hT14 (((sA.trans sB).trans sC).trans sD)
      refine next_intro ?_
      dsimp only
      refine ⟨_, rfl, sz _ (by show 1 ≤ 100000; decide), fun tp ntp => ⟨_, rfl, catA_is (xs := [0]) (by rw [upd_same]; rfl) (same_upd ntp _ _ hspD) (by rw [List.length_singleton]; omega) fun p3 HE sE hp3 => ?_⟩⟩
      refine ⟨_, _, rfl, .inr ⟨gr, p3, rfl, rfl, by omega, .inr (.inr ⟨[0] ++ sub, hp3, by rw [List.length_append, List.length_singleton]; omega, rfl⟩)⟩, fun HF sF => ⟨_, rfl, iteF ?_⟩⟩
      have sDF := ((same_upd ntp (o := .tup [.int 0])).trans sE).trans sF
      have hspF := sDF _ _ hspD
      refine ⟨_, rfl, _, rfl, sp, _, rfl, .inr (st_of hspF), fun l nl => ?_⟩
      refine ⟨_, _, rfl, .inr ⟨gr, l, rfl, rfl, by omega, .inl ⟨_, upd_same⟩⟩, fun HG sG => ⟨_, rfl, iteF ?_⟩⟩
      exact hr _ _ ⟨rfl, sG _ _ (same_upd nl _ _ hspF), tabs_of hTD (sDF.trans ((same_upd nl).trans sG))⟩
    rintro σ H15 ⟨rfl, hsp15, hT15⟩
    clear hsp14 hT14
    refine seq_intro (fun σ' H' => σ' = [some (.ref a), some (.ref dp), some (.int n), some (.int m), some (.ref up), y5, y6, some (.int gr), some (.ref sp), some (.int (idx gr 0 sub)), some (.ref lp), some (.int (SMath.bin gr sub.length)), none] ∧ Tabs (TT1 W) H') (fun hr => ?_) ?_
    · refine ⟨_, rfl, sp, _, rfl, .inr (st_of hsp15), _, _, rfl, rfl, _, rfl, ite2 (fun c => ?_) (fun c => ?_)⟩
      rotate_left
      · exact hr _ _ ⟨rfl, hT15⟩
      have c' : 1 < sub.length := by
        have := of_decide_eq_true c
        rw [ns_len] at this
        omega
      obtain ⟨y, rest, hyr⟩ : ∃ y rest, sub = y :: rest := by
        cases hs : sub with
        | nil => rw [hs] at c'; cases c'
        | cons y rest => exact ⟨y, rest, rfl⟩
      have hrl : 0 < rest.length := by rw [hyr, List.length_cons] at c'; omega
      have hsl2 : sub.length = rest.length + 1 := by rw [hyr, List.length_cons]
      obtain ⟨init, x, hrx⟩ := last_of hrl
      have hxy : y ≤ x := by
        have h2 := hyr ▸ hsA
        rw [hrx] at h2
        have := asc_last h2.2.2
        omega
      have hc1 : cutV (nsV sub) (some 1) none = nsV rest := by
        have := cutV_from (nsV sub) 1
        rw [show ((1 : Nat) : Int) = 1 from rfl] at this
        rw [this, ns_drop, hyr]; rfl
      have hc2 : cutV (nsV sub) none (some 1) = nsV [y] := by
        have := cutV_to (nsV sub) 1
        rw [show ((1 : Nat) : Int) = 1 from rfl] at this
        rw [this, ns_take, hyr]; rfl
      refine ⟨_, rfl, _, rfl, _, rfl, slA_from hsp15 hc1 fun p1 HA sA hp1 => ⟨_, rfl, _, rfl, slA_is (sA _ _ hsp15) hc2 fun p2 HB sB hp2 => catA_is (sB _ _ hp1) hp2 (by rw [List.length_singleton]; omega) fun p3 HC sC hp3 => ?_⟩⟩
      refine ⟨_, _, rfl, .inr ⟨gr, p3, rfl, rfl, by omega, .inr (.inr ⟨rest ++ [y], hp3, by rw [List.length_append, List.length_singleton]; omega, by rw [hrx]; exact ascB_snoc hxy⟩)⟩, fun HD sD => ⟨_, rfl, iteF ?_⟩⟩
      exact hr _ _ ⟨rfl, tabs_of hT15 (((sA.trans sB).trans sC).trans sD)⟩
    rintro σ H16 ⟨rfl, hT16⟩
    clear hsp15 hT15
    refine ⟨_, rfl, _, _, _, rfl, .inl ⟨_, rfl⟩, .inl ⟨_, rfl⟩, .inl ⟨_, rfl⟩, .inl rfl, fun HA sA => ⟨_, rfl, iteF ?_⟩⟩
    refine ⟨_, rfl, _, rfl, _, _, _, rfl, .inl ⟨_, rfl⟩, .inl ⟨_, rfl⟩, .inl ⟨_, rfl⟩, .inl (by simp [bad1]), fun HB sB => ⟨_, rfl, iteF ?_⟩⟩
    refine ⟨_, rfl, _, _, _, rfl, .inl ⟨_, rfl⟩, .inl ⟨_, rfl⟩, .inr ⟨_, rfl⟩, .inl (by simp [bad1]), fun HC sC => ⟨_, rfl, iteF ?_⟩⟩
    have hTC := tabs_of hT16 ((sA.trans sB).trans sC)
    refine next_intro ?_
    dsimp only
    refine ⟨_, rfl, sz _ (by show 1 ≤ 100000; decide), fun tp ntp => ?_⟩
    refine ⟨_, _, rfl, .inr ⟨gr, tp, rfl, rfl, by omega, .inr (.inl ⟨_, upd_same⟩)⟩, fun HD sD => ⟨_, rfl, iteT ?_⟩⟩
    have hTD := tabs_of hTC ((same_upd ntp).trans sD)
    refine ⟨Nat.zero_le _, fun tq ntq => ?_⟩
    refine ⟨_, _, rfl, .inl rfl, fun HE sE => ⟨_, rfl, iteT ?_⟩⟩
    have hTE := tabs_of hTD ((same_upd ntq).trans sE)
    refine ⟨_, rfl, _, _, _, rfl, .inl ⟨_, rfl⟩, .inl ⟨_, rfl⟩, .inl ⟨_, rfl⟩, .inr ⟨gr, 0, 0, rfl, rfl, rfl, by omega, by omega, .inr ⟨[], rfl, trivial, rfl, hTE, fun p HF eF hTF hp => ?_⟩⟩⟩
    refine ⟨Nat.zero_le _, fun te nte => ?_⟩
    refine ⟨dN [], dN [], dp_ns (same_upd nte _ _ hp), dp_ns (by rw [upd_same]; rfl), shaped_ns [], shaped_ns [], ?_⟩
    rw [eqv_ns]
    exact q _
end
end SM

namespace SM
open PySem L2 SMath LamX NdefX
theorem all_mk {l : PySem.W.OpenLaw} {w : World} {K : PySem.W.Frag} {h : Heap} {mg : Str → Option Value} {fa : Addr}
    {cN pN cC cS : Addr}
    {f0 : Addr} {oc0 kV0 dc0 pm0 cd0 ct0 : Value} {od0 an0 : Option Addr} {sl0 : Array (Option Value)}
    {f1 : Addr} {oc1 kV1 dc1 pm1 cd1 ct1 : Value} {od1 an1 : Option Addr} {sl1 : Array (Option Value)}
    {f2 : Addr} {oc2 kV2 dc2 pm2 cd2 ct2 : Value} {od2 an2 : Option Addr} {sl2 : Array (Option Value)}
    {f3 : Addr} {oc3 kV3 dc3 pm3 cd3 ct3 : Value} {od3 an3 : Option Addr} {sl3 : Array (Option Value)}
    {f4 : Addr} {oc4 kV4 dc4 pm4 cd4 ct4 : Value} {od4 an4 : Option Addr} {sl4 : Array (Option Value)}
    {f5 : Addr} {oc5 kV5 dc5 pm5 ct5 : Value} {od5 an5 : Option Addr} {sl5 : Array (Option Value)}
    {f6 : Addr} {oc6 kV6 dc6 pm6 cd6 ct6 : Value} {od6 an6 : Option Addr} {sl6 : Array (Option Value)}
    {f7 : Addr} {oc7 kV7 dc7 pm7 cd7 ct7 : Value} {od7 an7 : Option Addr} {sl7 : Array (Option Value)}
    {f8 : Addr} {oc8 kV8 dc8 pm8 cd8 ct8 : Value} {od8 an8 : Option Addr} {sl8 : Array (Option Value)}
    {f9 : Addr} {oc9 kV9 dc9 pm9 cd9 ct9 : Value} {od9 an9 : Option Addr} {sl9 : Array (Option Value)}
    {f10 : Addr} {oc10 kV10 dc10 pm10 cd10 ct10 : Value} {od10 an10 : Option Addr} {sl10 : Array (Option Value)}
    {f11 : Addr} {oc11 kV11 dc11 pm11 cd11 ct11 : Value} {od11 an11 : Option Addr} {sl11 : Array (Option Value)}
    {f12 : Addr} {oc12 kV12 dc12 pm12 cd12 ct12 : Value} {od12 an12 : Option Addr} {sl12 : Array (Option Value)}
    {f13 : Addr} {oc13 kV13 dc13 pm13 cd13 ct13 : Value} {od13 an13 : Option Addr} {sl13 : Array (Option Value)}
    (X : K.In h) (G : h.Ns mainGlobals mg) (hfa : mg "law" = some (.ref fa)) (hTab : h.get? pN = some { cls := .none, data := .fields #[] })
    (a0 : PySem.W.nsIn K mainGlobals "is_whole" = some (some (.ref f0)))
    (l0 : K.lookup f0 = some ⟨oc0, od0, .func (PySem.W.fnOf "is_whole" "is_whole" (defArgs s_is_whole) (defBody s_is_whole) (defScope s_is_whole) .none kV0 dc0 pm0 an0 cd0 ct0), sl0⟩) (c0 : PySem.W.codeIn K cd0 "is_whole" = true) (k0 : PySem.W.keepIn K (.ref f0) = true)
    (a1 : PySem.W.nsIn K mainGlobals "greatest" = some (some (.ref f1)))
    (l1 : K.lookup f1 = some ⟨oc1, od1, .func (PySem.W.fnOf "greatest" "greatest" (defArgs s_greatest) (defBody s_greatest) (defScope s_greatest) .none kV1 dc1 pm1 an1 cd1 ct1), sl1⟩) (c1 : PySem.W.codeIn K cd1 "greatest" = true) (k1 : PySem.W.keepIn K (.ref f1) = true)
    (a2 : PySem.W.nsIn K mainGlobals "subset_at" = some (some (.ref f2)))
    (l2 : K.lookup f2 = some ⟨oc2, od2, .func (PySem.W.fnOf "subset_at" "subset_at" (defArgs s_subset_at) (defBody s_subset_at) (defScope s_subset_at) .none kV2 dc2 pm2 an2 cd2 ct2), sl2⟩) (c2 : PySem.W.codeIn K cd2 "subset_at" = true) (k2 : PySem.W.keepIn K (.ref f2) = true)
    (a3 : PySem.W.nsIn K mainGlobals "subset_index" = some (some (.ref f3)))
    (l3 : K.lookup f3 = some ⟨oc3, od3, .func (PySem.W.fnOf "subset_index" "subset_index" (defArgs s_subset_index) (defBody s_subset_index) (defScope s_subset_index) .none kV3 dc3 pm3 an3 cd3 ct3), sl3⟩) (c3 : PySem.W.codeIn K cd3 "subset_index" = true) (k3 : PySem.W.keepIn K (.ref f3) = true)
    (a4 : PySem.W.nsIn K mainGlobals "_before" = some (some (.ref f4)))
    (l4 : K.lookup f4 = some ⟨oc4, od4, .func (PySem.W.fnOf "_before" "_before" (defArgs s__before) (defBody s__before) (defScope s__before) .none kV4 dc4 pm4 an4 cd4 ct4), sl4⟩) (c4 : PySem.W.codeIn K cd4 "_before" = true) (k4 : PySem.W.keepIn K (.ref f4) = true)
    (a5 : PySem.W.nsIn K mainGlobals "_number_at" = some (some (.ref f5)))
    (l5 : K.lookup f5 = some ⟨oc5, od5, .func (PySem.W.fnOf "_number_at" "_number_at" (defArgs s__number_at) (defBody s__number_at) (defScope s__number_at) .none kV5 dc5 pm5 an5 (.ref cN) ct5), sl5⟩) (c5 : PySem.W.codeIn K (.ref cN) "_number_at" = true) (k5 : PySem.W.keepIn K (.ref f5) = true)
    (a6 : PySem.W.nsIn K mainGlobals "_law_draws" = some (some (.ref f6)))
    (l6 : K.lookup f6 = some ⟨oc6, od6, .func (PySem.W.fnOf "_law_draws" "_law_draws" (defArgs s__law_draws) (defBody s__law_draws) (defScope s__law_draws) .none kV6 dc6 pm6 an6 cd6 ct6), sl6⟩) (c6 : PySem.W.codeIn K cd6 "_law_draws" = true) (k6 : PySem.W.keepIn K (.ref f6) = true)
    (a7 : PySem.W.nsIn K mainGlobals "_law_is_number" = some (some (.ref f7)))
    (l7 : K.lookup f7 = some ⟨oc7, od7, .func (PySem.W.fnOf "_law_is_number" "_law_is_number" (defArgs s__law_is_number) (defBody s__law_is_number) (defScope s__law_is_number) .none kV7 dc7 pm7 an7 cd7 ct7), sl7⟩) (c7 : PySem.W.codeIn K cd7 "_law_is_number" = true) (k7 : PySem.W.keepIn K (.ref f7) = true)
    (a8 : PySem.W.nsIn K mainGlobals "_law_all" = some (some (.ref f8)))
    (l8 : K.lookup f8 = some ⟨oc8, od8, .func (PySem.W.fnOf "_law_all" "_law_all" (defArgs s__law_all) (defBody s__law_all) (defScope s__law_all) .none kV8 dc8 pm8 an8 cd8 ct8), sl8⟩) (c8 : PySem.W.codeIn K cd8 "_law_all" = true) (k8 : PySem.W.keepIn K (.ref f8) = true)
    (a9 : PySem.W.nsIn K mainGlobals "_law_choose" = some (some (.ref f9)))
    (l9 : K.lookup f9 = some ⟨oc9, od9, .func (PySem.W.fnOf "_law_choose" "_law_choose" (defArgs s__law_choose) (defBody s__law_choose) (defScope s__law_choose) .none kV9 dc9 pm9 an9 cd9 ct9), sl9⟩) (c9 : PySem.W.codeIn K cd9 "_law_choose" = true) (k9 : PySem.W.keepIn K (.ref f9) = true)
    (a10 : PySem.W.nsIn K mainGlobals "_law_before" = some (some (.ref f10)))
    (l10 : K.lookup f10 = some ⟨oc10, od10, .func (PySem.W.fnOf "_law_before" "_law_before" (defArgs s__law_before) (defBody s__law_before) (defScope s__law_before) .none kV10 dc10 pm10 an10 cd10 ct10), sl10⟩) (c10 : PySem.W.codeIn K cd10 "_law_before" = true) (k10 : PySem.W.keepIn K (.ref f10) = true)
    (a11 : PySem.W.nsIn K mainGlobals "_law_at_refused" = some (some (.ref f11)))
    (l11 : K.lookup f11 = some ⟨oc11, od11, .func (PySem.W.fnOf "_law_at_refused" "_law_at_refused" (defArgs s__law_at_refused) (defBody s__law_at_refused) (defScope s__law_at_refused) .none kV11 dc11 pm11 an11 cd11 ct11), sl11⟩) (c11 : PySem.W.codeIn K cd11 "_law_at_refused" = true) (k11 : PySem.W.keepIn K (.ref f11) = true)
    (a12 : PySem.W.nsIn K mainGlobals "_law_index_refused" = some (some (.ref f12)))
    (l12 : K.lookup f12 = some ⟨oc12, od12, .func (PySem.W.fnOf "_law_index_refused" "_law_index_refused" (defArgs s__law_index_refused) (defBody s__law_index_refused) (defScope s__law_index_refused) .none kV12 dc12 pm12 an12 cd12 ct12), sl12⟩) (c12 : PySem.W.codeIn K cd12 "_law_index_refused" = true) (k12 : PySem.W.keepIn K (.ref f12) = true)
    (a13 : PySem.W.nsIn K mainGlobals "law" = some (some (.ref f13)))
    (l13 : K.lookup f13 = some ⟨oc13, od13, .func (PySem.W.fnOf "law" "law" (defArgs s_law) (defBody s_law) (defScope s_law) .none kV13 dc13 pm13 an13 cd13 ct13), sl13⟩) (c13 : PySem.W.codeIn K cd13 "law" = true) (k13 : PySem.W.keepIn K (.ref f13) = true)
    (n_isinstance : PySem.W.nsIn K mainGlobals "isinstance" = some none)
    (n_int : PySem.W.nsIn K mainGlobals "int" = some none)
    (n_bool : PySem.W.nsIn K mainGlobals "bool" = some none)
    (n_list : PySem.W.nsIn K mainGlobals "list" = some none)
    (n_tuple : PySem.W.nsIn K mainGlobals "tuple" = some none)
    (n_len : PySem.W.nsIn K mainGlobals "len" = some none)
    (n_abs : PySem.W.nsIn K mainGlobals "abs" = some none)
    (n_any : PySem.W.nsIn K mainGlobals "any" = some none)
    (n_range : PySem.W.nsIn K mainGlobals "range" = some none)
    (n_sorted : PySem.W.nsIn K mainGlobals "sorted" = some none)
    (n_enumerate : PySem.W.nsIn K mainGlobals "enumerate" = some none)
    (m_comb : PySem.W.nsIn K mainGlobals "comb" = some (some (.builtin "math.comb")))
    (g_BadIndex : PySem.W.nsIn K mainGlobals "BadIndex" = some (some (.ref cC)))
    (g_SpeciesError : PySem.W.nsIn K mainGlobals "SpeciesError" = some (some (.ref cS)))
    (C_x : PySem.W.excIn K cC [.type "ValueError", .type "Exception", .type "BaseException", .type "object"] "ValueError.__new__" = true) (C_k : PySem.W.keepIn K (.ref cC) = true) (C_b : PySem.W.subIn K (.ref cC) (.type "BaseException") = some true) (C_t : PySem.W.typeIn K (.ref cC) = some (.type "type"))
    (C_ga : PySem.W.findIn K (.ref cC) "__getattribute__" = some (some (.builtin "BaseException.__getattribute__"))) (C_gt : PySem.W.findIn K (.ref cC) "__getattr__" = some none) (C_hd : PySem.W.hasDictIn K cC = true) (C_ca : PySem.W.findIn K (.ref cC) "__class__" = some (some (.builtin "object.__class__"))) (C_cm : PySem.W.mroIn K cC (.type "object") = some true)
    (C_s : PySem.W.subIn K (.ref cC) (.ref cS) = some true)
    (B_cn : PySem.W.specialIn K (.builtin "object.__class__") "__get__" = some (some (.builtin "getset_descriptor.__get__"))) (B_ct : PySem.W.takesIn K (.builtin "object.__class__") = some true)
    (S_b : PySem.W.subIn K (.ref cS) (.type "BaseException") = some true) (S_hd : PySem.W.hasDictIn K cS = true) (S_t : PySem.W.typeIn K (.ref cS) = some (.type "type"))
    (nT : K.lookup pN = none) (hCd : PySem.W.codeHdIn K cN pN = true) :
    LawAtS l w K CX0 8 63 "script" mg fa h := by
  have e := hfa.symm.trans (PySem.W.mg_of X G a13)
  cases e
  have F0 := fun_mk (st := s_is_whole) l0 c0 k0
  have D0 : Df K mg "is_whole" s_is_whole ["value"] := ⟨f0, _, PySem.W.mg_of X G a0, F0, F0.binds (ps := ["value"]) fun _ _ _ _ _ _ us hl => match us, hl with | [_], _ => rfl⟩
  have F1 := fun_mk (st := s_greatest) l1 c1 k1
  have D1 : Df K mg "greatest" s_greatest ["low", "high", "fits"] := ⟨f1, _, PySem.W.mg_of X G a1, F1, F1.binds (ps := ["low", "high", "fits"]) fun _ _ _ _ _ _ us hl => match us, hl with | [_, _, _], _ => rfl⟩
  have F2 := fun_mk (st := s_subset_at) l2 c2 k2
  have D2 : Df K mg "subset_at" s_subset_at ["size", "members", "index"] := ⟨f2, _, PySem.W.mg_of X G a2, F2, F2.binds (ps := ["size", "members", "index"]) fun _ _ _ _ _ _ us hl => match us, hl with | [_, _, _], _ => rfl⟩
  have F3 := fun_mk (st := s_subset_index) l3 c3 k3
  have D3 : Df K mg "subset_index" s_subset_index ["size", "subset"] := ⟨f3, _, PySem.W.mg_of X G a3, F3, F3.binds (ps := ["size", "subset"]) fun _ _ _ _ _ _ us hl => match us, hl with | [_, _], _ => rfl⟩
  have F4 := fun_mk (st := s__before) l4 c4 k4
  have D4 : Df K mg "_before" s__before ["size", "last", "members", "number"] := ⟨f4, _, PySem.W.mg_of X G a4, F4, F4.binds (ps := ["size", "last", "members", "number"]) fun _ _ _ _ _ _ us hl => match us, hl with | [_, _, _, _], _ => rfl⟩
  have D5 : DfN K mg cN := ⟨f5, oc5, kV5, dc5, pm5, ct5, od5, an5, sl5, PySem.W.mg_of X G a5, l5, c5, k5⟩
  have F6 := fun_mk (st := s__law_draws) l6 c6 k6
  have D6 : Df K mg "_law_draws" s__law_draws ["script", "many"] := ⟨f6, _, PySem.W.mg_of X G a6, F6, F6.binds (ps := ["script", "many"]) fun _ _ _ _ _ _ us hl => match us, hl with | [_, _], _ => rfl⟩
  have F7 := fun_mk (st := s__law_is_number) l7 c7 k7
  have D7 : Df K mg "_law_is_number" s__law_is_number ["value"] := ⟨f7, _, PySem.W.mg_of X G a7, F7, F7.binds (ps := ["value"]) fun _ _ _ _ _ _ us hl => match us, hl with | [_], _ => rfl⟩
  have F8 := fun_mk (st := s__law_all) l8 c8 k8
  have D8 : Df K mg "_law_all" s__law_all ["size", "members"] := ⟨f8, _, PySem.W.mg_of X G a8, F8, F8.binds (ps := ["size", "members"]) fun _ _ _ _ _ _ us hl => match us, hl with | [_, _], _ => rfl⟩
  have F9 := fun_mk (st := s__law_choose) l9 c9 k9
  have D9 : Df K mg "_law_choose" s__law_choose ["size"] := ⟨f9, _, PySem.W.mg_of X G a9, F9, F9.binds (ps := ["size"]) fun _ _ _ _ _ _ us hl => match us, hl with | [_], _ => rfl⟩
  have F10 := fun_mk (st := s__law_before) l10 c10 k10
  have D10 : Df K mg "_law_before" s__law_before ["size", "subset"] := ⟨f10, _, PySem.W.mg_of X G a10, F10, F10.binds (ps := ["size", "subset"]) fun _ _ _ _ _ _ us hl => match us, hl with | [_, _], _ => rfl⟩
  have F11 := fun_mk (st := s__law_at_refused) l11 c11 k11
  have D11 : Df K mg "_law_at_refused" s__law_at_refused ["size", "members", "index"] := ⟨f11, _, PySem.W.mg_of X G a11, F11, F11.binds (ps := ["size", "members", "index"]) fun _ _ _ _ _ _ us hl => match us, hl with | [_, _, _], _ => rfl⟩
  have F12 := fun_mk (st := s__law_index_refused) l12 c12 k12
  have D12 : Df K mg "_law_index_refused" s__law_index_refused ["size", "subset"] := ⟨f12, _, PySem.W.mg_of X G a12, F12, F12.binds (ps := ["size", "subset"]) fun _ _ _ _ _ _ us hl => match us, hl with | [_, _], _ => rfl⟩
  have F13 := fun_mk (st := s_law) l13 c13 k13
  have HC : PySem.W.CodeHd h cN pN := PySem.W.codeHd_of_K X hCd
  have hne : cN ≠ pN := by
    obtain ⟨_, _, _, _, _, _, _, _, _, _, _, _, _, _, _, _, _, _, hn⟩ := HC
    exact hn
  have T : Tx K mg ⟨cC, cS, cN, pN⟩ := ⟨PySem.W.mg_none_of X G n_isinstance, PySem.W.mg_none_of X G n_int, PySem.W.mg_none_of X G n_bool, PySem.W.mg_none_of X G n_list, PySem.W.mg_none_of X G n_tuple, PySem.W.mg_none_of X G n_len, PySem.W.mg_none_of X G n_abs, PySem.W.mg_none_of X G n_any, PySem.W.mg_none_of X G n_range, PySem.W.mg_none_of X G n_sorted, PySem.W.mg_none_of X G n_enumerate, PySem.W.mg_of X G m_comb, ⟨PySem.W.mg_of X G g_BadIndex, C_x, C_k, C_b, C_t⟩⟩
  have kk : ∀ c : Addr, PySem.W.kitOne K (.ref c) (.ref c) = some true := fun c => by (unfold PySem.W.kitOne; rw [if_pos (beq_self_eq_true _)])
  have XX : Ex K mg ⟨cC, cS, cN, pN⟩ := ⟨PySem.W.mg_of X G g_SpeciesError, ⟨C_ga, C_gt, C_b, C_hd, C_ca, B_cn, B_ct, C_cm⟩, PySem.W.exm_ref S_b S_hd S_t C_s, kk cC⟩
  refine ⟨PySem.W.fnOf "law" "law" (defArgs s_law) (defBody s_law) (defScope s_law) .none kV13 dc13 pm13 an13 cd13 ct13, [(cN, pN)], spLaw K ⟨cC, cS, cN, pN⟩, fun p hp => ?_, fun p hp => ?_, fun p hp => ?_, fun s v => .of_eq rfl, fun H a ns hl _ hT hS => ?_, fun base _ _ TB => ?_⟩
  · rw [List.mem_singleton.mp hp]; exact hTab
  · rw [List.mem_singleton.mp hp]; exact nT
  · rw [List.mem_singleton.mp hp]; exact HC
  · refine ⟨a, ns, rfl, hS, hl, fun p hp => ?_, fun _ => rfl⟩
    rw [List.mem_singleton.mp hp]
    exact TabS.nil (hT (cN, pN) (List.mem_singleton.mpr rfl))
  have tb := TB (cN, pN) (List.mem_singleton.mpr rfl)
  have c1 := ok_is_whole (P := l.prog) (w := w) (base := base) T D0
  have c2 := ok_before (P := l.prog) (w := w) (base := base) T D4
  have c3 := ok_num (W := ⟨cC, cS, cN, pN⟩) D5 hne tb D1 c2
  have c4 := ok_at T D2 c1 c2 c3
  have c5 := ok_idx T D3 c1 c2
  have c6 := ok_draws (P := l.prog) (w := w) (base := base) T D6
  have c7 := ok_number (P := l.prog) (w := w) (base := base) T D7
  have c8 := ok_all (P := l.prog) (w := w) (base := base) T D8
  have c9 := ok_choose (P := l.prog) (w := w) (base := base) T D9
  have c10 := ok_bef T D10 c9
  have c11 := ok_refA T XX D11 c4
  have c12 := ok_refI T XX D12 c5
  exact ok_law T F13 c6 c8 c5 c4 c7 c11 c10 c9 c12
theorem walk {l : PySem.W.OpenLaw} {q : Program} {loose : List Str} {XP : (Str → Option Value) → Heap → Prop} {YP : World → Heap → Prop} {d : DefRec} {K : Params → PySem.W.Frag} (hn : l.most = some 63) (hdf : d.params.defaults = [])
    (hY : ∀ (w : World) (h : Heap), YP w h → (K w.params).In h)
    (F : ∀ (w : World) (mg : Str → Option Value) (fa : Addr) (h : Heap), YP w h → (K w.params).In h → h.Ns mainGlobals mg → mg d.name = some (.ref fa) → LawAtS l w (K w.params) CX0 8 63 "script" mg fa h) :
    PySem.W.WalkO q loose XP YP l.row.toRowW d [] (fun f vs => PySem.call f vs) :=
  walk_ofTs (n := 63) (k := 8) (x := "script") (CX := fun _ => CX0) hn (by decide) hdf ⟨rfl, by decide, by decide⟩ hY F fun _ _ _ _ _ z => z
end SM

open PySem PySem.W PyProof.Rows
set_option maxRecDepth 100000 in
set_option maxHeartbeats 0 in
theorem PySem.Challenge.cw_speciesmill_k40_subsets_in_order_holds : PySem.Challenge.rw_speciesmill_k40_subsets_in_order.Holds := by
  w_on; o_law; km_head; (case hw => w_witness2)
  k_fill
  refine SM.walk (l := PySem.Challenge.rw_speciesmill_k40_subsets_in_order) rfl rfl (fun w h Y => PySem.W.km_in_of Y) ?F
  case F =>
    intro w mg fa h Y KX G hmg
    have hTb := PySem.W.km_tabs_of Y _ (List.Mem.head _)
    refine' SM.all_mk KX G hmg hTb ?a0 ?l0 ?c0 ?k0 ?a1 ?l1 ?c1 ?k1 ?a2 ?l2 ?c2 ?k2 ?a3 ?l3 ?c3 ?k3 ?a4 ?l4 ?c4 ?k4 ?a5 ?l5 ?c5 ?k5 ?a6 ?l6 ?c6 ?k6 ?a7 ?l7 ?c7 ?k7 ?a8 ?l8 ?c8 ?k8 ?a9 ?l9 ?c9 ?k9 ?a10 ?l10 ?c10 ?k10 ?a11 ?l11 ?c11 ?k11 ?a12 ?l12 ?c12 ?k12 ?a13 ?l13 ?c13 ?k13 ?n_isinstance ?n_int ?n_bool ?n_list ?n_tuple ?n_len ?n_abs ?n_any ?n_range ?n_sorted ?n_enumerate ?m_comb ?g_BadIndex ?g_SpeciesError ?C_x ?C_k ?C_b ?C_t ?C_ga ?C_gt ?C_hd ?C_ca ?C_cm ?C_s ?B_cn ?B_ct ?S_b ?S_hd ?S_t ?nT ?hCd
    (case g_BadIndex => k_is); (case g_SpeciesError => k_is); (case a0 => k_is); (case l0 => k_is); (case c0 => k_is); (case k0 => k_is); (case a1 => k_is); (case l1 => k_is)
    (case c1 => k_is); (case k1 => k_is); (case a2 => k_is); (case l2 => k_is); (case c2 => k_is); (case k2 => k_is); (case a3 => k_is); (case l3 => k_is)
    (case c3 => k_is); (case k3 => k_is); (case a4 => k_is); (case l4 => k_is); (case c4 => k_is); (case k4 => k_is); (case a5 => k_is); (case l5 => k_is)
    (case c5 => k_is); (case k5 => k_is); (case a6 => k_is); (case l6 => k_is); (case c6 => k_is); (case k6 => k_is); (case a7 => k_is); (case l7 => k_is)
    (case c7 => k_is); (case k7 => k_is); (case a8 => k_is); (case l8 => k_is); (case c8 => k_is); (case k8 => k_is); (case a9 => k_is); (case l9 => k_is)
    (case c9 => k_is); (case k9 => k_is); (case a10 => k_is); (case l10 => k_is); (case c10 => k_is); (case k10 => k_is); (case a11 => k_is); (case l11 => k_is)
    (case c11 => k_is); (case k11 => k_is); (case a12 => k_is); (case l12 => k_is); (case c12 => k_is); (case k12 => k_is); (case a13 => k_is); (case l13 => k_is)
    (case c13 => k_is); (case k13 => k_is); (case n_isinstance => k_is); (case n_int => k_is); (case n_bool => k_is); (case n_list => k_is); (case n_tuple => k_is); (case n_len => k_is)
    (case n_abs => k_is); (case n_any => k_is); (case n_range => k_is); (case n_sorted => k_is); (case n_enumerate => k_is); (case m_comb => k_is); (case C_x => k_exc); (case C_k => k_is)
    (case C_b => k_is); (case C_t => k_is); (case C_ga => k_is); (case C_gt => k_is); (case C_hd => k_is); (case C_ca => k_is); (case C_cm => k_is); (case C_s => first | k_is | rfl)
    (case B_cn => k_is); (case B_ct => k_is); (case S_b => k_is); (case S_hd => k_is); (case S_t => k_is); (case nT => kernel_rfl); (case hCd => kernel_rfl)
#print axioms PySem.Challenge.cw_speciesmill_k40_subsets_in_order_holds

