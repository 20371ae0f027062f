import PyProof.Rows.All
import Wide.All
import OpenK.AllK
import Wide.FinOn
import HandS.ForExc
import HandS.Comp
import HandS.Iter
import HandS.Gcd
import HandS.IsInst
import HandS.ExcIs
import HandS.Flow
import HandS.Wide
import KE.KMathGC
import HandS.TupLe
import HandS.TupAny
import HandS.Dict
import HandS.Text
import HandS.SortInts
import HandS.Conv
import HandS.Small
import HandS.FStr
import PySem.Challenge.RW_speciesmill_k48_whole_digits_draw_evenly
set_option Elab.async false
set_option linter.all false
set_option maxRecDepth 100000
set_option maxHeartbeats 4000000
/-! values as data: a layer over the hand layer in which no heap is seen -/
namespace DL
open PySem L2
abbrev LIM : Nat := 1000000
theorem LIM_size : LIM < sizeLine := by decide
inductive D where
  | non | bl (b : Bool) | int (i : Int) | str (s : Str)
  | tup (l : List D) | lst (l : List D) | scr (l : List D) | dic (ks : List Key) (vs : List D) | ref (a : Addr)
instance : Inhabited D := ⟨.non⟩
mutual
inductive At (K : PySem.W.Frag) (H : Hp) : V → D → Prop
  | non : At K H .non .non
  | bl (b : Bool) : At K H (.bl b) (.bl b)
  | int (i : Int) : At K H (.int i) (.int i)
  | str (s : Str) : At K H (.str s) (.str s)
  | ref (a : Addr) : At K H (.ref a) (.ref a)
  | tup {a : Addr} {xs : List V} {l : List D} : SqT K H a xs → l.length ≤ LIM → AtAll K H xs l → At K H (.ref a) (.tup l)
  | lst {a : Addr} {xs : List V} {l : List D} : H a = some (.lst xs) → l.length ≤ LIM → AtAll K H xs l → At K H (.ref a) (.lst l)
  | scr {a : Addr} {xs : List V} {l : List D} : SqL K H a xs → l.length ≤ LIM → AtAll K H xs l → At K H (.ref a) (.scr l)
  | dic {a : Addr} {ks : List Key} {xs : List V} {l : List D} : Rd H a (.dK (ks.zip xs)) → ks.length = xs.length → ks.length ≤ LIM → AtAll K H xs l → At K H (.ref a) (.dic ks l)
inductive AtAll (K : PySem.W.Frag) (H : Hp) : List V → List D → Prop
  | nil : AtAll K H [] []
  | cons {v : V} {vs : List V} {t : D} {ts : List D} : At K H v t → AtAll K H vs ts → AtAll K H (v :: vs) (t :: ts)
end
section
variable {K : PySem.W.Frag} {H H' : Hp}
theorem sqT_mono (e : Same H H') {a : Addr} {xs : List V} (h : SqT K H a xs) : SqT K H' a xs := by
  rcases h with (h | ⟨o, h⟩) | h
  · exact .inl (.inl (e _ _ h))
  · exact .inl (.inr ⟨o, e _ _ h⟩)
  · exact .inr h
theorem rd_mono (e : Same H H') {a : Addr} {u : HO} (h : Rd H a u) : Rd H' a u := by
  rcases h with h | ⟨o, h⟩
  · exact .inl (e _ _ h)
  · exact .inr ⟨o, e _ _ h⟩
mutual
theorem At.mono (s : Same H H') {v : V} {t : D} : At K H v t → At K H' v t
  | .non => .non
  | .bl b => .bl b
  | .int i => .int i
  | .str z => .str z
  | .ref a => .ref a
  | .tup h n r => .tup (sqT_mono s h) n (AtAll.mono s r)
  | .lst h n r => .lst (s _ _ h) n (AtAll.mono s r)
  | .scr h n r => .scr (s.seq h) n (AtAll.mono s r)
  | .dic h e n r => .dic (rd_mono s h) e n (AtAll.mono s r)
theorem AtAll.mono (s : Same H H') {vs : List V} {ts : List D} : AtAll K H vs ts → AtAll K H' vs ts
  | .nil => .nil
  | .cons h r => .cons (At.mono s h) (AtAll.mono s r)
end
theorem AtAll.len {vs : List V} {ts : List D} (h : AtAll K H vs ts) : vs.length = ts.length := by
  induction vs generalizing ts with
  | nil => cases h; rfl
  | cons v vs ih => cases h with
    | cons _ r => rw [List.length_cons, List.length_cons, ih r]
theorem AtAll.get {vs : List V} {ts : List D} (h : AtAll K H vs ts) {i : Nat} {v : V} (e : vs[i]? = some v) : ∃ t, ts[i]? = some t ∧ At K H v t := by
  induction vs generalizing ts i with
  | nil => simp at e
  | cons w ws ih =>
    cases h with
    | cons h1 h2 =>
      cases i with
      | zero => simp at e; subst e; exact ⟨_, rfl, h1⟩
      | succ i => exact ih h2 (by simpa using e)
theorem AtAll.get' {vs : List V} {ts : List D} (h : AtAll K H vs ts) {i : Nat} {t : D} (e : ts[i]? = some t) : ∃ v, vs[i]? = some v ∧ At K H v t := by
  have hi : i < vs.length := by rw [h.len]; exact (List.getElem?_eq_some_iff.mp e).1
  obtain ⟨t', e', a⟩ := h.get (List.getElem?_eq_getElem hi)
  rw [e] at e'
  obtain rfl := Option.some.inj e'
  exact ⟨_, List.getElem?_eq_getElem hi, a⟩
theorem AtAll.append {vs ws : List V} {ts us : List D} (h : AtAll K H vs ts) (r : AtAll K H ws us) : AtAll K H (vs ++ ws) (ts ++ us) := by
  induction vs generalizing ts with
  | nil => cases h; exact r
  | cons v vs ih => cases h with
    | cons a b => exact .cons a (ih b)
theorem AtAll.drop {vs : List V} {ts : List D} (h : AtAll K H vs ts) : ∀ n, AtAll K H (vs.drop n) (ts.drop n) := by
  induction vs generalizing ts with
  | nil => cases h; intro n; simp; exact .nil
  | cons v vs ih => cases h with
    | cons a b => intro n; cases n with
      | zero => exact .cons a b
      | succ n => exact ih b n
theorem AtAll.take {vs : List V} {ts : List D} (h : AtAll K H vs ts) : ∀ n, AtAll K H (vs.take n) (ts.take n) := by
  induction vs generalizing ts with
  | nil => cases h; intro n; simp; exact .nil
  | cons v vs ih => cases h with
    | cons a b => intro n; cases n with
      | zero => exact .nil
      | succ n => exact .cons a (ih b n)
theorem AtAll.set {vs : List V} {ts : List D} (h : AtAll K H vs ts) {v : V} {t : D} (a : At K H v t) : ∀ n, AtAll K H (vs.set n v) (ts.set n t) := by
  induction vs generalizing ts with
  | nil => cases h; intro n; exact .nil
  | cons w vs ih => cases h with
    | cons b c => intro n; cases n with
      | zero => exact .cons a c
      | succ n => exact .cons b (ih c n)
theorem AtAll.reverse {vs : List V} {ts : List D} (h : AtAll K H vs ts) : AtAll K H vs.reverse ts.reverse := by
  induction vs generalizing ts with
  | nil => cases h; exact .nil
  | cons w vs ih => cases h with
    | cons b c =>
      rw [List.reverse_cons, List.reverse_cons]
      exact (ih c).append (.cons b .nil)
theorem AtAll.of {vs : List V} {ts : List D} (hl : vs.length = ts.length) (h : ∀ (i : Nat) (v : V) (t : D), vs[i]? = some v → ts[i]? = some t → At K H v t) : AtAll K H vs ts := by
  induction vs generalizing ts with
  | nil => cases ts with
    | nil => exact .nil
    | cons t ts => simp at hl
  | cons v vs ih => cases ts with
    | nil => simp at hl
    | cons t ts => exact .cons (h 0 v t rfl rfl) (ih (by simpa using hl) fun i a b e f => h (i + 1) a b (by simpa using e) (by simpa using f))
theorem AtAll.ints (ns : List Int) : AtAll K H (ns.map V.int) (ns.map D.int) := by
  induction ns with
  | nil => exact .nil
  | cons n ns ih => exact .cons (.int n) ih
theorem AtAll.ints_of {vs : List V} {ns : List Int} (h : AtAll K H vs (ns.map D.int)) : vs = ns.map V.int := by
  induction ns generalizing vs with
  | nil => cases h; rfl
  | cons n ns ih => cases h with
    | cons a b => cases a; rw [ih b]; rfl
theorem AtAll.bls_of {vs : List V} {ns : List Bool} (h : AtAll K H vs (ns.map D.bl)) : vs = ns.map V.bl := by
  induction ns generalizing vs with
  | nil => cases h; rfl
  | cons n ns ih => cases h with
    | cons a b => cases a; rw [ih b]; rfl
theorem AtAll.strs_of {vs : List V} {ns : List Str} (h : AtAll K H vs (ns.map D.str)) : vs = ns.map V.str := by
  induction ns generalizing vs with
  | nil => cases h; rfl
  | cons n ns ih => cases h with
    | cons a b => cases a; rw [ih b]; rfl
end
/-! ### what is hidden -/
def hid (O : List Addr) (H : Hp) : Hp := fun a => if a ∈ O then none else H a
theorem hid_of {O : List Addr} {H : Hp} {a : Addr} (h : a ∉ O) : hid O H a = H a := if_neg h
theorem hid_some {O : List Addr} {H : Hp} {a : Addr} {u : HO} (h : hid O H a = some u) : a ∉ O ∧ H a = some u := by
  unfold hid at h
  by_cases m : a ∈ O
  · rw [if_pos m] at h; cases h
  · rw [if_neg m] at h; exact ⟨m, h⟩
theorem hid_same {O : List Addr} {H H' : Hp} (s : Same H H') : Same (hid O H) (hid O H') := fun b x h => by
  obtain ⟨m, h⟩ := hid_some h
  rw [hid_of m]; exact s _ _ h
theorem hid_sub {O O' : List Addr} {H : Hp} (s : ∀ a ∈ O', a ∈ O) : Same (hid O H) (hid O' H) := fun b x h => by
  obtain ⟨m, h⟩ := hid_some h
  rw [hid_of fun z => m (s _ z)]; exact h
theorem hid_out {O : List Addr} {H : Hp} : Same (hid O H) H := fun b x h => (hid_some h).2
theorem hid_new {O : List Addr} {H H' : Hp} {p : Addr} (n : H p = none) (s : Same H H') : Same (hid O H) (hid (p :: O) H') := fun b x h => by
  obtain ⟨m, h⟩ := hid_some h
  rw [hid_of fun z => ?_]
  · exact s _ _ h
  · rcases List.mem_cons.mp z with rfl | z
    · rw [n] at h; cases h
    · exact m z
theorem hid_upd {O : List Addr} {H : Hp} {q : Addr} {x : HO} (m : q ∈ O) : hid O (upd H q x) = hid O H := by
  funext a
  unfold hid
  by_cases h : a ∈ O
  · rw [if_pos h, if_pos h]
  · rw [if_neg h, if_neg h, upd_ne (fun z : a = q => h (by rw [z]; exact m))]
theorem same_new {H : Hp} {p : Addr} {o : HO} (h : H p = none) : Same H (upd H p o) := fun b x e => by
  rw [upd_ne (ne_of_none e h)]
  exact e
theorem same_new' {H H' : Hp} {p : Addr} {o : HO} (e : Same H H') (h : H p = none) : Same H (upd H' p o) := fun b x q => by
  rw [upd_ne (ne_of_none q h)]
  exact e b x q
/-! ### slots -/
inductive Sl where
  | no | d (x : D) | own (l : List D) | owk (ks : List Key) (vs : List D)
def sl : List Sl → Nat → Sl
  | [], _ => .no
  | s :: _, 0 => s
  | _ :: r, n + 1 => sl r n
theorem sl_set_same : ∀ (δ : List Sl) (i : Nat) (s : Sl), i < δ.length → sl (δ.set i s) i = s
  | [], _, _, h => by simp at h
  | _ :: _, 0, _, _ => rfl
  | _ :: r, i + 1, s, h => sl_set_same r i s (by simpa using h)
theorem sl_set_ne : ∀ (δ : List Sl) (i j : Nat) (s : Sl), i ≠ j → sl (δ.set i s) j = sl δ j
  | [], _, _, _, _ => rfl
  | _ :: _, 0, 0, _, h => absurd rfl h
  | _ :: _, 0, j + 1, _, _ => rfl
  | _ :: _, i + 1, 0, _, _ => rfl
  | _ :: r, i + 1, j + 1, s, h => sl_set_ne r i j s (by omega)
theorem sl_none : ∀ (δ : List Sl) (i : Nat), δ.length ≤ i → sl δ i = .no
  | [], _, _ => rfl
  | _ :: r, 0, h => by simp at h
  | _ :: r, i + 1, h => sl_none r i (by simpa using h)
def isOwn : Sl → Bool
  | .own _ => true
  | .owk _ _ => true
  | _ => false
def SlOk (K : PySem.W.Frag) (Hb : Hp) (O : List Addr) (H : Hp) (o : Option (Option V)) : Sl → Prop
  | .no => True
  | .d x => ∃ v, o = some (some v) ∧ At K (hid O H) v x
  | .own l => ∃ q vs, o = some (some (.ref q)) ∧ q ∈ O ∧ Hb q = none ∧ H q = some (.lst vs) ∧ l.length ≤ LIM ∧ AtAll K (hid O H) vs l
  | .owk ks l => ∃ q vs, o = some (some (.ref q)) ∧ q ∈ O ∧ Hb q = none ∧ H q = some (.dK (ks.zip vs)) ∧ ks.length = vs.length ∧ ks.length ≤ LIM ∧ AtAll K (hid O H) vs l
structure Sta (K : PySem.W.Frag) (Hb : Hp) (B O : List Addr) (H : Hp) (σ : St) (δ : List Sl) : Prop where
  len : σ.length = δ.length
  same : Same Hb H
  sub : ∀ b ∈ B, b ∈ O
  liveB : ∀ b ∈ B, Hb b ≠ none
  live : ∀ b ∈ O, H b ≠ none
  fresh : ∀ q ∈ O, q ∈ B ∨ Hb q = none
  at_ : ∀ i, SlOk K Hb O H (σ[i]?) (sl δ i)
  inj : ∀ i j q, isOwn (sl δ i) = true → isOwn (sl δ j) = true → σ[i]? = some (some (.ref q)) → σ[j]? = some (some (.ref q)) → i = j
section
variable {K : PySem.W.Frag} {Hb H H' : Hp} {B O : List Addr} {σ : St} {δ : List Sl}
theorem live_same {a : Addr} (h : H a ≠ none) (s : Same H H') : H' a ≠ none := by
  cases e : H a with
  | none => exact absurd e h
  | some u => rw [s _ _ e]; exact fun z => by cases z
theorem SlOk.grow {o : Option (Option V)} {s : Sl} (h : SlOk K Hb O H o s) (e : Same H H') : SlOk K Hb O H' o s := by
  cases s with
  | no => trivial
  | d x => obtain ⟨v, h1, h2⟩ := h; exact ⟨v, h1, h2.mono (hid_same e)⟩
  | own l => obtain ⟨q, vs, h1, h2, h3, h4, h5, h6⟩ := h; exact ⟨q, vs, h1, h2, h3, e _ _ h4, h5, h6.mono (hid_same e)⟩
  | owk ks l => obtain ⟨q, vs, h1, h2, h3, h4, h5, h6, h7⟩ := h; exact ⟨q, vs, h1, h2, h3, e _ _ h4, h5, h6, h7.mono (hid_same e)⟩
theorem Sta.grow (S : Sta K Hb B O H σ δ) (e : Same H H') : Sta K Hb B O H' σ δ :=
  ⟨S.len, S.same.trans e, S.sub, S.liveB, fun b hb => live_same (S.live b hb) e, S.fresh, fun i => (S.at_ i).grow e, S.inj⟩
/-- more is hidden: a new cell -/
theorem SlOk.more {o : Option (Option V)} {s : Sl} {p : Addr} (h : SlOk K Hb O H o s) (n : H p = none) (e : Same H H') : SlOk K Hb (p :: O) H' o s := by
  cases s with
  | no => trivial
  | d x => obtain ⟨v, h1, h2⟩ := h; exact ⟨v, h1, h2.mono (hid_new n e)⟩
  | own l => obtain ⟨q, vs, h1, h2, h3, h4, h5, h6⟩ := h; exact ⟨q, vs, h1, List.mem_cons_of_mem _ h2, h3, e _ _ h4, h5, h6.mono (hid_new n e)⟩
  | owk ks l => obtain ⟨q, vs, h1, h2, h3, h4, h5, h6, h7⟩ := h; exact ⟨q, vs, h1, List.mem_cons_of_mem _ h2, h3, e _ _ h4, h5, h6, h7.mono (hid_new n e)⟩
theorem Sta.more (S : Sta K Hb B O H σ δ) {p : Addr} (n : H p = none) (e : Same H H') (l : H' p ≠ none) : Sta K Hb B (p :: O) H' σ δ :=
  ⟨S.len, S.same.trans e, fun b hb => List.mem_cons_of_mem _ (S.sub b hb), S.liveB, fun b hb => by
    rcases List.mem_cons.mp hb with rfl | hb
    · exact l
    · exact live_same (S.live b hb) e, fun b hb => by
    rcases List.mem_cons.mp hb with rfl | hb
    · exact .inr (S.same.free n)
    · exact S.fresh b hb, fun i => (S.at_ i).more n e, S.inj⟩
theorem set_at {i j : Nat} {σ : St} {v : Option V} : (σ.set i v)[j]? = if i = j then (if j < σ.length then some v else none) else σ[j]? := by
  by_cases h : i = j
  · subst h
    rw [if_pos rfl]
    by_cases l : i < σ.length
    · rw [if_pos l, List.getElem?_set_self l]
    · rw [if_neg l, List.getElem?_eq_none_iff.mpr (by rw [List.length_set]; omega)]
  · rw [if_neg h, List.getElem?_set_ne h]
/-- a value stored -/
theorem Sta.set (S : Sta K Hb B O H σ δ) {i : Nat} {v : V} {x : D} (a : At K (hid O H) v x) : Sta K Hb B O H (σ.set i (some v)) (δ.set i (.d x)) := by
  refine ⟨by rw [List.length_set, List.length_set, S.len], S.same, S.sub, S.liveB, S.live, S.fresh, fun j => ?_, fun j k q hj hk ej ek => ?_⟩
  · by_cases h : i = j
    · subst h
      by_cases l : i < δ.length
      · rw [sl_set_same _ _ _ l, set_at, if_pos rfl, if_pos (by rw [S.len]; exact l)]
        exact ⟨v, rfl, a⟩
      · rw [sl_none _ _ (by rw [List.length_set]; omega)]
        trivial
    · rw [sl_set_ne _ _ _ _ h, set_at, if_neg h]
      exact S.at_ j
  · have nj : i ≠ j := fun z => by
      subst z
      by_cases l : i < δ.length
      · rw [sl_set_same _ _ _ l] at hj; cases hj
      · rw [sl_none _ _ (by rw [List.length_set]; omega)] at hj; cases hj
    have nk : i ≠ k := fun z => by
      subst z
      by_cases l : i < δ.length
      · rw [sl_set_same _ _ _ l] at hk; cases hk
      · rw [sl_none _ _ (by rw [List.length_set]; omega)] at hk; cases hk
    rw [sl_set_ne _ _ _ _ nj] at hj
    rw [sl_set_ne _ _ _ _ nk] at hk
    rw [set_at, if_neg nj] at ej
    rw [set_at, if_neg nk] at ek
    exact S.inj j k q hj hk ej ek
theorem Sta.unset (S : Sta K Hb B O H σ δ) {i : Nat} {o : Option V} : Sta K Hb B O H (σ.set i o) (δ.set i .no) := by
  refine ⟨by rw [List.length_set, List.length_set, S.len], S.same, S.sub, S.liveB, S.live, S.fresh, fun j => ?_, fun j k q hj hk ej ek => ?_⟩
  · by_cases h : i = j
    · subst h
      by_cases l : i < δ.length
      · rw [sl_set_same _ _ _ l]; trivial
      · rw [sl_none _ _ (by rw [List.length_set]; omega)]
        trivial
    · rw [sl_set_ne _ _ _ _ h, set_at, if_neg h]
      exact S.at_ j
  · have nn : ∀ j, isOwn (sl (δ.set i .no) j) = true → i ≠ j := fun j hj z => by
      subst z
      by_cases l : i < δ.length
      · rw [sl_set_same _ _ _ l] at hj; cases hj
      · rw [sl_none _ _ (by rw [List.length_set]; omega)] at hj; cases hj
    have nj := nn j hj
    have nk := nn k hk
    rw [sl_set_ne _ _ _ _ nj] at hj
    rw [sl_set_ne _ _ _ _ nk] at hk
    rw [set_at, if_neg nj] at ej
    rw [set_at, if_neg nk] at ek
    exact S.inj j k q hj hk ej ek
/-- a place that holds an own thing -/
theorem sl_len {i : Nat} (h : sl δ i ≠ .no) : i < δ.length := by
  by_cases l : i < δ.length
  · exact l
  · exact absurd (sl_none _ _ (by omega)) h
/-- an own cell made: put into a place -/
theorem Sta.own_new (S : Sta K Hb B O H σ δ) {i : Nat} {p : Addr} {s : Sl} (n : H p = none) (e : Same H H') (hs : isOwn s = true) (hp : SlOk K Hb (p :: O) H' (some (some (.ref p))) s) (l : H' p ≠ none) : Sta K Hb B (p :: O) H' (σ.set i (some (.ref p))) (δ.set i s) := by
  have S' := S.more n e l
  have np : ∀ j, isOwn (sl δ j) = true → σ[j]? ≠ some (some (.ref p)) := fun j hj z => by
    have a := S.at_ j
    cases q : sl δ j with
    | no => rw [q] at hj; cases hj
    | d x => rw [q] at hj; cases hj
    | own l =>
      rw [q] at a
      obtain ⟨w, vs, h1, h2, h3, h4, _⟩ := a
      rw [z] at h1; cases h1
      rw [n] at h4; cases h4
    | owk ks l =>
      rw [q] at a
      obtain ⟨w, vs, h1, h2, h3, h4, _⟩ := a
      rw [z] at h1; cases h1
      rw [n] at h4; cases h4
  refine ⟨by rw [List.length_set, List.length_set, S.len], S'.same, S'.sub, S'.liveB, S'.live, S'.fresh, fun j => ?_, fun j k q hj hk ej ek => ?_⟩
  · by_cases h : i = j
    · subst h
      by_cases l : i < δ.length
      · rw [sl_set_same _ _ _ l, set_at, if_pos rfl, if_pos (by rw [S.len]; exact l)]
        exact hp
      · rw [sl_none _ _ (by rw [List.length_set]; omega)]
        trivial
    · rw [sl_set_ne _ _ _ _ h, set_at, if_neg h]
      exact S'.at_ j
  · by_cases h1 : i = j
    · by_cases h2 : i = k
      · exact h1.symm.trans h2
      · exfalso
        rw [sl_set_ne _ _ _ _ h2] at hk
        rw [set_at, if_neg h2] at ek
        rw [set_at, if_pos h1] at ej
        split at ej
        · cases ej; exact np k hk ek
        · cases ej
    · rw [sl_set_ne _ _ _ _ h1] at hj
      rw [set_at, if_neg h1] at ej
      by_cases h2 : i = k
      · exfalso
        rw [set_at, if_pos h2] at ek
        split at ek
        · cases ek; exact np j hj ej
        · cases ek
      · rw [sl_set_ne _ _ _ _ h2] at hk
        rw [set_at, if_neg h2] at ek
        exact S.inj j k q hj hk ej ek
/-- an own cell changed -/
theorem Sta.own_upd (S : Sta K Hb B O H σ δ) {i : Nat} {q : Addr} {x : HO} {s : Sl} (ho : isOwn (sl δ i) = true) (hq : σ[i]? = some (some (.ref q))) (m : q ∈ O) (hb : Hb q = none) (hs : SlOk K Hb O (upd H q x) (some (some (.ref q))) s) : Sta K Hb B O (upd H q x) σ (δ.set i s) := by
  have hi : i < δ.length := sl_len fun z => by rw [z] at ho; cases ho
  refine ⟨by rw [List.length_set, S.len], same_new' S.same hb, S.sub, S.liveB, fun b hm => ?_, S.fresh, fun j => ?_, fun j k r hj hk ej ek => ?_⟩
  · by_cases z : b = q
    · rw [z, upd_same]; exact fun z => by cases z
    · rw [upd_ne z]; exact S.live b hm
  · by_cases h : i = j
    · subst h
      rw [sl_set_same _ _ _ hi, hq]
      exact hs
    · rw [sl_set_ne _ _ _ _ h]
      have a := S.at_ j
      cases e : sl δ j with
      | no => trivial
      | d y =>
        rw [e] at a
        obtain ⟨v, h1, h2⟩ := a
        exact ⟨v, h1, by rw [hid_upd m]; exact h2⟩
      | own l =>
        rw [e] at a
        obtain ⟨r, vs, h1, h2, h3, h4, h5, h6⟩ := a
        have nr : r ≠ q := fun z => h (S.inj i j q ho (by rw [e]; rfl) hq (by rw [h1, z]))
        exact ⟨r, vs, h1, h2, h3, by rw [upd_ne nr]; exact h4, h5, by rw [hid_upd m]; exact h6⟩
      | owk ks l =>
        rw [e] at a
        obtain ⟨r, vs, h1, h2, h3, h4, h5, h6, h7⟩ := a
        have nr : r ≠ q := fun z => h (S.inj i j q ho (by rw [e]; rfl) hq (by rw [h1, z]))
        exact ⟨r, vs, h1, h2, h3, by rw [upd_ne nr]; exact h4, h5, h6, by rw [hid_upd m]; exact h7⟩
  · have f : ∀ j, isOwn (sl (δ.set i s) j) = true → isOwn (sl δ j) = true := fun j hj => by
      by_cases h : i = j
      · subst h; exact ho
      · rw [sl_set_ne _ _ _ _ h] at hj; exact hj
    exact S.inj j k r (f j hj) (f k hk) ej ek
/-- an own thing is from now on a value -/
def frzS : Sl → Sl
  | .own l => .d (.lst l)
  | .owk ks vs => .d (.dic ks vs)
  | s => s
theorem Sta.freeze (S : Sta K Hb B O H σ δ) {i : Nat} (ho : isOwn (sl δ i) = true) : ∃ O', Sta K Hb B O' H σ (δ.set i (frzS (sl δ i))) := by
  have hi : i < δ.length := sl_len fun z => by rw [z] at ho; cases ho
  obtain ⟨q, hq, hm, hb⟩ : ∃ q, σ[i]? = some (some (.ref q)) ∧ q ∈ O ∧ Hb q = none := by
    have a := S.at_ i
    cases e : sl δ i with
    | no => rw [e] at ho; cases ho
    | d x => rw [e] at ho; cases ho
    | own l => rw [e] at a; obtain ⟨q, vs, h1, h2, h3, _⟩ := a; exact ⟨q, h1, h2, h3⟩
    | owk ks l => rw [e] at a; obtain ⟨q, vs, h1, h2, h3, _⟩ := a; exact ⟨q, h1, h2, h3⟩
  have sb : ∀ a ∈ O.filter (· ≠ q), a ∈ O := fun a h => (List.mem_filter.mp h).1
  have hn : q ∉ O.filter (· ≠ q) := fun h => by simpa using (List.mem_filter.mp h).2
  refine ⟨O.filter (· ≠ q), by rw [List.length_set, S.len], S.same, fun b h => ?_, S.liveB, fun b h => S.live b (sb b h), fun b h => S.fresh b (sb b h), fun j => ?_, fun j k r hj hk ej ek => ?_⟩
  · refine List.mem_filter.mpr ⟨S.sub b h, ?_⟩
    have : b ≠ q := fun z => S.liveB b h (by rw [z]; exact hb)
    simpa using this
  · by_cases h : i = j
    · subst h
      rw [sl_set_same _ _ _ hi, hq]
      have a := S.at_ i
      cases e : sl δ i with
      | no => rw [e] at ho; cases ho
      | d x => rw [e] at ho; cases ho
      | own l =>
        rw [e] at a
        obtain ⟨r, vs, h1, h2, h3, h4, h5, h6⟩ := a
        rw [hq] at h1; cases h1
        exact ⟨_, rfl, .lst (by rw [hid_of hn]; exact h4) h5 (h6.mono (hid_sub sb))⟩
      | owk ks l =>
        rw [e] at a
        obtain ⟨r, vs, h1, h2, h3, h4, h5, h6, h7⟩ := a
        rw [hq] at h1; cases h1
        exact ⟨_, rfl, .dic (.inl (by rw [hid_of hn]; exact h4)) h5 h6 (h7.mono (hid_sub sb))⟩
    · rw [sl_set_ne _ _ _ _ h]
      have a := S.at_ j
      have no : ∀ r, isOwn (sl δ j) = true → σ[j]? = some (some (.ref r)) → r ∈ O → r ∈ O.filter (· ≠ q) := fun r h1 h2 h3 => by
        refine List.mem_filter.mpr ⟨h3, ?_⟩
        have : r ≠ q := fun z => h (S.inj i j q ho h1 hq (by rw [h2, z]))
        simpa using this
      cases e : sl δ j with
      | no => trivial
      | d y =>
        rw [e] at a
        obtain ⟨v, h1, h2⟩ := a
        exact ⟨v, h1, h2.mono (hid_sub sb)⟩
      | own l =>
        rw [e] at a
        obtain ⟨r, vs, h1, h2, h3, h4, h5, h6⟩ := a
        exact ⟨r, vs, h1, no r (by rw [e]; rfl) h1 h2, h3, h4, h5, h6.mono (hid_sub sb)⟩
      | owk ks l =>
        rw [e] at a
        obtain ⟨r, vs, h1, h2, h3, h4, h5, h6, h7⟩ := a
        exact ⟨r, vs, h1, no r (by rw [e]; rfl) h1 h2, h3, h4, h5, h6, h7.mono (hid_sub sb)⟩
  · have f : ∀ j, isOwn (sl (δ.set i (frzS (sl δ i))) j) = true → isOwn (sl δ j) = true := fun j hj => by
      by_cases h : i = j
      · subst h; exact ho
      · rw [sl_set_ne _ _ _ _ h] at hj; exact hj
    exact S.inj j k r (f j hj) (f k hk) ej ek
/-- a value as the caller sees it -/
theorem Sta.out (S : Sta K Hb B O H σ δ) {v : V} {x : D} (a : At K (hid O H) v x) : At K (hid B H) v x := a.mono (hid_sub S.sub)
/-! ### a value that may be an own thing -/
inductive OAt (K : PySem.W.Frag) (O : List Addr) (H : Hp) : V → D → Prop
  | at_ {v : V} {x : D} : At K (hid O H) v x → OAt K O H v x
  | lst {q : Addr} {vs : List V} {l : List D} : q ∈ O → H q = some (.lst vs) → l.length ≤ LIM → AtAll K (hid O H) vs l → OAt K O H (.ref q) (.lst l)
  | dic {q : Addr} {ks : List Key} {vs : List V} {l : List D} : q ∈ O → H q = some (.dK (ks.zip vs)) → ks.length = vs.length → ks.length ≤ LIM → AtAll K (hid O H) vs l → OAt K O H (.ref q) (.dic ks l)
theorem OAt.grow {v : V} {x : D} (h : OAt K O H v x) (e : Same H H') : OAt K O H' v x := by
  cases h with
  | at_ a => exact .at_ (a.mono (hid_same e))
  | lst m h n r => exact .lst m (e _ _ h) n (r.mono (hid_same e))
  | dic m h e' n r => exact .dic m (e _ _ h) e' n (r.mono (hid_same e))
theorem OAt.plain {v : V} {x : D} (h : OAt K O H v x) : At K H v x := by
  cases h with
  | at_ a => exact a.mono hid_out
  | lst m h n r => exact .lst h n (r.mono hid_out)
  | dic m h e' n r => exact .dic (.inl h) e' n (r.mono hid_out)
theorem OAt.int {v : V} {i : Int} (h : OAt K O H v (.int i)) : v = .int i := by cases h with | at_ a => cases a; rfl
theorem OAt.bl {v : V} {i : Bool} (h : OAt K O H v (.bl i)) : v = .bl i := by cases h with | at_ a => cases a; rfl
theorem OAt.str {v : V} {i : Str} (h : OAt K O H v (.str i)) : v = .str i := by cases h with | at_ a => cases a; rfl
theorem OAt.non {v : V} (h : OAt K O H v .non) : v = .non := by cases h with | at_ a => cases a; rfl
/-- a list, own or not: its items are values -/
theorem OAt.list {v : V} {l : List D} (h : OAt K O H v (.lst l)) : ∃ q vs, v = .ref q ∧ H q = some (.lst vs) ∧ l.length ≤ LIM ∧ AtAll K (hid O H) vs l := by
  cases h with
  | at_ a => cases a with
    | lst h n r => exact ⟨_, _, rfl, hid_out _ _ h, n, r⟩
  | lst m h n r => exact ⟨_, _, rfl, h, n, r⟩
theorem OAt.tuple {v : V} {l : List D} (h : OAt K O H v (.tup l)) : ∃ q vs, v = .ref q ∧ SqT K H q vs ∧ l.length ≤ LIM ∧ AtAll K (hid O H) vs l ∧ SqT K (hid O H) q vs := by
  cases h with
  | at_ a => cases a with
    | tup h n r => exact ⟨_, _, rfl, sqT_mono hid_out h, n, r, h⟩
theorem OAt.script {v : V} {l : List D} (h : OAt K O H v (.scr l)) : ∃ q vs, v = .ref q ∧ SqL K H q vs ∧ l.length ≤ LIM ∧ AtAll K (hid O H) vs l := by
  cases h with
  | at_ a => cases a with
    | scr h n r => exact ⟨_, _, rfl, hid_out.seq h, n, r⟩
theorem OAt.dict {v : V} {ks : List Key} {l : List D} (h : OAt K O H v (.dic ks l)) : ∃ q vs, v = .ref q ∧ Rd H q (.dK (ks.zip vs)) ∧ ks.length = vs.length ∧ ks.length ≤ LIM ∧ AtAll K (hid O H) vs l := by
  cases h with
  | at_ a => cases a with
    | dic h e n r => exact ⟨_, _, rfl, rd_mono hid_out h, e, n, r⟩
  | dic m h e n r => exact ⟨_, _, rfl, .inl h, e, n, r⟩
end
end DL

namespace DL
open PySem L2
/-! ## expressions -/
abbrev DX := List Sl → (D → Prop) → Prop
abbrev DT := List Sl → (Bool → Prop) → Prop
abbrev DAs := List Sl → (List D → Prop) → Prop
section
variable (K : PySem.W.Frag)
def tP (x : DX) : TE := fun σ H Q => ∃ Hb B O δ, Sta K Hb B O H σ δ ∧ x δ fun d => ∀ v H', Same H H' → At K (hid O H') v d → Q v H'
def tQ (x : DX) : TE := fun σ H Q => ∃ Hb B O δ, Sta K Hb B O H σ δ ∧ x δ fun d => ∀ v H', Same H H' → OAt K O H' v d → Q v H'
def tF (x : DAs) : TE := fun σ H Q => ∃ Hb B O δ, Sta K Hb B O H σ δ ∧ x δ fun l => ∀ p vs H', Same H H' → H p = none → H' p = some (.lst vs) → l.length ≤ LIM → AtAll K (hid (p :: O) H') vs l → Q (.ref p) H'
def tT (x : DT) : TT := fun σ H Q => ∃ Hb B O δ, Sta K Hb B O H σ δ ∧ x δ fun b => ∀ H', Same H H' → Q b H'
end
inductive OAll (K : PySem.W.Frag) (O : List Addr) (H : Hp) : List V → List D → Prop
  | nil : OAll K O H [] []
  | cons {v : V} {vs : List V} {t : D} {ts : List D} : OAt K O H v t → OAll K O H vs ts → OAll K O H (v :: vs) (t :: ts)
theorem OAll.grow {K : PySem.W.Frag} {O : List Addr} {H H' : Hp} {vs : List V} {ts : List D} (h : OAll K O H vs ts) (e : Same H H') : OAll K O H' vs ts := by
  induction h with
  | nil => exact .nil
  | cons a _ ih => exact .cons (a.grow e) ih
def tA (K : PySem.W.Frag) (x : DAs) : TA := fun σ H Q => ∃ Hb B O δ, Sta K Hb B O H σ δ ∧ x δ fun ds => ∀ vs H', Same H H' → AtAll K (hid O H') vs ds → Q vs H'
def tB (K : PySem.W.Frag) (x : DAs) : TA := fun σ H Q => ∃ Hb B O δ, Sta K Hb B O H σ δ ∧ x δ fun ds => ∀ vs H', Same H H' → OAll K O H' vs ds → Q vs H'
def dArgs : List DX → DAs
  | [], _, Q => Q []
  | x :: xs, δ, Q => x δ fun a => dArgs xs δ fun as => Q (a :: as)
def MonoX (x : DX) : Prop := ∀ δ {Q Q' : D → Prop}, (∀ d, Q d → Q' d) → x δ Q → x δ Q'
def MonoT (x : DT) : Prop := ∀ δ {Q Q' : Bool → Prop}, (∀ d, Q d → Q' d) → x δ Q → x δ Q'
def MonoA (x : DAs) : Prop := ∀ δ {Q Q' : List D → Prop}, (∀ d, Q d → Q' d) → x δ Q → x δ Q'
structure PD (X : Cx) (K : PySem.W.Frag) (e : Expr) (x : DX) : Prop where
  mono : MonoX x
  pe : PE X e (tP K x)
structure QD (X : Cx) (K : PySem.W.Frag) (e : Expr) (x : DX) : Prop where
  mono : MonoX x
  pe : PE X e (tQ K x)
structure FD (X : Cx) (K : PySem.W.Frag) (e : Expr) (x : DAs) : Prop where
  mono : MonoA x
  pe : PE X e (tF K x)
structure TD (X : Cx) (K : PySem.W.Frag) (e : Expr) (x : DT) : Prop where
  mono : MonoT x
  pt : PT X e (tT K x)
structure WD (X : Cx) (K : PySem.W.Frag) (e : Expr) (x : DT) : Prop where
  mono : MonoT x
  pw : PW X e (tT K x)
structure AD (X : Cx) (K : PySem.W.Frag) (es : List Expr) (xs : List DX) : Prop where
  mono : MonoA (dArgs xs)
  len : ∀ δ Q, dArgs xs δ Q → dArgs xs δ fun ds => ds.length = xs.length ∧ Q ds
  pa : PA X es (tA K (dArgs xs))
structure BD (X : Cx) (K : PySem.W.Frag) (es : List Expr) (xs : List DX) : Prop where
  mono : MonoA (dArgs xs)
  pa : PA X es (tB K (dArgs xs))
section
variable {X : Cx} {K : PySem.W.Frag} {e a b c : Expr} {pos : Pos}
theorem pe_weak {t t' : TE} (h : PE X e t) (i : ∀ σ H Q, t' σ H Q → t σ H Q) : PE X e t' := ⟨fun pins s σ H Q I q => h.run pins s σ H Q I (i _ _ _ q)⟩
theorem pt_weak {t t' : TT} (h : PT X e t) (i : ∀ σ H Q, t' σ H Q → t σ H Q) : PT X e t' := ⟨fun pins s σ H Q I q => h.run pins s σ H Q I (i _ _ _ q)⟩
theorem pw_weak {t t' : TT} (h : PW X e t) (i : ∀ σ H Q, t' σ H Q → t σ H Q) : PW X e t' := ⟨fun w pins s σ H Q I q => h.run w pins s σ H Q I (i _ _ _ q)⟩
theorem pa_weak {es : List Expr} {t t' : TA} (h : PA X es t) (i : ∀ σ H Q, t' σ H Q → t σ H Q) : PA X es t' := ⟨fun p pins s σ H Q I q => h.run p pins s σ H Q I (i _ _ _ q)⟩
theorem PD.q {x : DX} (h : PD X K e x) : QD X K e x := ⟨h.mono, pe_weak h.pe fun σ H Q ⟨Hb, B, O, δ, S, q⟩ => ⟨Hb, B, O, δ, S, h.mono δ (fun d k v H' s a => k v H' s (.at_ a)) q⟩⟩
def ofF (x : DAs) : DX := fun δ Q => x δ fun l => Q (.lst l)
theorem FD.p {x : DAs} (h : FD X K e x) : PD X K e (ofF x) := ⟨fun δ Q Q' i q => h.mono δ (fun l => i _) q, pe_weak h.pe fun σ H Q ⟨Hb, B, O, δ, S, q⟩ => ⟨Hb, B, O, δ, S, h.mono δ (fun l k p vs H' s n hp hl a => k _ H' s (by
  have np : p ∉ O := fun z => S.live p z n
  exact .lst (by rw [hid_of np]; exact hp) hl (a.mono (hid_sub fun _ z => List.mem_cons_of_mem _ z)))) q⟩⟩
theorem FD.q {x : DAs} (h : FD X K e x) : QD X K e (ofF x) := h.p.q
/-! ### names, constants -/
def dV (i : Nat) : DX := fun δ Q => match sl δ i with
  | .d x => Q x
  | _ => False
def qV (i : Nat) : DX := fun δ Q => match sl δ i with
  | .d x => Q x
  | .own l => Q (.lst l)
  | .owk ks vs => Q (.dic ks vs)
  | .no => False
def dC (d : D) : DX := fun _ Q => Q d
theorem dv (i : Nat) {x : Str} (hN : X.N[i]? = some x := by rfl) (hv : Vis X.env.scope x := by first | exact Or.inl rfl | exact Or.inr (Or.inl rfl) | exact Or.inr (Or.inr rfl)) (hd : (x == ("__debug__" : Str)) = false := by decide)
    (hcd : (x == ("__classdict__" : Str)) = false := by decide) : PD X K (.Name x pos) (dV i) := by
  refine ⟨fun δ Q Q' h q => ?_, pe_weak (pe_var hN hv hd hcd) fun σ H Q ⟨Hb, B, O, δ, S, q⟩ => ?_⟩
  · unfold dV at q ⊢
    split at q
    · exact h _ q
    · exact q
  · have a := S.at_ i
    unfold dV at q
    cases e : sl δ i with
    | d x =>
      rw [e] at a q
      obtain ⟨v, h1, h2⟩ := a
      exact ⟨v, h1, q v H (.refl H) h2⟩
    | no => rw [e] at q; exact q.elim
    | own l => rw [e] at q; exact q.elim
    | owk ks l => rw [e] at q; exact q.elim
theorem qv (i : Nat) {x : Str} (hN : X.N[i]? = some x := by rfl) (hv : Vis X.env.scope x := by first | exact Or.inl rfl | exact Or.inr (Or.inl rfl) | exact Or.inr (Or.inr rfl)) (hd : (x == ("__debug__" : Str)) = false := by decide)
    (hcd : (x == ("__classdict__" : Str)) = false := by decide) : QD X K (.Name x pos) (qV i) := by
  refine ⟨fun δ Q Q' h q => ?_, pe_weak (pe_var hN hv hd hcd) fun σ H Q ⟨Hb, B, O, δ, S, q⟩ => ?_⟩
  · unfold qV at q ⊢
    split at q
    · exact h _ q
    · exact h _ q
    · exact h _ q
    · exact q
  · have a := S.at_ i
    unfold qV at q
    cases e : sl δ i with
    | d x =>
      rw [e] at a q
      obtain ⟨v, h1, h2⟩ := a
      exact ⟨v, h1, q v H (.refl H) (.at_ h2)⟩
    | no => rw [e] at q; exact q.elim
    | own l =>
      rw [e] at a q
      obtain ⟨r, vs, h1, h2, h3, h4, h5, h6⟩ := a
      exact ⟨_, h1, q _ H (.refl H) (.lst h2 h4 h5 h6)⟩
    | owk ks l =>
      rw [e] at a q
      obtain ⟨r, vs, h1, h2, h3, h4, h5, h6, h7⟩ := a
      exact ⟨_, h1, q _ H (.refl H) (.dic h2 h4 h5 h6 h7)⟩
theorem d_c {v : V} {d : D} (h : PE X e (tC v)) (a : ∀ H, At K H v d) : PD X K e (dC d) :=
  ⟨fun δ Q Q' i q => i _ q, pe_weak h fun σ H Q ⟨Hb, B, O, δ, S, q⟩ => q v H (.refl H) (a _)⟩
theorem d_int {i : Int} {j pos} : PD X K (.Constant (.int i) j pos) (dC (.int i)) := d_c pe_int fun _ => .int i
theorem d_bl {i : Bool} {j pos} : PD X K (.Constant (.bool i) j pos) (dC (.bl i)) := d_c pe_bl fun _ => .bl i
theorem d_str {i : Str} {j pos} : PD X K (.Constant (.str i) j pos) (dC (.str i)) := d_c pe_str fun _ => .str i
theorem d_non {j pos} : PD X K (.Constant .none j pos) (dC .non) := d_c pe_non fun _ => .non
theorem d_glob {x : Str} {v : V} {u : Value} {d : D} (hm : X.mg x = some u) (r : RelV v u) (a : ∀ H, At K H v d) (hg : Gl X x := by rfl) (hd : (x == ("__debug__" : Str)) = false := by decide) : PD X K (.Name x pos) (dC d) := d_c (pe_glob hg hm r hd) a
/-! ### arguments -/
theorem monoArgs : ∀ {xs : List DX}, (∀ x ∈ xs, MonoX x) → MonoA (dArgs xs)
  | [], _ => fun δ Q Q' i q => i _ q
  | x :: xs, h => fun δ Q Q' i q => h x List.mem_cons_self δ (fun a => monoArgs (fun y hy => h y (List.mem_cons_of_mem _ hy)) δ fun as => i _) q
theorem a_nil : AD X K [] [] := ⟨fun δ Q Q' i q => i _ q, fun δ Q q => ⟨rfl, q⟩, pa_weak pa_nil fun σ H Q ⟨Hb, B, O, δ, S, q⟩ => q [] H (.refl H) .nil⟩
theorem b_nil : BD X K [] [] := ⟨fun δ Q Q' i q => i _ q, pa_weak pa_nil fun σ H Q ⟨Hb, B, O, δ, S, q⟩ => q [] H (.refl H) .nil⟩
theorem a_cons {es : List Expr} {x : DX} {xs : List DX} (h : PD X K e x) (r : AD X K es xs) (hs : starEach (e :: es) X.env = (false, eval e X.env) :: starEach es X.env := by rfl) : AD X K (e :: es) (x :: xs) := by
  refine ⟨fun δ Q Q' i q => h.mono δ (fun a => r.mono δ fun as => i _) q, fun δ Q q => h.mono δ (fun a k => r.mono δ (fun as k => ⟨by rw [List.length_cons, List.length_cons, k.1], k.2⟩) (r.len δ _ k)) q, pa_weak (pa_cons h.pe r.pa hs) fun σ H Q ⟨Hb, B, O, δ, S, q⟩ => ⟨Hb, B, O, δ, S, h.mono δ (fun d k v H1 s1 a => ?_) q⟩⟩
  exact ⟨Hb, B, O, δ, S.grow s1, r.mono δ (fun ds k vs H2 s2 as => k _ _ (s1.trans s2) (.cons (a.mono (hid_same s2)) as)) k⟩
theorem b_cons {es : List Expr} {x : DX} {xs : List DX} (h : QD X K e x) (r : BD X K es xs) (hs : starEach (e :: es) X.env = (false, eval e X.env) :: starEach es X.env := by rfl) : BD X K (e :: es) (x :: xs) := by
  refine ⟨fun δ Q Q' i q => h.mono δ (fun a => r.mono δ fun as => i _) q, pa_weak (pa_cons h.pe r.pa hs) fun σ H Q ⟨Hb, B, O, δ, S, q⟩ => ⟨Hb, B, O, δ, S, h.mono δ (fun d k v H1 s1 a => ?_) q⟩⟩
  exact ⟨Hb, B, O, δ, S.grow s1, r.mono δ (fun ds k vs H2 s2 as => k _ _ (s1.trans s2) (.cons (a.grow s2) as)) k⟩
/-! ### tuples and lists written out -/
theorem At.newT {O : List Addr} {H : Hp} {p : Addr} {vs : List V} {l : List D} (live : ∀ b ∈ O, H b ≠ none) (n : H p = none) (hl : l.length ≤ LIM) (a : AtAll K (hid O H) vs l) : At K (hid O (upd H p (.tup vs))) (.ref p) (.tup l) := by
  have np : p ∉ O := fun z => live p z n
  exact .tup (.inl (.inl (by rw [hid_of np, upd_same]))) hl (a.mono (hid_same (same_new n)))
theorem At.newL {O : List Addr} {H : Hp} {p : Addr} {vs : List V} {l : List D} (live : ∀ b ∈ O, H b ≠ none) (n : H p = none) (hl : l.length ≤ LIM) (a : AtAll K (hid O H) vs l) : At K (hid O (upd H p (.lst vs))) (.ref p) (.lst l) := by
  have np : p ∉ O := fun z => live p z n
  exact .lst (by rw [hid_of np, upd_same]) hl (a.mono (hid_same (same_new n)))
def dTup (x : DAs) : DX := fun δ Q => x δ fun ds => Q (.tup ds)
theorem d_tup {es : List Expr} {xs : List DX} {k : Nat} (h : AD X K es xs) (hn : xs.length ≤ 1000 := by exact Nat.le_of_ble_eq_true rfl) : PD X K (.Tuple es k pos) (dTup (dArgs xs)) := by
  refine ⟨fun δ Q Q' i q => h.mono δ (fun ds q => i _ q) q, pe_weak (pe_tup h.pa) fun σ H Q ⟨Hb, B, O, δ, S, q⟩ => ⟨Hb, B, O, δ, S, h.mono δ (fun ds ⟨hl, k⟩ vs H1 s1 a => ⟨?_, fun p n => ?_⟩) (h.len δ _ q)⟩⟩
  · rw [a.len, hl]; exact Nat.le_of_lt (Nat.lt_of_le_of_lt (Nat.le_trans hn (by decide)) LIM_size)
  · exact k _ _ (s1.trans (same_new n)) (At.newT (fun b hb => live_same (S.live b hb) s1) n (by rw [hl]; exact Nat.le_trans hn (by decide)) a)
def fLst (x : DAs) : DAs := fun δ Q => x δ Q
theorem f_lst {es : List Expr} {xs : List DX} (h : AD X K es xs) (hn : xs.length ≤ 1000 := by exact Nat.le_of_ble_eq_true rfl) : FD X K (.List es pos) (fLst (dArgs xs)) := by
  refine ⟨fun δ Q Q' i q => h.mono δ (fun ds q => i _ q) q, pe_weak (pe_lst h.pa) fun σ H Q ⟨Hb, B, O, δ, S, q⟩ => ⟨Hb, B, O, δ, S, h.mono δ (fun ds ⟨hl, k⟩ vs H1 s1 a => ⟨?_, fun p n => ?_⟩) (h.len δ _ q)⟩⟩
  · rw [a.len, hl]; exact Nat.le_of_lt (Nat.lt_of_le_of_lt (Nat.le_trans hn (by decide)) LIM_size)
  · exact k _ _ _ (s1.trans (same_new n)) (s1.free n) upd_same (by rw [hl]; exact Nat.le_trans hn (by decide)) (a.mono (hid_new n (same_new n)))
/-! ### operators -/
structure OpD (X : Cx) (K : PySem.W.Frag) (f : Value → Value → Sem Value) (o : D → D → (D → Prop) → Prop) : Prop where
  mono : ∀ a b {Q Q' : D → Prop}, (∀ d, Q d → Q' d) → o a b Q → o a b Q'
  ex : ∃ r, OpR X f r ∧ ∀ O H x y a b Q, (∀ p ∈ O, H p ≠ none) → OAt K O H x a → OAt K O H y b → (o a b fun d => ∀ v H', Same H H' → At K (hid O H') v d → Q v H') → r x y H Q
/-- .. that makes a new list -/
structure OpF (X : Cx) (K : PySem.W.Frag) (f : Value → Value → Sem Value) (o : D → D → (List D → Prop) → Prop) : Prop where
  mono : ∀ a b {Q Q' : List D → Prop}, (∀ d, Q d → Q' d) → o a b Q → o a b Q'
  ex : ∃ r, OpR X f r ∧ ∀ O H x y a b Q, (∀ p ∈ O, H p ≠ none) → OAt K O H x a → OAt K O H y b →
    (o a b fun l => ∀ p vs H', Same H H' → H p = none → H' p = some (.lst vs) → l.length ≤ LIM → AtAll K (hid (p :: O) H') vs l → Q (.ref p) H') → r x y H Q
def dOp (o : D → D → (D → Prop) → Prop) (x y : DX) : DX := fun δ Q => x δ fun a => y δ fun b => o a b Q
def fOp (o : D → D → (List D → Prop) → Prop) (x y : DX) : DAs := fun δ Q => x δ fun a => y δ fun b => o a b Q
theorem bin_imp {x y : DX} {r : R2} {σ : St} {H : Hp} {Q : VK} {G : D → D → Prop} (ha : QD X K a x) (hb : QD X K b y) {Hb : Hp} {B O : List Addr} {δ : List Sl} (S : Sta K Hb B O H σ δ) (q : x δ fun a => y δ fun b => G a b)
    (k : ∀ u v H2 d e, Same H H2 → (∀ p ∈ O, H2 p ≠ none) → OAt K O H2 u d → OAt K O H2 v e → G d e → r u v H2 Q) : tOp r (tQ K x) (tQ K y) σ H Q :=
  ⟨Hb, B, O, δ, S, ha.mono δ (fun d g u H1 s1 au => ⟨Hb, B, O, δ, S.grow s1, hb.mono δ (fun e g v H2 s2 av => k u v H2 d e (s1.trans s2) (fun p hp => live_same (live_same (S.live p hp) s1) s2) (au.grow s2) av g) g⟩) q⟩
theorem d_op {op : Operator} {o : D → D → (D → Prop) → Prop} {x y : DX} (ho : OpD X K (binaryOp op) o) (ha : QD X K a x) (hb : QD X K b y) : PD X K (.BinOp a op b pos) (dOp o x y) := by
  obtain ⟨r, hr, hi⟩ := ho.ex
  refine ⟨fun δ Q Q' i q => ha.mono δ (fun d => hb.mono δ fun e => ho.mono d e i) q, pe_weak (pe_op hr ha.pe hb.pe) fun σ H Q ⟨Hb, B, O, δ, S, q⟩ => bin_imp ha hb S q fun u v H2 d e s l au av g => ?_⟩
  exact hi O H2 u v d e Q l au av (ho.mono d e (fun w k v' H' s' a => k v' H' (s.trans s') a) g)
theorem f_op {op : Operator} {o : D → D → (List D → Prop) → Prop} {x y : DX} (ho : OpF X K (binaryOp op) o) (ha : QD X K a x) (hb : QD X K b y) : FD X K (.BinOp a op b pos) (fOp o x y) := by
  obtain ⟨r, hr, hi⟩ := ho.ex
  refine ⟨fun δ Q Q' i q => ha.mono δ (fun d => hb.mono δ fun e => ho.mono d e i) q, pe_weak (pe_op hr ha.pe hb.pe) fun σ H Q ⟨Hb, B, O, δ, S, q⟩ => bin_imp ha hb S q fun u v H2 d e s l au av g => ?_⟩
  exact hi O H2 u v d e Q l au av (ho.mono d e (fun w k p vs H' s' n hp hl a => k p vs H' (s.trans s') (s.free n) hp hl a) g)
theorem d_cmp {op : CmpOp} {o : D → D → (D → Prop) → Prop} {x y : DX} (ho : OpD X K (compareOp op) o) (ha : QD X K a x) (hb : QD X K b y) (hm : behindInMarks op b = false := by first | exact nomark _ | rfl) : PD X K (.Compare a [op] [b] pos) (dOp o x y) := by
  obtain ⟨r, hr, hi⟩ := ho.ex
  refine ⟨fun δ Q Q' i q => ha.mono δ (fun d => hb.mono δ fun e => ho.mono d e i) q, pe_weak (pe_cmpR hr ha.pe hb.pe hm) fun σ H Q ⟨Hb, B, O, δ, S, q⟩ => bin_imp ha hb S q fun u v H2 d e s l au av g => ?_⟩
  exact hi O H2 u v d e Q l au av (ho.mono d e (fun w k v' H' s' a => k v' H' (s.trans s') a) g)
def asB (Q : Bool → Prop) : D → Prop
  | .bl b => Q b
  | _ => False
theorem asB_mono {Q Q' : Bool → Prop} (h : ∀ b, Q b → Q' b) : ∀ d, asB Q d → asB Q' d
  | .bl b, q => h b q
  | .non, q | .int _, q | .str _, q | .tup _, q | .lst _, q | .scr _, q | .dic _ _, q | .ref _, q => q.elim
def tOf (x : DX) : DT := fun δ Q => x δ (asB Q)
theorem asB_at {Q : Bool → Prop} {O : List Addr} {H : Hp} {v : V} : ∀ {d : D}, asB Q d → OAt K O H v d → ∃ b, v = .bl b ∧ Q b
  | .bl b, q, a => ⟨b, a.bl, q⟩
  | .non, q, _ | .int _, q, _ | .str _, q, _ | .tup _, q, _ | .lst _, q, _ | .scr _, q, _ | .dic _ _, q, _ | .ref _, q, _ => q.elim
theorem t_cmp {op : CmpOp} {o : D → D → (D → Prop) → Prop} {x y : DX} (ho : OpD X K (compareOp op) o) (ha : QD X K a x) (hb : QD X K b y) (hm : behindInMarks op b = false := by first | exact nomark _ | rfl) : TD X K (.Compare a [op] [b] pos) (tOf (dOp o x y)) := by
  obtain ⟨r, hr, hi⟩ := ho.ex
  refine ⟨fun δ Q Q' i q => ha.mono δ (fun d => hb.mono δ fun e => ho.mono d e (asB_mono i)) q, pt_weak (pt_cmpR hr ha.pe hb.pe hm) fun σ H Q ⟨Hb, B, O, δ, S, q⟩ => ?_⟩
  show tOp r (tQ K x) (tQ K y) σ H _
  refine bin_imp ha hb S q fun u v H2 d e s l au av g => ?_
  refine hi O H2 u v d e _ l au av (ho.mono d e (fun w k v' H' s' a => ?_) g)
  obtain ⟨b, rfl, k⟩ := asB_at k (.at_ a)
  exact ⟨b, rfl, k H' (s.trans s')⟩
theorem t_val {x : DX} (h : QD X K e x) (he : ∀ whole, isTrue e X.env whole = (do let v ← whole; standAt e.pos; holding [v] (truthy v)) := by intro _; rfl) : TD X K e (tOf x) := by
  refine ⟨fun δ Q Q' i q => h.mono δ (asB_mono i) q, pt_weak (pt_val h.pe he) fun σ H Q ⟨Hb, B, O, δ, S, q⟩ => ⟨Hb, B, O, δ, S, h.mono δ (fun d k v H' s a => ?_) q⟩⟩
  obtain ⟨b, rfl, k⟩ := asB_at k a
  exact ⟨b, rfl, k H' s⟩
/-- truth of a list, a tuple, an int -/
def truD (Q : Bool → Prop) : D → Prop
  | .bl b => Q b
  | .lst l => Q (!l.isEmpty)
  | .tup l => Q (!l.isEmpty)
  | .int i => Q (i != 0)
  | .non => Q false
  | _ => False
theorem truD_mono {Q Q' : Bool → Prop} (h : ∀ b, Q b → Q' b) : ∀ d, truD Q d → truD Q' d
  | .bl b, q => h b q
  | .lst l, q => h _ q
  | .tup l, q => h _ q
  | .int i, q => h _ q
  | .non, q => h _ q
  | .str _, q | .scr _, q | .dic _ _, q | .ref _, q => q.elim
theorem isEmpty_at {H : Hp} {vs : List V} {l : List D} (h : AtAll K H vs l) : vs.isEmpty = l.isEmpty := by
  cases h <;> rfl
theorem truD_at (hK : X.K = K) {Q : Bool → Prop} {O : List Addr} {H : Hp} {v : V} {d : D} (q : truD Q d) (a : OAt K O H v d) : ∃ k, TruV X.K v H k ∧ Q k := by
  subst hK
  cases d with
  | bl b => rw [a.bl]; exact ⟨b, rfl, q⟩
  | int i => rw [a.int]; exact ⟨_, rfl, q⟩
  | non => rw [a.non]; exact ⟨_, rfl, q⟩
  | lst l =>
    obtain ⟨p, vs, rfl, h1, h2, h3⟩ := a.list
    exact ⟨_, .inl ⟨vs, .inl (.inl h1), rfl⟩, by rw [isEmpty_at h3]; exact q⟩
  | tup l =>
    obtain ⟨p, vs, rfl, h1, h2, h3, _⟩ := a.tuple
    exact ⟨_, .inr (.inl ⟨vs, h1, rfl⟩), by rw [isEmpty_at h3]; exact q⟩
  | str _ => exact q.elim
  | scr _ => exact q.elim
  | dic _ _ => exact q.elim
  | ref _ => exact q.elim
def tTru (x : DX) : DT := fun δ Q => x δ (truD Q)
theorem t_truth {x : DX} (h : QD X K e x) (hK : X.K = K := by rfl) (he : ∀ whole, isTrue e X.env whole = (do let v ← whole; standAt e.pos; holding [v] (truthy v)) := by intro _; rfl) : TD X K e (tTru x) := by
  refine ⟨fun δ Q Q' i q => h.mono δ (truD_mono i) q, pt_weak (pt_truth h.pe he) fun σ H Q ⟨Hb, B, O, δ, S, q⟩ => ⟨Hb, B, O, δ, S, h.mono δ (fun d k v H' s a => ?_) q⟩⟩
  obtain ⟨b, t, k⟩ := truD_at (X := X) hK k a
  exact ⟨b, t, k H' s⟩
/-! ### and, or, not -/
def tAndD (x y : DT) : DT := fun δ Q => x δ fun c => if c = true then y δ Q else Q false
def tOrD (x y : DT) : DT := fun δ Q => x δ fun c => if c = true then Q true else y δ Q
def tNotD (x : DT) : DT := fun δ Q => x δ fun c => Q (!c)
theorem ite_mono {A A' B B' : Prop} (c : Bool) (ha : A → A') (hb : B → B') (h : if c = true then A else B) : if c = true then A' else B' := by
  cases c with
  | true => exact ha h
  | false => exact hb h
theorem w_and1 {x : DT} (h : TD X K a x) : WD X K (.BoolOp .And [a] pos) x := ⟨h.mono, pw_and1 h.pt⟩
theorem w_or1 {x : DT} (h : TD X K a x) : WD X K (.BoolOp .Or [a] pos) x := ⟨h.mono, pw_or1 h.pt⟩
theorem w_and {x y : DT} {rest : List Expr} (h : TD X K a x) (r : WD X K (.BoolOp .And (b :: rest) pos) y) : WD X K (.BoolOp .And (a :: b :: rest) pos) (tAndD x y) := by
  refine ⟨fun δ Q Q' i q => h.mono δ (fun c => ite_mono c (r.mono δ i) (i _)) q, pw_weak (pw_and h.pt r.pw) fun σ H Q ⟨Hb, B, O, δ, S, q⟩ => ⟨Hb, B, O, δ, S, h.mono δ (fun c k H1 s1 => ?_) q⟩⟩
  refine ite_mono c (fun k => ⟨Hb, B, O, δ, S.grow s1, r.mono δ (fun d k H2 s2 => k H2 (s1.trans s2)) k⟩) (fun k => k H1 s1) k
theorem w_or {x y : DT} {rest : List Expr} (h : TD X K a x) (r : WD X K (.BoolOp .Or (b :: rest) pos) y) : WD X K (.BoolOp .Or (a :: b :: rest) pos) (tOrD x y) := by
  refine ⟨fun δ Q Q' i q => h.mono δ (fun c => ite_mono c (i _) (r.mono δ i)) q, pw_weak (pw_or h.pt r.pw) fun σ H Q ⟨Hb, B, O, δ, S, q⟩ => ⟨Hb, B, O, δ, S, h.mono δ (fun c k H1 s1 => ?_) q⟩⟩
  refine ite_mono c (fun k => k H1 s1) (fun k => ⟨Hb, B, O, δ, S.grow s1, r.mono δ (fun d k H2 s2 => k H2 (s1.trans s2)) k⟩) k
theorem WD.t {x : DT} (h : WD X K e x) : TD X K e x := ⟨h.mono, h.pw.pt⟩
theorem t_not {x : DT} (h : TD X K a x) : TD X K (.UnaryOp .Not a pos) (tNotD x) :=
  ⟨fun δ Q Q' i q => h.mono δ (fun c => i _) q, pt_weak (pt_not h.pt) fun σ H Q ⟨Hb, B, O, δ, S, q⟩ => ⟨Hb, B, O, δ, S, q⟩⟩
/-- .. as values -/
def dAnd (x y : DX) : DX := fun δ Q => x δ (asB fun c => if c = true then y δ Q else Q (.bl false))
def dOr (x y : DX) : DX := fun δ Q => x δ (asB fun c => if c = true then Q (.bl true) else y δ Q)
def dNot (x : DX) : DX := fun δ Q => x δ (asB fun c => Q (.bl (!c)))
theorem d_one {op} {x : DX} (h : PD X K a x) : PD X K (.BoolOp op [a] pos) x := ⟨h.mono, pe_one h.pe⟩
theorem d_and {x y : DX} {rest : List Expr} (h : PD X K a x) (r : PD X K (.BoolOp .And (b :: rest) pos) y) : PD X K (.BoolOp .And (a :: b :: rest) pos) (dAnd x y) := by
  refine ⟨fun δ Q Q' i q => h.mono δ (asB_mono fun c => ite_mono c (r.mono δ i) (i _)) q, pe_weak (pe_and h.pe r.pe) fun σ H Q ⟨Hb, B, O, δ, S, q⟩ => ⟨Hb, B, O, δ, S, h.mono δ (fun d k v H1 s1 a => ?_) q⟩⟩
  obtain ⟨c, rfl, k⟩ := asB_at k (.at_ a)
  exact ⟨c, rfl, ite_mono c (fun k => ⟨Hb, B, O, δ, S.grow s1, r.mono δ (fun d k v H2 s2 a => k v H2 (s1.trans s2) a) k⟩) (fun k => k _ H1 s1 (.bl false)) k⟩
theorem d_or {x y : DX} {rest : List Expr} (h : PD X K a x) (r : PD X K (.BoolOp .Or (b :: rest) pos) y) : PD X K (.BoolOp .Or (a :: b :: rest) pos) (dOr x y) := by
  refine ⟨fun δ Q Q' i q => h.mono δ (asB_mono fun c => ite_mono c (i _) (r.mono δ i)) q, pe_weak (pe_or h.pe r.pe) fun σ H Q ⟨Hb, B, O, δ, S, q⟩ => ⟨Hb, B, O, δ, S, h.mono δ (fun d k v H1 s1 a => ?_) q⟩⟩
  obtain ⟨c, rfl, k⟩ := asB_at k (.at_ a)
  exact ⟨c, rfl, ite_mono c (fun k => k _ H1 s1 (.bl true)) (fun k => ⟨Hb, B, O, δ, S.grow s1, r.mono δ (fun d k v H2 s2 a => k v H2 (s1.trans s2) a) k⟩) k⟩
theorem d_not {x : DX} (h : PD X K a x) : PD X K (.UnaryOp .Not a pos) (dNot x) := by
  refine ⟨fun δ Q Q' i q => h.mono δ (asB_mono fun c => i _) q, pe_weak (pe_not h.pe) fun σ H Q ⟨Hb, B, O, δ, S, q⟩ => ⟨Hb, B, O, δ, S, h.mono δ (fun d k v H1 s1 a => ?_) q⟩⟩
  obtain ⟨c, rfl, k⟩ := asB_at k (.at_ a)
  exact ⟨c, rfl, k _ H1 s1 (.bl _)⟩
def dIf (t : DT) (x y : DX) : DX := fun δ Q => t δ fun c => if c = true then x δ Q else y δ Q
theorem d_if {t : DT} {x y : DX} (h : TD X K c t) (ha : PD X K a x) (hb : PD X K b y) : PD X K (.IfExp c a b pos) (dIf t x y) := by
  refine ⟨fun δ Q Q' i q => h.mono δ (fun c => ite_mono c (ha.mono δ i) (hb.mono δ i)) q, pe_weak (pe_ifExp h.pt ha.pe hb.pe) fun σ H Q ⟨Hb, B, O, δ, S, q⟩ => ⟨Hb, B, O, δ, S, h.mono δ (fun c k H1 s1 => ?_) q⟩⟩
  exact ite_mono c (fun k => ⟨Hb, B, O, δ, S.grow s1, ha.mono δ (fun d k v H2 s2 a => k v H2 (s1.trans s2) a) k⟩) (fun k => ⟨Hb, B, O, δ, S.grow s1, hb.mono δ (fun d k v H2 s2 a => k v H2 (s1.trans s2) a) k⟩) k
/-- is None -/
def isNon : D → Bool
  | .non => true
  | _ => false
theorem isNon_at {O : List Addr} {H : Hp} {v : V} {d : D} (a : OAt K O H v d) : decide (v = .non) = isNon d := by
  cases d with
  | non => rw [a.non]; rfl
  | bl b => rw [a.bl]; rfl
  | int i => rw [a.int]; rfl
  | str i => rw [a.str]; rfl
  | lst l => obtain ⟨p, vs, rfl, _⟩ := a.list; rfl
  | tup l => obtain ⟨p, vs, rfl, _⟩ := a.tuple; rfl
  | scr l => obtain ⟨p, vs, rfl, _⟩ := a.script; rfl
  | dic ks l => obtain ⟨p, vs, rfl, _⟩ := a.dict; rfl
  | ref p => cases a with | at_ a => cases a; rfl
def dIsN (neg : Bool) (x : DX) : DX := fun δ Q => x δ fun d => Q (.bl (if neg then !isNon d else isNon d))
theorem d_isN {x : DX} {j pos'} (h : QD X K a x) : PD X K (.Compare a [.Is] [.Constant .none j pos'] pos) (dIsN false x) := by
  refine ⟨fun δ Q Q' i q => h.mono δ (fun d => i _) q, pe_weak (pe_cmp (pc_isN h.pe) rfl) fun σ H Q ⟨Hb, B, O, δ, S, q⟩ => ⟨Hb, B, O, δ, S, h.mono δ (fun d k v H1 s1 a => ?_) q⟩⟩
  dsimp only
  rw [isNon_at a]
  exact k _ H1 s1 (.bl _)
theorem d_notN {x : DX} {j pos'} (h : QD X K a x) : PD X K (.Compare a [.IsNot] [.Constant .none j pos'] pos) (dIsN true x) := by
  refine ⟨fun δ Q Q' i q => h.mono δ (fun d => i _) q, pe_weak (pe_cmp (pc_notN h.pe) rfl) fun σ H Q ⟨Hb, B, O, δ, S, q⟩ => ⟨Hb, B, O, δ, S, h.mono δ (fun d k v H1 s1 a => ?_) q⟩⟩
  dsimp only
  rw [isNon_at a]
  exact k _ H1 s1 (.bl _)
theorem t_isN {x : DX} {j pos'} (h : QD X K a x) : TD X K (.Compare a [.Is] [.Constant .none j pos'] pos) (tOf (dIsN false x)) := by
  refine ⟨fun δ Q Q' i q => h.mono δ (fun d => i _) q, pt_weak (pt_cmp (pc_isN h.pe) rfl) fun σ H Q ⟨Hb, B, O, δ, S, q⟩ => ⟨Hb, B, O, δ, S, h.mono δ (fun d k v H1 s1 a => ?_) q⟩⟩
  dsimp only
  rw [isNon_at a]
  exact ⟨_, rfl, k H1 s1⟩
theorem t_notN {x : DX} {j pos'} (h : QD X K a x) : TD X K (.Compare a [.IsNot] [.Constant .none j pos'] pos) (tOf (dIsN true x)) := by
  refine ⟨fun δ Q Q' i q => h.mono δ (fun d => i _) q, pt_weak (pt_cmp (pc_notN h.pe) rfl) fun σ H Q ⟨Hb, B, O, δ, S, q⟩ => ⟨Hb, B, O, δ, S, h.mono δ (fun d k v H1 s1 a => ?_) q⟩⟩
  dsimp only
  rw [isNon_at a]
  exact ⟨_, rfl, k H1 s1⟩
/-- a <= b < c -/
def tChD (o o' : D → D → (D → Prop) → Prop) (x y z : DX) : DT := fun δ Q => x δ fun a => y δ fun b => o a b (asB fun k => if k = true then z δ fun c => o' b c (asB Q) else Q false)
def dChD (o o' : D → D → (D → Prop) → Prop) (x y z : DX) : DX := fun δ Q => tChD o o' x y z δ fun b => Q (.bl b)
end
end DL

namespace DL
open PySem L2
section
variable {X : Cx} {K : PySem.W.Frag} {e a b c : Expr} {pos : Pos}
theorem opR_or {f : Value → Value → Sem Value} {r r' : R2} (h : OpR X f r) (h' : OpR X f r') : OpR X f (fun x y H Q => r x y H Q ∨ r' x y H Q) := by
  intro pins s σ H x y v u Q I rx ry q
  rcases q with q | q
  · exact h pins s σ H x y v u Q I rx ry q
  · exact h' pins s σ H x y v u Q I rx ry q
theorem callR_or {f : Value} {r r' : List V → Hp → VK → Prop} (h : CallR X f r) (h' : CallR X f r') : CallR X f (fun x H Q => r x H Q ∨ r' x H Q) := by
  intro pins s σ H x u Q I rx q
  rcases q with q | q
  · exact h pins s σ H x u Q I rx q
  · exact h' pins s σ H x u Q I rx q
/-! ### ints -/
def oI (g : Int → Int → D) : D → D → (D → Prop) → Prop
  | .int i, .int j, Q => Q (g i j)
  | _, _, _ => False
def oIc (C : Int → Int → Prop) (g : Int → Int → D) : D → D → (D → Prop) → Prop
  | .int i, .int j, Q => C i j ∧ Q (g i j)
  | _, _, _ => False
theorem oI_mono {g : Int → Int → D} (a b : D) {Q Q' : D → Prop} (i : ∀ d, Q d → Q' d) (q : oI g a b Q) : oI g a b Q' := by
  unfold oI at q ⊢
  split at q
  · exact i _ q
  · exact q
theorem oIc_mono {C : Int → Int → Prop} {g : Int → Int → D} (a b : D) {Q Q' : D → Prop} (i : ∀ d, Q d → Q' d) (q : oIc C g a b Q) : oIc C g a b Q' := by
  unfold oIc at q ⊢
  split at q
  · exact ⟨q.1, i _ q.2⟩
  · exact q
theorem opI_d {f : Value → Value → Sem Value} {g : Int → Int → V} {g' : Int → Int → D} (h : OpR X f (rI0 g)) (k : ∀ i j H, At K H (g i j) (g' i j)) : OpD X K f (oI g') := by
  refine ⟨fun a b Q Q' => oI_mono a b, _, h, fun O H x y a b Q l ax ay q => ?_⟩
  unfold oI at q
  split at q
  · exact ⟨_, _, ax.int, ay.int, q _ H (.refl H) (k _ _ _)⟩
  · exact q.elim
theorem opIc_d {f : Value → Value → Sem Value} {C : Int → Int → Prop} {g : Int → Int → V} {g' : Int → Int → D} (h : OpR X f (rI C g)) (k : ∀ i j H, At K H (g i j) (g' i j)) : OpD X K f (oIc C g') := by
  refine ⟨fun a b Q Q' => oIc_mono a b, _, h, fun O H x y a b Q l ax ay q => ?_⟩
  unfold oIc at q
  split at q
  · exact ⟨_, _, ax.int, ay.int, q.1, q.2 _ H (.refl H) (k _ _ _)⟩
  · exact q.elim
abbrev oSub := oI fun i j => .int (i - j)
theorem o_sub : OpD X K (binaryOp .Sub) oSub := opI_d op_sub fun i j H => .int _
abbrev oMod := oIc (fun _ j => 0 < j) fun i j => .int (i % j)
theorem o_mod : OpD X K (binaryOp .Mod) oMod := opIc_d op_mod fun i j H => .int _
abbrev oDiv := oIc CDivW fun i j => .int (i / j)
theorem o_div : OpD X K (binaryOp .FloorDiv) oDiv := opIc_d op_fdivW fun i j H => .int _
abbrev oPow := oIc CPow fun i j => .int (i ^ j.toNat)
theorem o_pow : OpD X K (binaryOp .Pow) oPow := opIc_d op_pow fun i j H => .int _
abbrev oShl := oIc CPow fun i j => .int (i * 2 ^ j.toNat)
theorem o_shl : OpD X K (binaryOp .LShift) oShl := opIc_d op_shl fun i j H => .int _
abbrev oLt := oI fun i j => .bl (decide (i < j))
abbrev oLe := oI fun i j => .bl (decide (i ≤ j))
abbrev oGt := oI fun i j => .bl (decide (j < i))
abbrev oGe := oI fun i j => .bl (decide (j ≤ i))
theorem o_lt : OpD X K (compareOp .Lt) oLt := opI_d op_lt fun i j H => .bl _
theorem o_le : OpD X K (compareOp .LtE) oLe := opI_d op_le fun i j H => .bl _
theorem o_gt : OpD X K (compareOp .Gt) oGt := opI_d op_gt fun i j H => .bl _
theorem o_ge : OpD X K (compareOp .GtE) oGe := opI_d op_ge fun i j H => .bl _
/-! ### + -/
def oAdd : D → D → (D → Prop) → Prop
  | .int i, .int j, Q => Q (.int (i + j))
  | .str x, .str y, Q => x.length + y.length ≤ LIM ∧ Q (.str (x ++ y))
  | .tup l, .tup m, Q => l.length + m.length ≤ LIM ∧ Q (.tup (l ++ m))
  | .lst l, .lst m, Q => l.length + m.length ≤ LIM ∧ Q (.lst (l ++ m))
  | _, _, _ => False
theorem oAdd_mono (a b : D) {Q Q' : D → Prop} (i : ∀ d, Q d → Q' d) (q : oAdd a b Q) : oAdd a b Q' := by
  unfold oAdd at q ⊢
  split at q
  · exact i _ q
  · exact ⟨q.1, i _ q.2⟩
  · exact ⟨q.1, i _ q.2⟩
  · exact ⟨q.1, i _ q.2⟩
  · exact q
theorem lim_sz {n : Nat} (h : n ≤ LIM) : n ≤ sizeLine := Nat.le_of_lt (Nat.lt_of_le_of_lt h LIM_size)
theorem o_add (hK : X.K = K := by rfl) : OpD X K (binaryOp .Add) oAdd := by
  subst hK
  refine ⟨fun a b Q Q' => oAdd_mono a b, _, opR_or op_add (opR_or op_add_str (opR_or op_catA op_cat)), fun O H x y a b Q l ax ay q => ?_⟩
  unfold oAdd at q
  split at q
  · exact .inl ⟨_, _, ax.int, ay.int, q _ H (.refl H) (.int _)⟩
  · exact .inr (.inl ⟨_, _, ax.str, ay.str, lim_sz q.1, q.2 _ H (.refl H) (.str _)⟩)
  · obtain ⟨p, vs, rfl, h1, h2, h3, h4⟩ := ax.tuple
    obtain ⟨r, ws, rfl, g1, g2, g3, g4⟩ := ay.tuple
    refine .inr (.inr (.inl ⟨p, r, vs, ws, rfl, rfl, h1, g1, lim_sz (by rw [h3.len, g3.len]; exact q.1), fun e => ?_, fun _ e => ?_, fun _ _ t n => ?_⟩))
    · subst e
      cases h3
      exact q.2 _ H (.refl H) (.tup g4 g2 g3)
    · subst e
      cases g3
      exact q.2 _ H (.refl H) (by rw [List.append_nil]; exact .tup h4 h2 h3)
    · exact q.2 _ _ (same_new n) (At.newT l n (by rw [List.length_append]; exact q.1) (h3.append g3))
  · obtain ⟨p, vs, rfl, h1, h2, h3⟩ := ax.list
    obtain ⟨r, ws, rfl, g1, g2, g3⟩ := ay.list
    exact .inr (.inr (.inr ⟨p, r, vs, ws, rfl, rfl, h1, g1, lim_sz (by rw [h3.len, g3.len]; exact q.1), fun t n => q.2 _ _ (same_new n) (At.newL l n (by rw [List.length_append]; exact q.1) (h3.append g3))⟩))
  · exact q.elim
/-- two lists, a new one -/
def oCat : D → D → (List D → Prop) → Prop
  | .lst l, .lst m, Q => l.length + m.length ≤ LIM ∧ Q (l ++ m)
  | _, _, _ => False
theorem o_cat (hK : X.K = K := by rfl) : OpF X K (binaryOp .Add) oCat := by
  subst hK
  refine ⟨fun a b Q Q' i q => ?_, _, op_cat, fun O H x y a b Q l ax ay q => ?_⟩
  · unfold oCat at q ⊢
    split at q
    · exact ⟨q.1, i _ q.2⟩
    · exact q
  · unfold oCat at q
    split at q
    · obtain ⟨p, vs, rfl, h1, h2, h3⟩ := ax.list
      obtain ⟨r, ws, rfl, g1, g2, g3⟩ := ay.list
      exact ⟨p, r, vs, ws, rfl, rfl, h1, g1, lim_sz (by rw [h3.len, g3.len]; exact q.1), fun t n => q.2 t _ _ (same_new n) n upd_same (by rw [List.length_append]; exact q.1) ((h3.append g3).mono (hid_new n (same_new n)))⟩
    · exact q.elim
/-! ### * -/
def repD (l : List D) : Nat → List D
  | 0 => []
  | n + 1 => l ++ repD l n
theorem rep_len (l : List D) : ∀ n, (repD l n).length = l.length * n
  | 0 => by simp [repD]
  | n + 1 => by rw [repD, List.length_append, rep_len l n, Nat.mul_succ, Nat.add_comm]
theorem rep_at {H : Hp} {vs : List V} {l : List D} (h : AtAll K H vs l) : ∀ n, AtAll K H ((List.replicate n vs).flatten) (repD l n)
  | 0 => .nil
  | n + 1 => by
    rw [List.replicate_succ, List.flatten_cons, repD]
    exact h.append (rep_at h n)
def mulOk (i j : Int) : Prop := CMul i j ∨ CMulW i j
theorem op_mulA : OpR X (binaryOp .Mult) (rI mulOk fun i j => .int (i * j)) := by
  intro pins s σ H x y v u Q I rx ry q
  obtain ⟨i, j, e1, e2, c, q⟩ := q
  rcases c with c | c
  · exact op_mul pins s σ H x y v u Q I rx ry ⟨i, j, e1, e2, c, q⟩
  · exact op_mulW pins s σ H x y v u Q I rx ry ⟨i, j, e1, e2, c, q⟩
def oMul : D → D → (D → Prop) → Prop
  | .int i, .int j, Q => mulOk i j ∧ Q (.int (i * j))
  | .lst l, .int k, Q => (0 ≤ k ∧ k ≤ 1000000 ∧ l.length * k.toNat ≤ LIM) ∧ Q (.lst (repD l k.toNat))
  | _, _, _ => False
theorem oMul_mono (a b : D) {Q Q' : D → Prop} (i : ∀ d, Q d → Q' d) (q : oMul a b Q) : oMul a b Q' := by
  unfold oMul at q ⊢
  split at q
  · exact ⟨q.1, i _ q.2⟩
  · exact ⟨q.1, i _ q.2⟩
  · exact q
theorem o_mul (hK : X.K = K := by rfl) : OpD X K (binaryOp .Mult) oMul := by
  subst hK
  refine ⟨fun a b Q Q' => oMul_mono a b, _, opR_or op_mulA op_rep, fun O H x y a b Q l ax ay q => ?_⟩
  unfold oMul at q
  split at q
  · exact .inl ⟨_, _, ax.int, ay.int, q.1, q.2 _ H (.refl H) (.int _)⟩
  · obtain ⟨p, vs, rfl, h1, h2, h3⟩ := ax.list
    obtain ⟨⟨k1, k2, k3⟩, q⟩ := q
    refine .inr ⟨p, _, vs, rfl, ay.int, h1, by omega, by omega, lim_sz (by rw [h3.len]; exact k3), fun t n => q _ _ (same_new n) (At.newL l n (by rw [rep_len]; exact k3) (rep_at h3 _))⟩
  · exact q.elim
def oRep : D → D → (List D → Prop) → Prop
  | .lst l, .int k, Q => (0 ≤ k ∧ k ≤ 1000000 ∧ l.length * k.toNat ≤ LIM) ∧ Q (repD l k.toNat)
  | _, _, _ => False
theorem o_rep (hK : X.K = K := by rfl) : OpF X K (binaryOp .Mult) oRep := by
  subst hK
  refine ⟨fun a b Q Q' i q => ?_, _, op_rep, fun O H x y a b Q l ax ay q => ?_⟩
  · unfold oRep at q ⊢
    split at q
    · exact ⟨q.1, i _ q.2⟩
    · exact q
  · unfold oRep at q
    split at q
    · obtain ⟨p, vs, rfl, h1, h2, h3⟩ := ax.list
      obtain ⟨⟨k1, k2, k3⟩, q⟩ := q
      exact ⟨p, _, vs, rfl, ay.int, h1, by omega, by omega, lim_sz (by rw [h3.len]; exact k3), fun t n => q t _ _ (same_new n) n upd_same (by rw [rep_len]; exact k3) ((rep_at h3 _).mono (hid_new n (same_new n)))⟩
    · exact q.elim
/-! ### == -/
mutual
def toP : D → PyData
  | .non => .none
  | .bl b => .bool b
  | .int i => .int i
  | .str s => .str s
  | .tup l => .tuple (toPs l)
  | .lst l => .list (toPs l)
  | .scr l => .list (toPs l)
  | .dic _ _ => .none
  | .ref _ => .none
def toPs : List D → List PyData
  | [] => []
  | d :: ds => toP d :: toPs ds
end
mutual
def isDat : D → Bool
  | .non | .bl _ | .int _ | .str _ => true
  | .tup l | .lst l => isDats l
  | .scr l => isDats l
  | .dic _ _ | .ref _ => false
def isDats : List D → Bool
  | [] => true
  | d :: ds => isDat d && isDats ds
end
mutual
theorem At.dp {H : Hp} {v : V} {d : D} : At K H v d → isDat d = true → Dp K H v (toP d)
  | .non, _ => .non
  | .bl b, _ => .bl b
  | .int i, _ => .int i
  | .str z, _ => .str z
  | .ref a, h => by cases h
  | .tup e _ r, h => .tup e (AtAll.dp r h)
  | .lst e _ r, h => .lst (.inl (.inl e)) (AtAll.dp r h)
  | .scr e _ r, h => .lst e (AtAll.dp r h)
  | .dic _ _ _ _, h => by cases h
theorem AtAll.dp {H : Hp} {vs : List V} {ds : List D} : AtAll K H vs ds → isDats ds = true → DpAll K H vs (toPs ds)
  | .nil, _ => .nil
  | .cons a r, h => by
    unfold isDats at h
    rw [Bool.and_eq_true] at h
    exact .cons (At.dp a h.1) (AtAll.dp r h.2)
end
def okD (d : D) : Bool := isDat d && SeqAt.shaped (toP d)
def eqD (a b : D) : Bool := PyData.eqv (toP a) (toP b)
/-- == : Q is asked of its answer -/
def oEqB (Q : Bool → Prop) : D → D → Prop
  | .int i, .int j => Q (decide (i = j))
  | a, b => (okD a = true ∧ okD b = true) ∧ Q (eqD a b)
theorem oEqB_mono {Q Q' : Bool → Prop} (a b : D) (i : ∀ d, Q d → Q' d) (q : oEqB Q a b) : oEqB Q' a b := by
  unfold oEqB at q ⊢
  split at q
  · exact i _ q
  · exact ⟨q.1, i _ q.2⟩
theorem oEqB_at {O : List Addr} {H : Hp} {x y : V} {a b : D} {Q : Bool → Prop} (ax : OAt K O H x a) (ay : OAt K O H y b) (q : oEqB Q a b) : ∃ d e, Dp K H x d ∧ Dp K H y e ∧ SeqAt.shaped d = true ∧ SeqAt.shaped e = true ∧ Q (PyData.eqv d e) := by
  unfold oEqB at q
  split at q
  · rename_i i j
    rw [ax.int, ay.int]
    refine ⟨_, _, .int i, .int j, rfl, rfl, ?_⟩
    have : PyData.eqv (.int i) (.int j) = decide (i = j) := Bool.beq_eq_decide_eq i j
    rw [this]; exact q
  · obtain ⟨⟨h1, h2⟩, q⟩ := q
    unfold okD at h1 h2
    rw [Bool.and_eq_true] at h1 h2
    exact ⟨_, _, ax.plain.dp h1.1, ay.plain.dp h2.1, h1.2, h2.2, q⟩
def oEq : D → D → (D → Prop) → Prop := fun a b Q => oEqB (fun k => Q (.bl k)) a b
def oNe : D → D → (D → Prop) → Prop := fun a b Q => oEqB (fun k => Q (.bl (!k))) a b
theorem o_eq (hu : X.A.units + 64 < cLine) (hK : X.K = K := by rfl) : OpD X K (compareOp .Eq) oEq := by
  subst hK
  refine ⟨fun a b Q Q' i => oEqB_mono a b fun _ => i _, _, op_eqD hu, fun O H x y a b Q l ax ay q => ?_⟩
  obtain ⟨d, e, h1, h2, h3, h4, q⟩ := oEqB_at ax ay q
  exact ⟨d, e, h1, h2, h3, h4, q _ H (.refl H) (.bl _)⟩
theorem o_ne (hu : X.A.units + 64 < cLine) (hK : X.K = K := by rfl) : OpD X K (compareOp .NotEq) oNe := by
  subst hK
  refine ⟨fun a b Q Q' i => oEqB_mono a b fun _ => i _, _, op_neD hu, fun O H x y a b Q l ax ay q => ?_⟩
  obtain ⟨d, e, h1, h2, h3, h4, q⟩ := oEqB_at ax ay q
  exact ⟨d, e, h1, h2, h3, h4, q _ H (.refl H) (.bl _)⟩
mutual
theorem eqv_refl : ∀ d : PyData, d.canLay0 = true → PyData.eqv d d = true
  | .none, _ => rfl
  | .bool b, _ => by unfold PyData.eqv; exact beq_self_eq_true b
  | .int i, _ => by unfold PyData.eqv; exact beq_self_eq_true i
  | .str x, _ => by unfold PyData.eqv; exact beq_self_eq_true x
  | .list xs, h => by unfold PyData.eqv; exact eqv_refls xs (by unfold PyData.canLay0 at h; exact h)
  | .tuple xs, h => by unfold PyData.eqv; exact eqv_refls xs (by unfold PyData.canLay0 at h; exact h)
  | .dict kvs, h => by unfold PyData.canLay0 at h; cases h
theorem eqv_refls : ∀ ds : List PyData, PyData.canLayAll0 ds = true → PyData.eqvAll ds ds = true
  | [], _ => by unfold PyData.eqvAll; rfl
  | d :: ds, h => by
    unfold PyData.canLayAll0 at h
    rw [Bool.and_eq_true] at h
    unfold PyData.eqvAll
    rw [eqv_refl d h.1, eqv_refls ds h.2]; rfl
end
theorem eqD_refl {d : D} (h : okD d = true) : eqD d d = true := by
  unfold okD at h
  rw [Bool.and_eq_true] at h
  exact eqv_refl _ (SeqAt.canLay_of_shaped h.2)
/-- the same on both sides -/
theorem oEqB_refl {Q : Bool → Prop} {d : D} (h : okD d = true) (q : Q true) : oEqB Q d d := by
  have r : Q (eqD d d) := by rw [eqD_refl h]; exact q
  cases d with
  | int i => show Q (decide (i = i)); rw [decide_eq_true rfl]; exact q
  | non | bl b | str s | tup l | lst l | scr l | dic ks vs | ref a => exact ⟨⟨h, h⟩, r⟩
/-! ### subscripts -/
def onSome {α : Type} (o : Option α) (Q : α → Prop) : Prop := match o with
  | some x => Q x
  | none => False
theorem onSome_of {α : Type} {o : Option α} {x : α} {Q : α → Prop} (h : o = some x) (q : Q x) : onSome o Q := by rw [h]; exact q
theorem of_onSome {α : Type} {o : Option α} {Q : α → Prop} (h : onSome o Q) : ∃ x, o = some x ∧ Q x := by
  cases o with
  | none => exact h.elim
  | some x => exact ⟨x, rfl, h⟩
theorem onSome_mono {α : Type} {o : Option α} {Q Q' : α → Prop} (i : ∀ x, Q x → Q' x) (h : onSome o Q) : onSome o Q' := by
  cases o with
  | none => exact h
  | some x => exact i x h
def ixD {α : Type} (l : List α) : Int → Option α
  | .ofNat n => l[n]?
  | .negSucc m => if m < l.length then l[l.length - (m + 1)]? else none
theorem ixD_at {α : Type} (l : List α) (k : Int) : ixD l k = atI l k := by
  unfold ixD atI ixN
  cases k with
  | ofNat n =>
    have e : (Int.ofNat n) = (n : Int) := rfl
    by_cases h : n < l.length
    · rw [if_pos (by omega), if_pos (by rw [e]; omega)]
      rfl
    · rw [if_pos (by omega), if_neg (by rw [e]; omega)]
      exact List.getElem?_eq_none_iff.mpr (by omega)
  | negSucc m =>
    have e : Int.negSucc m = -((m : Int) + 1) := by omega
    by_cases h : m < l.length
    · show (if m < l.length then _ else _) = _
      rw [if_pos h, if_neg (by omega), if_pos (by omega)]
      show _ = l[(Int.negSucc m + (l.length : Int)).toNat]?
      congr 1
      omega
    · show (if m < l.length then _ else _) = _
      rw [if_neg h, if_neg (by omega), if_neg (by omega)]
      rfl
theorem ixD_V {H : Hp} {vs : List V} {l : List D} (h : AtAll K H vs l) {k : Int} {d : D} (q : ixD l k = some d) : ∃ v, atI vs k = some v ∧ At K H v d := by
  rw [← ixD_at]
  unfold ixD at q ⊢
  cases k with
  | ofNat n => exact h.get' q
  | negSucc m =>
    dsimp only at q ⊢
    rw [h.len]
    by_cases c : m < l.length
    · rw [if_pos c] at q ⊢; exact h.get' q
    · rw [if_neg c] at q; cases q
def oIx : D → D → (D → Prop) → Prop
  | .lst l, .int k, Q => onSome (ixD l k) Q
  | .tup l, .int k, Q => onSome (ixD l k) Q
  | .scr l, .int k, Q => onSome (ixD l k) Q
  | .str z, .int k, Q => z.length ≤ LIM ∧ onSome (ixD z.cps.toList k) fun c => Q (.str ⟨#[c]⟩)
  | _, _, _ => False
theorem oIx_mono (a b : D) {Q Q' : D → Prop} (i : ∀ d, Q d → Q' d) (q : oIx a b Q) : oIx a b Q' := by
  unfold oIx at q ⊢
  split at q
  · exact onSome_mono i q
  · exact onSome_mono i q
  · exact onSome_mono i q
  · exact ⟨q.1, onSome_mono (fun c => i _) q.2⟩
  · exact q
theorem d_ix {x y : DX} (ha : QD X K a x) (hb : QD X K b y) (hK : X.K = K := by rfl) (hs : PlainIx b := by exact fun _ _ => rfl) : PD X K (.Subscript a b pos) (dOp oIx x y) := by
  subst hK
  refine ⟨fun δ Q Q' i q => ha.mono δ (fun d => hb.mono δ fun e => oIx_mono d e i) q, pe_weak (pe_ix ix_seq ha.pe hb.pe hs) fun σ H Q ⟨Hb, B, O, δ, S, q⟩ => bin_imp ha hb S q fun u v H2 d e s l au av g => ?_⟩
  unfold oIx at g
  split at g
  · obtain ⟨x, g1, g2⟩ := of_onSome g
    obtain ⟨p, vs, rfl, h1, h2, h3⟩ := au.list
    obtain ⟨w, h4, h5⟩ := ixD_V h3 g1
    exact .inl ⟨p, vs, _, w, rfl, av.int, .inl (.inl h1), h4, g2 w H2 s h5⟩
  · obtain ⟨x, g1, g2⟩ := of_onSome g
    obtain ⟨p, vs, rfl, h1, h2, h3, _⟩ := au.tuple
    obtain ⟨w, h4, h5⟩ := ixD_V h3 g1
    exact .inr (.inl ⟨p, vs, _, w, rfl, av.int, h1, h4, g2 w H2 s h5⟩)
  · obtain ⟨x, g1, g2⟩ := of_onSome g
    obtain ⟨p, vs, rfl, h1, h2, h3⟩ := au.script
    obtain ⟨w, h4, h5⟩ := ixD_V h3 g1
    exact .inl ⟨p, vs, _, w, rfl, av.int, h1, h4, g2 w H2 s h5⟩
  · obtain ⟨gl, g⟩ := g
    obtain ⟨x, g1, g2⟩ := of_onSome g
    rw [ixD_at] at g1
    exact .inr (.inr ⟨_, _, x, au.str, av.int, lim_sz gl, g1, g2 _ H2 s (.str _)⟩)
  · exact g.elim
/-! ### slices -/
abbrev DO := List Sl → (Option Int → Prop) → Prop
def tPo (K : PySem.W.Frag) (x : DO) : TO := fun σ H Q => ∃ Hb B O δ, Sta K Hb B O H σ δ ∧ x δ fun i => ∀ H', Same H H' → Q i H'
structure OD (X : Cx) (K : PySem.W.Frag) (e : Option Expr) (x : DO) : Prop where
  mono : ∀ δ {Q Q' : Option Int → Prop}, (∀ d, Q d → Q' d) → x δ Q → x δ Q'
  po : PO X e (tPo K x)
theorem po_weak {e : Option Expr} {t t' : TO} (h : PO X e t) (i : ∀ σ H Q, t' σ H Q → t σ H Q) : PO X e t' := ⟨fun pins s σ H Q I q => h.run pins s σ H Q I (i _ _ _ q)⟩
theorem o_none : OD X K none (fun _ Q => Q none) := ⟨fun δ Q Q' i q => i _ q, po_weak po_none fun σ H Q ⟨Hb, B, O, δ, S, q⟩ => q H (.refl H)⟩
def asI (Q : Int → Prop) : D → Prop
  | .int i => Q i
  | _ => False
theorem asI_mono {Q Q' : Int → Prop} (h : ∀ b, Q b → Q' b) : ∀ d, asI Q d → asI Q' d
  | .int b, q => h b q
  | .non, q | .bl _, q | .str _, q | .tup _, q | .lst _, q | .scr _, q | .dic _ _, q | .ref _, q => q.elim
theorem asI_at {Q : Int → Prop} {O : List Addr} {H : Hp} {v : V} : ∀ {d : D}, asI Q d → OAt K O H v d → ∃ b, v = .int b ∧ Q b
  | .int b, q, a => ⟨b, a.int, q⟩
  | .non, q, _ | .bl _, q, _ | .str _, q, _ | .tup _, q, _ | .lst _, q, _ | .scr _, q, _ | .dic _ _, q, _ | .ref _, q, _ => q.elim
theorem o_some {x : DX} (h : QD X K e x) : OD X K (some e) (fun δ Q => x δ (asI fun i => Q (some i))) := by
  refine ⟨fun δ Q Q' i q => h.mono δ (asI_mono fun _ => i _) q, po_weak (po_some h.pe) fun σ H Q ⟨Hb, B, O, δ, S, q⟩ => ⟨Hb, B, O, δ, S, h.mono δ (fun d k v H' s a => ?_) q⟩⟩
  obtain ⟨i, rfl, k⟩ := asI_at k a
  exact ⟨i, rfl, k H' s⟩
def cutD {α : Type} (l : List α) (lo hi : Option Int) : List α := (l.drop (HT.sIx l.length 0 lo)).take (HT.sIx l.length l.length hi - HT.sIx l.length 0 lo)
theorem cutD_len {α : Type} (l : List α) (lo hi : Option Int) : (cutD l lo hi).length ≤ l.length := by
  unfold cutD
  rw [List.length_take, List.length_drop]
  omega
theorem cut_at {H : Hp} {vs : List V} {l : List D} (h : AtAll K H vs l) (lo hi : Option Int) : AtAll K H (cutV vs lo hi) (cutD l lo hi) := by
  unfold cutV cutD
  rw [h.len]
  exact (h.drop _).take _
def fSl (Q : List D → Prop) : D → Option Int → Option Int → Prop
  | .lst l, lo, hi => Q (cutD l lo hi)
  | .scr l, lo, hi => Q (cutD l lo hi)
  | _, _, _ => False
theorem fSl_mono {Q Q' : List D → Prop} (i : ∀ x, Q x → Q' x) (d : D) (lo hi : Option Int) (q : fSl Q d lo hi) : fSl Q' d lo hi := by
  unfold fSl at q ⊢
  split at q
  · exact i _ q
  · exact i _ q
  · exact q
theorem f_slice {lo hi : Option Expr} {p2 : Pos} {x : DX} {y z : DO} (ha : QD X K a x) (hl : OD X K lo y) (hh : OD X K hi z) (hK : X.K = K := by rfl) : FD X K (.Subscript a (.Slice lo hi none p2) pos) (fun δ Q => x δ fun d => y δ fun l => z δ fun u => fSl Q d l u) := by
  subst hK
  refine ⟨fun δ Q Q' i q => ha.mono δ (fun d => hl.mono δ fun l => hh.mono δ fun u => fSl_mono i d l u) q, pe_weak (pe_slice sl_list ha.pe hl.po hh.po) fun σ H Q ⟨Hb, B, O, δ, S, q⟩ =>
    ⟨Hb, B, O, δ, S, ha.mono δ (fun d g u H1 s1 au => ⟨Hb, B, O, δ, S.grow s1, hl.mono δ (fun l g H2 s2 => ⟨Hb, B, O, δ, S.grow (s1.trans s2), hh.mono δ (fun h g H3 s3 => ?_) g⟩) g⟩) q⟩⟩
  have au := au.grow (s2.trans s3)
  have s := s1.trans (s2.trans s3)
  unfold fSl at g
  split at g
  · obtain ⟨p, vs, rfl, h1, h2, h3⟩ := au.list
    exact ⟨p, vs, rfl, .inl (.inl h1), fun t n => g t _ _ (s.trans (same_new n)) (s.free n) upd_same (Nat.le_trans (cutD_len _ _ _) h2) ((cut_at h3 _ _).mono (hid_new n (same_new n)))⟩
  · obtain ⟨p, vs, rfl, h1, h2, h3⟩ := au.script
    exact ⟨p, vs, rfl, h1, fun t n => g t _ _ (s.trans (same_new n)) (s.free n) upd_same (Nat.le_trans (cutD_len _ _ _) h2) ((cut_at h3 _ _).mono (hid_new n (same_new n)))⟩
  · exact g.elim
def dSlT (Q : D → Prop) : D → Option Int → Option Int → Prop
  | .tup l, lo, hi => Q (.tup (cutD l lo hi))
  | _, _, _ => False
theorem dSlT_mono {Q Q' : D → Prop} (i : ∀ x, Q x → Q' x) (d : D) (lo hi : Option Int) (q : dSlT Q d lo hi) : dSlT Q' d lo hi := by
  unfold dSlT at q ⊢
  split at q
  · exact i _ q
  · exact q
theorem d_sliceT {lo hi : Option Expr} {p2 : Pos} {x : DX} {y z : DO} (ha : QD X K a x) (hl : OD X K lo y) (hh : OD X K hi z) (hK : X.K = K := by rfl) : PD X K (.Subscript a (.Slice lo hi none p2) pos) (fun δ Q => x δ fun d => y δ fun l => z δ fun u => dSlT Q d l u) := by
  subst hK
  refine ⟨fun δ Q Q' i q => ha.mono δ (fun d => hl.mono δ fun l => hh.mono δ fun u => dSlT_mono i d l u) q, pe_weak (pe_slice sl_tupA ha.pe hl.po hh.po) fun σ H Q ⟨Hb, B, O, δ, S, q⟩ =>
    ⟨Hb, B, O, δ, S, ha.mono δ (fun d g u H1 s1 au => ⟨Hb, B, O, δ, S.grow s1, hl.mono δ (fun l g H2 s2 => ⟨Hb, B, O, δ, S.grow (s1.trans s2), hh.mono δ (fun h g H3 s3 => ?_) g⟩) g⟩) q⟩⟩
  have au := au.grow (s2.trans s3)
  have s := s1.trans (s2.trans s3)
  unfold dSlT at g
  split at g
  · obtain ⟨p, vs, rfl, h1, h2, h3, h4⟩ := au.tuple
    refine ⟨p, vs, rfl, h1, fun w => g _ H3 s ?_, fun w t n => g _ _ (s.trans (same_new n)) (At.newT (fun b hb => live_same (S.live b hb) s) n (Nat.le_trans (cutD_len _ _ _) h2) (cut_at h3 _ _))⟩
    have e : ∀ lst : List D, lst.length = vs.length → cutD lst l h = lst := fun lst hl => by
      unfold cutD
      rw [hl, w.1, w.2, List.drop_zero, Nat.sub_zero, ← hl, List.take_length]
    rw [e _ h3.len.symm]
    exact .tup h4 h2 h3
  · exact g.elim
end
end DL

namespace DL
open PySem L2
section
variable {X : Cx} {K : PySem.W.Frag} {e a b c : Expr} {pos : Pos}
/-! ### chains of two comparisons -/
theorem t_chain {op op' : CmpOp} {o o' : D → D → (D → Prop) → Prop} {x y z : DX} (ho : OpD X K (compareOp op) o) (ho' : OpD X K (compareOp op') o') (ha : QD X K a x) (hb : QD X K b y) (hc : QD X K c z)
    (hm : lastMarks [op, op'] [b, c] = false := by with_unfolding_all rfl) : TD X K (.Compare a [op, op'] [b, c] pos) (tChD o o' x y z) := by
  obtain ⟨r, hr, hi⟩ := ho.ex
  obtain ⟨r', hr', hi'⟩ := ho'.ex
  refine ⟨fun δ Q Q' i q => ha.mono δ (fun d => hb.mono δ fun e => ho.mono d e (asB_mono fun k => ite_mono k (hc.mono δ fun c => ho'.mono e c (asB_mono i)) (i _))) q,
    pt_weak (pt_chain hr hr' ha.pe hb.pe hc.pe hm) fun σ H Q ⟨Hb, B, O, δ, S, q⟩ => ⟨Hb, B, O, δ, S, ha.mono δ (fun d g u H1 s1 au => ⟨Hb, B, O, δ, S.grow s1, hb.mono δ (fun e g v H2 s2 av => ?_) g⟩) q⟩⟩
  refine hi O H2 u v d e _ (fun p hp => live_same (live_same (S.live p hp) s1) s2) (au.grow s2) av (ho.mono d e (fun w k v' H3 s3 a3 => ?_) g)
  obtain ⟨k0, rfl, k⟩ := asB_at k (.at_ a3)
  refine ⟨k0, rfl, ite_mono k0 (fun k => ⟨Hb, B, O, δ, S.grow (s1.trans (s2.trans s3)), hc.mono δ (fun cd g w H4 s4 aw => ?_) k⟩) (fun k => ⟨false, rfl, k H3 (s1.trans (s2.trans s3))⟩) k⟩
  have s := s1.trans (s2.trans (s3.trans s4))
  refine hi' O H4 v w e cd _ (fun p hp => live_same (S.live p hp) s) (av.grow (s3.trans s4)) aw (ho'.mono e cd (fun w k v' H5 s5 a5 => ?_) g)
  obtain ⟨k1, rfl, k⟩ := asB_at k (.at_ a5)
  exact ⟨k1, rfl, k H5 (s.trans s5)⟩
theorem d_chain {op op' : CmpOp} {o o' : D → D → (D → Prop) → Prop} {x y z : DX} (ho : OpD X K (compareOp op) o) (ho' : OpD X K (compareOp op') o') (ha : QD X K a x) (hb : QD X K b y) (hc : QD X K c z)
    (hm : lastMarks [op, op'] [b, c] = false := by with_unfolding_all rfl) : PD X K (.Compare a [op, op'] [b, c] pos) (dChD o o' x y z) := by
  obtain ⟨r, hr, hi⟩ := ho.ex
  obtain ⟨r', hr', hi'⟩ := ho'.ex
  refine ⟨fun δ Q Q' i q => ha.mono δ (fun d => hb.mono δ fun e => ho.mono d e (asB_mono fun k => ite_mono k (hc.mono δ fun c => ho'.mono e c (asB_mono fun _ => i _)) (i _))) q,
    pe_weak (pe_chain hr hr' ha.pe hb.pe hc.pe hm) fun σ H Q ⟨Hb, B, O, δ, S, q⟩ => ⟨Hb, B, O, δ, S, ha.mono δ (fun d g u H1 s1 au => ⟨Hb, B, O, δ, S.grow s1, hb.mono δ (fun e g v H2 s2 av => ?_) g⟩) q⟩⟩
  refine hi O H2 u v d e _ (fun p hp => live_same (live_same (S.live p hp) s1) s2) (au.grow s2) av (ho.mono d e (fun w k v' H3 s3 a3 => ?_) g)
  obtain ⟨k0, rfl, k⟩ := asB_at k (.at_ a3)
  refine ⟨k0, rfl, ite_mono k0 (fun k => ⟨Hb, B, O, δ, S.grow (s1.trans (s2.trans s3)), hc.mono δ (fun cd g w H4 s4 aw => ?_) k⟩) (fun k => k _ H3 (s1.trans (s2.trans s3)) (.bl _)) k⟩
  have s := s1.trans (s2.trans (s3.trans s4))
  refine hi' O H4 v w e cd _ (fun p hp => live_same (S.live p hp) s) (av.grow (s3.trans s4)) aw (ho'.mono e cd (fun w k v' H5 s5 a5 => ?_) g)
  obtain ⟨k1, rfl, k⟩ := asB_at k (.at_ a5)
  exact k _ H5 (s.trans s5) (.bl _)
/-! ### calls of built-in functions -/
structure CaD (X : Cx) (K : PySem.W.Frag) (f : Value) (o : List D → (D → Prop) → Prop) : Prop where
  mono : ∀ ds {Q Q' : D → Prop}, (∀ d, Q d → Q' d) → o ds Q → o ds Q'
  ex : ∃ r, CallR X f r ∧ ∀ O H vs ds Q, (∀ p ∈ O, H p ≠ none) → OAll K O H vs ds → (o ds fun d => ∀ v H', Same H H' → At K (hid O H') v d → Q v H') → r vs H Q
structure CaF (X : Cx) (K : PySem.W.Frag) (f : Value) (o : List D → (List D → Prop) → Prop) : Prop where
  mono : ∀ ds {Q Q' : List D → Prop}, (∀ d, Q d → Q' d) → o ds Q → o ds Q'
  ex : ∃ r, CallR X f r ∧ ∀ O H vs ds Q, (∀ p ∈ O, H p ≠ none) → OAll K O H vs ds →
    (o ds fun l => ∀ p vs H', Same H H' → H p = none → H' p = some (.lst vs) → l.length ≤ LIM → AtAll K (hid (p :: O) H') vs l → Q (.ref p) H') → r vs H Q
def dCa (o : List D → (D → Prop) → Prop) (xs : List DX) : DX := fun δ Q => dArgs xs δ fun ds => o ds Q
def fCa (o : List D → (List D → Prop) → Prop) (xs : List DX) : DAs := fun δ Q => dArgs xs δ fun ds => o ds Q
theorem d_callB {o : List D → (D → Prop) → Prop} {x : Str} {id : String} {p : Pos} {es : List Expr} {xs : List DX} (ho : CaD X K (.builtin id) o) (hm : X.mg x = none) (ha : BD X K (e :: es) xs) (hg : Gl X x := by rfl) (hv : bootBuiltins x = some (.builtin id) := by decide +kernel) (hn : x ≠ "__name__" := by decide) (hdb : (x == ("__debug__" : Str)) = false := by decide)
    (he : starEach (e :: es) X.env = (false, eval e X.env) :: starEach es X.env := by rfl) (hpl : (backTo pos (starEach es X.env)).any (·.1) = false := by rfl) : PD X K (.Call (.Name x p) (e :: es) [] pos) (dCa o xs) := by
  obtain ⟨r, hr, hi⟩ := ho.ex
  refine ⟨fun δ Q Q' i q => ha.mono δ (fun ds => ho.mono ds i) q, pe_weak (pe_callB hr hg hm hv ha.pa hn hdb he hpl) fun σ H Q ⟨Hb, B, O, δ, S, q⟩ => ⟨Hb, B, O, δ, S, ha.mono δ (fun ds g vs H1 s1 as => ?_) q⟩⟩
  exact hi O H1 vs ds Q (fun p hp => live_same (S.live p hp) s1) as (ho.mono ds (fun d k v H' s a => k v H' (s1.trans s) a) g)
theorem d_callT {o : List D → (D → Prop) → Prop} {x : Str} {T : String} {p : Pos} {es : List Expr} {xs : List DX} (ho : CaD X K (.type T) o) (hm : X.mg x = none) (ha : BD X K (e :: es) xs) (hg : Gl X x := by rfl) (hv : bootBuiltins x = some (.type T) := by decide +kernel) (hn : x ≠ "__name__" := by decide) (hdb : (x == ("__debug__" : Str)) = false := by decide)
    (he : starEach (e :: es) X.env = (false, eval e X.env) :: starEach es X.env := by rfl) (hpl : (backTo pos (starEach es X.env)).any (·.1) = false := by rfl) : PD X K (.Call (.Name x p) (e :: es) [] pos) (dCa o xs) := by
  obtain ⟨r, hr, hi⟩ := ho.ex
  refine ⟨fun δ Q Q' i q => ha.mono δ (fun ds => ho.mono ds i) q, pe_weak (pe_callTy hr hg hm hv ha.pa hn hdb he hpl) fun σ H Q ⟨Hb, B, O, δ, S, q⟩ => ⟨Hb, B, O, δ, S, ha.mono δ (fun ds g vs H1 s1 as => ?_) q⟩⟩
  exact hi O H1 vs ds Q (fun p hp => live_same (S.live p hp) s1) as (ho.mono ds (fun d k v H' s a => k v H' (s1.trans s) a) g)
theorem f_callB {o : List D → (List D → Prop) → Prop} {x : Str} {id : String} {p : Pos} {es : List Expr} {xs : List DX} (ho : CaF X K (.builtin id) o) (hm : X.mg x = none) (ha : BD X K (e :: es) xs) (hg : Gl X x := by rfl) (hv : bootBuiltins x = some (.builtin id) := by decide +kernel) (hn : x ≠ "__name__" := by decide) (hdb : (x == ("__debug__" : Str)) = false := by decide)
    (he : starEach (e :: es) X.env = (false, eval e X.env) :: starEach es X.env := by rfl) (hpl : (backTo pos (starEach es X.env)).any (·.1) = false := by rfl) : FD X K (.Call (.Name x p) (e :: es) [] pos) (fCa o xs) := by
  obtain ⟨r, hr, hi⟩ := ho.ex
  refine ⟨fun δ Q Q' i q => ha.mono δ (fun ds => ho.mono ds i) q, pe_weak (pe_callB hr hg hm hv ha.pa hn hdb he hpl) fun σ H Q ⟨Hb, B, O, δ, S, q⟩ => ⟨Hb, B, O, δ, S, ha.mono δ (fun ds g vs H1 s1 as => ?_) q⟩⟩
  exact hi O H1 vs ds Q (fun p hp => live_same (S.live p hp) s1) as (ho.mono ds (fun l k p vs H' s n hp hl a => k p vs H' (s1.trans s) (s1.free n) hp hl a) g)
theorem f_callT {o : List D → (List D → Prop) → Prop} {x : Str} {T : String} {p : Pos} {es : List Expr} {xs : List DX} (ho : CaF X K (.type T) o) (hm : X.mg x = none) (ha : BD X K (e :: es) xs) (hg : Gl X x := by rfl) (hv : bootBuiltins x = some (.type T) := by decide +kernel) (hn : x ≠ "__name__" := by decide) (hdb : (x == ("__debug__" : Str)) = false := by decide)
    (he : starEach (e :: es) X.env = (false, eval e X.env) :: starEach es X.env := by rfl) (hpl : (backTo pos (starEach es X.env)).any (·.1) = false := by rfl) : FD X K (.Call (.Name x p) (e :: es) [] pos) (fCa o xs) := by
  obtain ⟨r, hr, hi⟩ := ho.ex
  refine ⟨fun δ Q Q' i q => ha.mono δ (fun ds => ho.mono ds i) q, pe_weak (pe_callTy hr hg hm hv ha.pa hn hdb he hpl) fun σ H Q ⟨Hb, B, O, δ, S, q⟩ => ⟨Hb, B, O, δ, S, ha.mono δ (fun ds g vs H1 s1 as => ?_) q⟩⟩
  exact hi O H1 vs ds Q (fun p hp => live_same (S.live p hp) s1) as (ho.mono ds (fun l k p vs H' s n hp hl a => k p vs H' (s1.trans s) (s1.free n) hp hl a) g)
theorem OAll.one {O : List Addr} {H : Hp} {vs : List V} {d : D} (h : OAll K O H vs [d]) : ∃ v, vs = [v] ∧ OAt K O H v d := by
  cases h with
  | cons a r => cases r; exact ⟨_, rfl, a⟩
theorem OAll.two {O : List Addr} {H : Hp} {vs : List V} {d d' : D} (h : OAll K O H vs [d, d']) : ∃ v v', vs = [v, v'] ∧ OAt K O H v d ∧ OAt K O H v' d' := by
  cases h with
  | cons a r => cases r with
    | cons b r => cases r; exact ⟨_, _, rfl, a, b⟩
/-- of one thing -/
def o1 (g : D → (D → Prop) → Prop) : List D → (D → Prop) → Prop
  | [d], Q => g d Q
  | _, _ => False
theorem ca1 {f : Value} {g : D → (D → Prop) → Prop} {r : List V → Hp → VK → Prop} (hr : CallR X f r) (hm : ∀ d {Q Q' : D → Prop}, (∀ d, Q d → Q' d) → g d Q → g d Q')
    (hi : ∀ O H v d Q, (∀ p ∈ O, H p ≠ none) → OAt K O H v d → (g d fun d => ∀ v H', Same H H' → At K (hid O H') v d → Q v H') → r [v] H Q) : CaD X K f (o1 g) := by
  refine ⟨fun ds Q Q' i q => ?_, r, hr, fun O H vs ds Q l as q => ?_⟩
  · unfold o1 at q ⊢
    split at q
    · exact hm _ i q
    · exact q
  · unfold o1 at q
    split at q
    · obtain ⟨v, rfl, a⟩ := as.one
      exact hi O H v _ Q l a q
    · exact q.elim
def o1F (g : D → (List D → Prop) → Prop) : List D → (List D → Prop) → Prop
  | [d], Q => g d Q
  | _, _ => False
theorem ca1F {f : Value} {g : D → (List D → Prop) → Prop} {r : List V → Hp → VK → Prop} (hr : CallR X f r) (hm : ∀ d {Q Q' : List D → Prop}, (∀ d, Q d → Q' d) → g d Q → g d Q')
    (hi : ∀ O H v d Q, (∀ p ∈ O, H p ≠ none) → OAt K O H v d → (g d fun l => ∀ p vs H', Same H H' → H p = none → H' p = some (.lst vs) → l.length ≤ LIM → AtAll K (hid (p :: O) H') vs l → Q (.ref p) H') → r [v] H Q) : CaF X K f (o1F g) := by
  refine ⟨fun ds Q Q' i q => ?_, r, hr, fun O H vs ds Q l as q => ?_⟩
  · unfold o1F at q ⊢
    split at q
    · exact hm _ i q
    · exact q
  · unfold o1F at q
    split at q
    · obtain ⟨v, rfl, a⟩ := as.one
      exact hi O H v _ Q l a q
    · exact q.elim
/-- len -/
def gLen : D → (D → Prop) → Prop
  | .lst l, Q | .tup l, Q | .scr l, Q => Q (.int l.length)
  | .str z, Q => z.length ≤ LIM ∧ Q (.int z.length)
  | _, _ => False
theorem c_len (hK : X.K = K := by rfl) : CaD X K (.builtin "len") (o1 gLen) := by
  subst hK
  refine ca1 (callR_or call_len_seq call_len_str) (fun d Q Q' i q => ?_) fun O H v d Q l a q => ?_
  · unfold gLen at q ⊢
    split at q
    · exact i _ q
    · exact i _ q
    · exact i _ q
    · exact ⟨q.1, i _ q.2⟩
    · exact q
  · unfold gLen at q
    split at q
    · obtain ⟨p, vs, rfl, h1, h2, h3⟩ := a.list
      exact .inl ⟨p, vs, rfl, .inl (.inl (.inl h1)), by rw [h3.len]; exact q _ H (.refl H) (.int _)⟩
    · obtain ⟨p, vs, rfl, h1, h2, h3, _⟩ := a.tuple
      exact .inl ⟨p, vs, rfl, .inr h1, by rw [h3.len]; exact q _ H (.refl H) (.int _)⟩
    · obtain ⟨p, vs, rfl, h1, h2, h3⟩ := a.script
      exact .inl ⟨p, vs, rfl, .inl h1, by rw [h3.len]; exact q _ H (.refl H) (.int _)⟩
    · rw [a.str]
      exact .inr ⟨_, rfl, lim_sz q.1, q.2 _ H (.refl H) (.int _)⟩
    · exact q.elim
/-- abs -/
def gI (g : Int → D) : D → (D → Prop) → Prop
  | .int i, Q => Q (g i)
  | _, _ => False
theorem gI_mono {g : Int → D} (d : D) {Q Q' : D → Prop} (i : ∀ d, Q d → Q' d) (q : gI g d Q) : gI g d Q' := by
  unfold gI at q ⊢
  split at q
  · exact i _ q
  · exact q
abbrev gAbs := gI fun i => .int (if i < 0 then -i else i)
theorem c_abs : CaD X K (.builtin "abs") (o1 gAbs) := by
  refine ca1 call_abs (fun d => gI_mono d) fun O H v d Q l a q => ?_
  unfold gAbs gI at q
  split at q
  · exact ⟨_, by rw [a.int], q _ H (.refl H) (.int _)⟩
  · exact q.elim
/-- int of an int, of a bool -/
def gInt : D → (D → Prop) → Prop
  | .int i, Q => Q (.int i)
  | .bl k, Q => Q (.int (if k then 1 else 0))
  | _, _ => False
theorem c_int : CaD X K (.type "int") (o1 gInt) := by
  refine ca1 call_int1 (fun d Q Q' i q => ?_) fun O H v d Q l a q => ?_
  · unfold gInt at q ⊢
    split at q
    · exact i _ q
    · exact i _ q
    · exact q
  · unfold gInt at q
    split at q
    · exact .inl ⟨_, by rw [a.int], q _ H (.refl H) (.int _)⟩
    · exact .inr ⟨_, by rw [a.bl], q _ H (.refl H) (.int _)⟩
    · exact q.elim
/-- sum, any, all of a list -/
def gSum : D → (D → Prop) → Prop
  | .lst l, Q => ∃ ns : List Int, l = ns.map D.int ∧ Q (.int ns.sum)
  | _, _ => False
theorem c_sum (hc : X.calm = true := by rfl) (hK : X.K = K := by rfl) : CaD X K (.builtin "sum") (o1 gSum) := by
  subst hK
  refine ca1 (cr_sum hc) (fun d Q Q' i q => ?_) fun O H v d Q l a q => ?_
  · unfold gSum at q ⊢
    split at q
    · obtain ⟨ns, h, q⟩ := q; exact ⟨ns, h, i _ q⟩
    · exact q
  · unfold gSum at q
    split at q
    · obtain ⟨ns, rfl, q⟩ := q
      obtain ⟨p, vs, rfl, h1, h2, h3⟩ := a.list
      obtain rfl := h3.ints_of
      exact ⟨p, ns, rfl, .inl (.inl h1), q _ H (.refl H) (.int _)⟩
    · exact q.elim
def gAny (f : List Bool → Bool) : D → (D → Prop) → Prop
  | .lst l, Q => ∃ ns : List Bool, l = ns.map D.bl ∧ Q (.bl (f ns))
  | _, _ => False
theorem gAny_mono {f : List Bool → Bool} (d : D) {Q Q' : D → Prop} (i : ∀ d, Q d → Q' d) (q : gAny f d Q) : gAny f d Q' := by
  unfold gAny at q ⊢
  split at q
  · obtain ⟨ns, h, q⟩ := q; exact ⟨ns, h, i _ q⟩
  · exact q
theorem c_any (hc : X.calm = true := by rfl) (hK : X.K = K := by rfl) : CaD X K (.builtin "any") (o1 (gAny fun bs => bs.any id)) := by
  subst hK
  refine ca1 (cr_any hc) (fun d => gAny_mono d) fun O H v d Q l a q => ?_
  unfold gAny at q
  split at q
  · obtain ⟨ns, rfl, q⟩ := q
    obtain ⟨p, vs, rfl, h1, h2, h3⟩ := a.list
    obtain rfl := h3.bls_of
    exact ⟨p, ns, rfl, .inl (.inl h1), q _ H (.refl H) (.bl _)⟩
  · exact q.elim
theorem c_all (hc : X.calm = true := by rfl) (hK : X.K = K := by rfl) : CaD X K (.builtin "all") (o1 (gAny fun bs => bs.all id)) := by
  subst hK
  refine ca1 (cr_all hc) (fun d => gAny_mono d) fun O H v d Q l a q => ?_
  unfold gAny at q
  split at q
  · obtain ⟨ns, rfl, q⟩ := q
    obtain ⟨p, vs, rfl, h1, h2, h3⟩ := a.list
    obtain rfl := h3.bls_of
    exact ⟨p, ns, rfl, .inl (.inl h1), q _ H (.refl H) (.bl _)⟩
  · exact q.elim
/-- max, min of two; of a list -/
def o2I (g : Int → Int → D) : List D → (D → Prop) → Prop
  | [.int i, .int j], Q => Q (g i j)
  | _, _ => False
theorem ca2 {f : Value} {g : Int → Int → Int} {r : List V → Hp → VK → Prop} (hr : CallR X f r) (hi : ∀ i j H Q, Q (.int (g i j)) H → r [.int i, .int j] H Q) : CaD X K f (o2I fun i j => .int (g i j)) := by
  refine ⟨fun ds Q Q' i q => ?_, r, hr, fun O H vs ds Q l as q => ?_⟩
  · unfold o2I at q ⊢
    split at q
    · exact i _ q
    · exact q
  · unfold o2I at q
    split at q
    · obtain ⟨v, w, rfl, a, b⟩ := as.two
      rw [a.int, b.int]
      exact hi _ _ H Q (q _ H (.refl H) (.int _))
    · exact q.elim
theorem c_max2 (hc : X.calm = true := by rfl) : CaD X K (.builtin "max") (o2I fun i j => .int (if j > i then j else i)) := ca2 (call_max2 hc) fun i j H Q q => ⟨i, j, rfl, q⟩
theorem c_min2 (hc : X.calm = true := by rfl) : CaD X K (.builtin "min") (o2I fun i j => .int (if j < i then j else i)) := ca2 (call_min2 hc) fun i j H Q q => ⟨i, j, rfl, q⟩
def gMost (R : Int → Int → Prop) : D → (D → Prop) → Prop
  | .lst l, Q => ∃ ns : List Int, l = ns.map D.int ∧ 0 < ns.length ∧ ∀ m, m ∈ ns → (∀ y, y ∈ ns → R m y) → Q (.int m)
  | _, _ => False
theorem gMost_mono {R : Int → Int → Prop} (d : D) {Q Q' : D → Prop} (i : ∀ d, Q d → Q' d) (q : gMost R d Q) : gMost R d Q' := by
  unfold gMost at q ⊢
  split at q
  · obtain ⟨ns, h, h2, q⟩ := q; exact ⟨ns, h, h2, fun m a b => i _ (q m a b)⟩
  · exact q
theorem c_max (hc : X.calm = true := by rfl) (hK : X.K = K := by rfl) : CaD X K (.builtin "max") (o1 (gMost fun m y => y ≤ m)) := by
  subst hK
  refine ca1 (cr_max hc) (fun d => gMost_mono d) fun O H v d Q l a q => ?_
  unfold gMost at q
  split at q
  · obtain ⟨ns, rfl, h0, q⟩ := q
    obtain ⟨p, vs, rfl, h1, h2, h3⟩ := a.list
    obtain rfl := h3.ints_of
    exact ⟨p, ns, rfl, .inl (.inl h1), h0, fun m a b => q m a b _ H (.refl H) (.int _)⟩
  · exact q.elim
theorem c_min (hc : X.calm = true := by rfl) (hK : X.K = K := by rfl) : CaD X K (.builtin "min") (o1 (gMost fun m y => m ≤ y)) := by
  subst hK
  refine ca1 (cr_min hc) (fun d => gMost_mono d) fun O H v d Q l a q => ?_
  unfold gMost at q
  split at q
  · obtain ⟨ns, rfl, h0, q⟩ := q
    obtain ⟨p, vs, rfl, h1, h2, h3⟩ := a.list
    obtain rfl := h3.ints_of
    exact ⟨p, ns, rfl, .inl (.inl h1), h0, fun m a b => q m a b _ H (.refl H) (.int _)⟩
  · exact q.elim
/-- sorted of ints -/
def gSort : D → (List D → Prop) → Prop
  | .lst l, Q => ∃ ns : List Int, l = ns.map D.int ∧ ∀ ns' : List Int, ns'.Perm ns → ns'.Pairwise (· ≤ ·) → Q (ns'.map D.int)
  | _, _ => False
theorem c_sorted (hK : X.K = K := by rfl) : CaF X K (.builtin "sorted") (o1F gSort) := by
  subst hK
  refine ca1F cr_sortedI (fun d Q Q' i q => ?_) fun O H v d Q l a q => ?_
  · unfold gSort at q ⊢
    split at q
    · obtain ⟨ns, h, q⟩ := q; exact ⟨ns, h, fun m a b => i _ (q m a b)⟩
    · exact q
  · unfold gSort at q
    split at q
    · obtain ⟨ns, rfl, q⟩ := q
      obtain ⟨p, vs, rfl, h1, h2, h3⟩ := a.list
      obtain rfl := h3.ints_of
      refine ⟨p, ns, rfl, .inl (.inl h1), fun ns' t pm pw n => q ns' pm pw t _ _ (same_new n) n upd_same ?_ (.ints _)⟩
      rw [List.length_map] at h2 ⊢
      rw [pm.length_eq]; exact h2
    · exact q.elim
/-- list(xs) -/
def gList : D → (List D → Prop) → Prop
  | .lst l, Q | .tup l, Q | .scr l, Q => Q l
  | _, _ => False
theorem c_list (hK : X.K = K := by rfl) : CaF X K (.type "list") (o1F gList) := by
  subst hK
  refine ca1F call_list_of (fun d Q Q' i q => ?_) fun O H v d Q l a q => ?_
  · unfold gList at q ⊢
    split at q
    · exact i _ q
    · exact i _ q
    · exact i _ q
    · exact q
  · unfold gList at q
    split at q
    · obtain ⟨p, vs, rfl, h1, h2, h3⟩ := a.list
      exact ⟨p, vs, rfl, .inl (.inl (.inl h1)), fun t n => q t _ _ (same_new n) n upd_same h2 (h3.mono (hid_new n (same_new n)))⟩
    · obtain ⟨p, vs, rfl, h1, h2, h3, _⟩ := a.tuple
      exact ⟨p, vs, rfl, .inr h1, fun t n => q t _ _ (same_new n) n upd_same h2 (h3.mono (hid_new n (same_new n)))⟩
    · obtain ⟨p, vs, rfl, h1, h2, h3⟩ := a.script
      exact ⟨p, vs, rfl, .inl h1, fun t n => q t _ _ (same_new n) n upd_same h2 (h3.mono (hid_new n (same_new n)))⟩
    · exact q.elim
/-- tuple(xs) -/
def gTuple : D → (D → Prop) → Prop
  | .lst l, Q | .tup l, Q | .scr l, Q => Q (.tup l)
  | _, _ => False
theorem c_tuple (hK : X.K = K := by rfl) : CaD X K (.type "tuple") (o1 gTuple) := by
  subst hK
  refine ca1 call_tuple_of (fun d Q Q' i q => ?_) fun O H v d Q l a q => ?_
  · unfold gTuple at q ⊢
    split at q
    · exact i _ q
    · exact i _ q
    · exact i _ q
    · exact q
  · unfold gTuple at q
    split at q
    · obtain ⟨p, vs, rfl, h1, h2, h3⟩ := a.list
      exact ⟨p, vs, rfl, .inl ⟨.inl (.inl h1), fun t n => q _ _ (same_new n) (At.newT l n h2 h3)⟩⟩
    · obtain ⟨p, vs, rfl, h1, h2, h3, h4⟩ := a.tuple
      exact ⟨p, vs, rfl, .inr ⟨h1, q _ H (.refl H) (.tup h4 h2 h3)⟩⟩
    · obtain ⟨p, vs, rfl, h1, h2, h3⟩ := a.script
      exact ⟨p, vs, rfl, .inl ⟨h1, fun t n => q _ _ (same_new n) (At.newT l n h2 h3)⟩⟩
    · exact q.elim
/-! ### isinstance -/
def tyN : D → String
  | .non => "NoneType"
  | .bl _ => "bool"
  | .int _ => "int"
  | .str _ => "str"
  | .tup _ => "tuple"
  | .lst _ | .scr _ => "list"
  | .dic _ _ => "dict"
  | .ref _ => ""
def notRef : D → Bool
  | .ref _ => false
  | _ => true
theorem OAt.ty {O : List Addr} {H : Hp} {v : V} {d : D} (h : OAt K O H v d) (n : notRef d = true) : TyX K H v (.type (tyN d)) := by
  cases d with
  | non => rw [h.non]; exact .base .non
  | bl b => rw [h.bl]; exact .base (.bl b)
  | int i => rw [h.int]; exact .base (.int i)
  | str z => rw [h.str]; exact .base (.str z)
  | lst l => obtain ⟨p, vs, rfl, h1, _⟩ := h.list; exact .base (.lst h1)
  | tup l =>
    obtain ⟨p, vs, rfl, h1, _⟩ := h.tuple
    rcases h1 with (h1 | ⟨o, h1⟩) | ⟨o, its, n, h1, h2, _⟩
    · exact .base (.tup h1)
    · exact .fTuple h1
    · exact .kTuple h1 h2
  | scr l =>
    obtain ⟨p, vs, rfl, h1, _⟩ := h.script
    rcases h1 with (h1 | ⟨o, h1⟩) | ⟨o, its, n, h1, h2, _⟩
    · exact .base (.lst h1)
    · exact .base (.frz h1)
    · exact .kList h1 h2
  | dic ks l =>
    obtain ⟨p, vs, rfl, h1, _⟩ := h.dict
    rcases h1 with h1 | ⟨o, h1⟩
    · exact .base (.dK h1)
    · exact .fDict h1
  | ref a => cases n
structure Kind (K : PySem.W.Frag) (T : String) (p : D → Bool) : Prop where
  is : ∀ d, notRef d = true → PySem.W.kitOne K (.type (tyN d)) (.type T) = some (p d)
def isInt : D → Bool
  | .int _ | .bl _ => true
  | _ => false
def isBl : D → Bool
  | .bl _ => true
  | _ => false
def isLst : D → Bool
  | .lst _ | .scr _ => true
  | _ => false
def isTup : D → Bool
  | .tup _ => true
  | _ => false
def isStr : D → Bool
  | .str _ => true
  | _ => false
def isDic : D → Bool
  | .dic _ _ => true
  | _ => false
theorem k_int : Kind K "int" isInt := ⟨fun d h => by
  cases d with
  | ref a => cases h
  | non => exact kit_ty (a := "NoneType") (show kitB "NoneType" "int" = some false by decide +kernel)
  | bl b => exact kit_ty (a := "bool") (show kitB "bool" "int" = some true by decide +kernel)
  | int i => exact kit_ty (a := "int") (show kitB "int" "int" = some true by decide +kernel)
  | str z => exact kit_ty (a := "str") (show kitB "str" "int" = some false by decide +kernel)
  | tup l => exact kit_ty (a := "tuple") (show kitB "tuple" "int" = some false by decide +kernel)
  | lst l => exact kit_ty (a := "list") (show kitB "list" "int" = some false by decide +kernel)
  | scr l => exact kit_ty (a := "list") (show kitB "list" "int" = some false by decide +kernel)
  | dic ks l => exact kit_ty (a := "dict") (show kitB "dict" "int" = some false by decide +kernel)⟩
theorem k_bool : Kind K "bool" isBl := ⟨fun d h => by
  cases d with
  | ref a => cases h
  | non => exact kit_ty (a := "NoneType") (show kitB "NoneType" "bool" = some false by decide +kernel)
  | bl b => exact kit_ty (a := "bool") (show kitB "bool" "bool" = some true by decide +kernel)
  | int i => exact kit_ty (a := "int") (show kitB "int" "bool" = some false by decide +kernel)
  | str z => exact kit_ty (a := "str") (show kitB "str" "bool" = some false by decide +kernel)
  | tup l => exact kit_ty (a := "tuple") (show kitB "tuple" "bool" = some false by decide +kernel)
  | lst l => exact kit_ty (a := "list") (show kitB "list" "bool" = some false by decide +kernel)
  | scr l => exact kit_ty (a := "list") (show kitB "list" "bool" = some false by decide +kernel)
  | dic ks l => exact kit_ty (a := "dict") (show kitB "dict" "bool" = some false by decide +kernel)⟩
theorem k_list : Kind K "list" isLst := ⟨fun d h => by
  cases d with
  | ref a => cases h
  | non => exact kit_ty (a := "NoneType") (show kitB "NoneType" "list" = some false by decide +kernel)
  | bl b => exact kit_ty (a := "bool") (show kitB "bool" "list" = some false by decide +kernel)
  | int i => exact kit_ty (a := "int") (show kitB "int" "list" = some false by decide +kernel)
  | str z => exact kit_ty (a := "str") (show kitB "str" "list" = some false by decide +kernel)
  | tup l => exact kit_ty (a := "tuple") (show kitB "tuple" "list" = some false by decide +kernel)
  | lst l => exact kit_ty (a := "list") (show kitB "list" "list" = some true by decide +kernel)
  | scr l => exact kit_ty (a := "list") (show kitB "list" "list" = some true by decide +kernel)
  | dic ks l => exact kit_ty (a := "dict") (show kitB "dict" "list" = some false by decide +kernel)⟩
theorem k_tuple : Kind K "tuple" isTup := ⟨fun d h => by
  cases d with
  | ref a => cases h
  | non => exact kit_ty (a := "NoneType") (show kitB "NoneType" "tuple" = some false by decide +kernel)
  | bl b => exact kit_ty (a := "bool") (show kitB "bool" "tuple" = some false by decide +kernel)
  | int i => exact kit_ty (a := "int") (show kitB "int" "tuple" = some false by decide +kernel)
  | str z => exact kit_ty (a := "str") (show kitB "str" "tuple" = some false by decide +kernel)
  | tup l => exact kit_ty (a := "tuple") (show kitB "tuple" "tuple" = some true by decide +kernel)
  | lst l => exact kit_ty (a := "list") (show kitB "list" "tuple" = some false by decide +kernel)
  | scr l => exact kit_ty (a := "list") (show kitB "list" "tuple" = some false by decide +kernel)
  | dic ks l => exact kit_ty (a := "dict") (show kitB "dict" "tuple" = some false by decide +kernel)⟩
theorem k_str : Kind K "str" isStr := ⟨fun d h => by
  cases d with
  | ref a => cases h
  | non => exact kit_ty (a := "NoneType") (show kitB "NoneType" "str" = some false by decide +kernel)
  | bl b => exact kit_ty (a := "bool") (show kitB "bool" "str" = some false by decide +kernel)
  | int i => exact kit_ty (a := "int") (show kitB "int" "str" = some false by decide +kernel)
  | str z => exact kit_ty (a := "str") (show kitB "str" "str" = some true by decide +kernel)
  | tup l => exact kit_ty (a := "tuple") (show kitB "tuple" "str" = some false by decide +kernel)
  | lst l => exact kit_ty (a := "list") (show kitB "list" "str" = some false by decide +kernel)
  | scr l => exact kit_ty (a := "list") (show kitB "list" "str" = some false by decide +kernel)
  | dic ks l => exact kit_ty (a := "dict") (show kitB "dict" "str" = some false by decide +kernel)⟩
theorem k_dict : Kind K "dict" isDic := ⟨fun d h => by
  cases d with
  | ref a => cases h
  | non => exact kit_ty (a := "NoneType") (show kitB "NoneType" "dict" = some false by decide +kernel)
  | bl b => exact kit_ty (a := "bool") (show kitB "bool" "dict" = some false by decide +kernel)
  | int i => exact kit_ty (a := "int") (show kitB "int" "dict" = some false by decide +kernel)
  | str z => exact kit_ty (a := "str") (show kitB "str" "dict" = some false by decide +kernel)
  | tup l => exact kit_ty (a := "tuple") (show kitB "tuple" "dict" = some false by decide +kernel)
  | lst l => exact kit_ty (a := "list") (show kitB "list" "dict" = some false by decide +kernel)
  | scr l => exact kit_ty (a := "list") (show kitB "list" "dict" = some false by decide +kernel)
  | dic ks l => exact kit_ty (a := "dict") (show kitB "dict" "dict" = some true by decide +kernel)⟩
def dIsi (p : D → Bool) (x : DX) : DX := fun δ Q => x δ fun d => notRef d = true ∧ Q (.bl (p d))
theorem d_isi {T : String} {x : Str} {p : D → Bool} {y : DX} {p1 p2 pos : Pos} (k : Kind K T p) (hm : X.mg "isinstance" = none) (hT : X.mg x = none) (ha : QD X K e y) (hK : X.K = K := by rfl) (hv : bootBuiltins x = some (.type T) := by decide +kernel)
    (hg : Gl X "isinstance" := by rfl) (hgT : Gl X x := by rfl) (hn : x ≠ "__name__" := by decide) (hd : (x == ("__debug__" : Str)) = false := by decide)
    (he : starEach [e, .Name x p2] X.env = (false, eval e X.env) :: starEach [.Name x p2] X.env := by rfl) (hpl : (backTo pos (starEach [.Name x p2] X.env)).any (·.1) = false := by rfl) (hs : starEach [.Name x p2] X.env = (false, eval (.Name x p2) X.env) :: starEach [] X.env := by rfl) :
    PD X K (.Call (.Name "isinstance" p1) [e, .Name x p2] [] pos) (dIsi p y) := by
  subst hK
  refine ⟨fun δ Q Q' i q => ha.mono δ (fun d q => ⟨q.1, i _ q.2⟩) q, pe_weak (pe_callB call_isi hg hm (by decide +kernel) (pa_cons ha.pe (pa_cons (pe_bltn (v := .ty T) hgT hT hv rfl hn hd) pa_nil hs) he) (he := he) (hpl := hpl)) fun σ H Q ⟨Hb, B, O, δ, S, q⟩ => ⟨Hb, B, O, δ, S, ha.mono δ (fun d g v H1 s1 a => ?_) q⟩⟩
  exact ⟨v, .ty T, _, _, p d, rfl, .ty T, a.ty g.1, k.is d g.1, g.2 _ H1 s1 (.bl _)⟩
end
end DL

namespace DL
open PySem L2
/-! ### own defs -/
structure Cal (P : Program) (w : World) (K : PySem.W.Frag) (mg : Str → Option Value) (base : Heap) (CX : CXT) (k : Nat) (x : Str) (ps : List Str) (sp : Sp) : Prop where
  ex : ∃ (f : Addr) (fd : FuncData), mg x = some (.ref f) ∧ PySem.W.keepIn K (.ref f) = true ∧ Binds K fd ps [] ∧ FnOk P w K mg base CX k f fd ps sp
def Df (K : PySem.W.Frag) (mg : Str → Option Value) (x : Str) (st : Stmt) (ps : List Str) : Prop :=
  ∃ (f : Addr) (fd : FuncData), mg x = some (.ref f) ∧ Fun K x x st f fd ∧ Binds K fd ps []
theorem Cal.mono {P : Program} {w : World} {K : PySem.W.Frag} {mg : Str → Option Value} {base : Heap} {CX : CXT} {j k : Nat} {x : Str} {ps : List Str} {sp : Sp} (C : Cal P w K mg base CX j x ps sp) (h : j ≤ k) : Cal P w K mg base CX k x ps sp := by
  obtain ⟨f, fd, a, b, c, d⟩ := C.ex
  exact ⟨f, fd, a, b, c, d.mono h⟩
theorem Cal.imp {P : Program} {w : World} {K : PySem.W.Frag} {mg : Str → Option Value} {base : Heap} {CX : CXT} {k : Nat} {x : Str} {ps : List Str} {sp sp' : Sp} (C : Cal P w K mg base CX k x ps sp) (h : ∀ vs H Q E, sp' vs H Q E → sp vs H Q E) : Cal P w K mg base CX k x ps sp' := by
  obtain ⟨f, fd, a, b, c, d⟩ := C.ex
  exact ⟨f, fd, a, b, c, d.imp h⟩
abbrev Rf := List D → (D → Prop) → Prop
/-- what a def gives: R from its arguments, nothing changed -/
def spW (K : PySem.W.Frag) (R : Rf) : Sp := fun vs H Q _ => ∃ B ds, (∀ b ∈ B, H b ≠ none) ∧ AtAll K (hid B H) vs ds ∧ R ds fun d => ∀ v H', Same H H' → At K (hid B H') v d → Q v H'
abbrev Rx := List D → (D → Prop) → (Addr → Prop) → Prop
/-- .. of a def that may raise an error of a class without more -/
def spX (K : PySem.W.Frag) (R : Rx) : Sp := fun vs H Q E => ∃ B ds, (∀ b ∈ B, H b ≠ none) ∧ AtAll K (hid B H) vs ds ∧ R ds (fun d => ∀ v H', Same H H' → At K (hid B H') v d → Q v H') fun C => ∀ H', Same H H' → E (.ref C) none H'
def MonoR (R : Rf) : Prop := ∀ ds {Q Q' : D → Prop}, (∀ d, Q d → Q' d) → R ds Q → R ds Q'
section
variable {X : Cx} {K : PySem.W.Frag} {e a b c : Expr} {pos : Pos}
def dCall (R : Rf) (xs : List DX) : DX := fun δ Q => dArgs xs δ fun ds => R ds Q
theorem d_call {k : Nat} {x : Str} {ps : List Str} {R : Rf} {es : List Expr} {xs : List DX} {p : Pos} (C : Cal X.prog X.w X.K X.mg X.base CX0 k x ps (spW K R)) (hm : MonoR R) (hr : Room k X.A) (ha : AD X K (e :: es) xs) (hg : Gl X x := by rfl) (hdb : (x == ("__debug__" : Str)) = false := by decide)
    (he : starEach (e :: es) X.env = (false, eval e X.env) :: starEach es X.env := by rfl) (hpl : (backTo pos (starEach es X.env)).any (·.1) = false := by rfl) : PD X K (.Call (.Name x p) (e :: es) [] pos) (dCall R xs) := by
  obtain ⟨f, fd, h1, h2, h3, h4⟩ := C.ex
  refine ⟨fun δ Q Q' i q => ha.mono δ (fun ds => hm ds i) q, pe_weak (pe_call h4 hr hg h1 h2 h3 .nil pass0 ha.pa hdb he hpl) fun σ H Q ⟨Hb, B, O, δ, S, q⟩ => ⟨Hb, B, O, δ, S, ha.mono δ (fun ds g vs H1 s1 as => ?_) q⟩⟩
  show spW K R (vs ++ []) H1 Q E0
  rw [List.append_nil]
  exact ⟨O, ds, fun p hp => live_same (S.live p hp) s1, as, hm ds (fun d k v H' s a => k v H' (s1.trans s) a) g⟩
theorem d_call0 {k : Nat} {x : Str} {ps : List Str} {R : Rf} {p : Pos} (C : Cal X.prog X.w X.K X.mg X.base CX0 k x ps (spW K R)) (hm : MonoR R) (hr : Room k X.A) (hg : Gl X x := by rfl) (hdb : (x == ("__debug__" : Str)) = false := by decide) : PD X K (.Call (.Name x p) [] [] pos) (dCall R []) := by
  obtain ⟨f, fd, h1, h2, h3, h4⟩ := C.ex
  refine ⟨fun δ Q Q' i q => hm [] i q, pe_weak (pe_call0 h4 hr hg h1 h2 h3 .nil pass0 hdb) fun σ H Q ⟨Hb, B, O, δ, S, q⟩ => ?_⟩
  exact ⟨O, [], S.live, .nil, q⟩
/-! ### lists of ranges -/
def rgD (a b : Int) : List D := (List.range (b - a).toNat).map fun i => D.int (a + (i : Nat))
theorem rg_at {H : Hp} (a b : Int) : AtAll K H (rgV a b) (rgD a b) := by
  have : ∀ l : List Nat, AtAll K H (l.map fun i => V.int (a + (i : Nat))) (l.map fun i => D.int (a + (i : Nat))) := fun l => by
    induction l with
    | nil => exact .nil
    | cons x l ih => exact .cons (.int _) ih
  exact this _
theorem rg_len (a b : Int) : (rgD a b).length = (b - a).toNat := by unfold rgD; rw [List.length_map, List.length_range]
def RgB (a b : Int) : Prop := -1000000 ≤ a ∧ a ≤ 1000000 ∧ -1000000 ≤ b ∧ b ≤ 1000000 ∧ (b - a).toNat ≤ LIM
theorem RgB.ok {a b : Int} (h : RgB a b) : RgOk a b := by
  obtain ⟨h1, h2, h3, h4, h5⟩ := h
  exact ⟨by omega, by omega, by omega, by omega, Nat.le_trans h5 (by decide)⟩
abbrev DR := List Sl → (Int → Int → Prop) → Prop
def tR (K : PySem.W.Frag) (x : DR) : St → Hp → (Int → Int → Hp → Prop) → Prop := fun σ H Q => ∃ Hb B O δ, Sta K Hb B O H σ δ ∧ x δ fun i j => ∀ H', Same H H' → Q i j H'
structure RD (X : Cx) (K : PySem.W.Frag) (e : Expr) (x : DR) : Prop where
  mono : ∀ δ {Q Q' : Int → Int → Prop}, (∀ i j, Q i j → Q' i j) → x δ Q → x δ Q'
  rg : PRg X e (tR K x)
theorem r_1 {x : DX} {p : Pos} (hm : X.mg "range" = none) (ha : QD X K a x) (hg : Gl X "range" := by rfl) (na : starEach [a] X.env = (false, eval a X.env) :: starEach [] X.env := by rfl) : RD X K (.Call (.Name "range" p) [a] [] pos) (fun δ Q => x δ (asI fun n => Q 0 n)) := by
  refine ⟨fun δ Q Q' i q => ha.mono δ (asI_mono fun _ => i _ _) q, fun pins s σ H Q I ⟨Hb, B, O, δ, S, q⟩ => prg_1 hg hm ha.pe na pins s σ H Q I ⟨Hb, B, O, δ, S, ha.mono δ (fun d k v H' s a => ?_) q⟩⟩
  obtain ⟨i, rfl, k⟩ := asI_at k a
  exact ⟨i, rfl, k H' s⟩
theorem r_2 {x y : DX} {p : Pos} (hm : X.mg "range" = none) (ha : QD X K a x) (hb : QD X K b y) (hg : Gl X "range" := by rfl) (na : starEach [a, b] X.env = (false, eval a X.env) :: starEach [b] X.env := by rfl)
    (nb : starEach [b] X.env = (false, eval b X.env) :: starEach [] X.env := by rfl) (hp : (backTo pos (starEach [b] X.env)).any (·.1) = false := by rfl) : RD X K (.Call (.Name "range" p) [a, b] [] pos) (fun δ Q => x δ (asI fun n => y δ (asI fun m => Q n m))) := by
  refine ⟨fun δ Q Q' i q => ha.mono δ (asI_mono fun _ => hb.mono δ (asI_mono fun _ => i _ _)) q, fun pins s σ H Q I ⟨Hb, B, O, δ, S, q⟩ => prg_2 hg hm ha.pe hb.pe na nb hp pins s σ H Q I ⟨Hb, B, O, δ, S, ha.mono δ (fun d k v H1 s1 a => ?_) q⟩⟩
  obtain ⟨i, rfl, k⟩ := asI_at k a
  refine ⟨Hb, B, O, δ, S.grow s1, hb.mono δ (fun d k v H2 s2 a => ?_) k⟩
  obtain ⟨j, rfl, k⟩ := asI_at k a
  exact ⟨i, j, rfl, rfl, k H2 (s1.trans s2)⟩
def fRg (x : DR) : DAs := fun δ Q => x δ fun i j => RgB i j ∧ Q (rgD i j)
theorem f_listRg {x : DR} {p : Pos} (hm : X.mg "list" = none) (ha : RD X K e x) (hc : X.calm = true := by rfl) (hg : Gl X "list" := by rfl) (na : starEach [e] X.env = (false, eval e X.env) :: starEach [] X.env := by rfl) : FD X K (.Call (.Name "list" p) [e] [] pos) (fRg x) := by
  refine ⟨fun δ Q Q' i q => ha.mono δ (fun _ _ q => ⟨q.1, i _ q.2⟩) q, pe_weak (pe_listRg hc hg hm ha.rg na) fun σ H Q ⟨Hb, B, O, δ, S, q⟩ => ⟨Hb, B, O, δ, S, ha.mono δ (fun i j ⟨k1, k2⟩ H1 s1 => ⟨k1.ok, fun t n => ?_⟩) q⟩⟩
  exact k2 t _ _ (s1.trans (same_new n)) (s1.free n) upd_same (by rw [rg_len]; exact k1.2.2.2.2) (rg_at _ _)
def dRg (x : DR) : DX := fun δ Q => x δ fun i j => RgB i j ∧ Q (.tup (rgD i j))
theorem d_tupRg {x : DR} {p : Pos} (hm : X.mg "tuple" = none) (ha : RD X K e x) (hc : X.calm = true := by rfl) (hg : Gl X "tuple" := by rfl) (na : starEach [e] X.env = (false, eval e X.env) :: starEach [] X.env := by rfl) : PD X K (.Call (.Name "tuple" p) [e] [] pos) (dRg x) := by
  refine ⟨fun δ Q Q' i q => ha.mono δ (fun _ _ q => ⟨q.1, i _ q.2⟩) q, pe_weak (pe_tupRg hc hg hm ha.rg na) fun σ H Q ⟨Hb, B, O, δ, S, q⟩ => ⟨Hb, B, O, δ, S, ha.mono δ (fun i j ⟨k1, k2⟩ H1 s1 => ⟨k1.ok, fun t n => ?_⟩) q⟩⟩
  exact k2 _ _ (s1.trans (same_new n)) (At.newT (fun b hb => live_same (S.live b hb) s1) n (by rw [rg_len]; exact k1.2.2.2.2) (rg_at _ _))
end
/-! ### what is walked -/
/-- from the things that stand in H0 and are values in Hf: the items l, one after the other -/
def WalkD (K : PySem.W.Frag) (H0 Hf : Hp) (l : List D) (J : It) : Prop := ∀ i H, Same H0 H →
  (∀ d, l[i]? = some d → J.go i H ∧ ∀ x H', J.yld i H x H' → Same H H' ∧ ∀ O, (∀ q ∈ O, H q ≠ none) → Same Hf (hid O H) → At K (hid O H') x d) ∧ (l.length ≤ i → J.stop i H)
/-- over values: what is walked stands among the values; over own things too -/
def iP (K : PySem.W.Frag) (src : DAs) : TI := fun σ H R => ∃ Hb B O δ, Sta K Hb B O H σ δ ∧ src δ fun l => ∀ J H', Same H H' → l.length ≤ LIM → WalkD K (hid O H') (hid O H') l J → R J H'
def iQ (K : PySem.W.Frag) (src : DAs) : TI := fun σ H R => ∃ Hb B O δ, Sta K Hb B O H σ δ ∧ src δ fun l => ∀ J H', Same H H' → l.length ≤ LIM → WalkD K H' (hid O H') l J → R J H'
structure IP (X : Cx) (K : PySem.W.Frag) (tg e : Expr) (src : DAs) : Prop where
  mono : MonoA src
  pi : PI X tg e (iP K src)
structure IQ (X : Cx) (K : PySem.W.Frag) (tg e : Expr) (src : DAs) : Prop where
  mono : MonoA src
  pi : PI X tg e (iQ K src)
section
variable {X : Cx} {K : PySem.W.Frag} {tg e a b c : Expr} {pos : Pos}
theorem pi_weak {t t' : TI} (h : PI X tg e t) (i : ∀ σ H Q, t' σ H Q → t σ H Q) : PI X tg e t' := ⟨fun pins s σ H Q I q => h.run pins s σ H Q I (i _ _ _ q)⟩
theorem IP.q {src : DAs} (h : IP X K tg e src) : IQ X K tg e src := ⟨h.mono, pi_weak h.pi fun σ H R ⟨Hb, B, O, δ, S, q⟩ => ⟨Hb, B, O, δ, S, h.mono δ (fun l k J H' s n w => k J H' s n fun i H2 s2 => w i H2 (hid_out.trans s2)) q⟩⟩
theorem walk_list {H0 Hf : Hp} {p : Addr} {vs : List V} {l : List D} (h : SqL K H0 p vs) (a : AtAll K Hf vs l) : WalkD K H0 Hf l (Itl K p) := fun i H s => by
  refine ⟨fun d e => ?_, fun n => ⟨vs, s.seq h, by rw [a.len]; exact n⟩⟩
  obtain ⟨v, ev, av⟩ := a.get' e
  refine ⟨⟨vs, v, s.seq h, ev⟩, fun x H' y => ?_⟩
  obtain ⟨rfl, y⟩ := y
  have := y vs (s.seq h)
  rw [ev] at this
  obtain rfl := Option.some.inj this
  exact ⟨.refl _, fun O hO sf => av.mono sf⟩
theorem walk_tup {H0 Hf : Hp} {p : Addr} {vs : List V} {l : List D} (h : SqT K H0 p vs) (a : AtAll K Hf vs l) : WalkD K H0 Hf l (Itt K p) := fun i H s => by
  refine ⟨fun d e => ?_, fun n => ⟨vs, sqT_mono s h, by rw [a.len]; exact n⟩⟩
  obtain ⟨v, ev, av⟩ := a.get' e
  refine ⟨⟨vs, v, sqT_mono s h, ev⟩, fun x H' y => ?_⟩
  obtain ⟨rfl, y⟩ := y
  have := y vs (sqT_mono s h)
  rw [ev] at this
  obtain rfl := Option.some.inj this
  exact ⟨.refl _, fun O hO sf => av.mono sf⟩
theorem rgD_get {lo hi : Int} {i : Nat} {d : D} (h : (rgD lo hi)[i]? = some d) : i < (hi - lo).toNat ∧ d = .int (lo + (i : Nat)) := by
  have hi' := (List.getElem?_eq_some_iff.mp h).1
  rw [rg_len] at hi'
  refine ⟨hi', ?_⟩
  unfold rgD at h
  rw [List.getElem?_map, List.getElem?_range hi'] at h
  exact (Option.some.inj h).symm
theorem walk_range {H0 Hf : Hp} (lo hi : Int) : WalkD K H0 Hf (rgD lo hi) (Itr lo (hi - lo).toNat) := fun i H s => by
  refine ⟨fun d e => ?_, fun n => by rw [rg_len] at n; exact n⟩
  obtain ⟨h1, rfl⟩ := rgD_get e
  refine ⟨h1, fun x H' y => ?_⟩
  obtain ⟨rfl, rfl⟩ := y
  exact ⟨.refl _, fun O _ _ => .int _⟩
/-- a list or a tuple of values -/
def asL (Q : List D → Prop) : D → Prop
  | .lst l => Q l
  | .scr l => Q l
  | _ => False
theorem asL_mono {Q Q' : List D → Prop} (i : ∀ l, Q l → Q' l) (d : D) (q : asL Q d) : asL Q' d := by
  unfold asL at q ⊢
  split at q
  · exact i _ q
  · exact i _ q
  · exact q
theorem asL_of {Q : List D → Prop} {d : D} (q : asL Q d) : ∃ l, (d = .lst l ∨ d = .scr l) ∧ Q l := by
  unfold asL at q
  split at q
  · exact ⟨_, .inl rfl, q⟩
  · exact ⟨_, .inr rfl, q⟩
  · exact q.elim
theorem At.asL {H : Hp} {v : V} {d : D} {l : List D} (h : d = .lst l ∨ d = .scr l) (a : At K H v d) : ∃ p vs, v = .ref p ∧ SqL K H p vs ∧ l.length ≤ LIM ∧ AtAll K H vs l := by
  rcases h with rfl | rfl
  · cases a with
    | lst h1 h2 h3 => exact ⟨_, _, rfl, .inl (.inl h1), h2, h3⟩
  · cases a with
    | scr h1 h2 h3 => exact ⟨_, _, rfl, h1, h2, h3⟩
def asT (Q : List D → Prop) : D → Prop
  | .tup l => Q l
  | _ => False
theorem asT_mono {Q Q' : List D → Prop} (i : ∀ l, Q l → Q' l) (d : D) (q : asT Q d) : asT Q' d := by
  unfold asT at q ⊢
  split at q
  · exact i _ q
  · exact q
def sL (x : DX) : DAs := fun δ Q => x δ (asL Q)
def sT (x : DX) : DAs := fun δ Q => x δ (asT Q)
theorem sL_mono {x : DX} (h : MonoX x) : MonoA (sL x) := fun δ Q Q' i q => h δ (asL_mono i) q
theorem sT_mono {x : DX} (h : MonoX x) : MonoA (sT x) := fun δ Q Q' i q => h δ (asT_mono i) q
theorem i_list {x : DX} (h : PD X K e x) (hK : X.K = K := by rfl) : IP X K tg e (sL x) := by
  subst hK
  refine ⟨sL_mono h.mono, pi_weak (pi_list h.pe) fun σ H R ⟨Hb, B, O, δ, S, q⟩ => ⟨Hb, B, O, δ, S, h.mono δ (fun d k v H1 s1 a => ?_) q⟩⟩
  obtain ⟨l, hl, k⟩ := asL_of k
  obtain ⟨p, vs, rfl, h1, h2, h3⟩ := a.asL hl
  exact ⟨p, rfl, ⟨_, hid_out.seq h1⟩, k _ H1 s1 h2 (walk_list h1 h3)⟩
theorem i_listQ {x : DX} (h : QD X K e x) (hK : X.K = K := by rfl) : IQ X K tg e (sL x) := by
  subst hK
  refine ⟨sL_mono h.mono, pi_weak (pi_list h.pe) fun σ H R ⟨Hb, B, O, δ, S, q⟩ => ⟨Hb, B, O, δ, S, h.mono δ (fun d k v H1 s1 a => ?_) q⟩⟩
  obtain ⟨l, hl, k⟩ := asL_of k
  rcases hl with rfl | rfl
  · obtain ⟨p, vs, rfl, h1, h2, h3⟩ := a.list
    exact ⟨p, rfl, ⟨vs, .inl (.inl h1)⟩, k _ H1 s1 h2 (walk_list (.inl (.inl h1)) h3)⟩
  · obtain ⟨p, vs, rfl, h1, h2, h3⟩ := a.script
    exact ⟨p, rfl, ⟨vs, h1⟩, k _ H1 s1 h2 (walk_list h1 h3)⟩
theorem i_tup {x : DX} (h : PD X K e x) (hK : X.K = K := by rfl) : IP X K tg e (sT x) := by
  subst hK
  refine ⟨sT_mono h.mono, pi_weak (pi_tup h.pe) fun σ H R ⟨Hb, B, O, δ, S, q⟩ => ⟨Hb, B, O, δ, S, h.mono δ (fun d k v H1 s1 a => ?_) q⟩⟩
  unfold asT at k
  split at k
  · cases a with
    | tup h1 h2 h3 => exact ⟨_, rfl, ⟨_, sqT_mono hid_out h1⟩, k _ H1 s1 h2 (walk_tup h1 h3)⟩
  · exact k.elim
def sR1 (x : DX) : DAs := fun δ Q => x δ (asI fun n => RgB 0 n ∧ Q (rgD 0 n))
def sR2 (x y : DX) : DAs := fun δ Q => x δ (asI fun m => y δ (asI fun n => RgB m n ∧ Q (rgD m n)))
theorem i_range1 {x : DX} {p : Pos} (hm : X.mg "range" = none) (ha : QD X K a x) (hg : Gl X "range" := by rfl) (hs : starEach [a] X.env = [(false, eval a X.env)] := by rfl) : IP X K tg (.Call (.Name "range" p) [a] [] pos) (sR1 x) := by
  refine ⟨fun δ Q Q' i q => ha.mono δ (asI_mono fun _ q => ⟨q.1, i _ q.2⟩) q, pi_weak (pi_range1 hg hm (b_cons ha b_nil hs).pa hs) fun σ H R ⟨Hb, B, O, δ, S, q⟩ => ⟨Hb, B, O, δ, S, ha.mono δ (fun d k vs H1 s1 as => ?_) q⟩⟩
  obtain ⟨v, rfl, a⟩ := as.one
  obtain ⟨n, rfl, ⟨k1, k2, k3, k4, k5⟩, k⟩ := asI_at k a
  refine ⟨n, rfl, by omega, by omega, ?_⟩
  have := k (Itr 0 (n - 0).toNat) H1 s1 (by rw [rg_len]; exact k5) (walk_range 0 n)
  rw [Int.sub_zero] at this
  exact this
theorem i_range2 {x y : DX} {p : Pos} (hm : X.mg "range" = none) (ha : QD X K a x) (hb : QD X K b y) (hg : Gl X "range" := by rfl) (hs : starEach [a, b] X.env = [(false, eval a X.env), (false, eval b X.env)] := by rfl) (hs2 : starEach [b] X.env = [(false, eval b X.env)] := by rfl) :
    IP X K tg (.Call (.Name "range" p) [a, b] [] pos) (sR2 x y) := by
  have hs' : starEach [a, b] X.env = (false, eval a X.env) :: starEach [b] X.env := by rw [hs, hs2]
  refine ⟨fun δ Q Q' i q => ha.mono δ (asI_mono fun _ => hb.mono δ (asI_mono fun _ q => ⟨q.1, i _ q.2⟩)) q, pi_weak (pi_range2 hg hm (b_cons ha (b_cons hb b_nil hs2) hs').pa hs hs2) fun σ H R ⟨Hb, B, O, δ, S, q⟩ => ⟨Hb, B, O, δ, S, ?_⟩⟩
  show x δ fun d => y δ fun e => _
  refine ha.mono δ (fun d k => ?_) q
  cases d with
  | int i =>
    refine hb.mono δ (fun d k vs H1 s1 as => ?_) k
    obtain ⟨v, w, rfl, a1, a2⟩ := as.two
    obtain ⟨n, rfl, ⟨k1, k2, k3, k4, k5⟩, k⟩ := asI_at k a2
    rw [a1.int]
    exact ⟨i, n, rfl, ⟨by omega, by omega, by omega, by omega⟩, k _ H1 s1 (by rw [rg_len]; exact k5) (walk_range _ _)⟩
  | non | bl _ | str _ | tup _ | lst _ | scr _ | dic _ _ | ref _ => exact k.elim
/-- enumerate, reversed, zip over lists -/
def enumD (l : List D) : Nat → List D
  | i => (List.range l.length).map fun j => D.tup [.int ((i + j : Nat) : Int), l.getD j .non]
theorem walk_enum {H0 Hf : Hp} {p : Addr} {vs : List V} {l : List D} (h : SqL K H0 p vs) (a : AtAll K Hf vs l) : WalkD K H0 Hf (enumD l 0) (Ite K p) := fun i H s => by
  have en : (enumD l 0).length = l.length := by unfold enumD; rw [List.length_map, List.length_range]
  refine ⟨fun d e => ?_, fun n => ⟨vs, s.seq h, by rw [a.len, ← en]; exact n⟩⟩
  have hi : i < l.length := by rw [← en]; exact (List.getElem?_eq_some_iff.mp e).1
  unfold enumD at e
  rw [List.getElem?_map, List.getElem?_range hi] at e
  obtain rfl := (Option.some.inj e).symm
  have e' : l[i]? = some (l.getD i .non) := by rw [List.getD_eq_getElem?_getD, List.getElem?_eq_getElem hi]; rfl
  obtain ⟨v, ev, av⟩ := a.get' e'
  refine ⟨⟨vs, v, s.seq h, ev⟩, fun x H' y => ?_⟩
  obtain ⟨t, w, rfl, n, rfl, y⟩ := y
  have := y vs (s.seq h)
  rw [ev] at this
  obtain rfl := Option.some.inj this
  refine ⟨same_new n, fun O hO sf => At.newT hO n (by show 2 ≤ LIM; decide) (.cons ?_ (.cons (av.mono sf) .nil))⟩
  rw [Nat.zero_add]
  exact .int _
def sEn (x : DX) : DAs := fun δ Q => sL x δ fun l => Q (enumD l 0)
theorem i_enum {x : DX} {elts : List Expr} {kk : Nat} {tpos p : Pos} (hm : X.mg "enumerate" = none) (h : PD X K e x) (hK : X.K = K := by rfl) (hg : Gl X "enumerate" := by rfl) (hs : starEach [e] X.env = [(false, eval e X.env)] := by rfl) :
    IP X K (.Tuple elts kk tpos) (.Call (.Name "enumerate" p) [e] [] pos) (sEn x) := by
  subst hK
  refine ⟨fun δ Q Q' i q => sL_mono h.mono δ (fun l => i _) q, pi_weak (pi_enum hg hm (a_cons h a_nil hs).pa hs) fun σ H R ⟨Hb, B, O, δ, S, q⟩ => ⟨Hb, B, O, δ, S, h.mono δ (fun d k vs H1 s1 as => ?_) q⟩⟩
  have en : ∀ l : List D, (enumD l 0).length = l.length := fun l => by unfold enumD; rw [List.length_map, List.length_range]
  obtain ⟨l, hl, k⟩ := asL_of k
  cases as with
  | cons a r =>
    cases r
    obtain ⟨p, vs, rfl, h1, h2, h3⟩ := a.asL hl
    exact ⟨_, _, rfl, hid_out.seq h1, k _ H1 s1 (by rw [en]; exact h2) (walk_enum h1 h3)⟩
theorem walk_rev {H0 Hf : Hp} {p : Addr} {vs : List V} {l : List D} (h : SqL K H0 p vs) (a : AtAll K Hf vs l) : WalkD K H0 Hf l.reverse (Itv K p vs.length) := fun i H s => by
  refine ⟨fun d e => ?_, fun n => by rw [List.length_reverse, ← a.len] at n; exact n⟩
  have hi : i < l.length := by have := (List.getElem?_eq_some_iff.mp e).1; rw [List.length_reverse] at this; exact this
  rw [List.getElem?_reverse hi] at e
  obtain ⟨v, ev, av⟩ := a.get' e
  rw [← a.len] at ev hi
  refine ⟨⟨hi, vs, v, s.seq h, ev⟩, fun x H' y => ?_⟩
  obtain ⟨rfl, y⟩ := y
  have := y vs (s.seq h)
  rw [ev] at this
  obtain rfl := Option.some.inj this
  exact ⟨.refl _, fun O hO sf => av.mono sf⟩
def sRev (x : DX) : DAs := fun δ Q => sL x δ fun l => Q l.reverse
theorem i_rev {x : DX} {p : Pos} (hm : X.mg "reversed" = none) (h : PD X K e x) (hK : X.K = K := by rfl) (hg : Gl X "reversed" := by rfl) (hs : starEach [e] X.env = [(false, eval e X.env)] := by rfl) :
    IP X K tg (.Call (.Name "reversed" p) [e] [] pos) (sRev x) := by
  subst hK
  refine ⟨fun δ Q Q' i q => sL_mono h.mono δ (fun l => i _) q, pi_weak (pi_reversed hg hm (a_cons h a_nil hs).pa hs) fun σ H R ⟨Hb, B, O, δ, S, q⟩ => ⟨Hb, B, O, δ, S, h.mono δ (fun d k vs H1 s1 as => ?_) q⟩⟩
  obtain ⟨l, hl, k⟩ := asL_of k
  cases as with
  | cons a r =>
    cases r
    obtain ⟨p, vs, rfl, h1, h2, h3⟩ := a.asL hl
    exact ⟨_, _, rfl, hid_out.seq h1, k _ H1 s1 (by rw [List.length_reverse]; exact h2) (walk_rev h1 h3)⟩
def zipD : List D → List D → List D
  | a :: l, b :: m => .tup [a, b] :: zipD l m
  | _, _ => []
theorem zipD_len : ∀ l m : List D, (zipD l m).length = min l.length m.length
  | [], m => by simp [zipD]
  | a :: l, [] => by simp [zipD]
  | a :: l, b :: m => by rw [zipD, List.length_cons, zipD_len l m, List.length_cons, List.length_cons]; omega
theorem zipD_get : ∀ {l m : List D} {i : Nat} {d : D}, (zipD l m)[i]? = some d → ∃ a b, l[i]? = some a ∧ m[i]? = some b ∧ d = .tup [a, b]
  | [], m, i, d, h => by simp [zipD] at h
  | a :: l, [], i, d, h => by simp [zipD] at h
  | a :: l, b :: m, 0, d, h => by simp [zipD] at h; exact ⟨a, b, rfl, rfl, h.symm⟩
  | a :: l, b :: m, i + 1, d, h => by
    have h' : (zipD l m)[i]? = some d := by simpa [zipD] using h
    obtain ⟨x, y, h1, h2, h3⟩ := zipD_get h'
    exact ⟨x, y, by simpa using h1, by simpa using h2, h3⟩
theorem walk_zip {H0 Hf : Hp} {p r : Addr} {vs ws : List V} {l m : List D} (h : SqL K H0 p vs) (g : SqL K H0 r ws) (a : AtAll K Hf vs l) (b : AtAll K Hf ws m) : WalkD K H0 Hf (zipD l m) (Itz K p r) := fun i H s => by
  refine ⟨fun d e => ?_, fun n => ⟨vs, ws, s.seq h, s.seq g, by rw [zipD_len] at n; rw [a.len, b.len]; omega⟩⟩
  obtain ⟨x, y, h1, h2, rfl⟩ := zipD_get e
  obtain ⟨v, ev, av⟩ := a.get' h1
  obtain ⟨w, ew, aw⟩ := b.get' h2
  refine ⟨⟨vs, ws, v, w, s.seq h, s.seq g, ev, ew⟩, fun x H' y => ?_⟩
  obtain ⟨t, v', w', rfl, n, rfl, y1, y2⟩ := y
  have q1 := y1 vs (s.seq h)
  have q2 := y2 ws (s.seq g)
  rw [ev] at q1
  rw [ew] at q2
  obtain rfl := Option.some.inj q1
  obtain rfl := Option.some.inj q2
  exact ⟨same_new n, fun O hO sf => At.newT hO n (by show 2 ≤ LIM; decide) (.cons (av.mono sf) (.cons (aw.mono sf) .nil))⟩
def sZip (x y : DX) : DAs := fun δ Q => sL x δ fun l => sL y δ fun m => Q (zipD l m)
theorem i_zip {x y : DX} {elts : List Expr} {kk : Nat} {tpos p : Pos} (hm : X.mg "zip" = none) (ha : PD X K a x) (hb : PD X K b y) (hK : X.K = K := by rfl) (hg : Gl X "zip" := by rfl)
    (hs : starEach [a, b] X.env = (false, eval a X.env) :: starEach [b] X.env := by rfl) (hs2 : starEach [b] X.env = [(false, eval b X.env)] := by rfl) (hpl : (backTo pos (starEach [b] X.env)).any (·.1) = false := by rfl) :
    IP X K (.Tuple elts kk tpos) (.Call (.Name "zip" p) [a, b] [] pos) (sZip x y) := by
  subst hK
  refine ⟨fun δ Q Q' i q => sL_mono ha.mono δ (fun l => sL_mono hb.mono δ fun m => i _) q, pi_weak (pi_zip hg hm (a_cons ha (a_cons hb a_nil hs2) hs).pa hs hpl) fun σ H R ⟨Hb, B, O, δ, S, q⟩ => ⟨Hb, B, O, δ, S, ?_⟩⟩
  show x δ fun d => y δ fun e => _
  refine ha.mono δ (fun d k => ?_) q
  obtain ⟨l, hl, k⟩ := asL_of k
  refine hb.mono δ (fun e k vs H1 s1 as => ?_) k
  obtain ⟨m, hm, k⟩ := asL_of k
  cases as with
  | cons a1 r =>
    cases r with
    | cons a2 r =>
      cases r
      obtain ⟨p, vs, rfl, g1, g2, g3⟩ := a1.asL hl
      obtain ⟨r, ws, rfl, f1, f2, f3⟩ := a2.asL hm
      exact ⟨p, r, vs, ws, rfl, hid_out.seq g1, hid_out.seq f1, k _ H1 s1 (by rw [zipD_len]; omega) (walk_zip g1 f1 g3 f3)⟩
end
/-! ### targets -/
abbrev DG := D → List Sl → (List Sl → Prop) → Prop
def tG (K : PySem.W.Frag) (js : List Nat) (t : DG) : TG := fun v σ H Q => ∃ Hb B O δ d, Sta K Hb B O H σ δ ∧ At K (hid O H) v d ∧ t d δ fun δ' => ∀ σ', Sta K Hb B O H σ' δ' → (∀ vs, (∀ j ∈ js, j ∈ vs) → wipe σ' vs = wipe σ vs) → Q σ' H
structure GD (X : Cx) (K : PySem.W.Frag) (tg : Expr) (js : List Nat) (t : DG) : Prop where
  mono : ∀ d δ {Q Q' : List Sl → Prop}, (∀ δ, Q δ → Q' δ) → t d δ Q → t d δ Q'
  ext : ∀ d δ (P : Prop), t d δ (fun _ => P) → P
  pg : PG X tg (tG K js t)
abbrev DGs := List D → List Sl → (List Sl → Prop) → Prop
def tGs (K : PySem.W.Frag) (js : List Nat) (t : DGs) : TGs := fun vs σ H Q => ∃ Hb B O δ ds, Sta K Hb B O H σ δ ∧ AtAll K (hid O H) vs ds ∧ t ds δ fun δ' => ∀ σ', Sta K Hb B O H σ' δ' → (∀ vs, (∀ j ∈ js, j ∈ vs) → wipe σ' vs = wipe σ vs) → Q σ' H
structure GDs (X : Cx) (K : PySem.W.Frag) (tgs : List Expr) (js : List Nat) (t : DGs) : Prop where
  mono : ∀ d δ {Q Q' : List Sl → Prop}, (∀ δ, Q δ → Q' δ) → t d δ Q → t d δ Q'
  ext : ∀ d δ (P : Prop), t d δ (fun _ => P) → P
  len : ∀ d δ Q, t d δ Q → d.length = tgs.length
  pg : PGs X tgs (tGs K js t)
section
variable {X : Cx} {K : PySem.W.Frag} {tg e : Expr} {pos : Pos}
theorem wipe_set : ∀ {vs : List Nat} {σ : St} {j : Nat} {x : Option V}, j ∈ vs → wipe (σ.set j x) vs = wipe σ vs
  | v :: vs, σ, j, x, h => by
    unfold wipe
    by_cases e : j ∈ vs
    · rw [wipe_set e]
    · have ej : j = v := by
        rcases List.mem_cons.mp h with h | h
        · exact h
        · exact absurd h e
      subst ej
      have : ∀ (vs : List Nat) (σ : St), (wipe (σ.set j x) vs).set j none = (wipe σ vs).set j none := by
        intro vs
        induction vs with
        | nil => intro σ; show (σ.set j x).set j none = _; rw [List.set_set]; rfl
        | cons u us ih =>
          intro σ
          unfold wipe
          by_cases hu : u = j
          · subst hu; rw [List.set_set, List.set_set, ih]
          · rw [List.set_comm _ _ hu, List.set_comm _ _ hu, ih]
      exact this vs σ
  | [], _, _, _, h => by cases h
def gN (i : Nat) : DG := fun d δ Q => Q (δ.set i (.d d))
theorem g_name {i : Nat} {x : Str} (hN : X.N.Nodup) (hi : X.N[i]? = some x) (hx : Loc X.env.scope x) (hf : X.fn x = true ∨ X.env.scope.names.lookup x = some .local := by first | exact .inl rfl | exact .inr rfl | assumption) : GD X K (.Name x pos) [i] (gN i) := by
  refine ⟨fun d δ Q Q' i q => i _ q, fun d δ P q => q, ⟨fun pins s σ H v u Q I r ⟨Hb, B, O, δ, d, S, a, q⟩ => (pg_name hN hi hx hf).run pins s σ H v u Q I r ?_⟩⟩
  exact q _ (S.set a) fun vs h => wipe_set (h i (List.mem_singleton.mpr rfl))
def gsN : DGs := fun ds δ Q => match ds with
  | [] => Q δ
  | _ => False
def gsC (t : DG) (u : DGs) : DGs := fun ds δ Q => match ds with
  | d :: ds => t d δ fun δ' => u ds δ' Q
  | [] => False
theorem gs_nil : GDs X K [] [] gsN := by
  refine ⟨fun ds δ Q Q' i q => ?_, fun ds δ P q => ?_, fun ds δ Q q => ?_, ⟨fun pins s σ H vs us Q I r ⟨Hb, B, O, δ, ds, S, a, q⟩ => pgs_nil.run pins s σ H vs us Q I r ?_⟩⟩
  · cases ds with
    | nil => exact i _ q
    | cons d ds => exact q
  · cases ds with
    | nil => exact q
    | cons d ds => exact q.elim
  · cases ds with
    | nil => rfl
    | cons d ds => exact q.elim
  · cases ds with
    | nil => cases a; exact ⟨rfl, q σ S fun vs _ => rfl⟩
    | cons d ds => exact q.elim
theorem gs_cons {es : List Expr} {js ks : List Nat} {t : DG} {u : DGs} (h1 : GD X K e js t) (h2 : GDs X K es ks u) (hs : (assignEach (e :: es) X.env).map (·.2) = assign e X.env :: (assignEach es X.env).map (·.2) := by rfl) : GDs X K (e :: es) (js ++ ks) (gsC t u) := by
  refine ⟨fun ds δ Q Q' i q => ?_, fun ds δ P q => ?_, fun ds δ Q q => ?_, ⟨fun pins s σ H vs us Q I r ⟨Hb, B, O, δ, ds, S, a, q⟩ => (pgs_cons h1.pg h2.pg hs).run pins s σ H vs us Q I r ?_⟩⟩
  · cases ds with
    | nil => exact q
    | cons d ds => exact h1.mono d δ (fun δ' => h2.mono ds δ' i) q
  · cases ds with
    | nil => exact q.elim
    | cons d ds => exact h1.ext d δ P (h1.mono d δ (fun δ' => h2.ext ds δ' P) q)
  · cases ds with
    | nil => exact q.elim
    | cons d ds =>
      rw [List.length_cons, List.length_cons]
      exact congrArg (· + 1) (h1.ext d δ _ (h1.mono d δ (fun δ' => h2.len ds δ' Q) q))
  · cases ds with
    | nil => exact q.elim
    | cons d ds =>
      cases a with
      | cons a r =>
        refine ⟨_, _, rfl, Hb, B, O, δ, d, S, a, h1.mono d δ (fun δ' k σ' S' hw => ?_) q⟩
        exact ⟨Hb, B, O, δ', ds, S', r, h2.mono ds δ' (fun δ'' k σ'' S'' hw2 => k σ'' S'' fun vs hv => (hw2 vs fun j hj => hv j (List.mem_append_right _ hj)).trans (hw vs fun j hj => hv j (List.mem_append_left _ hj))) k⟩
def gT (u : DGs) : DG := fun d δ Q => match d with
  | .tup l => u l δ Q
  | _ => False
theorem g_tup {es : List Expr} {k : Nat} {js : List Nat} {u : DGs} (h : GDs X K es js u) (hc : X.calm = true := by rfl) (hK : X.K = K := by rfl) (hn : (assignEach es X.env).length = es.length := by rfl) (hst : (assignEach es X.env).findIdx? (·.1) = none := by rfl) : GD X K (.Tuple es k pos) js (gT u) := by
  subst hK
  refine ⟨fun d δ Q Q' i q => ?_, fun d δ P q => ?_, ⟨fun pins s σ H v w Q I r ⟨Hb, B, O, δ, d, S, a, q⟩ => (pg_tup hc h.pg hn hst).run pins s σ H v w Q I r ?_⟩⟩
  · cases d with
    | tup l => exact h.mono l δ i q
    | non | bl _ | int _ | str _ | lst _ | scr _ | dic _ _ | ref _ => exact q.elim
  · cases d with
    | tup l => exact h.ext l δ P q
    | non | bl _ | int _ | str _ | lst _ | scr _ | dic _ _ | ref _ => exact q.elim
  · cases d with
    | tup l =>
      cases a with
      | tup h1 h2 h3 => exact ⟨_, _, rfl, sqT_mono hid_out h1, by rw [h3.len]; exact h.len l δ _ q, Hb, B, O, δ, l, S, h3, q⟩
    | non | bl _ | int _ | str _ | lst _ | scr _ | dic _ _ | ref _ => exact q.elim
end
end DL

namespace DL
open PySem L2
/-! ### comprehensions -/
def wipeD (δ : List Sl) : List Nat → List Sl
  | [] => δ
  | v :: vs => (wipeD δ vs).set v .no
def lcRun (t : DG) (tst : DT) (elt : DX) (δ : List Sl) (Q : List D → Prop) : List D → List D → Prop
  | [], acc => Q acc
  | x :: xs, acc => t x δ fun δ' => tst δ' fun b => if b = true then elt δ' fun y => lcRun t tst elt δ Q xs (acc ++ [y]) else lcRun t tst elt δ Q xs acc
def tYesD : DT := fun _ Q => Q true
structure TsD (X : Cx) (K : PySem.W.Frag) (es : List Expr) (x : DT) : Prop where
  mono : MonoT x
  pts : PTs X es (tT K x)
section
variable {X : Cx} {K : PySem.W.Frag} {e : Expr} {pos : Pos}
theorem pts_weak {es : List Expr} {t t' : TT} (h : PTs X es t) (i : ∀ σ H Q, t' σ H Q → t σ H Q) : PTs X es t' := ⟨fun pins s σ H Q I q => h.run pins s σ H Q I (i _ _ _ q)⟩
theorem ts_nil : TsD X K [] tYesD := ⟨fun δ Q Q' i q => i _ q, pts_weak pts_nil fun σ H Q ⟨Hb, B, O, δ, S, q⟩ => q H (.refl H)⟩
theorem ts_one {x : DT} (h : TD X K e x) : TsD X K [e] x := ⟨h.mono, pts_one h.pt⟩
theorem Sta.wiped {Hb H : Hp} {B O : List Addr} {σ : St} {δ : List Sl} (S : Sta K Hb B O H σ δ) : ∀ vs : List Nat, Sta K Hb B O H (wipe σ vs) (wipeD δ vs)
  | [] => S
  | v :: vs => (S.wiped vs).unset
theorem wipe_wipe (σ : St) : ∀ us vs : List Nat, (∀ u ∈ us, u ∈ vs) → wipe (wipe σ us) vs = wipe σ vs
  | [], vs, _ => rfl
  | u :: us, vs, h => by
    show wipe ((wipe σ us).set u none) vs = _
    rw [wipe_set (h u List.mem_cons_self)]
    exact wipe_wipe σ us vs fun w hw => h w (List.mem_cons_of_mem _ hw)
theorem lcRun_mono {t : DG} {tst : DT} {elt : DX} {δ : List Sl} {Q Q' : List D → Prop} (mg : ∀ d δ {Q Q' : List Sl → Prop}, (∀ δ, Q δ → Q' δ) → t d δ Q → t d δ Q') (mt : MonoT tst) (me : MonoX elt) (i : ∀ l, Q l → Q' l) :
    ∀ l acc, lcRun t tst elt δ Q l acc → lcRun t tst elt δ Q' l acc
  | [], acc, h => i _ h
  | x :: xs, acc, h => mg x δ (fun δ' => mt δ' fun b => ite_mono b (me δ' fun y => lcRun_mono mg mt me i xs _) (lcRun_mono mg mt me i xs acc)) h
def fLc (src : DAs) (t : DG) (tst : DT) (elt : DX) (vs : List Nat) : DAs := fun δ Q => src δ fun l => lcRun t tst elt (wipeD δ vs) Q l []
theorem tLc_of {src : DAs} {t : DG} {tst : DT} {elt : DX} {vs js : List Nat} (ms : MonoA src) (mg : ∀ d δ {Q Q' : List Sl → Prop}, (∀ δ, Q δ → Q' δ) → t d δ Q → t d δ Q') (mt : MonoT tst) (me : MonoX elt) (hj : ∀ j ∈ js, j ∈ vs) {σ : St} {H : Hp} {Q : VK}
    (h : tF K (fLc src t tst elt vs) σ H Q) : tLc (iQ K src) (tG K js t) (tT K tst) (tP K elt) vs σ H Q := by
  obtain ⟨Hb, B, O, δ, S, q⟩ := h
  refine ⟨Hb, B, O, δ, S, ms δ (fun l q J H1 s1 hl wk Dn n => ?_) q⟩
  have S0 := S.grow s1
  have live : ∀ b ∈ O, H1 b ≠ none := S0.live
  let Qf : List D → Prop := fun l => ∀ p vs H', Same H H' → H p = none → H' p = some (.lst vs) → l.length ≤ LIM → AtAll K (hid (p :: O) H') vs l → Q (.ref p) H'
  let W : Nat → Nat → Hp → Prop := fun i m H2 => m = l.length - i ∧ i ≤ l.length ∧ ∃ acc ws, Same H1 H2 ∧ H2 Dn = some (.lst ws) ∧ acc.length ≤ i ∧ AtAll K (hid (Dn :: O) H2) ws acc ∧ lcRun t tst elt (wipeD δ vs) Qf (l.drop i) acc
  refine ⟨W, ⟨l.length, by simp, Nat.zero_le _, [], [], same_new n, upd_same, Nat.le_refl _, .nil, q⟩, ?_⟩
  rintro i m H2 ⟨rfl, hi, acc, ws, s2, hd, ha, at2, q⟩
  have nn : H2 Dn ≠ none := by rw [hd]; exact fun z => by cases z
  by_cases lt : i < l.length
  · right
    obtain ⟨d, ed⟩ : ∃ d, l[i]? = some d := ⟨l[i], List.getElem?_eq_getElem lt⟩
    have dr : l.drop i = d :: l.drop (i + 1) := by
      rw [List.drop_eq_getElem_cons lt]
      rw [List.getElem?_eq_getElem lt] at ed
      rw [Option.some.inj ed]
    obtain ⟨go, yl⟩ := (wk i H2 s2).1 d ed
    refine ⟨go, W (i + 1) (l.length - (i + 1)), fun H' w => ⟨_, by omega, w⟩, fun x H3 y => ?_⟩
    obtain ⟨s3, ax⟩ := yl x H3 y
    have S2 := (S0.wiped vs).more n s2 nn
    have ax := ax (Dn :: O) S2.live (hid_new n s2)
    have S3 := S2.grow s3
    rw [dr] at q
    refine ⟨Hb, B, Dn :: O, wipeD δ vs, d, S3, ax, mg d _ (fun δ' q σ' S' hw => ⟨?_, ?_⟩) q⟩
    · rw [hw vs hj, wipe_wipe σ vs vs fun _ z => z]
    · refine ⟨Hb, B, Dn :: O, δ', S', mt δ' (fun b q H4 s4 => ite_mono b (fun q => ?_) (fun q => ?_) q) q⟩
      · refine ⟨Hb, B, Dn :: O, δ', S'.grow s4, me δ' (fun y q v H5 s5 ay => ?_) q⟩
        have s35 := s3.trans (s4.trans s5)
        refine ⟨ws, s35 _ _ hd, ?_, rfl, lt, acc ++ [y], ws ++ [v], same_new' (s2.trans s35) n, upd_same, ?_, ?_, q⟩
        · rw [at2.len]; exact Nat.lt_of_le_of_lt (Nat.le_trans ha (Nat.le_trans hi hl)) LIM_size
        · rw [List.length_append, List.length_singleton]; omega
        · rw [hid_upd List.mem_cons_self]
          exact (at2.mono (hid_same s35)).append (.cons ay .nil)
      · have s34 := s3.trans s4
        exact ⟨rfl, lt, acc, ws, s2.trans s34, s34 _ _ hd, by omega, at2.mono (hid_same s34), q⟩
  · left
    have e : i = l.length := by omega
    subst e
    rw [List.drop_length] at q
    exact ⟨(wk _ H2 s2).2 (Nat.le_refl _), q Dn ws H2 (s1.trans s2) (s1.free n) hd (Nat.le_trans ha hl) at2⟩
variable {elt tg iter : Expr} {ifs : List Expr} {scope : Scope} {own : List (Str × Nat)} {spos : Pos}
theorem lc_monos {t : DG} {tst : DT} {el : DX} {js : List Nat} (hg : ∀ (s : Shared) (H : Hp) (C : Addr) (cl : List (Str × Addr)) (fp : List Addr), GD (X.blk s H scope (compEnvC scope cl C X.env) fp) K tg js t)
    (ht : ∀ (s : Shared) (H : Hp) (C : Addr) (cl : List (Str × Addr)) (fp : List Addr), TsD (X.blk s H scope (compEnvC scope cl C X.env) fp) K ifs tst)
    (he : ∀ (s : Shared) (H : Hp) (C : Addr) (cl : List (Str × Addr)) (fp : List Addr), PD (X.blk s H scope (compEnvC scope cl C X.env) fp) K elt el) : (∀ d δ {Q Q' : List Sl → Prop}, (∀ δ, Q δ → Q' δ) → t d δ Q → t d δ Q') ∧ MonoT tst ∧ MonoX el :=
  ⟨(hg {} (fun _ => none) 0 [] []).mono, (ht {} (fun _ => none) 0 [] []).mono, (he {} (fun _ => none) 0 [] []).mono⟩
theorem f_lc {src : DAs} {t : DG} {tst : DT} {el : DX} {js : List Nat} (hN : X.N.Nodup) (hi : IQ X K tg iter src) (ok : BlkOk X.N X.env.scope scope own)
    (hg : ∀ (s : Shared) (H : Hp) (C : Addr) (cl : List (Str × Addr)) (fp : List Addr), GD (X.blk s H scope (compEnvC scope cl C X.env) fp) K tg js t)
    (ht : ∀ (s : Shared) (H : Hp) (C : Addr) (cl : List (Str × Addr)) (fp : List Addr), TsD (X.blk s H scope (compEnvC scope cl C X.env) fp) K ifs tst)
    (he : ∀ (s : Shared) (H : Hp) (C : Addr) (cl : List (Str × Addr)) (fp : List Addr), PD (X.blk s H scope (compEnvC scope cl C X.env) fp) K elt el)
    (hj : ∀ j ∈ js, j ∈ own.map (·.2) := by decide) (hc : X.calm = true := by rfl) (hs : ∀ x, foldedSetIterable iter X.env x = pure x := by intro _; rfl) :
    FD X K (.ListComp elt [⟨tg, iter, ifs, 0⟩] scope pos) (fLc src t tst el (own.map (·.2))) := by
  obtain ⟨m1, m2, m3⟩ := lc_monos hg ht he
  exact ⟨fun δ Q Q' i q => hi.mono δ (fun l => lcRun_mono m1 m2 m3 i l []) q, pe_weak (pe_lc hc hN hi.pi ok (fun s H C cl fp => (hg s H C cl fp).pg) (fun s H C cl fp => (ht s H C cl fp).pts) (fun s H C cl fp => (he s H C cl fp).pe) hs) fun σ H Q h => tLc_of hi.mono m1 m2 m3 hj h⟩
end
/-! ## statements -/
structure DE where
  nx : List Sl → Prop
  rt : D → Prop
  bk : List Sl → Prop
  ct : List Sl → Prop
  ex : Addr → Prop
abbrev DS := DE → List Sl → Prop
structure Lk (K : PySem.W.Frag) (Ex : XK) (Hb : Hp) (B : List Addr) (F : DE) (E : Ends) : Prop where
  nx : ∀ O σ H δ, Sta K Hb B O H σ δ → F.nx δ → E.nx σ H
  bk : ∀ O σ H δ, Sta K Hb B O H σ δ → F.bk δ → E.bk σ H
  ct : ∀ O σ H δ, Sta K Hb B O H σ δ → F.ct δ → E.ct σ H
  rt : ∀ v H d, Same Hb H → At K (hid B H) v d → F.rt d → E.rt v H
  ex : ∀ C H, Same Hb H → F.ex C → Ex (.ref C) none H
def tS (K : PySem.W.Frag) (Ex : XK) (g : DS) : TS := fun E σ H => ∃ Hb B O δ F, Sta K Hb B O H σ δ ∧ g F δ ∧ Lk K Ex Hb B F E
structure SD (X : Cx) (K : PySem.W.Frag) (Ex : XK) (st : Stmt) (g : DS) : Prop where
  ps : PS X st (tS K Ex g)
structure SDs (X : Cx) (K : PySem.W.Frag) (Ex : XK) (sts : List Stmt) (g : DS) : Prop where
  pss : PSs X sts (tS K Ex g)
section
variable {X : Cx} {K : PySem.W.Frag} {Ex : XK} {e : Expr} {pos : Pos} {st : Stmt} {sts : List Stmt}
theorem ps_weak {t t' : TS} (h : PS X st t) (i : ∀ E σ H, t' E σ H → t E σ H) : PS X st t' := ⟨fun pins s σ H E I q => h.run pins s σ H E I (i _ _ _ q)⟩
theorem pss_weak {t t' : TS} (h : PSs X sts t) (i : ∀ E σ H, t' E σ H → t E σ H) : PSs X sts t' := ⟨fun pins s σ H E I q => h.run pins s σ H E I (i _ _ _ q)⟩
def gNext : DS := fun F δ => F.nx δ
def gSeq (g h : DS) : DS := fun F δ => g { F with nx := h F } δ
theorem ss_nil : SDs X K Ex [] gNext := ⟨pss_weak pss_nil fun E σ H ⟨Hb, B, O, δ, F, S, q, L⟩ => L.nx _ _ _ _ S q⟩
theorem ss_cons {g h : DS} (h1 : SD X K Ex st g) (h2 : SDs X K Ex sts h) : SDs X K Ex (st :: sts) (gSeq g h) :=
  ⟨pss_weak (pss_cons h1.ps h2.pss) fun E σ H ⟨Hb, B, O, δ, F, S, q, L⟩ => ⟨Hb, B, O, δ, { F with nx := h F }, S, q, fun O' σ' H' δ' S' q' => ⟨Hb, B, O', δ', F, S', q', L⟩, L.bk, L.ct, L.rt, L.ex⟩⟩
theorem ss_one {g : DS} (h1 : SD X K Ex st g) : SDs X K Ex [st] g := ⟨pss_one h1.ps⟩
theorem s_pass : SD X K Ex (.Pass pos) gNext := ⟨ps_weak ps_pass fun E σ H ⟨Hb, B, O, δ, F, S, q, L⟩ => L.nx _ _ _ _ S q⟩
def gBreak : DS := fun F δ => F.bk δ
def gCont : DS := fun F δ => F.ct δ
theorem s_break : SD X K Ex (.Break pos) gBreak := ⟨ps_weak ps_break fun E σ H ⟨Hb, B, O, δ, F, S, q, L⟩ => L.bk _ _ _ _ S q⟩
theorem s_continue : SD X K Ex (.Continue pos) gCont := ⟨ps_weak ps_continue fun E σ H ⟨Hb, B, O, δ, F, S, q, L⟩ => L.ct _ _ _ _ S q⟩
def gNever : DS := fun _ _ => False
theorem s_never : SD X K Ex st gNever := ⟨ps_weak ps_never fun E σ H ⟨Hb, B, O, δ, F, S, q, L⟩ => q⟩
def gDrop (x : DX) : DS := fun F δ => x δ fun _ => F.nx δ
theorem s_expr {x : DX} (h : QD X K e x) (hs : swapsWith e none pos.line X.env = pure false := by rfl) : SD X K Ex (.Expr e pos) (gDrop x) :=
  ⟨ps_weak (ps_expr h.pe hs) fun E σ H ⟨Hb, B, O, δ, F, S, q, L⟩ => ⟨Hb, B, O, δ, S, h.mono δ (fun d k v H' s a => L.nx _ _ _ _ (S.grow s) k) q⟩⟩
def gRet (x : DX) : DS := fun F δ => x δ F.rt
theorem s_ret {x : DX} (h : PD X K e x) : SD X K Ex (.Return (some e) pos) (gRet x) :=
  ⟨ps_weak (ps_ret h.pe) fun E σ H ⟨Hb, B, O, δ, F, S, q, L⟩ => ⟨Hb, B, O, δ, S, h.mono δ (fun d k v H' s a => L.rt v H' d (S.same.trans s) ((S.grow s).out a) k) q⟩⟩
def gRetN : DS := fun F _ => F.rt .non
theorem s_retN : SD X K Ex (.Return none pos) gRetN := ⟨ps_weak ps_retN fun E σ H ⟨Hb, B, O, δ, F, S, q, L⟩ => L.rt _ H _ S.same .non q⟩
/-- ahead of a statement: what an own name holds is from now on a value -/
def gFrz (i : Nat) (g : DS) : DS := fun F δ => match sl δ i with
  | .own l => g F (δ.set i (.d (.lst l)))
  | .owk ks vs => g F (δ.set i (.d (.dic ks vs)))
  | _ => False
theorem s_frz (i : Nat) {g : DS} (h : SD X K Ex st g) : SD X K Ex st (gFrz i g) := ⟨ps_weak h.ps fun E σ H ⟨Hb, B, O, δ, F, S, q, L⟩ => by
  unfold gFrz at q
  cases e : sl δ i with
  | own l =>
    rw [e] at q
    obtain ⟨O', S'⟩ := S.freeze (i := i) (by rw [e]; rfl)
    rw [e] at S'
    exact ⟨Hb, B, O', _, F, S', q, L⟩
  | owk ks l =>
    rw [e] at q
    obtain ⟨O', S'⟩ := S.freeze (i := i) (by rw [e]; rfl)
    rw [e] at S'
    exact ⟨Hb, B, O', _, F, S', q, L⟩
  | no => rw [e] at q; exact q.elim
  | d x => rw [e] at q; exact q.elim⟩
/-! ### stores -/
def gSet (i : Nat) (x : DX) : DS := fun F δ => x δ fun d => F.nx (δ.set i (.d d))
theorem s_set {i : Nat} {x : Str} {y : DX} {pos' : Pos} (hN : X.N.Nodup) (hi : X.N[i]? = some x) (hx : Loc X.env.scope x) (h : PD X K e y) (hs : swapsWith e (some (.Name x pos')) pos.line X.env = pure false := by rfl)
    (hf : X.fn x = true ∨ X.env.scope.names.lookup x = some .local := by first | exact .inl rfl | exact .inr rfl | assumption) : SD X K Ex (.Assign [.Name x pos'] e pos) (gSet i y) :=
  ⟨ps_weak (ps_set hN hi hx h.pe hs hf) fun E σ H ⟨Hb, B, O, δ, F, S, q, L⟩ => ⟨Hb, B, O, δ, S, h.mono δ (fun d k v H' s a => L.nx _ _ _ _ ((S.grow s).set a) k) q⟩⟩
def gOwn (i : Nat) (x : DAs) : DS := fun F δ => x δ fun l => F.nx (δ.set i (.own l))
theorem own_imp {Hb H H' : Hp} {B O : List Addr} {σ : St} {δ : List Sl} {i : Nat} {p : Addr} {vs : List V} {l : List D} (S : Sta K Hb B O H σ δ) (s : Same H H') (n : H p = none) (hp : H' p = some (.lst vs)) (hl : l.length ≤ LIM) (a : AtAll K (hid (p :: O) H') vs l) :
    Sta K Hb B (p :: O) H' (σ.set i (some (.ref p))) (δ.set i (.own l)) :=
  S.own_new n s rfl ⟨p, vs, rfl, List.mem_cons_self, S.same.free n, hp, hl, a⟩ (by rw [hp]; exact fun z => by cases z)
theorem s_own {i : Nat} {x : Str} {y : DAs} {pos' : Pos} (hN : X.N.Nodup) (hi : X.N[i]? = some x) (hx : Loc X.env.scope x) (h : FD X K e y) (hs : swapsWith e (some (.Name x pos')) pos.line X.env = pure false := by rfl)
    (hf : X.fn x = true ∨ X.env.scope.names.lookup x = some .local := by first | exact .inl rfl | exact .inr rfl | assumption) : SD X K Ex (.Assign [.Name x pos'] e pos) (gOwn i y) :=
  ⟨ps_weak (ps_set hN hi hx h.pe hs hf) fun E σ H ⟨Hb, B, O, δ, F, S, q, L⟩ => ⟨Hb, B, O, δ, S, h.mono δ (fun l k p vs H' s n hp hl a => L.nx _ _ _ _ (own_imp S s n hp hl a) k) q⟩⟩
/-! name = [.. for ..] -/
section
variable {elt tg iter : Expr} {ifs : List Expr} {scope : Scope} {own : List (Str × Nat)} {spos : Pos} {src : DAs} {t : DG} {tst : DT} {el : DX} {js : List Nat} {i : Nat} {y : Str} {py : Pos}
theorem s_ownLc (hN : X.N.Nodup) (hy : X.N[i]? = some y) (hi : IQ X K tg iter src) (ok : BlkOk X.N X.env.scope scope own)
    (hg : ∀ (s : Shared) (H : Hp) (C : Addr) (cl : List (Str × Addr)) (fp : List Addr), GD (X.blk s H scope (compEnvC scope cl C X.env) fp) K tg js t)
    (ht : ∀ (s : Shared) (H : Hp) (C : Addr) (cl : List (Str × Addr)) (fp : List Addr), TsD (X.blk s H scope (compEnvC scope cl C X.env) fp) K ifs tst)
    (he : ∀ (s : Shared) (H : Hp) (C : Addr) (cl : List (Str × Addr)) (fp : List Addr), PD (X.blk s H scope (compEnvC scope cl C X.env) fp) K elt el)
    (hj : ∀ j ∈ js, j ∈ own.map (·.2) := by decide) (hyl : X.env.scope.names.lookup y = some .local := by rfl)
    (hsw : swapsWith (.ListComp elt [⟨tg, iter, ifs, 0⟩] scope pos) (some (.Name y py)) spos.line X.env = pure true := by exact sw_true rfl rfl rfl (by decide +kernel))
    (hc : X.calm = true := by rfl) (hs : ∀ x, foldedSetIterable iter X.env x = pure x := by intro _; rfl) :
    SD X K Ex (.Assign [.Name y py] (.ListComp elt [⟨tg, iter, ifs, 0⟩] scope pos) spos) (gOwn i (fLc src t tst el (own.map (·.2)))) := by
  obtain ⟨m1, m2, m3⟩ := lc_monos hg ht he
  have mo : MonoA (fLc src t tst el (own.map (·.2))) := fun δ Q Q' i q => hi.mono δ (fun l => lcRun_mono m1 m2 m3 i l []) q
  refine ⟨ps_weak (ps_setLc hc hN hy hyl hsw hi.pi ok (fun s H C cl fp => (hg s H C cl fp).pg) (fun s H C cl fp => (ht s H C cl fp).pts) (fun s H C cl fp => (he s H C cl fp).pe) hs) fun E σ H ⟨Hb, B, O, δ, F, S, q, L⟩ => ?_⟩
  show tLc _ _ _ _ _ σ H _
  exact tLc_of hi.mono m1 m2 m3 hj ⟨Hb, B, O, δ, S, mo δ (fun l k p vs H' s n hp hl a => L.nx _ _ _ _ (own_imp S s n hp hl a) k) q⟩
theorem s_setLc (hN : X.N.Nodup) (hy : X.N[i]? = some y) (hi : IQ X K tg iter src) (ok : BlkOk X.N X.env.scope scope own)
    (hg : ∀ (s : Shared) (H : Hp) (C : Addr) (cl : List (Str × Addr)) (fp : List Addr), GD (X.blk s H scope (compEnvC scope cl C X.env) fp) K tg js t)
    (ht : ∀ (s : Shared) (H : Hp) (C : Addr) (cl : List (Str × Addr)) (fp : List Addr), TsD (X.blk s H scope (compEnvC scope cl C X.env) fp) K ifs tst)
    (he : ∀ (s : Shared) (H : Hp) (C : Addr) (cl : List (Str × Addr)) (fp : List Addr), PD (X.blk s H scope (compEnvC scope cl C X.env) fp) K elt el)
    (hj : ∀ j ∈ js, j ∈ own.map (·.2) := by decide) (hyl : X.env.scope.names.lookup y = some .local := by rfl)
    (hsw : swapsWith (.ListComp elt [⟨tg, iter, ifs, 0⟩] scope pos) (some (.Name y py)) spos.line X.env = pure true := by exact sw_true rfl rfl rfl (by decide +kernel))
    (hc : X.calm = true := by rfl) (hs : ∀ x, foldedSetIterable iter X.env x = pure x := by intro _; rfl) :
    SD X K Ex (.Assign [.Name y py] (.ListComp elt [⟨tg, iter, ifs, 0⟩] scope pos) spos) (gSet i (ofF (fLc src t tst el (own.map (·.2))))) := by
  obtain ⟨m1, m2, m3⟩ := lc_monos hg ht he
  have mo : MonoA (fLc src t tst el (own.map (·.2))) := fun δ Q Q' i q => hi.mono δ (fun l => lcRun_mono m1 m2 m3 i l []) q
  refine ⟨ps_weak (ps_setLc hc hN hy hyl hsw hi.pi ok (fun s H C cl fp => (hg s H C cl fp).pg) (fun s H C cl fp => (ht s H C cl fp).pts) (fun s H C cl fp => (he s H C cl fp).pe) hs) fun E σ H ⟨Hb, B, O, δ, F, S, q, L⟩ => ?_⟩
  show tLc _ _ _ _ _ σ H _
  refine tLc_of hi.mono m1 m2 m3 hj ⟨Hb, B, O, δ, S, mo δ (fun l k p vs H' s n hp hl a => L.nx _ _ _ _ ((S.grow s).set ?_) k) q⟩
  have np : p ∉ O := fun z => S.live p z n
  exact .lst (by rw [hid_of np]; exact hp) hl (a.mono (hid_sub fun _ z => List.mem_cons_of_mem _ z))
end
/-- target = value -/
def gAsg (x : DX) (t : DG) : DS := fun F δ => x δ fun d => t d δ F.nx
theorem s_asg {tg : Expr} {js : List Nat} {x : DX} {t : DG} (h : PD X K e x) (hg : GD X K tg js t) (hs : swapsWithSole [tg] e pos.line X.env = pure false := by rfl) (hw : swappedStores [tg] e X.env = pure none := by rfl)
    (h1 : (assignEach [tg] X.env).map (·.2) = [assign tg X.env] := by rfl) : SD X K Ex (.Assign [tg] e pos) (gAsg x t) :=
  ⟨ps_weak (ps_asg h.pe hg.pg hs hw h1) fun E σ H ⟨Hb, B, O, δ, F, S, q, L⟩ => ⟨Hb, B, O, δ, S, h.mono δ (fun d k v H' s a => ⟨Hb, B, O, δ, d, S.grow s, a, hg.mono d δ (fun δ' k σ' S' _ => L.nx _ _ _ _ S' k) k⟩) q⟩⟩
/-- a, b = x, y -/
def gPar (i j : Nat) (x y : DX) : DS := fun F δ => x δ fun a => y δ fun b => F.nx ((δ.set i (.d a)).set j (.d b))
theorem s_par {i j : Nat} {x y : Str} {a b : Expr} {u v : DX} {px py pt : Pos} {kt k2 pt2} (hN : X.N.Nodup) (hi : X.N[i]? = some x) (hj : X.N[j]? = some y) (ha : PD X K a u) (hb : PD X K b v)
    (hij : i ≠ j := by decide) (hx : X.env.scope.names.lookup x = some .local := by rfl) (hy : X.env.scope.names.lookup y = some .local := by rfl)
    (hw : swappedStores [.Tuple [.Name x px, .Name y py] kt pt] (.Tuple [a, b] k2 pt2) X.env = pure (some [x, y]) := by rfl)
    (hs : swapsWithSole [.Tuple [.Name x px, .Name y py] kt pt] (.Tuple [a, b] k2 pt2) pos.line X.env = pure false := by rfl)
    (h1 : starEach [a, b] X.env = (false, eval a X.env) :: starEach [b] X.env := by rfl) (h2 : starEach [b] X.env = (false, eval b X.env) :: starEach [] X.env := by rfl) (hc : X.calm = true := by rfl) :
    SD X K Ex (.Assign [.Tuple [.Name x px, .Name y py] kt pt] (.Tuple [a, b] k2 pt2) pos) (gPar i j u v) := by
  refine ⟨ps_weak (ps_par hc hN hi hj hij hx hy (a_cons ha (a_cons hb a_nil h2) h1).pa hw hs) fun E σ H ⟨Hb, B, O, δ, F, S, q, L⟩ => ⟨Hb, B, O, δ, S, ?_⟩⟩
  show u δ fun d => v δ fun e => _
  refine ha.mono δ (fun d k => hb.mono δ (fun e k vs H1 s1 as => ?_) k) q
  cases as with
  | cons a1 r => cases r with
    | cons a2 r =>
      cases r
      exact ⟨_, _, rfl, L.nx _ _ _ _ (((S.grow s1).set a1).set a2) k⟩
/-- name op= e, of ints -/
def gAug (i : Nat) (f : Int → Int → Int) (y : DX) : DS := fun F δ => dV i δ (asI fun m => y δ (asI fun n => F.nx (δ.set i (.d (.int (f m n))))))
theorem s_aug {i : Nat} {x : Str} {op : Operator} {f : Int → Int → Int} {y : DX} {pos' : Pos} (hN : X.N.Nodup) (hi : X.N[i]? = some x) (hx : Loc X.env.scope x) (h : QD X K e y) (ho : PIp X op (ipI f))
    (hf : X.fn x = true ∨ X.env.scope.names.lookup x = some .local := by first | exact .inl rfl | exact .inr rfl | assumption) : SD X K Ex (.AugAssign (.Name x pos') op e pos) (gAug i f y) := by
  refine ⟨ps_weak (ps_aug hN hi hx h.pe ho hf) fun E σ H ⟨Hb, B, O, δ, F, S, q, L⟩ => ?_⟩
  have a := S.at_ i
  unfold gAug dV at q
  cases es : sl δ i with
  | d x =>
    rw [es] at a q
    obtain ⟨v, h1, h2⟩ := a
    obtain ⟨m, rfl, k⟩ := asI_at q (.at_ h2)
    refine ⟨_, h1, Hb, B, O, δ, S, h.mono δ (fun d k v H1 s1 a => ?_) k⟩
    obtain ⟨n, rfl, k⟩ := asI_at k a
    exact ⟨m, n, rfl, rfl, L.nx _ _ _ _ ((S.grow s1).set (.int _)) k⟩
  | no => rw [es] at q; exact q.elim
  | own l => rw [es] at q; exact q.elim
  | owk ks l => rw [es] at q; exact q.elim
/-! ### own lists changed -/
def onOwn (Q : List D → Prop) : Sl → Prop
  | .own l => Q l
  | _ => False
theorem onOwn_at {Q : List D → Prop} {Hb H : Hp} {O : List Addr} {o : Option (Option V)} {s : Sl} (q : onOwn Q s) (a : SlOk K Hb O H o s) : ∃ l r vs, s = .own l ∧ Q l ∧ o = some (some (.ref r)) ∧ r ∈ O ∧ Hb r = none ∧ H r = some (.lst vs) ∧ l.length ≤ LIM ∧ AtAll K (hid O H) vs l := by
  cases s with
  | own l => obtain ⟨r, vs, h⟩ := a; exact ⟨l, r, vs, rfl, q, h⟩
  | no => exact q.elim
  | d x => exact q.elim
  | owk ks l => exact q.elim
theorem own_upd {Hb H : Hp} {B O : List Addr} {σ : St} {δ : List Sl} {i : Nat} {r : Addr} {l l' : List D} {vs : List V} (S : Sta K Hb B O H σ δ) (e : sl δ i = .own l) (hq : σ[i]? = some (some (.ref r))) (m : r ∈ O) (hb : Hb r = none) (hl : l'.length ≤ LIM) (a : AtAll K (hid O H) vs l') :
    Sta K Hb B O (upd H r (.lst vs)) σ (δ.set i (.own l')) :=
  S.own_upd (by rw [e]; rfl) hq m hb ⟨r, vs, rfl, m, hb, upd_same, hl, by rw [hid_upd m]; exact a⟩
def gApp (i : Nat) (x : DX) : DS := fun F δ => onOwn (fun l => x δ fun d => l.length < LIM ∧ F.nx (δ.set i (.own (l ++ [d])))) (sl δ i)
theorem s_append (i : Nat) {x : Str} {y : DX} {p1 p2 p3 : Pos} (h : PD X K e y) (hK : X.K = K := by rfl) (hN : X.N[i]? = some x := by rfl) (hv : Vis X.env.scope x := by first | exact Or.inl rfl | exact Or.inr (Or.inl rfl) | exact Or.inr (Or.inr rfl)) (hd : (x == ("__debug__" : Str)) = false := by decide)
    (hcd : (x == ("__classdict__" : Str)) = false := by decide) (hbase : attributeBase (.Name x p1) "append" X.env (eval (.Name x p1) X.env) = eval (.Name x p1) X.env := by rfl)
    (hfew : ((backTo p3 (starEach [e] X.env)).all (fun x => !x.1) && (backToKw p3 (keywordEach [] X.env)).all (fun x => x.1.isSome) && decide ([e].length + ([] : List Keyword).length + (if ([] : List Keyword).isEmpty then 0 else 1) < 30)) = true := by rfl)
    (hline : (p2.endLine == p3.line) = true := by rfl) (hs : starEach [e] X.env = (false, eval e X.env) :: starEach [] X.env := by rfl) (hpl : (backTo p3 (starEach [] X.env)).any (·.1) = false := by rfl)
    (hsw : swapsWith (.Call (.Attribute (.Name x p1) "append" p2) [e] [] p3) none pos.line X.env = pure false := by rfl) :
    SD X K Ex (.Expr (.Call (.Attribute (.Name x p1) "append" p2) [e] [] p3) pos) (gApp i y) := by
  subst hK
  refine ⟨ps_weak (ps_expr (pe_bm PySem.F.plainAttrs_list PySem.F.slot_list_append PySem.F.type_list_append mt_append (pe_var hN hv hd hcd) (a_cons h a_nil hs).pa hbase hfew hline hs hpl) hsw) fun E σ H ⟨Hb, B, O, δ, F, S, q, L⟩ => ?_⟩
  obtain ⟨l, r, vs, e1, q, h1, h2, h3, h4, h5, h6⟩ := onOwn_at q (S.at_ i)
  refine ⟨_, h1, .inl ⟨rfl, _, .inl (.inl h4)⟩, Hb, B, O, δ, S, h.mono δ (fun d ⟨k0, k⟩ ws H1 s1 as => ?_) q⟩
  cases as with
  | cons a1 r' =>
    cases r'
    refine ⟨r, vs, _, rfl, rfl, s1 _ _ h4, ?_, L.nx _ _ _ _ (own_upd (S.grow s1) e1 h1 h2 h3 ?_ ((h6.mono (hid_same s1)).append (.cons a1 .nil))) k⟩
    · rw [h6.len]; exact Nat.lt_trans k0 LIM_size
    · rw [List.length_append, List.length_singleton]; omega
def asLo (Q : List D → Prop) : D → Prop
  | .lst l => Q l
  | _ => False
def gExt (i : Nat) (x : DX) : DS := fun F δ => onOwn (fun l => x δ (asLo fun m => l.length + m.length ≤ LIM ∧ F.nx (δ.set i (.own (l ++ m))))) (sl δ i)
theorem s_extend (i : Nat) {x : Str} {y : DX} {p1 p2 p3 : Pos} (h : PD X K e y) (hK : X.K = K := by rfl) (hN : X.N[i]? = some x := by rfl) (hv : Vis X.env.scope x := by first | exact Or.inl rfl | exact Or.inr (Or.inl rfl) | exact Or.inr (Or.inr rfl)) (hd : (x == ("__debug__" : Str)) = false := by decide)
    (hcd : (x == ("__classdict__" : Str)) = false := by decide) (hbase : attributeBase (.Name x p1) "extend" X.env (eval (.Name x p1) X.env) = eval (.Name x p1) X.env := by rfl)
    (hfew : ((backTo p3 (starEach [e] X.env)).all (fun x => !x.1) && (backToKw p3 (keywordEach [] X.env)).all (fun x => x.1.isSome) && decide ([e].length + ([] : List Keyword).length + (if ([] : List Keyword).isEmpty then 0 else 1) < 30)) = true := by rfl)
    (hline : (p2.endLine == p3.line) = true := by rfl) (hs : starEach [e] X.env = (false, eval e X.env) :: starEach [] X.env := by rfl) (hpl : (backTo p3 (starEach [] X.env)).any (·.1) = false := by rfl)
    (hsw : swapsWith (.Call (.Attribute (.Name x p1) "extend" p2) [e] [] p3) none pos.line X.env = pure false := by rfl) :
    SD X K Ex (.Expr (.Call (.Attribute (.Name x p1) "extend" p2) [e] [] p3) pos) (gExt i y) := by
  subst hK
  refine ⟨ps_weak (ps_expr (pe_bm PySem.F.plainAttrs_list PySem.F.slot_list_extend PySem.F.type_list_extend mt_extend (pe_var hN hv hd hcd) (a_cons h a_nil hs).pa hbase hfew hline hs hpl) hsw) fun E σ H ⟨Hb, B, O, δ, F, S, q, L⟩ => ?_⟩
  obtain ⟨l, r, vs, e1, q, h1, h2, h3, h4, h5, h6⟩ := onOwn_at q (S.at_ i)
  refine ⟨_, h1, .inl ⟨rfl, _, .inl (.inl h4)⟩, Hb, B, O, δ, S, h.mono δ (fun d k ws H1 s1 as => ?_) q⟩
  cases as with
  | cons a1 r' =>
    cases r'
    unfold asLo at k
    split at k
    · obtain ⟨k0, k⟩ := k
      cases a1 with
      | lst g1 g2 g3 =>
        refine ⟨r, _, vs, _, rfl, rfl, s1 _ _ h4, hid_out _ _ g1, ?_, L.nx _ _ _ _ (own_upd (S.grow s1) e1 h1 h2 h3 ?_ ((h6.mono (hid_same s1)).append g3)) k⟩
        · rw [h6.len, g3.len]; exact lim_sz k0
        · rw [List.length_append]; exact k0
    · exact k.elim
/-- target = own.pop() -/
def gPop (i : Nat) (t : DG) : DS := fun F δ => onOwn (fun l => onSome l.getLast? fun d => t d (δ.set i (.own l.dropLast)) F.nx) (sl δ i)
theorem s_popSet (i : Nat) {x : Str} {tg : Expr} {js : List Nat} {t : DG} {p1 p2 p3 : Pos} (hg : GD X K tg js t) (hK : X.K = K := by rfl) (hN : X.N[i]? = some x := by rfl) (hv : Vis X.env.scope x := by first | exact Or.inl rfl | exact Or.inr (Or.inl rfl) | exact Or.inr (Or.inr rfl)) (hd : (x == ("__debug__" : Str)) = false := by decide)
    (hcd : (x == ("__classdict__" : Str)) = false := by decide) (hbase : attributeBase (.Name x p1) "pop" X.env (eval (.Name x p1) X.env) = eval (.Name x p1) X.env := by rfl) (hline : (p2.endLine == p3.line) = true := by rfl)
    (hs : swapsWithSole [tg] (.Call (.Attribute (.Name x p1) "pop" p2) [] [] p3) pos.line X.env = pure false := by rfl) (hw : swappedStores [tg] (.Call (.Attribute (.Name x p1) "pop" p2) [] [] p3) X.env = pure none := by rfl)
    (h1 : (assignEach [tg] X.env).map (·.2) = [assign tg X.env] := by rfl) : SD X K Ex (.Assign [tg] (.Call (.Attribute (.Name x p1) "pop" p2) [] [] p3) pos) (gPop i t) := by
  subst hK
  refine ⟨ps_weak (ps_asg (pe_bm0 PySem.F.plainAttrs_list PySem.F.slot_list_pop PySem.F.type_list_pop mt_pop (pe_var hN hv hd hcd) hbase hline) hg.pg hs hw h1) fun E σ H ⟨Hb, B, O, δ, F, S, q, L⟩ => ?_⟩
  obtain ⟨l, r, vs, e1, q, h1, h2, h3, h4, h5, h6⟩ := onOwn_at q (S.at_ i)
  obtain ⟨d, e2, k⟩ := of_onSome q
  rw [List.getLast?_eq_getElem?] at e2
  obtain ⟨v, ev, av⟩ := h6.get' e2
  rw [← h6.len] at ev
  refine ⟨_, h1, .inl ⟨rfl, _, .inl (.inl h4)⟩, r, vs, v, rfl, rfl, h4, ev, Hb, B, O, _, d, own_upd (l' := l.dropLast) S e1 h1 h2 h3 ?_ ?_, ?_, hg.mono d _ (fun δ' k σ' S' _ => L.nx _ _ _ _ S' k) k⟩
  · rw [List.length_dropLast]; omega
  · rw [List.dropLast_eq_take, List.dropLast_eq_take, h6.len]
    exact h6.take _
  · rw [hid_upd h2]; exact av
/-- own[i] = e -/
def gPut (i : Nat) (x y : DX) : DS := fun F δ => y δ fun d => onOwn (fun l => x δ (asI fun k => onSome (ixN l.length k) fun j => F.nx (δ.set i (.own (l.set j d))))) (sl δ i)
theorem s_put (i : Nat) {x : Str} {ie : Expr} {u v : DX} {p1 p2 : Pos} (hi : QD X K ie u) (h : PD X K e v) (hN : X.N[i]? = some x := by rfl) (hv : Vis X.env.scope x := by first | exact Or.inl rfl | exact Or.inr (Or.inl rfl) | exact Or.inr (Or.inr rfl)) (hd : (x == ("__debug__" : Str)) = false := by decide)
    (hcd : (x == ("__classdict__" : Str)) = false := by decide)
    (ha : ∀ v, assign (.Subscript (.Name x p1) ie p2) X.env v = (do
      let ov ← holding [v] (eval (.Name x p1) X.env)
      let iv ← holding [v, ov] (eval ie X.env)
      standAt p2
      holding [v, ov, iv] (setItem ov iv v)
      release [v, ov, iv] []) := by intro _; rfl)
    (hs : swapsWithSole [.Subscript (.Name x p1) ie p2] e pos.line X.env = pure false := by rfl) (hw : swappedStores [.Subscript (.Name x p1) ie p2] e X.env = pure none := by rfl)
    (h1 : (assignEach [.Subscript (.Name x p1) ie p2] X.env).map (·.2) = [assign (.Subscript (.Name x p1) ie p2) X.env] := by rfl) :
    SD X K Ex (.Assign [.Subscript (.Name x p1) ie p2] e pos) (gPut i u v) := by
  refine ⟨ps_weak (ps_asg h.pe (pg_sub (pe_var hN hv hd hcd) hi.pe set_list ha) hs hw h1) fun E σ H ⟨Hb, B, O, δ, F, S, q, L⟩ => ⟨Hb, B, O, δ, S, h.mono δ (fun d q w H1 s1 aw => ?_) q⟩⟩
  have S1 := S.grow s1
  obtain ⟨l, r, vs, e1, q, h1, h2, h3, h4, h5, h6⟩ := onOwn_at q (S1.at_ i)
  refine ⟨_, h1, Hb, B, O, δ, S1, hi.mono δ (fun ix q z H2 s2 az => ?_) q⟩
  obtain ⟨k, rfl, q⟩ := asI_at q az
  obtain ⟨j, ej, q⟩ := of_onSome q
  refine ⟨r, vs, k, j, rfl, rfl, s2 _ _ h4, by rw [h6.len]; exact ej, L.nx _ _ _ _ (own_upd (S1.grow s2) e1 h1 h2 h3 (by rw [List.length_set]; exact h5) ((h6.mono (hid_same s2)).set (aw.mono (hid_same s2)) j)) q⟩
/-! ### if, while, for -/
def gIf (t : DT) (g h : DS) : DS := fun F δ => t δ fun b => if b = true then g F δ else h F δ
theorem s_if {c : Expr} {a b : List Stmt} {t : DT} {g h : DS} (hc : TD X K c t) (ha : SDs X K Ex a g) (hb : SDs X K Ex b h) : SD X K Ex (.If c a b pos) (gIf t g h) :=
  ⟨ps_weak (ps_if hc.pt ha.pss hb.pss) fun E σ H ⟨Hb, B, O, δ, F, S, q, L⟩ => ⟨Hb, B, O, δ, S, hc.mono δ (fun b k H' s => ite_mono b (fun k => ⟨Hb, B, O, δ, F, S.grow s, k, L⟩) (fun k => ⟨Hb, B, O, δ, F, S.grow s, k, L⟩) k) q⟩⟩
def gWhile (t : DT) (g : DS) : DS := fun F δ => ∃ I : Nat → List Sl → Prop, (∃ m, I m δ) ∧ ∀ m δ, I m δ → t δ fun b => if b = true then g { F with nx := fun δ' => ∃ m', m' < m ∧ I m' δ', ct := fun δ' => ∃ m', m' < m ∧ I m' δ', bk := F.nx } δ else F.nx δ
theorem s_while {c : Expr} {body : List Stmt} {t : DT} {g : DS} (hp : PassesOwn (model X.prog X.w) X.A X.env X.xe) (hc : TD X K c t) (hb : SDs X K Ex body g) : SD X K Ex (.While c body [] pos) (gWhile t g) := by
  refine ⟨ps_weak (ps_while hp hc.pt hb.pss) fun E σ H ⟨Hb, B, O, δ, F, S, ⟨I, ⟨m0, i0⟩, step⟩, L⟩ => ⟨fun m σ H => ∃ O δ, Sta K Hb B O H σ δ ∧ I m δ, ⟨m0, O, δ, S, i0⟩, ?_⟩⟩
  rintro m σ1 H1 ⟨O1, δ1, S1, i1⟩
  refine ⟨Hb, B, O1, δ1, S1, hc.mono δ1 (fun b k H' s => ite_mono b (fun k => ?_) (fun k => L.nx _ _ _ _ (S1.grow s) k) k) (step m δ1 i1)⟩
  refine ⟨fun σ' H' => ∃ m', m' < m ∧ ∃ O δ, Sta K Hb B O H' σ' δ ∧ I m' δ, fun _ _ w => w, Hb, B, O1, δ1, _, S1.grow s, k, ?_⟩
  exact ⟨fun O σ H δ S ⟨m', h1, h2⟩ => ⟨m', h1, O, δ, S, h2⟩, L.nx, fun O σ H δ S ⟨m', h1, h2⟩ => ⟨m', h1, O, δ, S, h2⟩, L.rt, L.ex⟩
def fLoop (t : DG) (g : DS) (F : DE) : List D → List Sl → Prop
  | [], δ => F.nx δ
  | x :: xs, δ => t x δ fun δ' => g { F with nx := fLoop t g F xs, ct := fLoop t g F xs, bk := F.nx } δ'
def gFor (src : DAs) (t : DG) (g : DS) : DS := fun F δ => src δ fun l => fLoop t g F l δ
def nbs (Hb : Hp) (O : List Addr) : List Addr := O.filter fun a => (Hb a).isNone
theorem nbs_in {Hb : Hp} {O : List Addr} {a : Addr} (h : a ∈ nbs Hb O) : a ∈ O ∧ Hb a = none := by
  obtain ⟨h1, h2⟩ := List.mem_filter.mp h
  exact ⟨h1, by simpa using h2⟩
theorem in_nbs {Hb : Hp} {O : List Addr} {a : Addr} (h : a ∈ O) (n : Hb a = none) : a ∈ nbs Hb O := List.mem_filter.mpr ⟨h, by rw [n]; rfl⟩
theorem hid_in {O : List Addr} {H : Hp} {a : Addr} (h : a ∈ O) : hid O H a = none := if_pos h
theorem Sta.rebase {Hb H : Hp} {B O : List Addr} {σ : St} {δ : List Sl} (S : Sta K Hb B O H σ δ) : Sta K (hid (nbs Hb O) H) B O H σ δ := by
  refine ⟨S.len, hid_out, S.sub, fun b hb => ?_, S.live, fun q hq => ?_, fun i => ?_, S.inj⟩
  · rw [hid_of fun z => S.liveB b hb (nbs_in z).2]
    exact S.live b (S.sub b hb)
  · exact (S.fresh q hq).imp id fun n => hid_in (in_nbs hq n)
  · have a := S.at_ i
    cases e : sl δ i with
    | no => trivial
    | d x => rw [e] at a; exact a
    | own l => rw [e] at a; obtain ⟨q, vs, h1, h2, h3, h4⟩ := a; exact ⟨q, vs, h1, h2, hid_in (in_nbs h2 h3), h4⟩
    | owk ks l => rw [e] at a; obtain ⟨q, vs, h1, h2, h3, h4⟩ := a; exact ⟨q, vs, h1, h2, hid_in (in_nbs h2 h3), h4⟩
theorem Sta.rebase_same {Hb H : Hp} {B O : List Addr} {σ : St} {δ : List Sl} (S : Sta K Hb B O H σ δ) : Same Hb (hid (nbs Hb O) H) := fun b x h => by
  rw [hid_of fun z => by have := (nbs_in z).2; rw [h] at this; cases this]
  exact S.same _ _ h
theorem Sta.based {Hb Hc H : Hp} {B O : List Addr} {σ : St} {δ : List Sl} (S : Sta K Hc B O H σ δ) (s : Same Hb Hc) (lb : ∀ b ∈ B, Hb b ≠ none) : Sta K Hb B O H σ δ := by
  refine ⟨S.len, s.trans S.same, S.sub, lb, S.live, fun q hq => (S.fresh q hq).imp id fun n => s.free n, fun i => ?_, S.inj⟩
  have a := S.at_ i
  cases e : sl δ i with
  | no => trivial
  | d x => rw [e] at a; exact a
  | own l => rw [e] at a; obtain ⟨q, vs, h1, h2, h3, h4⟩ := a; exact ⟨q, vs, h1, h2, s.free h3, h4⟩
  | owk ks l => rw [e] at a; obtain ⟨q, vs, h1, h2, h3, h4⟩ := a; exact ⟨q, vs, h1, h2, s.free h3, h4⟩
theorem s_for {tg iter : Expr} {body : List Stmt} {js : List Nat} {src : DAs} {t : DG} {g : DS} (hp : PassesOwn (model X.prog X.w) X.A X.env X.xe) (hi : IP X K tg iter src) (hg : GD X K tg js t) (hb : SDs X K Ex body g) (hc : X.calm = true := by rfl)
    (hs : ∀ x, foldedSetIterable iter X.env x = pure x := by intro _; rfl) : SD X K Ex (.For tg iter body [] pos) (gFor src t g) := by
  refine ⟨ps_weak (ps_for hp hc hi.pi hg.pg hb.pss hs) fun E σ H ⟨Hb, B, O, δ, F, S, q, L⟩ => ⟨Hb, B, O, δ, S, hi.mono δ (fun l q J H1 s1 hl wk => ?_) q⟩⟩
  have S1 := S.grow s1
  have hsb : Same (hid O H1) (hid (nbs Hb O) H1) := hid_sub fun a h => (nbs_in h).1
  let W : Nat → Nat → St → Hp → Prop := fun i m σ2 H2 => m = l.length - i ∧ i ≤ l.length ∧ ∃ O2 δ2, Sta K (hid (nbs Hb O) H1) B O2 H2 σ2 δ2 ∧ fLoop t g F (l.drop i) δ2
  refine ⟨W, ⟨l.length, by simp, Nat.zero_le _, O, δ, S1.rebase, q⟩, ?_⟩
  rintro i m σ2 H2 ⟨rfl, hi2, O2, δ2, S2, q⟩
  have w2 := wk i H2 (hsb.trans S2.same)
  have out : ∀ O σ H δ, Sta K (hid (nbs Hb O) H1) B O H σ δ → True := fun _ _ _ _ _ => trivial
  by_cases lt : i < l.length
  · right
    obtain ⟨d, ed⟩ : ∃ d, l[i]? = some d := ⟨l[i], List.getElem?_eq_getElem lt⟩
    have dr : l.drop i = d :: l.drop (i + 1) := by
      rw [List.drop_eq_getElem_cons lt]
      rw [List.getElem?_eq_getElem lt] at ed
      rw [Option.some.inj ed]
    obtain ⟨go, yl⟩ := w2.1 d ed
    refine ⟨go, W (i + 1) (l.length - (i + 1)), fun σ' H' w => ⟨_, by omega, w⟩, fun x H3 y => ?_⟩
    obtain ⟨s3, ax⟩ := yl x H3 y
    have ax := ax O2 S2.live fun a u h => by
      obtain ⟨na, _⟩ := hid_some h
      have h' := hsb _ _ h
      have h2 := S2.same _ _ h'
      rw [hid_of fun z => ?_]
      · exact h2
      · rcases S2.fresh a z with z | z
        · exact na (S.sub a z)
        · rw [h'] at z; cases z
    have S3 := S2.grow s3
    rw [dr] at q
    refine ⟨_, B, O2, δ2, d, S3, ax, hg.mono d δ2 (fun δ' k σ' S' _ => ⟨_, B, O2, δ', _, S', k, ?_⟩) q⟩
    exact ⟨fun O σ H δ S q => ⟨rfl, lt, O, δ, S, q⟩, fun O σ H δ S' q => L.nx _ _ _ _ (S'.based S1.rebase_same S.liveB) q, fun O σ H δ S q => ⟨rfl, lt, O, δ, S, q⟩, fun v H d s a q => L.rt v H d (S1.rebase_same.trans s) a q, fun C H s q => L.ex C H (S1.rebase_same.trans s) q⟩
  · left
    have e : i = l.length := by omega
    subst e
    rw [List.drop_length] at q
    exact ⟨w2.2 (Nat.le_refl _), L.nx _ _ _ _ (S2.based S1.rebase_same S.liveB) q⟩
/-! ### raise; calls of defs that raise -/
def gRaise (C : Addr) : DS := fun F _ => F.ex C
theorem s_raise {C : Addr} {tr : TS} (h : PS X st tr) (i : ∀ D σ H, Ex (.ref C) none H → tr D σ H) : SD X K Ex st (gRaise C) := ⟨ps_weak h fun E σ H ⟨Hb, B, O, δ, F, S, q, L⟩ => i _ _ _ (L.ex C H S.same q)⟩
def MonoRx (R : Rx) : Prop := ∀ ds {Q Q' : D → Prop} {Z Z' : Addr → Prop}, (∀ d, Q d → Q' d) → (∀ C, Z C → Z' C) → R ds Q Z → R ds Q' Z'
abbrev DXX := List Sl → (D → Prop) → (Addr → Prop) → Prop
def tX (K : PySem.W.Frag) (Ex : XK) (x : DXX) : TE := fun σ H Q => ∃ Hb B O δ, Sta K Hb B O H σ δ ∧ x δ (fun d => ∀ v H', Same H H' → At K (hid O H') v d → Q v H') fun C => ∀ H', Same H H' → Ex (.ref C) none H'
structure XD (X : Cx) (K : PySem.W.Frag) (Ex : XK) (e : Expr) (x : DXX) : Prop where
  mono : ∀ δ {Q Q' : D → Prop} {Z Z' : Addr → Prop}, (∀ d, Q d → Q' d) → (∀ C, Z C → Z' C) → x δ Q Z → x δ Q' Z'
  pe : PE X e (tX K Ex x)
def xCall (R : Rx) (xs : List DX) : DXX := fun δ Q Z => dArgs xs δ fun ds => R ds Q Z
theorem x_call {k : Nat} {x : Str} {ps : List Str} {R : Rx} {es : List Expr} {xs : List DX} {p : Pos} (C : Cal X.prog X.w X.K X.mg X.base (L2.CX X.prog X.w) k x ps (spX K R)) (hm : MonoRx R) (hr : Room k X.A) (tk : Takes X fun cls d _ H => Ex cls d H) (ha : AD X K (e :: es) xs) (hg : Gl X x := by rfl) (hdb : (x == ("__debug__" : Str)) = false := by decide)
    (he : starEach (e :: es) X.env = (false, eval e X.env) :: starEach es X.env := by rfl) (hpl : (backTo pos (starEach es X.env)).any (·.1) = false := by rfl) : XD X K Ex (.Call (.Name x p) (e :: es) [] pos) (xCall R xs) := by
  obtain ⟨f, fd, h1, h2, h3, h4⟩ := C.ex
  refine ⟨fun δ Q Q' Z Z' i j q => ha.mono δ (fun ds => hm ds i j) q, pe_weak (pe_callS h4 hr hg h1 h2 h3 (fun σ => passAt tk σ) ha.pa hdb he hpl) fun σ H Q ⟨Hb, B, O, δ, S, q⟩ => ⟨Hb, B, O, δ, S, ha.mono δ (fun ds g vs H1 s1 as => ?_) q⟩⟩
  exact ⟨O, ds, fun p hp => live_same (S.live p hp) s1, as, hm ds (fun d k v H' s a => k v H' (s1.trans s) a) (fun C k H' s => k H' (s1.trans s)) g⟩
def gDropX (x : DXX) : DS := fun F δ => x δ (fun _ => F.nx δ) F.ex
theorem s_exprX {x : DXX} (h : XD X K Ex e x) (hs : swapsWith e none pos.line X.env = pure false := by rfl) : SD X K Ex (.Expr e pos) (gDropX x) :=
  ⟨ps_weak (ps_expr h.pe hs) fun E σ H ⟨Hb, B, O, δ, F, S, q, L⟩ => ⟨Hb, B, O, δ, S, h.mono δ (fun d k v H' s a => L.nx _ _ _ _ (S.grow s) k) (fun C k H' s => L.ex C H' (S.same.trans s) k) q⟩⟩
def gRetX (x : DXX) : DS := fun F δ => x δ F.rt F.ex
theorem s_retX {x : DXX} (h : XD X K Ex e x) : SD X K Ex (.Return (some e) pos) (gRetX x) :=
  ⟨ps_weak (ps_ret h.pe) fun E σ H ⟨Hb, B, O, δ, F, S, q, L⟩ => ⟨Hb, B, O, δ, S, h.mono δ (fun d k v H' s a => L.rt v H' d (S.same.trans s) ((S.grow s).out a) k) (fun C k H' s => L.ex C H' (S.same.trans s) k) q⟩⟩
def gSetX (i : Nat) (x : DXX) : DS := fun F δ => x δ (fun d => F.nx (δ.set i (.d d))) F.ex
theorem s_setX {i : Nat} {x : Str} {y : DXX} {pos' : Pos} (hN : X.N.Nodup) (hi : X.N[i]? = some x) (hx : Loc X.env.scope x) (h : XD X K Ex e y) (hs : swapsWith e (some (.Name x pos')) pos.line X.env = pure false := by rfl)
    (hf : X.fn x = true ∨ X.env.scope.names.lookup x = some .local := by first | exact .inl rfl | exact .inr rfl | assumption) : SD X K Ex (.Assign [.Name x pos'] e pos) (gSetX i y) :=
  ⟨ps_weak (ps_set hN hi hx h.pe hs hf) fun E σ H ⟨Hb, B, O, δ, F, S, q, L⟩ => ⟨Hb, B, O, δ, S, h.mono δ (fun d k v H' s a => L.nx _ _ _ _ ((S.grow s).set a) k) (fun C k H' s => L.ex C H' (S.same.trans s) k) q⟩⟩
end
/-! ### defs -/
def dstart (n : Nat) (ds : List D) : List Sl := ds.map Sl.d ++ List.replicate (n - ds.length) .no
theorem sta_start {K : PySem.W.Frag} {H : Hp} {B : List Addr} {N : List Str} {vs : List V} {ds : List D} (lb : ∀ b ∈ B, H b ≠ none) (a : AtAll K (hid B H) vs ds) : Sta K H B B H (L2.start N vs) (dstart N.length ds) := by
  have hl := a.len
  have sd : ∀ i, sl (dstart N.length ds) i = match ds[i]? with | some d => .d d | none => .no := fun i => by
    unfold dstart
    have : ∀ (ds : List D) (m i : Nat), sl (ds.map Sl.d ++ List.replicate m .no) i = match ds[i]? with | some d => .d d | none => .no := by
      intro ds
      induction ds with
      | nil =>
        intro m
        induction m with
        | zero => intro i; rfl
        | succ m ih => intro i; cases i with
          | zero => rfl
          | succ i => exact ih i
      | cons d ds ih => intro m i; cases i with
        | zero => rfl
        | succ i => exact ih m i
    exact this ds _ i
  refine ⟨?_, .refl H, fun b h => h, lb, lb, fun q h => .inl h, fun i => ?_, fun i j q h => ?_⟩
  · unfold L2.start dstart
    rw [List.length_append, List.length_append, List.length_map, List.length_map, List.length_replicate, List.length_replicate, hl]
  · rw [sd i]
    cases e : ds[i]? with
    | none => trivial
    | some d =>
      obtain ⟨v, ev, av⟩ := a.get' e
      refine ⟨v, ?_, av⟩
      unfold L2.start
      have hi := (List.getElem?_eq_some_iff.mp ev).1
      rw [List.getElem?_append_left (by rw [List.length_map]; exact hi), List.getElem?_map, ev]
      rfl
  · rw [sd i] at h
    cases e : ds[i]? with
    | none => rw [e] at h; cases h
    | some d => rw [e] at h; cases h
section
variable {P : Program} {w : World} {K : PySem.W.Frag} {mg : Str → Option Value} {base : Heap}
def endR (Q : D → Prop) : DE := ⟨fun _ => Q .non, Q, fun _ => False, fun _ => False, fun _ => False⟩
/-- a def: its body as a term of rules, and what it gives -/
theorem fn_ok {x : Str} {st : Stmt} {N ps : List Str} {k : Nat} {R : Rf} {g : DS} {f : Addr} {fd : FuncData} (F : Fun K x x st f fd) (S : FnScope N ps (defScope st)) (len : ∀ ds Q, R ds Q → ds.length = ps.length)
    (hb : ∀ (f : Addr) (cdv : Value) (A : Around) (outer : List Env) (s : Shared) (H : Hp) (E : XK), Room k (A.deeper (PyProof.Rows.envOfC x (defScope st) s.heap.objs.size f cdv)) → SDs (cxOf CX0 P w K mg base N x (defScope st) f cdv A outer s H E).nox K (fun _ _ _ => False) (defBody st) g)
    (hR : ∀ ds Q, R ds Q → g (endR Q) (dstart N.length ds)) : FnOk P w K mg base CX0 (k + 1) f fd ps (spW K R) := by
  refine F.ok S (fun vs H Q E ⟨B, ds, lb, a, r⟩ => by rw [a.len]; exact len _ _ r) fun cdv A outer s H vs Q E hr ⟨B, ds, lb, a, r⟩ => ?_
  refine ⟨_, (hb f cdv A outer s H E hr).pss, H, B, B, _, endR _, sta_start lb a, hR _ _ r, ?_⟩
  exact ⟨fun O σ H' δ S k => k .non H' S.same .non, fun _ _ _ _ _ k => k.elim, fun _ _ _ _ _ k => k.elim, fun v H' d s a k => k v H' s a, fun _ _ _ k => k.elim⟩
theorem cal_ok {x : Str} {st : Stmt} {N ps : List Str} {k : Nat} {R : Rf} {g : DS} (Df : Df K mg x st ps) (S : FnScope N ps (defScope st)) (len : ∀ ds Q, R ds Q → ds.length = ps.length)
    (hb : ∀ (f : Addr) (cdv : Value) (A : Around) (outer : List Env) (s : Shared) (H : Hp) (E : XK), Room k (A.deeper (PyProof.Rows.envOfC x (defScope st) s.heap.objs.size f cdv)) → SDs (cxOf CX0 P w K mg base N x (defScope st) f cdv A outer s H E).nox K (fun _ _ _ => False) (defBody st) g)
    (hR : ∀ ds Q, R ds Q → g (endR Q) (dstart N.length ds)) : Cal P w K mg base CX0 (k + 1) x ps (spW K R) := by
  obtain ⟨f, fd, gf, F, b⟩ := Df
  exact ⟨f, fd, gf, F.kp, b, fn_ok F S len hb hR⟩
def endX (Q : D → Prop) (Z : Addr → Prop) : DE := ⟨fun _ => Q .non, Q, fun _ => False, fun _ => False, Z⟩
theorem cal_okX {x : Str} {st : Stmt} {N ps : List Str} {k : Nat} {R : Rx} {g : DS} (Df : Df K mg x st ps) (S : FnScope N ps (defScope st)) (len : ∀ ds Q Z, R ds Q Z → ds.length = ps.length)
    (hb : ∀ (f : Addr) (cdv : Value) (A : Around) (outer : List Env) (s : Shared) (H : Hp) (E : XK), Room k (A.deeper (PyProof.Rows.envOfC x (defScope st) s.heap.objs.size f cdv)) → SDs (cxOf (L2.CX P w) P w K mg base N x (defScope st) f cdv A outer s H E) K E (defBody st) g)
    (hR : ∀ ds Q Z, R ds Q Z → g (endX Q Z) (dstart N.length ds)) : Cal P w K mg base (L2.CX P w) (k + 1) x ps (spX K R) := by
  obtain ⟨f, fd, gf, F, b⟩ := Df
  refine ⟨f, fd, gf, F.kp, b, F.okX S (fun vs H Q E ⟨B, ds, lb, a, r⟩ => by rw [a.len]; exact len _ _ _ r) fun cdv A outer s H vs Q E hr ⟨B, ds, lb, a, r⟩ => ?_⟩
  refine ⟨_, (hb f cdv A outer s H E hr).pss, H, B, B, _, endX _ _, sta_start lb a, hR _ _ _ r, ?_⟩
  exact ⟨fun O σ H' δ S k => k .non H' S.same .non, fun _ _ _ _ _ k => k.elim, fun _ _ _ _ _ k => k.elim, fun v H' d s a k => k v H' s a, fun C H' s k => k H' s⟩
end
end DL

namespace DL
open PySem L2
theorem hu64 {k : Nat} {A : Around} (hr : Room k A) : A.units + 64 < cLine := by have := hr.un; omega
theorem yT {c : Bool} {A B : Prop} (h : c = true) (a : A) : if c = true then A else B := by rw [if_pos h]; exact a
theorem yF {c : Bool} {A B : Prop} (h : c = false) (b : B) : if c = true then A else B := by rw [h, if_neg Bool.false_ne_true]; exact b
theorem yB {c : Bool} {A B : Prop} (a : c = true → A) (b : c = false → B) : if c = true then A else B := by
  cases c with
  | true => exact iteT (a rfl)
  | false => exact iteF (b rfl)
/-- of a decision -/
theorem yD {p : Prop} [Decidable p] {A B : Prop} (a : p → A) (b : ¬ p → B) : if decide p = true then A else B := yB (fun h => a (of_decide_eq_true h)) (fun h => b (of_decide_eq_false h))
theorem yN {p : Prop} [Decidable p] {A B : Prop} (a : ¬ p → A) (b : p → B) : if (!decide p) = true then A else B := by
  by_cases h : p
  · rw [decide_eq_true h]; exact iteF (b h)
  · rw [decide_eq_false h]; exact iteT (a h)
theorem yNB {c : Bool} {A B : Prop} (a : c = false → A) (b : c = true → B) : if (!c) = true then A else B := by
  cases c with
  | true => exact iteF (b rfl)
  | false => exact iteT (a rfl)
theorem lt_lim {n : Nat} (h : n < 1000000) : n < LIM := h
theorem le_lim {n : Nat} (h : n ≤ 1000000) : n ≤ LIM := h
theorem rgb {a b : Int} (h1 : -1000000 ≤ a) (h2 : a ≤ 1000000) (h3 : b ≤ 1000000) (h4 : -1000000 ≤ b) (h5 : b - a ≤ 1000000) : RgB a b := ⟨h1, h2, h4, h3, by show (b - a).toNat ≤ 1000000; omega⟩
/-- both ways of an if lead on: what follows is shown once (with apply, not refine) -/
theorem joinB {α : Type} {c : Bool} {A : Prop} {P : α → Prop} (ok : α → Prop) (L : α) (h : ok L) (hA : c = true → (∀ L, ok L → P L) → A) (t : ∀ L, ok L → P L) : if c = true then A else P L := yB (fun k => hA k t) (fun _ => t L h)
/-! ### defs by a relation -/
def relR (rr : List D → D → Prop) : Rf := fun ds Q => ∃ d, rr ds d ∧ Q d
theorem relR_mono {rr : List D → D → Prop} : MonoR (relR rr) := fun ds Q Q' i ⟨d, h, q⟩ => ⟨d, h, i _ q⟩
/-- .. not told exactly -/
def allR (dom : List D → Prop) (rr : List D → D → Prop) : Rf := fun ds Q => dom ds ∧ ∀ d, rr ds d → Q d
theorem allR_mono {dom : List D → Prop} {rr : List D → D → Prop} : MonoR (allR dom rr) := fun ds Q Q' i ⟨h, q⟩ => ⟨h, fun d r => i _ (q d r)⟩
inductive Out where
  | ret (d : D) | exc (C : Addr)
def outQ (Q : D → Prop) (Z : Addr → Prop) : Out → Prop
  | .ret d => Q d
  | .exc C => Z C
def relX (rr : List D → Out → Prop) : Rx := fun ds Q Z => ∃ o, rr ds o ∧ outQ Q Z o
theorem relX_mono {rr : List D → Out → Prop} : MonoRx (relX rr) := fun ds Q Q' Z Z' i j ⟨o, h, q⟩ => ⟨o, h, by cases o with
  | ret d => exact i _ q
  | exc C => exact j _ q⟩
/-- an own error class without more -/
structure Exc (K : PySem.W.Frag) (mg : Str → Option Value) (x : Str) (C : Addr) : Prop where
  g : mg x = some (.ref C)
  x : PySem.W.excIn K C [.type "ValueError", .type "Exception", .type "BaseException", .type "object"] "ValueError.__new__" = true
  k : PySem.W.keepIn K (.ref C) = true
  b : PySem.W.subIn K (.ref C) (.type "BaseException") = some true
  t : PySem.W.typeIn K (.ref C) = some (.type "type")
section
variable {X : Cx} {K : PySem.W.Frag} {Ex : XK} {e a b c tg : Expr} {pos : Pos}
/-- slices of lists, tuples, texts -/
def dSl (Q : D → Prop) : D → Option Int → Option Int → Prop
  | .lst l, lo, hi => Q (.lst (cutD l lo hi))
  | .scr l, lo, hi => Q (.lst (cutD l lo hi))
  | .tup l, lo, hi => Q (.tup (cutD l lo hi))
  | .str z, lo, hi => z.length ≤ LIM ∧ Q (.str (cutS z lo hi))
  | _, _, _ => False
theorem dSl_mono {Q Q' : D → Prop} (i : ∀ x, Q x → Q' x) (d : D) (lo hi : Option Int) (q : dSl Q d lo hi) : dSl Q' d lo hi := by
  unfold dSl at q ⊢
  split at q
  · exact i _ q
  · exact i _ q
  · exact i _ q
  · exact ⟨q.1, i _ q.2⟩
  · exact q
theorem cut_all {α : Type} (l : List α) {m : Nat} {lo hi : Option Int} (hl : l.length = m) (w : HT.sIx m 0 lo = 0 ∧ HT.sIx m m hi = m) : cutD l lo hi = l := by
  unfold cutD
  rw [hl, w.1, w.2, List.drop_zero, Nat.sub_zero, ← hl, List.take_length]
theorem d_slice {lo hi : Option Expr} {p2 : Pos} {x : DX} {y z : DO} (ha : QD X K a x) (hl : OD X K lo y) (hh : OD X K hi z) (hK : X.K = K := by rfl) : PD X K (.Subscript a (.Slice lo hi none p2) pos) (fun δ Q => x δ fun d => y δ fun l => z δ fun u => dSl Q d l u) := by
  subst hK
  refine ⟨fun δ Q Q' i q => ha.mono δ (fun d => hl.mono δ fun l => hh.mono δ fun u => dSl_mono i d l u) q, pe_weak (pe_slice (sl_list.or (sl_tupA.or sl_str)) ha.pe hl.po hh.po) fun σ H Q ⟨Hb, B, O, δ, S, q⟩ =>
    ⟨Hb, B, O, δ, S, ha.mono δ (fun d g u H1 s1 au => ⟨Hb, B, O, δ, S.grow s1, hl.mono δ (fun l g H2 s2 => ⟨Hb, B, O, δ, S.grow (s1.trans s2), hh.mono δ (fun h g H3 s3 => ?_) g⟩) g⟩) q⟩⟩
  have au := au.grow (s2.trans s3)
  have s := s1.trans (s2.trans s3)
  have lv : ∀ b ∈ O, H3 b ≠ none := fun b hb => live_same (S.live b hb) s
  unfold dSl at g
  split at g
  · obtain ⟨p, vs, rfl, h1, h2, h3⟩ := au.list
    exact .inl ⟨p, vs, rfl, .inl (.inl h1), fun t n => g _ _ (s.trans (same_new n)) (At.newL lv n (Nat.le_trans (cutD_len _ _ _) h2) (cut_at h3 _ _))⟩
  · obtain ⟨p, vs, rfl, h1, h2, h3⟩ := au.script
    exact .inl ⟨p, vs, rfl, h1, fun t n => g _ _ (s.trans (same_new n)) (At.newL lv n (Nat.le_trans (cutD_len _ _ _) h2) (cut_at h3 _ _))⟩
  · obtain ⟨p, vs, rfl, h1, h2, h3, h4⟩ := au.tuple
    refine .inr (.inl ⟨p, vs, rfl, h1, fun w => g _ H3 s ?_, fun w t n => g _ _ (s.trans (same_new n)) (At.newT lv n (Nat.le_trans (cutD_len _ _ _) h2) (cut_at h3 _ _))⟩)
    rw [cut_all _ h3.len.symm w]
    exact .tup h4 h2 h3
  · exact .inr (.inr ⟨_, au.str, lim_sz g.1, g.2 _ H3 s (.str _)⟩)
  · exact g.elim
end
/-! ### lists of numbers -/
def natsD (l : List Nat) : List D := l.map fun (n : Nat) => D.int (n : Int)
theorem natsD_get {l : List Nat} {k : Nat} {d : Nat} (h : l[k]? = some d) : (natsD l)[k]? = some (.int (d : Int)) := by
  unfold natsD
  rw [List.getElem?_map, h]; rfl
theorem natsD_len (l : List Nat) : (natsD l).length = l.length := List.length_map _
theorem natsD_app (l : List Nat) (n : Nat) : natsD (l ++ [n]) = natsD l ++ [.int (n : Int)] := List.map_append
theorem natsD_ints (l : List Nat) : natsD l = (l.map fun (n : Nat) => (n : Int)).map D.int := by unfold natsD; rw [List.map_map]; rfl
theorem natsD_of {l : List Nat} {k : Nat} {d : D} (h : (natsD l)[k]? = some d) : ∃ n, l[k]? = some n ∧ d = .int (n : Int) := by
  unfold natsD at h
  rw [List.getElem?_map] at h
  cases e : l[k]? with
  | none => rw [e] at h; cases h
  | some n => rw [e] at h; exact ⟨n, rfl, (Option.some.inj h).symm⟩
theorem mod_nat (x : Int) {m : Int} (h : 0 < m) : ∃ n : Nat, x % m = (n : Int) ∧ (n : Int) < m := ⟨(x % m).toNat, by have := Int.emod_nonneg x (by omega : m ≠ 0); omega, by have := Int.emod_lt_of_pos x h; have := Int.emod_nonneg x (by omega : m ≠ 0); omega⟩
theorem mulR {i j : Int} (h : -(2 ^ 64) < j ∧ j < 2 ^ 64) : mulOk i j := .inl (.inr h)
theorem mulL {i j : Int} (h : -(2 ^ 64) < i ∧ i < 2 ^ 64) : mulOk i j := .inl (.inl h)
theorem md {j : Int} (h : 0 < j) : 0 < j := h
theorem divS {i j : Int} (h : 0 < j) (h2 : j < 1000000000) : CDivW i j := wide_div (b := 30) h (by omega) (by decide) (by decide)
/-- a def that may raise, called where it does not -/
theorem d_callL {X : Cx} {K : PySem.W.Frag} {e : Expr} {pos : Pos} {k : Nat} {x : Str} {ps : List Str} {R : Rx} {es : List Expr} {xs : List DX} {p : Pos} (C : Cal X.prog X.w X.K X.mg X.base (L2.CX X.prog X.w) k x ps (spX K R)) (hm : MonoRx R) (hr : Room k X.A) (ha : AD X K (e :: es) xs) (hg : Gl X x := by rfl) (hdb : (x == ("__debug__" : Str)) = false := by decide)
    (he : starEach (e :: es) X.env = (false, eval e X.env) :: starEach es X.env := by rfl) (hpl : (backTo pos (starEach es X.env)).any (·.1) = false := by rfl) : PD X K (.Call (.Name x p) (e :: es) [] pos) (dCall (fun ds Q => R ds Q fun _ => False) xs) := by
  obtain ⟨f, fd, h1, h2, h3, h4⟩ := C.ex
  refine ⟨fun δ Q Q' i q => ha.mono δ (fun ds => hm ds i fun _ z => z) q, pe_weak (pe_call h4 hr hg h1 h2 h3 .nil passL ha.pa hdb he hpl) fun σ H Q ⟨Hb, B, O, δ, S, q⟩ => ⟨Hb, B, O, δ, S, ha.mono δ (fun ds g vs H1 s1 as => ?_) q⟩⟩
  show spX K R (vs ++ []) H1 Q E0
  rw [List.append_nil]
  exact ⟨O, ds, fun p hp => live_same (S.live p hp) s1, as, hm ds (fun d k v H' s a => k v H' (s1.trans s) a) (fun C k => k.elim) g⟩
def dNeg (x : DX) : DX := fun δ Q => x δ (asI fun i => Q (.int (-i)))
theorem d_neg {X : Cx} {K : PySem.W.Frag} {a : Expr} {pos : Pos} {x : DX} (h : QD X K a x) : PD X K (.UnaryOp .USub a pos) (dNeg x) := by
  refine ⟨fun δ Q Q' i q => h.mono δ (asI_mono fun _ => i _) q, pe_weak (pe_un un_neg h.pe) fun σ H Q ⟨Hb, B, O, δ, S, q⟩ => ⟨Hb, B, O, δ, S, h.mono δ (fun d k v H' s a => ?_) q⟩⟩
  obtain ⟨i, rfl, k⟩ := asI_at k a
  exact ⟨i, rfl, k _ H' s (.int _)⟩
/-! ### in -/
def flatD : D → Bool
  | .non | .bl _ | .int _ | .str _ => true
  | _ => false
def eqF : D → D → Bool
  | .non, .non => true
  | .bl a, .bl b => a == b
  | .bl a, .int b => (if a then 1 else 0) == b
  | .int a, .bl b => a == (if b then 1 else 0)
  | .int a, .int b => a == b
  | .str a, .str b => a == b
  | _, _ => false
def inD (x : D) (l : List D) : Bool := l.any fun y => eqF y x
def seqOf : D → Option (List D)
  | .lst l | .tup l | .scr l => some l
  | _ => none
def oInB (g : Bool → Bool) : D → D → (D → Prop) → Prop := fun x y Q => onSome (seqOf y) fun l => (flatD x = true ∧ l.all flatD = true) ∧ Q (.bl (g (inD x l)))
section
variable {X : Cx} {K : PySem.W.Frag}
theorem flat_at {H : Hp} {v : V} {d : D} (h : At K H v d) (f : flatD d = true) : flatV v = true ∧ ∀ {w : V} {e : D}, At K H w e → flatD e = true → eqV v w = eqF d e := by
  cases h with
  | non => exact ⟨rfl, fun h2 f2 => by cases h2 <;> first | rfl | cases f2⟩
  | bl b => exact ⟨rfl, fun h2 f2 => by cases h2 <;> first | rfl | cases f2⟩
  | int b => exact ⟨rfl, fun h2 f2 => by cases h2 <;> first | rfl | cases f2⟩
  | str b => exact ⟨rfl, fun h2 f2 => by cases h2 <;> first | rfl | cases f2⟩
  | _ => cases f
theorem flats_at {H : Hp} {vs : List V} {l : List D} (h : AtAll K H vs l) (f : l.all flatD = true) {w : V} {e : D} (a : At K H w e) (fe : flatD e = true) : vs.all flatV = true ∧ inV w vs = inD e l := by
  induction vs generalizing l with
  | nil => cases h; exact ⟨rfl, rfl⟩
  | cons v vs ih =>
    cases h with
    | cons h1 h2 =>
      rw [List.all_cons, Bool.and_eq_true] at f
      obtain ⟨g1, g2⟩ := ih h2 f.2
      obtain ⟨k1, k2⟩ := flat_at h1 f.1
      refine ⟨by rw [List.all_cons, k1, g1]; rfl, ?_⟩
      unfold inV inD at g2 ⊢
      rw [List.any_cons, List.any_cons, k2 a fe, g2]
theorem oIn_ok {neg : Bool} {f : Value → Value → Sem Value} (hr : OpR X f (rIn X.K neg)) (hK : X.K = K) : OpD X K f (oInB fun b => if neg then !b else b) := by
  subst hK
  refine ⟨fun a b Q Q' i q => ?_, _, hr, fun O H x y a b Q l ax ay q => ?_⟩
  · exact onSome_mono (fun l q => ⟨q.1, i _ q.2⟩) q
  · obtain ⟨m, e, ⟨f1, f2⟩, q⟩ := of_onSome q
    have go : ∀ p vs, y = .ref p → (SqL X.K H p vs ∨ SqT X.K H p vs) → AtAll X.K (hid O H) vs m → rIn X.K neg x y H Q := fun p vs ey hs h => by
      have ax' : At X.K H x a := ax.plain
      obtain ⟨g1, g2⟩ := flats_at (h.mono hid_out) f2 ax' f1
      refine ⟨p, vs, ey, hs, (flat_at ax' f1).1, g1, ?_⟩
      rw [g2]
      exact q _ H (.refl H) (.bl _)
    cases b with
    | lst l' => cases e; obtain ⟨p, vs, rfl, h1, h2, h3⟩ := ay.list; exact go p vs rfl (.inl (.inl (.inl h1))) h3
    | tup l' => cases e; obtain ⟨p, vs, rfl, h1, h2, h3, _⟩ := ay.tuple; exact go p vs rfl (.inr h1) h3
    | scr l' => cases e; obtain ⟨p, vs, rfl, h1, h2, h3⟩ := ay.script; exact go p vs rfl (.inl h1) h3
    | non | bl _ | int _ | str _ | dic _ _ | ref _ => cases e
theorem o_in (hK : X.K = K := by rfl) : OpD X K (compareOp .In) (oInB fun b => b) := oIn_ok (neg := false) op_in_seq hK
theorem o_notIn (hK : X.K = K := by rfl) : OpD X K (compareOp .NotIn) (oInB fun b => !b) := oIn_ok (neg := true) op_notIn_seq hK
end
/-! ### data that may be compared -/
theorem canLay_ints : ∀ l : List D, (∀ d ∈ l, ∃ i, d = .int i) → isDats l = true ∧ PyData.canLayAll0 (toPs l) = true ∧ PyData.depthAll (toPs l) = 0
  | [], _ => ⟨rfl, rfl, rfl⟩
  | d :: l, h => by
    obtain ⟨i, rfl⟩ := h d List.mem_cons_self
    obtain ⟨h1, h2, h3⟩ := canLay_ints l fun d hd => h d (List.mem_cons_of_mem _ hd)
    refine ⟨?_, ?_, ?_⟩
    · show (true && isDats l) = true
      rw [h1]; rfl
    · show (PyData.canLay0 (.int i) && PyData.canLayAll0 (toPs l)) = true
      rw [h2]; rfl
    · show max (PyData.depth (.int i)) (PyData.depthAll (toPs l)) = 0
      rw [h3]; rfl
theorem okD_ints {l : List D} (h : ∀ d ∈ l, ∃ i, d = .int i) : okD (.lst l) = true := by
  obtain ⟨h1, h2, h3⟩ := canLay_ints l h
  have e : PyData.depth (.list (toPs l)) = PyData.depthAll (toPs l) + 1 := by unfold PyData.depth; rfl
  have e2 : PyData.canLay0 (.list (toPs l)) = PyData.canLayAll0 (toPs l) := by unfold PyData.canLay0; rfl
  show (isDats l && (PyData.canLay0 (.list (toPs l)) && decide (PyData.depth (.list (toPs l)) ≤ 64))) = true
  rw [h1, e, e2, h2, h3]; rfl
theorem okD_nats (l : List Nat) : okD (.lst (natsD l)) = true := okD_ints fun d hd => by
  obtain ⟨n, _, rfl⟩ := List.mem_map.mp hd
  exact ⟨_, rfl⟩
theorem repD_map {α : Type} (f : α → D) (x : α) : ∀ n, repD [f x] n = (List.replicate n x).map f
  | 0 => rfl
  | n + 1 => by rw [repD, repD_map f x n, List.replicate_succ, List.map_cons]; rfl
/-! ### comprehensions, loops -/
theorem lc_run {t : DG} {tst : DT} {elt : DX} {δ : List Sl} {Q : List D → Prop} (keep : D → Bool) (g : D → D) : ∀ {l acc : List D}, (∀ x ∈ l, ∀ (P : D → Prop) (N : Prop), (keep x = true → P (g x)) → (keep x = false → N) → (t x δ fun δ' => tst δ' fun b => if b = true then elt δ' P else N)) →
    Q (acc ++ (l.filter keep).map g) → lcRun t tst elt δ Q l acc
  | [], acc, _, q => by rw [List.filter_nil, List.map_nil, List.append_nil] at q; exact q
  | x :: l, acc, h, q => by
    refine h x List.mem_cons_self _ _ (fun k => ?_) (fun k => ?_)
    · refine lc_run keep g (fun y hy => h y (List.mem_cons_of_mem _ hy)) ?_
      rw [List.filter_cons, if_pos k, List.map_cons] at q
      rw [List.append_assoc]
      exact q
    · refine lc_run keep g (fun y hy => h y (List.mem_cons_of_mem _ hy)) ?_
      rw [List.filter_cons, if_neg (by rw [k]; exact Bool.false_ne_true)] at q
      exact q
theorem lc_map {t : DG} {elt : DX} {δ : List Sl} {Q : List D → Prop} (g : D → D) {l : List D} (h : ∀ x ∈ l, ∀ (P : D → Prop), P (g x) → t x δ fun δ' => elt δ' P) (q : Q (l.map g)) : lcRun t tYesD elt δ Q l [] := by
  have go : ∀ {l acc : List D}, (∀ x ∈ l, ∀ (P : D → Prop), P (g x) → t x δ fun δ' => elt δ' P) → Q (acc ++ l.map g) → lcRun t tYesD elt δ Q l acc := by
    intro l
    induction l with
    | nil => intro acc _ q; rw [List.map_nil, List.append_nil] at q; exact q
    | cons x l ih =>
      intro acc h q
      refine h x List.mem_cons_self _ ?_
      refine ih (fun y hy => h y (List.mem_cons_of_mem _ hy)) ?_
      rw [List.append_assoc]
      exact q
  exact go h (by rw [List.nil_append]; exact q)
/-- over numbers lo, lo + 1, .. -/
theorem lc_rg {t : DG} {elt : DX} {δ : List Sl} {Q : List D → Prop} {lo hi : Int} (g : Nat → D) (h : ∀ i, i < (hi - lo).toNat → ∀ (P : D → Prop), P (g i) → t (.int (lo + (i : Nat))) δ fun δ' => elt δ' P) (q : Q ((List.range (hi - lo).toNat).map g)) : lcRun t tYesD elt δ Q (rgD lo hi) [] := by
  have go : ∀ {l : List Nat} {acc : List D}, (∀ x ∈ l, x < (hi - lo).toNat) → Q (acc ++ l.map g) → lcRun t tYesD elt δ Q (l.map fun i => D.int (lo + (i : Nat))) acc := by
    intro l
    induction l with
    | nil => intro acc _ q; rw [List.map_nil, List.append_nil] at q; exact q
    | cons x l ih =>
      intro acc hl q
      refine h x (hl x List.mem_cons_self) _ ?_
      refine ih (fun y hy => hl y (List.mem_cons_of_mem _ hy)) ?_
      rw [List.append_assoc]
      exact q
  exact go (fun x hx => List.mem_range.mp hx) (by rw [List.nil_append]; exact q)
/-- a loop by its invariant, by turn; N: what follows the turn -/
theorem loop_inv {t : DG} {g : DS} {F : DE} {l : List D} {δ : List Sl} (I : Nat → List Sl → Prop) (h0 : I 0 δ)
    (hs : ∀ i x δ, l[i]? = some x → I i δ → ∀ N : List Sl → Prop, (∀ δ', I (i + 1) δ' → N δ') → t x δ fun δ' => g { F with nx := N, ct := N, bk := F.nx } δ') (hd : ∀ δ, I l.length δ → F.nx δ) : fLoop t g F l δ := by
  have go : ∀ (r : List D) (i : Nat) (δ : List Sl), i + r.length = l.length → (∀ j, r[j]? = l[i + j]?) → I i δ → fLoop t g F r δ := by
    intro r
    induction r with
    | nil =>
      intro i δ hl e p
      have : i = l.length := by simpa using hl
      subst this
      exact hd δ p
    | cons x r ih =>
      intro i δ hl e p
      refine hs i x δ (e 0).symm p _ fun δ' p' => ih (i + 1) δ' (by rw [List.length_cons] at hl; omega) (fun j => ?_) p'
      have := e (j + 1)
      rw [show i + (j + 1) = i + 1 + j by omega] at this
      exact this
  exact go l 0 δ (Nat.zero_add _) (fun j => by rw [Nat.zero_add]) h0
/-- .. over numbers -/
theorem loop_rg {t : DG} {g : DS} {F : DE} {lo hi : Int} {n : Nat} {δ : List Sl} (I : Nat → List Sl → Prop) (hn : (hi - lo).toNat = n) (h0 : I 0 δ)
    (hs : ∀ (i : Nat) δ, i < n → I i δ → ∀ N : List Sl → Prop, (∀ δ', I (i + 1) δ' → N δ') → t (.int (lo + (i : Nat))) δ fun δ' => g { F with nx := N, ct := N, bk := F.nx } δ') (hd : ∀ δ, I n δ → F.nx δ) : fLoop t g F (rgD lo hi) δ := by
  subst hn
  refine loop_inv I h0 (fun i x δ e p => ?_) (fun δ p => hd δ (by rw [rg_len] at p; exact p))
  obtain ⟨h1, rfl⟩ := rgD_get e
  exact hs i δ h1 p
end DL

namespace DL
open PySem L2
/-! ## try: a call; except SpeciesError as e: return what it is -/
def tXW (K : PySem.W.Frag) (W : WX) (x : DXX) : TE := fun σ H Q => ∃ Hb B O δ, Sta K Hb B O H σ δ ∧ x δ (fun d => ∀ v H', Same H H' → At K (hid O H') v d → Q v H') fun C => ∀ H', Same H H' → W (.ref C) none σ H'
structure XW (X : Cx) (K : PySem.W.Frag) (W : WX) (e : Expr) (x : DXX) : Prop where
  mono : ∀ δ {Q Q' : D → Prop} {Z Z' : Addr → Prop}, (∀ d, Q d → Q' d) → (∀ C, Z C → Z' C) → x δ Q Z → x δ Q' Z'
  pe : PE X e (tXW K W x)
section
variable {X : Cx} {K : PySem.W.Frag} {Ex : XK} {e : Expr} {pos : Pos}
theorem xw_call {W : WX} {k : Nat} {x : Str} {ps : List Str} {R : Rx} {es : List Expr} {xs : List DX} {p : Pos} (C : Cal X.prog X.w X.K X.mg X.base (L2.CX X.prog X.w) k x ps (spX K R)) (hm : MonoRx R) (hr : Room k X.A) (tk : Takes X W) (ha : AD X K (e :: es) xs) (hg : Gl X x := by rfl) (hdb : (x == ("__debug__" : Str)) = false := by decide)
    (he : starEach (e :: es) X.env = (false, eval e X.env) :: starEach es X.env := by rfl) (hpl : (backTo pos (starEach es X.env)).any (·.1) = false := by rfl) : XW X K W (.Call (.Name x p) (e :: es) [] pos) (xCall R xs) := by
  obtain ⟨f, fd, h1, h2, h3, h4⟩ := C.ex
  refine ⟨fun δ Q Q' Z Z' i j q => ha.mono δ (fun ds => hm ds i j) q, pe_weak (pe_callS h4 hr hg h1 h2 h3 (fun σ => passAt tk σ) ha.pa hdb he hpl) fun σ H Q ⟨Hb, B, O, δ, S, q⟩ => ⟨Hb, B, O, δ, S, ha.mono δ (fun ds g vs H1 s1 as => ?_) q⟩⟩
  exact ⟨O, ds, fun p hp => live_same (S.live p hp) s1, as, hm ds (fun d k v H' s a => k v H' (s1.trans s) a) (fun C k H' s => k H' (s1.trans s)) g⟩
/-- isinstance of the error that the suite holds, whatever its class is -/
def rIsX (K : PySem.W.Frag) (a : Addr) (cls : Value) (d : Option Addr) : List V → Hp → VK → Prop := fun xs H Q => ∃ C, ExcC K C ∧ cls = .ref C ∧ d = none ∧ rIsE K C a xs H Q
theorem c_isX {a : Addr} {oe : Obj} {pn : List (Addr × Obj)} {cls : Value} {d : Option Addr} (hz : Zc cls d oe) (hf : ∃ vs, oe.data = .fields vs) : CallR (X.suite a ((a, oe) :: pn)) (.builtin "isinstance") (rIsX X.K a cls d) := by
  intro pins s σ H xs us Q I r ⟨D, C, h1, h2, h⟩
  subst h1 h2
  exact call_isE C hz hf pins s σ H xs us Q I r h
def tIs1 (K : PySem.W.Frag) (i : Nat) (a : Addr) (cls : Value) (d : Option Addr) (C : Addr) : TE := tCB (rIsX K a cls d) (tCons (tVar i) (tCons (tC (.ref C)) tNil))
def tIs (K : PySem.W.Frag) (i : Nat) (a : Addr) (cls : Value) (d : Option Addr) : List Addr → TA
  | [] => tNil
  | C :: Cs => tCons (tIs1 K i a cls d C) (tIs K i a cls d Cs)
/-- what is told of a class -/
inductive IsAll (K : PySem.W.Frag) (C : Addr) : List Addr → List Bool → Prop
  | nil : IsAll K C [] []
  | cons {D : Addr} {b : Bool} {Ds : List Addr} {bs : List Bool} : PySem.W.kitOne K (.ref C) (.ref D) = some b → IsAll K C Ds bs → IsAll K C (D :: Ds) (b :: bs)
structure Caught (K : PySem.W.Frag) (S C : Addr) : Prop where
  x : ExcC K C
  m : PySem.W.exmOne K (.ref C) (.ref S) = some true
theorem tIs1_of {i : Nat} {a C D : Addr} {b : Bool} {σ : St} {H : Hp} {Q : VK} (c : ExcC K C) (h : PySem.W.kitOne K (.ref C) (.ref D) = some b) (hs : σ[i]? = some (some (.ref a))) (q : Q (.bl b) H) : tIs1 K i a (.ref C) none D σ H Q :=
  ⟨_, hs, C, c, rfl, rfl, _, _, b, rfl, fun u r => r, h, q⟩
theorem tIs_of {i : Nat} {a C : Addr} {Ds : List Addr} {bs : List Bool} {σ : St} {H : Hp} {Q : List V → Hp → Prop} (c : ExcC K C) (h : IsAll K C Ds bs) (hs : σ[i]? = some (some (.ref a))) (q : Q (bs.map V.bl) H) : tIs K i a (.ref C) none Ds σ H Q := by
  induction h generalizing Q with
  | nil => exact q
  | cons h _ ih => exact tIs1_of c h hs (ih q)
/-- the judgement of one such call, of a list of them -/
structure IsC (X : Cx) (K : PySem.W.Frag) (i : Nat) (e : Expr) (C : Addr) : Prop where
  pe : ∀ (a : Addr) (oe : Obj) (cls : Value) (d : Option Addr) (pn : List (Addr × Obj)), Zc cls d oe → (∃ vs, oe.data = .fields vs) → PE (X.suite a ((a, oe) :: pn)) e (tIs1 K i a cls d C)
structure IsCs (X : Cx) (K : PySem.W.Frag) (i : Nat) (es : List Expr) (Cs : List Addr) : Prop where
  pa : ∀ (a : Addr) (oe : Obj) (cls : Value) (d : Option Addr) (pn : List (Addr × Obj)), Zc cls d oe → (∃ vs, oe.data = .fields vs) → PA (X.suite a ((a, oe) :: pn)) es (tIs K i a cls d Cs)
theorem is_c {i : Nat} {x n : Str} {C : Addr} {p1 p2 p3 : Pos} (hK : X.K = K) (hm : X.mg "isinstance" = none) (hC : X.mg x = some (.ref C)) (hN : X.N[i]? = some n := by rfl) (hv : Vis X.env.scope n := by first | exact Or.inl rfl | exact Or.inr (Or.inl rfl) | exact Or.inr (Or.inr rfl)) (hd : (n == ("__debug__" : Str)) = false := by decide)
    (hcd : (n == ("__classdict__" : Str)) = false := by decide) (hg : Gl X "isinstance" := by rfl) (hgC : Gl X x := by rfl) (hdx : (x == ("__debug__" : Str)) = false := by decide)
    (he : ∀ p, starEach [.Name n p2, .Name x p] X.env = (false, eval (.Name n p2) X.env) :: starEach [.Name x p] X.env := by intro _; rfl) (he2 : ∀ p, starEach [.Name x p] X.env = (false, eval (.Name x p) X.env) :: starEach [] X.env := by intro _; rfl)
    (hpl : (backTo pos (starEach [.Name x p3] X.env)).any (·.1) = false := by rfl) : IsC X K i (.Call (.Name "isinstance" p1) [.Name n p2, .Name x p3] [] pos) C := by
  subst hK
  exact ⟨fun a oe cls d pn hz hf => pe_callB (X := X.suite a ((a, oe) :: pn)) (c_isX hz hf) hg hm (by decide +kernel) (pa_cons (pe_var hN hv hd hcd) (pa_cons (pe_glob hgC hC rfl hdx) pa_nil (he2 _)) (he _)) (he := he _) (hpl := hpl)⟩
theorem is_nil {i : Nat} : IsCs X K i [] [] := ⟨fun _ _ _ _ _ _ _ => pa_nil⟩
theorem is_cons {i : Nat} {es : List Expr} {C : Addr} {Cs : List Addr} (h : IsC X K i e C) (r : IsCs X K i es Cs) (hs : starEach (e :: es) X.env = (false, eval e X.env) :: starEach es X.env := by rfl) : IsCs X K i (e :: es) (C :: Cs) :=
  ⟨fun a oe cls d pn hz hf => pa_cons (h.pe a oe cls d pn hz hf) (r.pa a oe cls d pn hz hf) hs⟩
def hasSl (i : Nat) (δ : List Sl) : Prop := ∃ s r, δ.drop i = s :: r
theorem hasSl_lt {i : Nat} {δ : List Sl} (h : hasSl i δ) : i < δ.length := by
  obtain ⟨s, r, e⟩ := h
  have := congrArg List.length e
  rw [List.length_drop, List.length_cons] at this
  omega
def gTryL (i : Nat) (K : PySem.W.Frag) (S : Addr) (x : DXX) (Cs : List Addr) : DS := fun F δ => x δ (fun _ => F.nx δ) fun C => Caught K S C ∧ hasSl i δ ∧ ∃ bs, IsAll K C Cs bs ∧ F.rt (.lst (bs.map D.bl))
def gTry1 (i : Nat) (K : PySem.W.Frag) (S : Addr) (x : DXX) (D0 : Addr) : DS := fun F δ => x δ (fun _ => F.nx δ) fun C => Caught K S C ∧ hasSl i δ ∧ ∃ b, PySem.W.kitOne K (.ref C) (.ref D0) = some b ∧ F.rt (.bl b)
variable {i : Nat} {n xS : Str} {S : Addr} {p1 p2 p3 p4 p5 : Pos} {xb : DXX} {es : List Expr} {Cs : List Addr} {D0 : Addr}
theorem isAll_len {C : Addr} {Ds : List Addr} {bs : List Bool} (h : IsAll K C Ds bs) : bs.length = Ds.length := by
  induction h with
  | nil => rfl
  | cons _ _ ih => rw [List.length_cons, List.length_cons, ih]
theorem bls_at {H : Hp} : ∀ bs : List Bool, AtAll K H (bs.map V.bl) (bs.map D.bl)
  | [] => .nil
  | b :: bs => .cons (.bl b) (bls_at bs)
theorem s_tryL (hS : X.mg xS = some (.ref S)) (hN : X.N.Nodup) (hb : ∀ (W : WX) (pn : List (Addr × Obj)) (xe : Value → Shared → Prop), Takes (X.tr pn xe) W → XW (X.tr pn xe) K W e xb) (hi : IsCs X K i es Cs) (hl : Cs.length ≤ 1000 := by exact Nat.le_of_ble_eq_true rfl) (hNi : X.N[i]? = some n := by rfl) (hK : X.K = K := by rfl)
    (hs : X.stack = X.env :: X.outer := by rfl) (hf : X.env.frame = some X.env.locals := by rfl) (hln : X.env.kindOf n = some .local := by rfl) (hc : Names X xS (.ref S) := by exact ⟨rfl, by decide, .inl (by assumption)⟩)
    (hsw : swapsWith e none p1.line X.env = pure false := by rfl) : SD X K Ex (.Try [.Expr e p1] [.ExceptHandler (some (.Name xS p2)) (some n) [.Return (some (.List es p3)) p4] p5] [] [] pos) (gTryL i K S xb Cs) := by
  subst hK
  refine ⟨ps_weak (ps_try_as (i := i) (tb := fun W => tDrop (tXW X.K W xb)) (ts := fun a cls d => tRet (tLst (tIs X.K i a cls d Cs))) (Wout := fun _ _ _ _ => False) hs hf hN hNi hln hc takes0
    (fun W pn xe tk _ => pss_one (ps_expr (hb W pn xe tk).pe hsw)) (fun a oe cls d pn hz hf => pss_one (ps_ret (pe_lst (hi.pa a oe cls d pn hz hf))))) fun E σ H ⟨Hb, B, O, δ, F, St, q, L⟩ => ?_⟩
  have q : xb δ (fun _ => F.nx δ) fun C => Caught X.K S C ∧ hasSl i δ ∧ ∃ bs, IsAll X.K C Cs bs ∧ F.rt (.lst (bs.map D.bl)) := q
  have mono := (hb (fun _ _ _ _ => False) [] (fun _ _ => False) takes0).mono
  refine ⟨Hb, B, O, δ, St, mono δ (fun d k v H' s a => L.nx _ _ _ _ (St.grow s) k) (fun C ⟨c, hsl, bs, hbs, k⟩ H' s => ?_) q⟩
  refine ⟨true, c.m, fun _ a0 ha0 => ?_, fun z => by cases z⟩
  refine tIs_of c.x hbs ?_ ⟨?_, fun p np => L.rt _ _ _ (St.same.trans (s.trans (same_new np))) (.lst ?_ ?_ (bls_at _)) k⟩
  · rw [List.getElem?_set_self]
    rw [St.len]; exact hasSl_lt hsl
  · rw [List.length_map, isAll_len hbs]; exact lim_sz (Nat.le_trans hl (by decide))
  · have := hid_of (O := B) (H := upd H' p (.lst (bs.map V.bl))) (a := p) (fun z => by
      have h1 := St.live p (St.sub p z)
      exact h1 (s.free np))
    rw [this, upd_same]
  · rw [List.length_map, isAll_len hbs]; exact Nat.le_trans hl (by decide)
theorem s_try1 {se : Expr} (hS : X.mg xS = some (.ref S)) (hN : X.N.Nodup) (hb : ∀ (W : WX) (pn : List (Addr × Obj)) (xe : Value → Shared → Prop), Takes (X.tr pn xe) W → XW (X.tr pn xe) K W e xb) (hi : IsC X K i se D0) (hNi : X.N[i]? = some n := by rfl) (hK : X.K = K := by rfl)
    (hs : X.stack = X.env :: X.outer := by rfl) (hf : X.env.frame = some X.env.locals := by rfl) (hln : X.env.kindOf n = some .local := by rfl) (hc : Names X xS (.ref S) := by exact ⟨rfl, by decide, .inl (by assumption)⟩)
    (hsw : swapsWith e none p1.line X.env = pure false := by rfl) : SD X K Ex (.Try [.Expr e p1] [.ExceptHandler (some (.Name xS p2)) (some n) [.Return (some se) p4] p5] [] [] pos) (gTry1 i K S xb D0) := by
  subst hK
  refine ⟨ps_weak (ps_try_as (i := i) (tb := fun W => tDrop (tXW X.K W xb)) (ts := fun a cls d => tRet (tIs1 X.K i a cls d D0)) (Wout := fun _ _ _ _ => False) hs hf hN hNi hln hc takes0
    (fun W pn xe tk _ => pss_one (ps_expr (hb W pn xe tk).pe hsw)) (fun a oe cls d pn hz hf => pss_one (ps_ret (hi.pe a oe cls d pn hz hf)))) fun E σ H ⟨Hb, B, O, δ, F, St, q, L⟩ => ?_⟩
  have q : xb δ (fun _ => F.nx δ) fun C => Caught X.K S C ∧ hasSl i δ ∧ ∃ b, PySem.W.kitOne X.K (.ref C) (.ref D0) = some b ∧ F.rt (.bl b) := q
  have mono := (hb (fun _ _ _ _ => False) [] (fun _ _ => False) takes0).mono
  refine ⟨Hb, B, O, δ, St, mono δ (fun d k v H' s a => L.nx _ _ _ _ (St.grow s) k) (fun C ⟨c, hsl, b, hb, k⟩ H' s => ?_) q⟩
  refine ⟨true, c.m, fun _ a0 ha0 => ?_, fun z => by cases z⟩
  refine tIs1_of c.x hb ?_ (L.rt _ _ _ (St.same.trans s) (.bl b) k)
  rw [List.getElem?_set_self]
  rw [St.len]; exact hasSl_lt hsl
end
end DL

/-! Digits that draw evenly: plain mathematics for k48. -/
namespace SMath48
/-- the told rule, stepped: so many digits are read, w wide, at index i -/
def stp (c : Nat) : List Nat → Nat → Nat → Nat → Option (Nat × Nat)
  | [], at_, w, i => if c ≤ w ∧ i < c then some (i, at_) else none
  | d :: ds, at_, w, i => if c ≤ w ∧ i < c then some (i, at_) else if c ≤ w then stp c ds (at_ + 1) (2 * (w - c)) (2 * (i - c) + d) else stp c ds (at_ + 1) (2 * w) (2 * i + d)
theorem stp_more (c : Nat) : ∀ (ds more : List Nat) (at_ w i : Nat) (r : Nat × Nat), stp c ds at_ w i = some r → stp c (ds ++ more) at_ w i = some r
  | [], more, at_, w, i, r, h => by
    unfold stp at h
    split at h
    · rename_i c1
      cases more with
      | nil => show stp c [] at_ w i = _; unfold stp; rw [if_pos c1]; exact h
      | cons d ds => show stp c (d :: ds) at_ w i = _; unfold stp; rw [if_pos c1]; exact h
    · cases h
  | d :: ds, more, at_, w, i, r, h => by
    show stp c (d :: (ds ++ more)) at_ w i = _
    unfold stp at h ⊢
    split at h
    · rename_i c1; rw [if_pos c1]; exact h
    · rename_i c1
      rw [if_neg c1]
      split at h
      · rename_i c2; rw [if_pos c2]; exact stp_more c ds more _ _ _ r h
      · rename_i c2; rw [if_neg c2]; exact stp_more c ds more _ _ _ r h
theorem stp_at (c : Nat) : ∀ (ds : List Nat) (at_ w i : Nat) (r : Nat × Nat), stp c ds at_ w i = some r → at_ ≤ r.2 ∧ r.2 ≤ at_ + ds.length ∧ r.1 < c
  | [], at_, w, i, r, h => by
    unfold stp at h
    split at h
    · rename_i c1
      obtain rfl := Option.some.inj h
      exact ⟨Nat.le_refl _, Nat.le_add_right _ _, c1.2⟩
    · cases h
  | d :: ds, at_, w, i, r, h => by
    unfold stp at h
    rw [List.length_cons]
    split at h
    · rename_i c1
      obtain rfl := Option.some.inj h
      exact ⟨Nat.le_refl _, Nat.le_add_right _ _, c1.2⟩
    · split at h
      · have := stp_at c ds _ _ _ r h
        omega
      · have := stp_at c ds _ _ _ r h
        omega
/-- told by the last digit: without it nothing is told -/
theorem stp_less {c : Nat} {ds : List Nat} {d : Nat} {r : Nat × Nat} (h : stp c (ds ++ [d]) 0 1 0 = some r) (hl : r.2 = ds.length + 1) : stp c ds 0 1 0 = none := by
  cases e : stp c ds 0 1 0 with
  | none => rfl
  | some q =>
    have h2 := stp_more c ds [d] _ _ _ q e
    rw [h] at h2
    obtain rfl := Option.some.inj h2
    have := (stp_at c ds _ _ _ _ e).2.1
    omega
/-- while nothing is told, index and width keep their order -/
theorem stp_one {c : Nat} (h : c = 1) (ds : List Nat) : stp c ds 0 1 0 = some (0, 0) := by
  subst h
  cases ds <;> rfl
/-! ### the digits of 1 / count -/
/-- what is left after k digits -/
def rem (c : Nat) : Nat → Nat
  | 0 => if c ≤ 1 then 1 - c else 1
  | k + 1 => if c ≤ 2 * rem c k then 2 * rem c k - c else 2 * rem c k
def bit (c : Nat) : Nat → Nat
  | 0 => if c ≤ 1 then 1 else 0
  | k + 1 => if c ≤ 2 * rem c k then 1 else 0
def num (c : Nat) : Nat → Nat
  | 0 => bit c 0
  | k + 1 => 2 * num c k + bit c (k + 1)
theorem rem_0 (c : Nat) : rem c 0 = if c ≤ 1 then 1 - c else 1 := rfl
theorem rem_s (c k : Nat) : rem c (k + 1) = if c ≤ 2 * rem c k then 2 * rem c k - c else 2 * rem c k := rfl
theorem bit_0 (c : Nat) : bit c 0 = if c ≤ 1 then 1 else 0 := rfl
theorem bit_s (c k : Nat) : bit c (k + 1) = if c ≤ 2 * rem c k then 1 else 0 := rfl
theorem rem_lt {c : Nat} (hc : 1 ≤ c) : ∀ k, rem c k < c
  | 0 => by
    rw [rem_0]
    by_cases h : c ≤ 1
    · rw [if_pos h]; omega
    · rw [if_neg h]; omega
  | k + 1 => by
    have := rem_lt hc k
    rw [rem_s]
    by_cases h : c ≤ 2 * rem c k
    · rw [if_pos h]; omega
    · rw [if_neg h]; omega
theorem num_rem {c : Nat} (hc : 1 ≤ c) : ∀ k, num c k * c + rem c k = 2 ^ k
  | 0 => by
    show bit c 0 * c + rem c 0 = 1
    rw [rem_0, bit_0]
    by_cases h : c ≤ 1
    · have : c = 1 := by omega
      subst this; rfl
    · rw [if_neg h, if_neg h]; omega
  | k + 1 => by
    have ih := num_rem hc k
    have e : num c (k + 1) = 2 * num c k + bit c (k + 1) := rfl
    rw [e, Nat.add_mul, Nat.mul_assoc, Nat.pow_succ, ← ih, rem_s, bit_s]
    generalize num c k * c = m
    by_cases h : c ≤ 2 * rem c k
    · rw [if_pos h, if_pos h]; omega
    · rw [if_neg h, if_neg h]; omega
/-! ### the small ones, all of them -/
def allB : Nat → List (List Nat)
  | 0 => [[]]
  | k + 1 => (allB k).map (fun one => one ++ [0]) ++ (allB k).map (fun one => one ++ [1])
def evenB (c l : Nat) : Bool := (List.range c).all fun i => decide (((allB l).filter fun row => decide (stp c row 0 1 0 = some (i, l))).length = bit c l)
theorem even_all : ((List.range 40).all fun c => (List.range 7).all fun l => evenB (c + 1) l) = true := by decide +kernel
theorem even_t {c l i : Nat} (h1 : 1 ≤ c) (h2 : c ≤ 40) (h3 : l < 7) (h4 : i < c) : ((allB l).filter fun row => decide (stp c row 0 1 0 = some (i, l))).length = bit c l := by
  have h := even_all
  rw [List.all_eq_true] at h
  have h5 := h (c - 1) (List.mem_range.mpr (by omega))
  rw [List.all_eq_true] at h5
  have h6 := h5 l (List.mem_range.mpr h3)
  rw [show c - 1 + 1 = c by omega] at h6
  unfold evenB at h6
  rw [List.all_eq_true] at h6
  exact of_decide_eq_true (h6 i (List.mem_range.mpr h4))
end SMath48

namespace DL
open PySem L2
def topS (i : Nat) : Stmt := PySem.Challenge.pw_speciesmill_k48_whole_digits_draw_evenly.main.body.getD i (.Pass ⟨0, 0, 0, 0⟩)
abbrev s_is_whole : Stmt := topS 5
theorem sc_is_whole : FnScope ["value"] ["value"] (defScope s_is_whole) := ⟨rfl, rfl, rfl, by decide +kernel, rfl, by decide +kernel, by decide +kernel⟩
abbrev s_index_by_digits : Stmt := topS 8
theorem sc_index_by_digits : FnScope ["count", "digits"] ["count", "digits"] (defScope s_index_by_digits) := ⟨rfl, rfl, rfl, by decide +kernel, rfl, by decide +kernel, by decide +kernel⟩
abbrev s_telling_rows : Stmt := topS 9
theorem sc_telling_rows : FnScope ["count", "most", "numbers", "rest", "_"] ["count", "most"] (defScope s_telling_rows) := ⟨rfl, rfl, rfl, by decide +kernel, rfl, by decide +kernel, by decide +kernel⟩
abbrev s__told_index : Stmt := topS 10
theorem sc__told_index : FnScope ["count", "digits", "start", "spread", "chosen", "read"] ["count", "digits", "start"] (defScope s__told_index) := ⟨rfl, rfl, rfl, by decide +kernel, rfl, by decide +kernel, by decide +kernel⟩
abbrev s__check_digits : Stmt := topS 11
theorem sc__check_digits : FnScope ["digits", "digit"] ["digits"] (defScope s__check_digits) := ⟨rfl, rfl, rfl, by decide +kernel, rfl, by decide +kernel, by decide +kernel⟩
abbrev s__check_count : Stmt := topS 12
theorem sc__check_count : FnScope ["count"] ["count"] (defScope s__check_count) := ⟨rfl, rfl, rfl, by decide +kernel, rfl, by decide +kernel, by decide +kernel⟩
abbrev s__law_draws : Stmt := topS 14
theorem sc__law_draws : FnScope ["script", "many", "draws", "at", "cell", "number", "k"] ["script", "many"] (defScope s__law_draws) := ⟨rfl, rfl, rfl, by decide +kernel, rfl, by decide +kernel, by decide +kernel⟩
abbrev s__law_is_number : Stmt := topS 15
theorem sc__law_is_number : FnScope ["value"] ["value"] (defScope s__law_is_number) := ⟨rfl, rfl, rfl, by decide +kernel, rfl, by decide +kernel, by decide +kernel⟩
abbrev s__law_all : Stmt := topS 16
theorem sc__law_all : FnScope ["length", "found", "k", "one"] ["length"] (defScope s__law_all) := ⟨rfl, rfl, rfl, by decide +kernel, rfl, by decide +kernel, by decide +kernel⟩
abbrev s__law_stepped : Stmt := topS 17
theorem sc__law_stepped : FnScope ["count", "digits", "wide", "index", "at"] ["count", "digits"] (defScope s__law_stepped) := ⟨rfl, rfl, rfl, by decide +kernel, rfl, by decide +kernel, by decide +kernel⟩
abbrev s__law_told : Stmt := topS 18
theorem sc__law_told : FnScope ["count", "digits", "e"] ["count", "digits"] (defScope s__law_told) := ⟨rfl, rfl, rfl, by decide +kernel, rfl, by decide +kernel, by decide +kernel⟩
abbrev s__law_rows_refused : Stmt := topS 19
theorem sc__law_rows_refused : FnScope ["count", "most", "e"] ["count", "most"] (defScope s__law_rows_refused) := ⟨rfl, rfl, rfl, by decide +kernel, rfl, by decide +kernel, by decide +kernel⟩
abbrev s__law_even : Stmt := topS 20
theorem sc__law_even : FnScope ["count", "length", "draws", "tally", "row", "told", "due"] ["count", "length", "draws"] (defScope s__law_even) := ⟨rfl, rfl, rfl, by decide +kernel, rfl, by decide +kernel, by decide +kernel⟩
abbrev s_law : Stmt := topS 21
theorem sc_law : FnScope ["script", "draws", "count", "length", "great", "k", "many", "digits", "copy", "most", "rows", "number", "one", "left", "at", "bad"] ["script"] (defScope s_law) := ⟨rfl, rfl, rfl, by decide +kernel, rfl, by decide +kernel, by decide +kernel⟩
structure Ad where
  cSpeciesError : Addr
  cBadIndex : Addr
  cBadDigits : Addr
  vMOST_DIGITS : Value
structure Tx (K : PySem.W.Frag) (mg : Str → Option Value) (W : Ad) : Prop where
  n_isinstance : mg "isinstance" = none
  n_int : mg "int" = none
  n_bool : mg "bool" = none
  n_range : mg "range" = none
  n_len : mg "len" = none
  n_any : mg "any" = none
  n_list : mg "list" = none
  n_abs : mg "abs" = none
  n_tuple : mg "tuple" = none
  g_MOST_DIGITS : mg "MOST_DIGITS" = some W.vMOST_DIGITS
  r_MOST_DIGITS : RelV (.int 1000) W.vMOST_DIGITS
  a_MOST_DIGITS : ∀ H, At K H (.int 1000) (.int 1000)
  e_BadIndex : Exc K mg "BadIndex" W.cBadIndex
  e_BadDigits : Exc K mg "BadDigits" W.cBadDigits
  g_SpeciesError : mg "SpeciesError" = some (.ref W.cSpeciesError)
structure Ex (K : PySem.W.Frag) (W : Ad) : Prop where
  x_BadIndex : Caught K W.cSpeciesError W.cBadIndex
  x_BadDigits : Caught K W.cSpeciesError W.cBadDigits
  is_BadIndex_BadIndex : PySem.W.kitOne K (.ref W.cBadIndex) (.ref W.cBadIndex) = some true
  is_BadIndex_BadDigits : PySem.W.kitOne K (.ref W.cBadIndex) (.ref W.cBadDigits) = some false
  is_BadDigits_BadIndex : PySem.W.kitOne K (.ref W.cBadDigits) (.ref W.cBadIndex) = some false
  is_BadDigits_BadDigits : PySem.W.kitOne K (.ref W.cBadDigits) (.ref W.cBadDigits) = some true
end DL

namespace DL
open PySem L2
section
variable {P : Program} {w : World} {K : PySem.W.Frag} {mg : Str → Option Value} {base : Heap} {W : Ad}
def isWh : D → Bool
  | .int _ => true
  | _ => false
def r_is_whole (ds : List D) (d : D) : Prop := ∃ x, ds = [x] ∧ notRef x = true ∧ d = .bl (isWh x)
theorem ok_is_whole (T : Tx K mg W) (D : Df K mg "is_whole" s_is_whole ["value"]) : Cal P w K mg base CX0 1 "is_whole" ["value"] (spW K (relR r_is_whole)) := by
  refine cal_ok D sc_is_whole (fun ds Q h => ?_) (fun f cdv A outer s H E hr => 
  (ss_one (s_ret (d_and (d_isi k_int T.n_isinstance T.n_int (qv 0)) (d_one (d_not (d_isi k_bool T.n_isinstance T.n_bool (qv 0)))))))) (fun ds Q h => ?_)

  · obtain ⟨d, ⟨x, rfl, _⟩, _⟩ := h; rfl
  · obtain ⟨d, ⟨x, rfl, n, rfl⟩, q⟩ := h
    refine ⟨n, ?_⟩
    cases x with
    | int i => exact ⟨rfl, q⟩
    | bl b => exact ⟨rfl, q⟩
    | ref a => cases n
    | _ => exact q
end
end DL

namespace DL
open PySem L2
open SMath48
section
variable {P : Program} {w : World} {K : PySem.W.Frag} {mg : Str → Option Value} {base : Heap} {W : Ad}
/-! ### _check_count, _check_digits -/
def okCount : D → Bool
  | .int i => decide (1 ≤ i)
  | _ => false
def r__check_count (W : Ad) (ds : List D) (o : Out) : Prop := ∃ x, ds = [x] ∧ notRef x = true ∧ o = if okCount x = true then .ret .non else .exc W.cBadIndex
theorem ok__check_count (T : Tx K mg W) (Dd : Df K mg "_check_count" s__check_count ["count"]) (C_is_whole : Cal P w K mg base CX0 1 "is_whole" ["value"] (spW K (relR r_is_whole))) : Cal P w K mg base (L2.CX P w) 2 "_check_count" ["count"] (spX K (relX (r__check_count W))) := by
  refine cal_okX Dd sc__check_count (fun ds Q Z h => ?_) (fun f cdv A outer s H E hr => 
  (ss_one (s_if (w_or (t_not (t_val (d_call C_is_whole relR_mono (hr.mono (by decide)) (a_cons (dv 0) a_nil)).q)) (w_or1 (t_cmp o_lt (qv 0) d_int.q))).t (
    (ss_one (s_raise (C := W.cBadIndex) (ps_raise rfl (takes_of rfl rfl rfl rfl) (pmk_own PySem.F.excBase_ValueError T.e_BadIndex.x T.e_BadIndex.g T.e_BadIndex.k (raises_own T.e_BadIndex.b T.e_BadIndex.t) rfl)) (fun _ _ _ h => h)))) (ss_nil)))) (fun ds Q Z h => ?_)

  · obtain ⟨d, ⟨x, rfl, _⟩, _⟩ := h; rfl
  · obtain ⟨o, ⟨x, rfl, n, rfl⟩, q⟩ := h
    cases x with
    | int i =>
      refine ⟨_, ⟨_, rfl, rfl, rfl⟩, ?_⟩
      refine yD (fun h => ?_) (fun h => ?_)
      · have e : okCount (.int i) = false := decide_eq_false (by omega)
        rw [e] at q
        exact q
      · have e : okCount (.int i) = true := decide_eq_true (by omega)
        rw [e] at q
        exact q
    | ref a => cases n
    | _ => exact ⟨_, ⟨_, rfl, rfl, rfl⟩, q⟩
def isDig : D → Bool
  | .int i => decide (0 ≤ i) && decide (i ≤ 1)
  | _ => false
def okDigs : D → Bool
  | .lst l => l.all isDig
  | _ => false
def r__check_digits (W : Ad) (ds : List D) (o : Out) : Prop := ∃ x, ds = [x] ∧ notRef x = true ∧ (∀ l, x = .lst l → ∀ d ∈ l, notRef d = true) ∧ (∀ l, x ≠ .scr l) ∧ o = if okDigs x = true then .ret .non else .exc W.cBadDigits
theorem any_nota {α : Type} (p : α → Bool) : ∀ l : List α, (List.any (l.map fun i => !p i) id) = !l.all p
  | [] => rfl
  | x :: l => by
    rw [List.map_cons, List.any_cons, List.all_cons, any_nota p l]
    cases p x <;> simp
theorem ok__check_digits (T : Tx K mg W) (Dd : Df K mg "_check_digits" s__check_digits ["digits"]) (C_is_whole : Cal P w K mg base CX0 1 "is_whole" ["value"] (spW K (relR r_is_whole))) : Cal P w K mg base (L2.CX P w) 2 "_check_digits" ["digits"] (spX K (relX (r__check_digits W))) := by
  refine cal_okX Dd sc__check_digits (fun ds Q Z h => ?_) (fun f cdv A outer s H E hr => 
  (ss_one (s_if (w_or (t_not (t_val (d_isi k_list T.n_isinstance T.n_list (qv 0)).q)) (w_or1 (t_val (d_callB (c_any) T.n_any (b_cons (f_lc sc__check_digits.nd (i_listQ (qv 0)) (blkOk_by (own := [("digit", 1)]) (N := ["digits", "digit"]) (sc := defScope s__check_digits) (by decide +kernel)) (fun _ _ _ _ _ => (g_name (i := 1) sc__check_digits.nd rfl (.inl rfl))) (fun _ _ _ _ _ => ts_nil) (fun _ _ _ _ _ => (d_or (d_not (d_call C_is_whole relR_mono (hr.mono (by decide)) (a_cons (dv 1) a_nil))) (d_one (d_not (d_chain o_le o_le d_int.q (qv 1) d_int.q)))))).p.q b_nil)).q))).t (
    (ss_one (s_raise (C := W.cBadDigits) (ps_raise rfl (takes_of rfl rfl rfl rfl) (pmk_own PySem.F.excBase_ValueError T.e_BadDigits.x T.e_BadDigits.g T.e_BadDigits.k (raises_own T.e_BadDigits.b T.e_BadDigits.t) rfl)) (fun _ _ _ h => h)))) (ss_nil)))) (fun ds Q Z h => ?_)

  · obtain ⟨d, ⟨x, rfl, _⟩, _⟩ := h; rfl
  · obtain ⟨o, ⟨x, rfl, n, hl, hs, rfl⟩, q⟩ := h
    refine ⟨n, ?_⟩
    cases x with
    | lst l =>
      refine lc_map (fun x => .bl (!isDig x)) (fun x hx P p => ?_) ⟨l.map fun x => !isDig x, by rw [List.map_map]; rfl, ?_⟩
      · have nx := hl l rfl x hx
        refine ⟨_, ⟨x, rfl, nx, rfl⟩, ?_⟩
        cases x with
        | int i =>
          refine yD (fun h => ?_) (fun h => ?_)
          · have e : isDig (.int i) = decide (i ≤ 1) := by show (decide _ && decide _) = _; rw [decide_eq_true h]; rfl
            rw [e] at p
            exact p
          · have e : isDig (.int i) = false := by show (decide _ && decide _) = false; rw [decide_eq_false h]; rfl
            rw [e] at p; exact p
        | _ => exact p
      · show asB _ (.bl (List.any _ id))
        rw [any_nota]
        show if (!l.all isDig) = true then _ else _
        cases e : l.all isDig with
        | true =>
          have : okDigs (.lst l) = true := e
          rw [this] at q; exact q
        | false =>
          have : okDigs (.lst l) = false := e
          rw [this] at q; exact q
    | ref a => cases n
    | scr l => exact absurd rfl (hs l)
    | _ => exact q
/-! ### the told rule -/
def toldD : Option (Nat × Nat) → D
  | none => .non
  | some (i, k) => .tup [.int i, .int k]
def digs (l : List Nat) : Prop := ∀ d ∈ l, d ≤ 1
def r__told_index (ds : List D) (d : D) : Prop := ∃ (c : Nat) (l : List Nat), ds = [.int c, .lst (natsD l), .int 0] ∧ 1 ≤ c ∧ digs l ∧ d = toldD (stp c l 0 1 0)
theorem mul2 (j : Int) : mulOk 2 j := .inl (.inl ⟨by decide, by decide⟩)
theorem ok__told_index (T : Tx K mg W) (Dd : Df K mg "_told_index" s__told_index ["count", "digits", "start"]) : Cal P w K mg base CX0 1 "_told_index" ["count", "digits", "start"] (spW K (relR r__told_index)) := by
  refine cal_ok Dd sc__told_index (fun ds Q h => ?_) (fun f cdv A outer s H E hr => 
  (ss_cons (s_set (i := 3) sc__told_index.nd rfl (.inl rfl) d_int)
  (ss_cons (s_set (i := 4) sc__told_index.nd rfl (.inl rfl) d_int)
  (ss_cons (s_set (i := 5) sc__told_index.nd rfl (.inl rfl) (dv 2))
  (ss_cons (s_while PassesOwn.never (w_or (t_cmp o_lt (qv 3) (qv 0)) (w_or1 (t_cmp o_ge (qv 4) (qv 0)))).t (
    (ss_one (s_if (t_cmp o_ge (qv 3) (qv 0)) (
      (ss_cons (s_aug (i := 3) sc__told_index.nd rfl (.inl rfl) (qv 0) ip_sub)
      (ss_one (s_aug (i := 4) sc__told_index.nd rfl (.inl rfl) (qv 0) ip_sub)))) (
      (ss_one (s_if (t_cmp (o_eq (hu64 hr)) (qv 5) (d_callB (c_len) T.n_len (b_cons (qv 1) b_nil)).q) (
        (ss_one (s_ret d_non))) (
        (ss_cons (s_set (i := 3) sc__told_index.nd rfl (.inl rfl) (d_op (o_mul) d_int.q (qv 3)))
        (ss_cons (s_set (i := 4) sc__told_index.nd rfl (.inl rfl) (d_op (o_add) (d_op (o_mul) d_int.q (qv 4)).q (d_ix (qv 1) (qv 5)).q))
        (ss_one (s_aug (i := 5) sc__told_index.nd rfl (.inl rfl) d_int.q ip_add))))))))))))
  (ss_one (s_ret (d_tup (a_cons (dv 4) (a_cons (dv 5) a_nil)))))))))) (fun ds Q h => ?_)

  · obtain ⟨d, ⟨c, l, rfl, _⟩, _⟩ := h; rfl
  · obtain ⟨d, ⟨c, l, rfl, hc, hd, rfl⟩, q⟩ := h
    refine ⟨fun m δ => ∃ k w i : Nat, δ = [.d (.int c), .d (.lst (natsD l)), .d (.int 0), .d (.int w), .d (.int i), .d (.int k)] ∧ k ≤ l.length ∧ w < 2 * c ∧ i < w ∧ stp c (l.drop k) k w i = stp c l 0 1 0 ∧ m = 2 * (l.length - k) + (if c ≤ w then 1 else 0), ⟨_, 0, 1, 0, rfl, Nat.zero_le _, by omega, by omega, rfl, rfl⟩, ?_⟩
    rintro m δ ⟨k, w, i, rfl, hk, hw, hi, hs, rfl⟩
    have fin : c ≤ w → i < c → Q (.tup [.int i, .int k]) := fun h1 h2 => by
      have : stp c (l.drop k) k w i = some (i, k) := by
        cases e : l.drop k <;> (unfold stp; rw [if_pos ⟨h1, h2⟩])
      rw [← hs, this] at q
      exact q
    have ll : (natsD l).length = l.length := List.length_map _
    have grow : w < c → ¬ ((k : Int) = ((natsD l).length : Int)) → ∃ d, l[k]? = some d ∧ d ≤ 1 ∧ k + 1 ≤ l.length ∧ stp c (l.drop (k + 1)) (k + 1) (2 * w) (2 * i + d) = stp c l 0 1 0 := fun h1 h2 => by
      rw [ll] at h2
      have hk' : k < l.length := by omega
      refine ⟨l[k], List.getElem?_eq_getElem hk', hd _ (List.getElem_mem hk'), hk', ?_⟩
      rw [← hs, List.drop_eq_getElem_cons hk']
      conv => rhs; unfold stp
      rw [if_neg (by omega), if_neg (by omega)]
    have less : w < c → (k : Int) = ((natsD l).length : Int) → Q .non := fun h1 h2 => by
      rw [ll] at h2
      have hk' : k = l.length := by omega
      rw [← hs, hk', List.drop_length] at q
      unfold stp at q
      rw [if_neg (by omega)] at q
      exact q
    refine yD (fun h1 => ?_) (fun h1 => yD (fun h2 => ?_) (fun h2 => ?_))
    · have h1' : w < c := by omega
      refine yD (fun h => absurd h (by omega)) (fun _ => yD (fun h2 => less h1' h2) (fun h2 => ?_))
      obtain ⟨d, g1, g2, g3, g4⟩ := grow h1' h2
      refine ⟨mul2 _, mul2 _, onSome_of (natsD_get g1) ?_⟩
      refine ⟨2 * (l.length - (k + 1)) + (if c ≤ 2 * w then 1 else 0), ?_, k + 1, 2 * w, 2 * i + d, rfl, g3, by omega, by omega, g4, rfl⟩
      rw [if_neg (by omega : ¬ c ≤ w)]
      split <;> omega
    · have h1' : c ≤ w := by omega
      refine yD (fun h => ?_) (fun h => absurd (show (c : Int) ≤ w by omega) h)
      have e1 : (w : Int) - (c : Int) = ((w - c : Nat) : Int) := by omega
      have e2 : (i : Int) - (c : Int) = ((i - c : Nat) : Int) := by omega
      refine ⟨2 * (l.length - k) + (if c ≤ w - c then 1 else 0), ?_, k, w - c, i - c, ?_, hk, by omega, by omega, ?_, rfl⟩
      · rw [if_pos h1', if_neg (by omega)]; omega
      · show [_, _, _, Sl.d (.int ((w : Int) - (c : Int))), Sl.d (.int ((i : Int) - (c : Int))), _] = _
        rw [e1, e2]
      · rw [← hs]
        cases e : l.drop k with
        | nil =>
          unfold stp
          rw [if_neg (by omega), if_neg (by omega)]
        | cons d ds =>
          unfold stp
          rw [if_neg (by omega), if_neg (by omega), if_neg (by omega), if_pos h1']
    · exact fin (by omega) (by omega)
/-! ### index_by_digits, telling_rows -/
theorem okDigs_of {l : List Nat} (h : digs l) : okDigs (.lst (natsD l)) = true := by
  show (natsD l).all isDig = true
  unfold natsD
  rw [List.all_eq_true]
  intro d hd
  obtain ⟨n, hn, rfl⟩ := List.mem_map.mp hd
  have := h n hn
  show (decide (0 ≤ (n : Int)) && decide ((n : Int) ≤ 1)) = true
  rw [decide_eq_true (by omega), decide_eq_true (by omega)]; rfl
theorem natsD_ref {l : List Nat} : ∀ d ∈ natsD l, notRef d = true := fun d h => by
  obtain ⟨n, hn, rfl⟩ := List.mem_map.mp h
  rfl
def plainD (y : D) : Prop := notRef y = true ∧ (∀ l, y = .lst l → ∀ d ∈ l, notRef d = true) ∧ ∀ l, y ≠ .scr l
theorem plainD_nats (l : List Nat) : plainD (.lst (natsD l)) := ⟨rfl, fun l' e => by cases e; exact natsD_ref, fun _ e => by cases e⟩
def r_index_by_digits (W : Ad) (ds : List D) (o : Out) : Prop :=
  (∃ (c : Nat) (l : List Nat), ds = [.int c, .lst (natsD l)] ∧ 1 ≤ c ∧ digs l ∧ o = .ret (toldD (stp c l 0 1 0))) ∨
  (∃ x y, ds = [x, y] ∧ plainD y ∧ okDigs y = false ∧ o = .exc W.cBadDigits) ∨
  ∃ x l, ds = [x, .lst (natsD l)] ∧ digs l ∧ notRef x = true ∧ okCount x = false ∧ o = .exc W.cBadIndex
theorem ok_index_by_digits (T : Tx K mg W) (Dd : Df K mg "index_by_digits" s_index_by_digits ["count", "digits"]) (C__check_digits : Cal P w K mg base (L2.CX P w) 2 "_check_digits" ["digits"] (spX K (relX (r__check_digits W)))) (C__check_count : Cal P w K mg base (L2.CX P w) 2 "_check_count" ["count"] (spX K (relX (r__check_count W)))) (C__told_index : Cal P w K mg base CX0 1 "_told_index" ["count", "digits", "start"] (spW K (relR r__told_index))) : Cal P w K mg base (L2.CX P w) 3 "index_by_digits" ["count", "digits"] (spX K (relX (r_index_by_digits W))) := by
  refine cal_okX Dd sc_index_by_digits (fun ds Q Z h => ?_) (fun f cdv A outer s H E hr => 
  (ss_cons (s_exprX (x_call C__check_digits relX_mono (hr.mono (by decide)) (takes_of rfl rfl rfl rfl) (a_cons (dv 1) a_nil)))
  (ss_cons (s_exprX (x_call C__check_count relX_mono (hr.mono (by decide)) (takes_of rfl rfl rfl rfl) (a_cons (dv 0) a_nil)))
  (ss_one (s_ret (d_call C__told_index relR_mono (hr.mono (by decide)) (a_cons (dv 0) (a_cons (dv 1) (a_cons d_int a_nil))))))))) (fun ds Q Z h => ?_)

  · obtain ⟨d, ⟨c, l, rfl, _⟩ | ⟨x, y, rfl, _⟩ | ⟨x, l, rfl, _⟩, _⟩ := h <;> rfl
  · obtain ⟨d, ⟨c, l, rfl, h1, h2, rfl⟩ | ⟨x, y, rfl, h1, h2, rfl⟩ | ⟨x, l, rfl, h1, h2, h3, rfl⟩, q⟩ := h
    · have e := okDigs_of h2
      refine ⟨_, ⟨_, rfl, (plainD_nats l).1, (plainD_nats l).2.1, (plainD_nats l).2.2, rfl⟩, ?_⟩
      rw [e]
      have e2 : okCount (.int c) = true := decide_eq_true (by omega)
      refine ⟨_, ⟨_, rfl, rfl, rfl⟩, ?_⟩
      rw [e2]
      exact ⟨_, ⟨c, l, rfl, h1, h2, rfl⟩, q⟩
    · refine ⟨_, ⟨_, rfl, h1.1, h1.2.1, h1.2.2, rfl⟩, ?_⟩
      rw [h2]
      exact q
    · have e := okDigs_of h1
      refine ⟨_, ⟨_, rfl, (plainD_nats l).1, (plainD_nats l).2.1, (plainD_nats l).2.2, rfl⟩, ?_⟩
      rw [e]
      refine ⟨_, ⟨_, rfl, h2, rfl⟩, ?_⟩
      rw [h3]
      exact q
/-- the digits of 1 / c -/
def bits (c n : Nat) : List Nat := (List.range n).map (bit c)
def okMost : D → Bool
  | .int i => decide (0 ≤ i) && decide (i ≤ 1000)
  | _ => false
def sm (c : Nat) : Prop := c < 2 ^ 8000
def r_telling_rows (W : Ad) (ds : List D) (o : Out) : Prop :=
  (∃ (c m : Nat), ds = [.int c, .int m] ∧ 1 ≤ c ∧ sm c ∧ m ≤ 1000 ∧ o = .ret (.lst (natsD (bits c (m + 1))))) ∨
  (∃ x y, ds = [x, y] ∧ notRef x = true ∧ okCount x = false ∧ o = .exc W.cBadIndex) ∨
  ∃ (c : Nat) (y : D), ds = [.int c, y] ∧ 1 ≤ c ∧ notRef y = true ∧ okMost y = false ∧ o = .exc W.cBadIndex
def rst (c : Nat) : Nat → Nat
  | 0 => 1
  | k + 1 => 2 * rem c k
theorem rst_div {c : Nat} (h : 1 ≤ c) (k : Nat) : rst c k / c = bit c k ∧ rst c k % c = rem c k := by
  have aux : ∀ x, x < 2 * c → x / c = (if c ≤ x then 1 else 0) ∧ x % c = (if c ≤ x then x - c else x) := fun x hx => by
    by_cases g : c ≤ x
    · rw [if_pos g, if_pos g, Nat.div_eq_sub_div h g, Nat.mod_eq_sub_mod g, Nat.div_eq_of_lt (by omega), Nat.mod_eq_of_lt (by omega)]
      exact ⟨rfl, rfl⟩
    · rw [if_neg g, if_neg g, Nat.div_eq_of_lt (by omega), Nat.mod_eq_of_lt (by omega)]
      exact ⟨rfl, rfl⟩
  cases k with
  | zero =>
    have := aux 1 (by omega)
    rw [show rst c 0 = 1 from rfl, bit_0, rem_0, this.1, this.2]
    exact ⟨rfl, rfl⟩
  | succ k =>
    have l := rem_lt h k
    have := aux (2 * rem c k) (by omega)
    rw [show rst c (k + 1) = 2 * rem c k from rfl, bit_s, rem_s, this.1, this.2]
    exact ⟨rfl, rfl⟩
theorem bits_s (c i : Nat) : natsD (bits c (i + 1)) = natsD (bits c i) ++ [.int (bit c i : Nat)] := by
  unfold bits natsD
  rw [List.range_succ, List.map_append, List.map_append]; rfl
theorem bits_len (c i : Nat) : (natsD (bits c i)).length = i := by
  unfold bits natsD
  rw [List.length_map, List.length_map, List.length_range]
theorem ok_telling_rows (T : Tx K mg W) (Dd : Df K mg "telling_rows" s_telling_rows ["count", "most"]) (C__check_count : Cal P w K mg base (L2.CX P w) 2 "_check_count" ["count"] (spX K (relX (r__check_count W)))) (C_is_whole : Cal P w K mg base CX0 1 "is_whole" ["value"] (spW K (relR r_is_whole))) : Cal P w K mg base (L2.CX P w) 3 "telling_rows" ["count", "most"] (spX K (relX (r_telling_rows W))) := by
  refine cal_okX Dd sc_telling_rows (fun ds Q Z h => ?_) (fun f cdv A outer s H E hr => 
  (ss_cons (s_exprX (x_call C__check_count relX_mono (hr.mono (by decide)) (takes_of rfl rfl rfl rfl) (a_cons (dv 0) a_nil)))
  (ss_cons (s_if (w_or (t_not (t_val (d_call C_is_whole relR_mono (hr.mono (by decide)) (a_cons (dv 1) a_nil)).q)) (w_or1 (t_not (t_chain o_le o_le d_int.q (qv 1) (d_glob T.g_MOST_DIGITS T.r_MOST_DIGITS T.a_MOST_DIGITS).q)))).t (
    (ss_one (s_raise (C := W.cBadIndex) (ps_raise rfl (takes_of rfl rfl rfl rfl) (pmk_ownA PySem.F.excBase_ValueError T.e_BadIndex.x T.e_BadIndex.g T.e_BadIndex.k (raises_own T.e_BadIndex.b T.e_BadIndex.t) rfl (pa_cons (pe_joined (PJ.cons pe_str (PJ.cons (pe_fmt (pe_glob (by rfl) T.g_MOST_DIGITS T.r_MOST_DIGITS)) PJ.nil))) pa_nil))) (fun _ _ _ h => ⟨_, rfl, by decide +kernel, .inr ⟨_, rfl, by decide +kernel, _, rfl, by decide +kernel, ⟨by decide +kernel, h⟩⟩⟩)))) (ss_nil))
  (ss_cons (s_own (i := 2) sc_telling_rows.nd rfl (.inl rfl) (f_lst a_nil))
  (ss_cons (s_set (i := 3) sc_telling_rows.nd rfl (.inl rfl) d_int)
  (ss_cons (s_for (passes_of rfl) (i_range1 T.n_range (d_op (o_add) (qv 1) d_int.q).q) (g_name (i := 4) sc_telling_rows.nd rfl (.inl rfl)) (
    (ss_cons (s_append 2 (d_op o_div (qv 3) (qv 0)))
    (ss_one (s_set (i := 3) sc_telling_rows.nd rfl (.inl rfl) (d_op (o_mul) d_int.q (d_op o_mod (qv 3) (qv 0)).q))))))
  (ss_one (s_frz 2 (s_ret (dv 2)))))))))) (fun ds Q Z h => ?_)

  · obtain ⟨d, ⟨c, l, rfl, _⟩ | ⟨x, y, rfl, _⟩ | ⟨x, l, rfl, _⟩, _⟩ := h <;> rfl
  · obtain ⟨d, ⟨c, m, rfl, h1, h2, h3, rfl⟩ | ⟨x, y, rfl, h1, h2, rfl⟩ | ⟨c, y, rfl, h1, h2, h3, rfl⟩, q⟩ := h
    · have e2 : okCount (.int c) = true := decide_eq_true (by omega)
      refine ⟨_, ⟨_, rfl, rfl, rfl⟩, ?_⟩
      rw [e2]
      refine ⟨_, ⟨_, rfl, rfl, rfl⟩, ?_⟩
      refine yN (fun h => absurd (show (m : Int) ≤ 1000 by omega) h) (fun _ => ?_)
      refine ⟨rgb (by omega) (by omega) (by omega) (by omega) (by omega), loop_rg (n := m + 1) (fun i δ => ∃ x, δ = [.d (.int c), .d (.int m), .own (natsD (bits c i)), .d (.int (rst c i : Nat)), x]) (by omega) ⟨_, rfl⟩ ?_ ?_⟩
      · rintro i δ hi ⟨x, rfl⟩ N hN
        have hb := rst_div h1 i
        refine ⟨wide_div (b := 8000) (by omega) (by rw [Int.natAbs_natCast]; exact h2) (by decide) (by decide), lt_lim (by rw [bits_len]; omega), by omega, mul2 _, ?_⟩
        have e1 : ((rst c i : Nat) : Int) / (c : Int) = ((bit c i : Nat) : Int) := by rw [← hb.1]; exact (Int.natCast_ediv _ _).symm
        have e3 : 2 * (((rst c i : Nat) : Int) % (c : Int)) = ((rst c (i + 1) : Nat) : Int) := by
          rw [show rst c (i + 1) = 2 * rem c i from rfl, ← hb.2, Int.natCast_mul, Int.natCast_emod]; rfl
        refine hN _ ⟨.d (.int (0 + (i : Int))), ?_⟩
        show [_, _, Sl.own (natsD (bits c i) ++ [.int (((rst c i : Nat) : Int) / (c : Int))]), Sl.d (.int (2 * (((rst c i : Nat) : Int) % (c : Int)))), _] = _
        rw [e1, e3, bits_s]
      · rintro δ ⟨x, rfl⟩
        exact q
    · refine ⟨_, ⟨_, rfl, h1, rfl⟩, ?_⟩
      rw [h2]
      exact q
    · have e2 : okCount (.int c) = true := decide_eq_true (by omega)
      refine ⟨_, ⟨_, rfl, rfl, rfl⟩, ?_⟩
      rw [e2]
      refine ⟨_, ⟨_, rfl, h2, rfl⟩, ?_⟩
      cases y with
      | int i =>
        refine yD (fun h => yN (fun h2 => q) (fun h2 => ?_)) (fun h => q)
        have : okMost (.int i) = true := by show (decide _ && decide _) = true; rw [decide_eq_true h, decide_eq_true h2]; rfl
        rw [h3] at this; cases this
      | _ => exact q
end
end DL

namespace DL
open PySem L2
section
variable {P : Program} {w : World} {K : PySem.W.Frag} {mg : Str → Option Value} {base : Heap} {W : Ad}
/-! ### _law_draws -/
theorem cutD_mem {α : Type} {l : List α} {lo hi : Option Int} {x : α} (h : x ∈ cutD l lo hi) : x ∈ l := List.mem_of_mem_drop (List.mem_of_mem_take h)
def dom__law_draws (ds : List D) : Prop := ∃ (ns : List Int) (m : Nat), ds = [.scr (ns.map D.int), .int m] ∧ ns.length ≤ 63 ∧ m ≤ 1000
def r__law_draws (ds : List D) (d : D) : Prop := ∃ (m : Nat) (l : List Nat), ds[1]? = some (.int (m : Int)) ∧ d = .lst (natsD l) ∧ l.length = m ∧ ∀ x ∈ l, x < 65537
theorem bd_app {l : List Nat} {B n : Nat} (h : ∀ x ∈ l, x < B) (hn : n < B) : ∀ x ∈ l ++ [n], x < B := fun x hx => by
  rcases List.mem_append.mp hx with hx | hx
  · exact h x hx
  · rw [List.mem_singleton.mp hx]; exact hn
theorem ok__law_draws (T : Tx K mg W) (Dd : Df K mg "_law_draws" s__law_draws ["script", "many"]) : Cal P w K mg base CX0 1 "_law_draws" ["script", "many"] (spW K (allR dom__law_draws r__law_draws)) := by
  refine cal_ok Dd sc__law_draws (fun ds Q h => ?_) (fun f cdv A outer s H E hr => 
  (ss_cons (s_own (i := 2) sc__law_draws.nd rfl (.inl rfl) (f_lst a_nil))
  (ss_cons (s_set (i := 3) sc__law_draws.nd rfl (.inl rfl) d_int)
  (ss_cons (s_for PassesOwn.never (i_list (d_slice (qv 0) o_none (o_some d_int.q))) (g_name (i := 4) sc__law_draws.nd rfl (.inl rfl)) (
    (ss_cons (s_set (i := 5) sc__law_draws.nd rfl (.inl rfl) (d_callB c_abs T.n_abs (b_cons (qv 4) b_nil)))
    (ss_cons (s_if (t_cmp o_ge (qv 5) (d_op o_pow d_int.q d_int.q).q) (
      (ss_one (s_for PassesOwn.never (i_range1 T.n_range d_int.q) (g_name (i := 6) sc__law_draws.nd rfl (.inl rfl)) (
        (ss_one (s_if (t_cmp o_gt (qv 5) d_int.q) (
          (ss_cons (s_append 2 (d_op o_mod (d_callT c_int T.n_int (b_cons (qv 5) b_nil)).q d_int.q))
          (ss_one (s_set (i := 5) sc__law_draws.nd rfl (.inl rfl) (d_op o_div (qv 5) d_int.q))))) (ss_nil))))))) (
      (ss_cons (s_append 2 (d_op o_mod (d_callT c_int T.n_int (b_cons (d_op (o_add) (d_op (o_add) (d_op (o_mul) (qv 5) d_int.q).q (d_op (o_mul) (qv 3) d_int.q).q).q d_int.q).q b_nil)).q d_int.q))
      (ss_one (s_append 2 (d_op o_mod (d_callT c_int T.n_int (b_cons (d_op (o_add) (d_op (o_add) (d_op (o_add) (d_op (o_mul) (qv 5) d_int.q).q (d_op (o_mul) (qv 3) d_int.q).q).q d_int.q).q (d_op (o_mul) (qv 5) (qv 5)).q).q b_nil)).q d_int.q))))))
    (ss_one (s_set (i := 3) sc__law_draws.nd rfl (.inl rfl) (d_op (o_add) (qv 3) d_int.q)))))))
  (ss_cons (s_for PassesOwn.never (i_range1 T.n_range (qv 1)) (g_name (i := 6) sc__law_draws.nd rfl (.inl rfl)) (
    (ss_one (s_if (t_cmp o_lt (d_callB (c_len) T.n_len (b_cons (qv 2) b_nil)).q (qv 1)) (
      (ss_one (s_append 2 (d_op o_mod (d_callT c_int T.n_int (b_cons (d_op (o_add) (d_op (o_add) (d_op (o_mul) (d_callB (c_len) T.n_len (b_cons (qv 2) b_nil)).q d_int.q).q (d_op (o_mul) d_int.q (qv 3)).q).q (d_op (o_mul) (d_op (o_mul) (qv 6) (qv 6)).q d_int.q).q).q b_nil)).q d_int.q)))) (ss_nil)))))
  (ss_one (s_ret (d_slice (qv 2) o_none (o_some (qv 1)))))))))) (fun ds Q h => ?_)

  · obtain ⟨⟨ns, m, rfl, _⟩, _⟩ := h; rfl
  · obtain ⟨⟨ns, m, rfl, hn, hm⟩, q⟩ := h
    refine loop_inv (fun i δ => ∃ (l : List Nat) (x4 x5 x6 : Sl), δ = [.d (.scr (ns.map D.int)), .d (.int m), .own (natsD l), .d (.int (i : Nat)), x4, x5, x6] ∧ l.length ≤ 24 * i ∧ ∀ x ∈ l, x < 65537) ⟨[], _, _, _, rfl, Nat.zero_le _, fun x h => by cases h⟩ ?_ ?_
    · rintro i x δ ex ⟨l, x4, x5, x6, rfl, hl, hb⟩ N hN
      obtain ⟨z, rfl⟩ : ∃ z, x = .int z := by
        obtain ⟨z, _, rfl⟩ := List.mem_map.mp (cutD_mem (List.mem_of_getElem? ex))
        exact ⟨z, rfl⟩
      have hi : i < 63 := by
        have h1 := (List.getElem?_eq_some_iff.mp ex).1
        have h2 := cutD_len (ns.map D.int) none (some 63)
        rw [List.length_map] at h2
        omega
      obtain ⟨y, hy⟩ : ∃ y : Int, (if z < 0 then -z else z) = y := ⟨_, rfl⟩
      have hy0 : 0 ≤ y := by rw [← hy]; split <;> omega
      refine ⟨⟨by decide, by decide, by decide⟩, ?_⟩
      refine yD (fun h => ?_) (fun h => ?_)
      · refine ⟨rgb (by decide) (by decide) (by decide) (by decide) (by decide), loop_rg (n := 24) (fun j δ => ∃ (l' : List Nat) (y' : Int) (x6 : Sl), δ = [.d (.scr (ns.map D.int)), .d (.int m), .own (natsD l'), .d (.int (i : Nat)), .d (.int z), .d (.int y'), x6] ∧ l'.length ≤ 24 * i + j ∧ ∀ x ∈ l', x < 65537) rfl ⟨l, _, _, rfl, by omega, hb⟩ ?_ ?_⟩
        · rintro j δ hj ⟨l', y', x6, rfl, hl', hb'⟩ N' hN'
          refine yD (fun _ => ?_) (fun _ => hN' _ ⟨l', y', _, rfl, by omega, hb'⟩)
          obtain ⟨n, e, en⟩ := mod_nat y' (m := 1009) (by decide)
          refine ⟨md (by decide), lt_lim (by rw [natsD_len]; omega), divS (by decide) (by decide), hN' _ ⟨l' ++ [n], y' / 1009, .d (.int (0 + (j : Int))), ?_, by rw [List.length_append, List.length_singleton]; omega, bd_app hb' (by omega)⟩⟩
          rw [natsD_app, ← e]; rfl
        · rintro δ ⟨l', y', x6, rfl, hl', hb'⟩
          exact hN _ ⟨l', _, _, _, rfl, by omega, hb'⟩
      · have hy18 : y < 10 ^ 18 := by
          rw [hy] at h
          have : ¬ ((10 : Int) ^ 18 ≤ y) := h
          omega
        obtain ⟨n, e, en⟩ := mod_nat (y * 48271 + (i : Nat) * 69621 + 11) (m := 65537) (by decide)
        obtain ⟨n2, e2, en2⟩ := mod_nat (y * 16807 + (i : Nat) * 40692 + 7 + y * y) (m := 65521) (by decide)
        refine ⟨mulR ⟨by decide, by decide⟩, mulR ⟨by decide, by decide⟩, md (by decide), lt_lim (by rw [natsD_len]; omega), mulR ⟨by decide, by decide⟩, mulR ⟨by decide, by decide⟩, mulR (j := if z < 0 then -z else z) (by rw [hy]; omega), md (by decide), lt_lim (by rw [List.length_append, natsD_len]; show l.length + 1 < 1000000; omega), hN _ ⟨l ++ [n] ++ [n2], .d (.int z), .d (.int y), x6, ?_, by rw [List.length_append, List.length_append]; show l.length + 1 + 1 ≤ _; omega, bd_app (bd_app hb (by omega)) (by omega)⟩⟩
        rw [natsD_app, natsD_app, ← e, ← e2, ← hy]; rfl
    · rintro δ ⟨l, x4, x5, x6, rfl, hl, hb⟩
      have hl2 : l.length ≤ 24 * 63 := by
        have h2 := cutD_len (ns.map D.int) none (some 63)
        rw [List.length_map] at h2
        omega
      refine ⟨rgb (by decide) (by decide) (by omega) (by omega) (by omega), loop_rg (n := m) (fun j δ => ∃ (l' : List Nat) (x6 : Sl), δ = [.d (.scr (ns.map D.int)), .d (.int m), .own (natsD l'), .d (.int ((cutD (ns.map D.int) none (some 63)).length : Nat)), x4, x5, x6] ∧ l'.length ≤ 24 * 63 + j ∧ j ≤ l'.length ∧ ∀ x ∈ l', x < 65537) (by omega) ⟨l, _, rfl, by omega, Nat.zero_le _, hb⟩ ?_ ?_⟩
      · rintro j δ hj ⟨l', x6, rfl, hl', hj', hb'⟩ N' hN'
        refine yD (fun hc => ?_) (fun hc => hN' _ ⟨l', _, rfl, by omega, ?_, hb'⟩)
        · obtain ⟨n, e, en⟩ := mod_nat (((natsD l').length : Nat) * 69621 + 977 * ((cutD (ns.map D.int) none (some 63)).length : Nat) + (0 + (j : Int)) * (0 + (j : Int)) * 31) (m := 65521) (by decide)
          refine ⟨mulR ⟨by decide, by decide⟩, mulL ⟨by decide, by decide⟩, mulR (by omega), mulR ⟨by decide, by decide⟩, md (by decide), lt_lim (by rw [natsD_len]; omega), hN' _ ⟨l' ++ [n], .d (.int (0 + (j : Int))), ?_, by rw [List.length_append, List.length_singleton]; omega, by rw [List.length_append, List.length_singleton]; omega, bd_app hb' (by omega)⟩⟩
          rw [natsD_app, ← e]; rfl
        · have : ¬ (((natsD l').length : Int) < (m : Int)) := hc
          rw [natsD_len] at this
          omega
      · rintro δ ⟨l', x6, rfl, hl', hj', hb'⟩
        refine q _ ⟨m, l'.take m, rfl, ?_, by rw [List.length_take]; omega, fun x hx => hb' x (List.mem_of_mem_take hx)⟩
        have : cutD (natsD l') none (some (m : Int)) = natsD (l'.take m) := by
          unfold cutD natsD
          rw [HT.sIx_none, HT.sIx_nat, List.drop_zero, List.length_map, Nat.min_eq_left hj', Nat.sub_zero, List.map_take]
        show D.lst (cutD (natsD l') none (some (m : Int))) = _
        rw [this]
end
end DL

namespace DL
open PySem L2
open SMath48
section
variable {P : Program} {w : World} {K : PySem.W.Frag} {mg : Str → Option Value} {base : Heap} {W : Ad}
/-! ### _law_is_number, _law_all, _law_stepped, _law_told, _law_rows_refused -/
def r__law_is_number (ds : List D) (d : D) : Prop := ∃ x, ds = [x] ∧ notRef x = true ∧ d = .bl (isWh x)
theorem ok__law_is_number (T : Tx K mg W) (Dd : Df K mg "_law_is_number" s__law_is_number ["value"]) : Cal P w K mg base CX0 1 "_law_is_number" ["value"] (spW K (relR r__law_is_number)) := by
  refine cal_ok Dd sc__law_is_number (fun ds Q h => ?_) (fun f cdv A outer s H E hr => 
  (ss_one (s_ret (d_and (d_isi k_int T.n_isinstance T.n_int (qv 0)) (d_one (d_not (d_isi k_bool T.n_isinstance T.n_bool (qv 0)))))))) (fun ds Q h => ?_)

  · obtain ⟨d, ⟨x, rfl, _⟩, _⟩ := h; rfl
  · obtain ⟨d, ⟨x, rfl, n, rfl⟩, q⟩ := h
    refine ⟨n, ?_⟩
    cases x with
    | int i => exact ⟨rfl, q⟩
    | bl b => exact ⟨rfl, q⟩
    | ref a => cases n
    | _ => exact q
def rowsD (L : List (List Nat)) : List D := L.map fun row => .lst (natsD row)
def r__law_all (ds : List D) (d : D) : Prop := ∃ n : Nat, ds = [.int n] ∧ n ≤ 6 ∧ d = .lst (rowsD (allB n))
theorem allB_len : ∀ n, (allB n).length = 2 ^ n
  | 0 => rfl
  | n + 1 => by rw [allB, List.length_append, List.length_map, List.length_map, allB_len n, Nat.pow_succ]; omega
theorem allB_row : ∀ n, ∀ r ∈ allB n, r.length = n ∧ digs r
  | 0, r, h => by
    rw [allB] at h
    rw [List.mem_singleton.mp h]
    exact ⟨rfl, fun d hd => by cases hd⟩
  | n + 1, r, h => by
    rw [allB] at h
    rcases List.mem_append.mp h with h | h
    all_goals
      obtain ⟨s, hs, rfl⟩ := List.mem_map.mp h
      obtain ⟨h1, h2⟩ := allB_row n s hs
      refine ⟨by rw [List.length_append, h1]; rfl, fun d hd => ?_⟩
      rcases List.mem_append.mp hd with hd | hd
      · exact h2 d hd
      · rw [List.mem_singleton.mp hd]; decide
theorem ok__law_all (T : Tx K mg W) (Dd : Df K mg "_law_all" s__law_all ["length"]) : Cal P w K mg base CX0 1 "_law_all" ["length"] (spW K (relR r__law_all)) := by
  refine cal_ok Dd sc__law_all (fun ds Q h => ?_) (fun f cdv A outer s H E hr => 
  (ss_cons (s_set (i := 1) sc__law_all.nd rfl (.inl rfl) (f_lst (a_cons (f_lst a_nil).p a_nil)).p)
  (ss_cons (s_for PassesOwn.never (i_range1 T.n_range (qv 0)) (g_name (i := 2) sc__law_all.nd rfl (.inl rfl)) (
    (ss_one (s_set (i := 1) sc__law_all.nd rfl (.inl rfl) (d_op (o_add) (f_lc sc__law_all.nd (i_listQ (qv 1)) (blkOk_by (own := [("one", 3)]) (N := ["length", "found", "k", "one"]) (sc := defScope s__law_all) (by decide +kernel)) (fun _ _ _ _ _ => (g_name (i := 3) sc__law_all.nd rfl (.inl rfl))) (fun _ _ _ _ _ => ts_nil) (fun _ _ _ _ _ => (d_op (o_add) (qv 3) (f_lst (a_cons d_int a_nil)).p.q))).p.q (f_lc sc__law_all.nd (i_listQ (qv 1)) (blkOk_by (own := [("one", 3)]) (N := ["length", "found", "k", "one"]) (sc := defScope s__law_all) (by decide +kernel)) (fun _ _ _ _ _ => (g_name (i := 3) sc__law_all.nd rfl (.inl rfl))) (fun _ _ _ _ _ => ts_nil) (fun _ _ _ _ _ => (d_op (o_add) (qv 3) (f_lst (a_cons d_int a_nil)).p.q))).p.q)))))
  (ss_one (s_ret (dv 1)))))) (fun ds Q h => ?_)

  · obtain ⟨d, ⟨x, rfl, _⟩, _⟩ := h; rfl
  · obtain ⟨d, ⟨n, rfl, hn, rfl⟩, q⟩ := h
    refine ⟨rgb (by decide) (by decide) (by omega) (by omega) (by omega), loop_rg (n := n) (fun j δ => ∃ (x2 x3 : Sl), δ = [.d (.int n), .d (.lst (rowsD (allB j))), x2, x3]) (by omega) ⟨_, _, rfl⟩ ?_ ?_⟩
    · rintro j δ hj ⟨x2, x3, rfl⟩ N hN
      have step : ∀ b : Nat, ∀ x ∈ rowsD (allB j), ∀ P : D → Prop, P ((fun d => match d with | .lst l => .lst (l ++ [.int (b : Int)]) | d => d) x) → ∃ l, x = .lst l ∧ l.length + 1 ≤ LIM ∧ P (.lst (l ++ [.int (b : Int)])) := fun b x hx P p => by
        obtain ⟨r, hr, rfl⟩ := List.mem_map.mp hx
        exact ⟨_, rfl, le_lim (by rw [natsD_len, (allB_row j r hr).1]; omega), p⟩
      have e : ∀ b : Nat, (rowsD (allB j)).map (fun d => match d with | .lst l => .lst (l ++ [.int (b : Int)]) | d => d) = rowsD ((allB j).map fun one => one ++ [b]) := fun b => by
        unfold rowsD
        rw [List.map_map, List.map_map]
        refine List.map_congr_left fun r _ => ?_
        show D.lst (natsD r ++ [.int (b : Int)]) = D.lst (natsD (r ++ [b]))
        rw [natsD_app]
      refine lc_map (fun d => match d with | .lst l => .lst (l ++ [.int ((0 : Nat) : Int)]) | d => d) (fun x hx P p => ?_) (lc_map (fun d => match d with | .lst l => .lst (l ++ [.int ((1 : Nat) : Int)]) | d => d) (fun x hx P p => ?_) ?_)
      · obtain ⟨l, rfl, h1, h2⟩ := step 0 x hx P p
        exact ⟨h1, h2⟩
      · obtain ⟨l, rfl, h1, h2⟩ := step 1 x hx P p
        exact ⟨h1, h2⟩
      · rw [e 0, e 1]
        refine ⟨?_, hN _ ⟨.d (.int (0 + (j : Int))), x3, ?_⟩⟩
        · have hp : 2 ^ j ≤ 2 ^ 6 := Nat.pow_le_pow_right (by decide) (by omega)
          have l : ∀ b, (rowsD ((allB j).map fun one => one ++ [b])).length = 2 ^ j := fun b => by unfold rowsD; rw [List.length_map, List.length_map, allB_len]
          rw [l, l]
          exact le_lim (by omega)
        · show [_, Sl.d (.lst (rowsD _ ++ rowsD _)), _, _] = _
          rw [← show rowsD ((allB j).map (fun one => one ++ [0]) ++ (allB j).map fun one => one ++ [1]) = rowsD ((allB j).map fun one => one ++ [0]) ++ rowsD ((allB j).map fun one => one ++ [1]) from List.map_append]
          rfl
    · rintro δ ⟨x2, x3, rfl⟩
      exact q
def r__law_stepped (ds : List D) (d : D) : Prop := ∃ (c : Nat) (l : List Nat), ds = [.int c, .lst (natsD l)] ∧ 1 ≤ c ∧ digs l ∧ l.length ≤ 1000 ∧ d = toldD (stp c l 0 1 0)
theorem ok__law_stepped (T : Tx K mg W) (Dd : Df K mg "_law_stepped" s__law_stepped ["count", "digits"]) : Cal P w K mg base CX0 1 "_law_stepped" ["count", "digits"] (spW K (relR r__law_stepped)) := by
  refine cal_ok Dd sc__law_stepped (fun ds Q h => ?_) (fun f cdv A outer s H E hr => 
  (ss_cons (s_asg (d_tup (a_cons d_int (a_cons d_int a_nil))) (g_tup (gs_cons (g_name (i := 2) sc__law_stepped.nd rfl (.inl rfl)) (gs_cons (g_name (i := 3) sc__law_stepped.nd rfl (.inl rfl)) gs_nil))))
  (ss_cons (s_for PassesOwn.never (i_range1 T.n_range (d_op (o_add) (d_callB (c_len) T.n_len (b_cons (qv 1) b_nil)).q d_int.q).q) (g_name (i := 4) sc__law_stepped.nd rfl (.inl rfl)) (
    (ss_cons (s_if (t_cmp o_ge (qv 2) (qv 0)) (
      (ss_cons (s_if (t_cmp o_lt (qv 3) (qv 0)) (
        (ss_one (s_ret (d_tup (a_cons (dv 3) (a_cons (dv 4) a_nil)))))) (ss_nil))
      (ss_one (s_par (i := 2) (j := 3) sc__law_stepped.nd rfl rfl (d_op o_sub (qv 2) (qv 0)) (d_op o_sub (qv 3) (qv 0)))))) (ss_nil))
    (ss_one (s_if (t_cmp o_lt (qv 4) (d_callB (c_len) T.n_len (b_cons (qv 1) b_nil)).q) (
      (ss_one (s_par (i := 2) (j := 3) sc__law_stepped.nd rfl rfl (d_op (o_mul) d_int.q (qv 2)) (d_op (o_add) (d_op (o_mul) d_int.q (qv 3)).q (d_ix (qv 1) (qv 4)).q)))) (ss_nil))))))
  (ss_one (s_ret d_non))))) (fun ds Q h => ?_)

  · obtain ⟨d, ⟨c, l, rfl, _⟩, _⟩ := h; rfl
  · obtain ⟨d, ⟨c, l, rfl, hc, hd, hl, rfl⟩, q⟩ := h
    have ll : (natsD l).length = l.length := natsD_len l
    refine ⟨rgb (by decide) (by decide) (by rw [ll]; omega) (by rw [ll]; omega) (by rw [ll]; omega), loop_rg (n := l.length + 1) (fun k δ => ∃ (w i : Nat) (x4 : Sl), δ = [.d (.int c), .d (.lst (natsD l)), .d (.int w), .d (.int i), x4] ∧ (k ≤ l.length → w < 2 * c ∧ i < w ∧ stp c (l.drop k) k w i = stp c l 0 1 0) ∧ (l.length < k → stp c l 0 1 0 = none)) (by rw [ll]; omega) ⟨1, 0, _, rfl, fun _ => ⟨by omega, by omega, rfl⟩, fun h => by omega⟩ ?_ ?_⟩
    · rintro k δ hk ⟨w, i, x4, rfl, h1, _⟩ N hN
      obtain ⟨hw, hi, hs⟩ := h1 (by omega)
      have told : c ≤ w → i < c → stp c l 0 1 0 = some (i, k) := fun h1 h2 => by
        rw [← hs]
        cases e : l.drop k <;> (unfold stp; rw [if_pos ⟨h1, h2⟩])
      -- behind the subtraction
      have go : ∀ (F : DE), (∀ δ, N δ → F.nx δ) → ∀ (w i : Nat), w < c → i < w → stp c (l.drop k) k w i = stp c l 0 1 0 → ∀ (δ : List Sl), δ = [.d (.int c), .d (.lst (natsD l)), .d (.int w), .d (.int i), .d (.int (0 + (k : Int)))] →
          gIf (tOf (dOp oLt (qV 4) (dCa (o1 gLen) [qV 1]))) (gPar 2 3 (dOp oMul (dC (.int 2)) (qV 2)) (dOp oAdd (dOp oMul (dC (.int 2)) (qV 3)) (dOp oIx (qV 1) (qV 4)))) gNext F δ := fun F hF w i hw hi hs δ e => by
        subst e
        refine yD (fun h => ?_) (fun h => ?_)
        · have hk' : k < l.length := by
            have : (0 + (k : Int)) < ((natsD l).length : Int) := h
            rw [ll] at this; omega
          have eg : (natsD l)[k]? = some (.int (l[k] : Nat)) := natsD_get (List.getElem?_eq_getElem hk')
          have eg2 : ixD (natsD l) (0 + (k : Int)) = some (.int (l[k] : Nat)) := by rw [Int.zero_add]; exact eg
          refine ⟨mul2 _, mul2 _, onSome_of eg2 (hF _ (hN _ ⟨2 * w, 2 * i + l[k], .d (.int (0 + (k : Int))), rfl, fun _ => ?_, fun h => by omega⟩))⟩
          have := hd _ (List.getElem_mem hk')
          refine ⟨by omega, by omega, ?_⟩
          rw [← hs, List.drop_eq_getElem_cons hk']
          conv => rhs; unfold stp
          rw [if_neg (by omega), if_neg (by omega)]
        · have hk' : k = l.length := by
            have : ¬ ((0 + (k : Int)) < ((natsD l).length : Int)) := h
            rw [ll] at this; omega
          refine hF _ (hN _ ⟨w, i, _, rfl, fun h => by omega, fun _ => ?_⟩)
          rw [← hs, hk', List.drop_length]
          unfold stp
          rw [if_neg (by omega)]
      refine yD (fun h1 => ?_) (fun h1 => ?_)
      · refine yD (fun h2 => ?_) (fun h2 => ?_)
        · rw [told (by omega) (by omega)] at q
          show Q (.tup [.int i, .int (0 + (k : Int))])
          rw [Int.zero_add]
          exact q
        · have e1 : (w : Int) - (c : Int) = ((w - c : Nat) : Int) := by omega
          have e2 : (i : Int) - (c : Int) = ((i - c : Nat) : Int) := by omega
          refine go ⟨N, _, _, _, _⟩ ?_ (w - c) (i - c) (by omega) (by omega) ?_ [.d (.int c), .d (.lst (natsD l)), .d (.int ((w : Int) - (c : Int))), .d (.int ((i : Int) - (c : Int))), .d (.int (0 + (k : Int)))] ?_
          · exact fun _ h => h
          · rw [← hs]
            cases e : l.drop k with
            | nil =>
              unfold stp
              rw [if_neg (by omega), if_neg (by omega)]
            | cons d ds =>
              unfold stp
              rw [if_neg (by omega), if_neg (by omega), if_neg (by omega), if_pos (by omega : c ≤ w)]
          · rw [e1, e2]
      · refine go ⟨N, _, _, _, _⟩ ?_ w i (by omega) hi hs _ rfl
        exact fun _ h => h
    · rintro δ ⟨w, i, x4, rfl, _, h2⟩
      rw [h2 (by omega)] at q
      exact q
def r__law_told (ds : List D) (d : D) : Prop :=
  (∃ x y, ds = [x, y] ∧ plainD y ∧ okDigs y = false ∧ d = .lst [.bl false, .bl true]) ∨
  ∃ x l, ds = [x, .lst (natsD l)] ∧ digs l ∧ notRef x = true ∧ okCount x = false ∧ d = .lst [.bl true, .bl false]
theorem ok__law_told (T : Tx K mg W) (Dd : Df K mg "_law_told" s__law_told ["count", "digits"]) (E : Ex K W) (C_index_by_digits : Cal P w K mg base (L2.CX P w) 3 "index_by_digits" ["count", "digits"] (spX K (relX (r_index_by_digits W)))) : Cal P w K mg base CX0 4 "_law_told" ["count", "digits"] (spW K (relR r__law_told)) := by
  refine cal_ok Dd sc__law_told (fun ds Q h => ?_) (fun f cdv A outer s H E hr => 
  (ss_cons (s_tryL (i := 2) T.g_SpeciesError sc__law_told.nd (fun W' pn xe tk => xw_call C_index_by_digits relX_mono (hr.mono (by decide)) tk (a_cons (dv 0) (a_cons (dv 1) a_nil))) (is_cons (is_c rfl T.n_isinstance T.e_BadIndex.g) (is_cons (is_c rfl T.n_isinstance T.e_BadDigits.g) is_nil)) (hc := ⟨rfl, by decide, .inl T.g_SpeciesError⟩))
  (ss_one (s_ret (f_lst a_nil).p)))) (fun ds Q h => ?_)

  · obtain ⟨d, ⟨x, y, rfl, _⟩ | ⟨x, l, rfl, _⟩, _⟩ := h <;> rfl
  · obtain ⟨d, ⟨x, y, rfl, h1, h2, rfl⟩ | ⟨x, l, rfl, h1, h2, h3, rfl⟩, q⟩ := h
    · exact ⟨_, .inr (.inl ⟨x, y, rfl, h1, h2, rfl⟩), E.x_BadDigits, ⟨_, _, rfl⟩, _, .cons E.is_BadDigits_BadIndex (.cons E.is_BadDigits_BadDigits .nil), q⟩
    · exact ⟨_, .inr (.inr ⟨x, l, rfl, h1, h2, h3, rfl⟩), E.x_BadIndex, ⟨_, _, rfl⟩, _, .cons E.is_BadIndex_BadIndex (.cons E.is_BadIndex_BadDigits .nil), q⟩
def r__law_rows_refused (ds : List D) (d : D) : Prop :=
  (∃ x y, ds = [x, y] ∧ notRef x = true ∧ okCount x = false ∧ d = .bl true) ∨
  ∃ (c : Nat) (y : D), ds = [.int c, y] ∧ 1 ≤ c ∧ notRef y = true ∧ okMost y = false ∧ d = .bl true
theorem ok__law_rows_refused (T : Tx K mg W) (Dd : Df K mg "_law_rows_refused" s__law_rows_refused ["count", "most"]) (E : Ex K W) (C_telling_rows : Cal P w K mg base (L2.CX P w) 3 "telling_rows" ["count", "most"] (spX K (relX (r_telling_rows W)))) : Cal P w K mg base CX0 4 "_law_rows_refused" ["count", "most"] (spW K (relR r__law_rows_refused)) := by
  refine cal_ok Dd sc__law_rows_refused (fun ds Q h => ?_) (fun f cdv A outer s H E hr => 
  (ss_cons (s_try1 (i := 2) T.g_SpeciesError sc__law_rows_refused.nd (fun W' pn xe tk => xw_call C_telling_rows relX_mono (hr.mono (by decide)) tk (a_cons (dv 0) (a_cons (dv 1) a_nil))) (is_c rfl T.n_isinstance T.e_BadIndex.g) (hc := ⟨rfl, by decide, .inl T.g_SpeciesError⟩))
  (ss_one (s_ret d_bl)))) (fun ds Q h => ?_)

  · obtain ⟨d, ⟨x, y, rfl, _⟩ | ⟨x, l, rfl, _⟩, _⟩ := h <;> rfl
  · obtain ⟨d, ⟨x, y, rfl, h1, h2, rfl⟩ | ⟨c, y, rfl, h1, h2, h3, rfl⟩, q⟩ := h
    · exact ⟨_, .inr (.inl ⟨x, y, rfl, h1, h2, rfl⟩), E.x_BadIndex, ⟨_, _, rfl⟩, _, E.is_BadIndex_BadIndex, q⟩
    · exact ⟨_, .inr (.inr ⟨c, y, rfl, h1, h2, h3, rfl⟩), E.x_BadIndex, ⟨_, _, rfl⟩, _, E.is_BadIndex_BadIndex, q⟩
end
end DL

namespace DL
open PySem L2
open SMath48
section
variable {P : Program} {w : World} {K : PySem.W.Frag} {mg : Str → Option Value} {base : Heap} {W : Ad}
theorem ok2 (a b : Int) : okD (.tup [.int a, .int b]) = true := rfl
/-- how many rows tell so far -/
def cnt (c n i : Nat) (L : List (List Nat)) : Nat := (L.filter fun row => decide (stp c row 0 1 0 = some (i, n))).length
def tal (c n : Nat) (L : List (List Nat)) : List Nat := (List.range c).map fun i => cnt c n i L
theorem cnt_app (c n i : Nat) (L : List (List Nat)) (r : List Nat) : cnt c n i (L ++ [r]) = cnt c n i L + (if stp c r 0 1 0 = some (i, n) then 1 else 0) := by
  unfold cnt
  rw [List.filter_append, List.length_append]
  by_cases h : stp c r 0 1 0 = some (i, n)
  · rw [if_pos h, List.filter_cons, if_pos (by simpa using h)]; rfl
  · rw [if_neg h, List.filter_cons, if_neg (by simpa using h)]; rfl
theorem tal_skip {c n : Nat} {L : List (List Nat)} {r : List Nat} (h : ∀ i, stp c r 0 1 0 ≠ some (i, n)) : tal c n (L ++ [r]) = tal c n L := by
  unfold tal
  refine List.map_congr_left fun i _ => ?_
  rw [cnt_app, if_neg (h i)]; rfl
theorem tal_get {c n i : Nat} {L : List (List Nat)} (h : i < c) : (tal c n L)[i]? = some (cnt c n i L) := by
  unfold tal
  rw [List.getElem?_map, List.getElem?_range h]; rfl
theorem tal_step {c n i : Nat} {L : List (List Nat)} {r : List Nat} (h : stp c r 0 1 0 = some (i, n)) (hi : i < c) : (tal c n L).set i (cnt c n i L + 1) = tal c n (L ++ [r]) := by
  refine List.ext_getElem? fun j => ?_
  by_cases e : i = j
  · subst e
    rw [List.getElem?_set_self (by unfold tal; rw [List.length_map, List.length_range]; exact hi), tal_get hi, cnt_app, if_pos h]
  · rw [List.getElem?_set_ne e]
    by_cases hj : j < c
    · rw [tal_get hj, tal_get hj, cnt_app, if_neg (fun z => e ?_)]; rfl
      rw [h] at z; exact (Prod.mk.inj (Option.some.inj z)).1
    · rw [List.getElem?_eq_none_iff.mpr (by unfold tal; rw [List.length_map, List.length_range]; omega), List.getElem?_eq_none_iff.mpr (by unfold tal; rw [List.length_map, List.length_range]; omega)]
theorem natsD_set (l : List Nat) (i n : Nat) : (natsD l).set i (.int (n : Int)) = natsD (l.set i n) := by unfold natsD; rw [List.map_set]
theorem ixN_nat {n i : Nat} (h : i < n) : ixN n (i : Int) = some i := by
  unfold ixN
  rw [if_pos (by omega), if_pos (by omega)]; rfl
theorem cut_last (l : List Nat) : cutD (natsD l) none (some (-1)) = natsD l.dropLast := by
  unfold cutD
  have e : HT.sIx (natsD l).length (natsD l).length (some (-1)) = l.length - 1 := by
    show ((-1 : Int) + ((natsD l).length : Int)).toNat = _
    rw [natsD_len]
    omega
  rw [HT.sIx_none, List.drop_zero, Nat.sub_zero, e, List.dropLast_eq_take]
  unfold natsD
  rw [← List.map_take]
def r__law_even (ds : List D) (d : D) : Prop := ∃ (c n : Nat) (dr : List Nat), ds = [.int c, .int n, .lst (natsD dr)] ∧ 1 ≤ c ∧ c ≤ 40 ∧ n ≤ 6 ∧ 3 ≤ dr.length ∧ d = .bl true
theorem ok__law_even (T : Tx K mg W) (Dd : Df K mg "_law_even" s__law_even ["count", "length", "draws"]) (C__law_all : Cal P w K mg base CX0 1 "_law_all" ["length"] (spW K (relR r__law_all))) (C_index_by_digits : Cal P w K mg base (L2.CX P w) 3 "index_by_digits" ["count", "digits"] (spX K (relX (r_index_by_digits W)))) (C_telling_rows : Cal P w K mg base (L2.CX P w) 3 "telling_rows" ["count", "most"] (spX K (relX (r_telling_rows W)))) (C__law_is_number : Cal P w K mg base CX0 1 "_law_is_number" ["value"] (spW K (relR r__law_is_number))) (C__law_stepped : Cal P w K mg base CX0 1 "_law_stepped" ["count", "digits"] (spW K (relR r__law_stepped))) : Cal P w K mg base CX0 4 "_law_even" ["count", "length", "draws"] (spW K (relR r__law_even)) := by
  refine cal_ok Dd sc__law_even (fun ds Q h => ?_) (fun f cdv A outer s H E hr => 
  (ss_cons (s_own (i := 3) sc__law_even.nd rfl (.inl rfl) (f_op (o_rep) (f_lst (a_cons d_int a_nil)).p.q (qv 0)))
  (ss_cons (s_for PassesOwn.never (i_list (d_call C__law_all relR_mono (hr.mono (by decide)) (a_cons (dv 1) a_nil))) (g_name (i := 4) sc__law_even.nd rfl (.inl rfl)) (
    (ss_cons (s_set (i := 5) sc__law_even.nd rfl (.inl rfl) (d_callL C_index_by_digits relX_mono (hr.mono (by decide)) (a_cons (dv 0) (a_cons (dv 4) a_nil))))
    (ss_cons (s_if (t_isN (qv 5)) (
      (ss_one (s_continue))) (ss_nil))
    (ss_cons (s_if (w_or (t_not (t_val (d_isi k_tuple T.n_isinstance T.n_tuple (qv 5)).q)) (w_or (t_cmp (o_ne (hu64 hr)) (d_callB (c_len) T.n_len (b_cons (qv 5) b_nil)).q d_int.q) (w_or (t_cmp (o_ne (hu64 hr)) (qv 5) (d_call C__law_stepped relR_mono (hr.mono (by decide)) (a_cons (dv 0) (a_cons (dv 4) a_nil))).q) (w_or1 (t_not (t_val (d_call C__law_is_number relR_mono (hr.mono (by decide)) (a_cons (d_ix (qv 5) d_int.q) a_nil)).q)))))).t (
      (ss_one (s_ret d_bl))) (ss_nil))
    (ss_one (s_if (t_cmp (o_eq (hu64 hr)) (d_ix (qv 5) d_int.q).q (qv 1)) (
      (ss_cons (s_if (w_and (t_cmp o_gt (qv 1) d_int.q) (w_and1 (t_notN (d_callL C_index_by_digits relX_mono (hr.mono (by decide)) (a_cons (dv 0) (a_cons (d_slice (qv 4) o_none (o_some (d_neg d_int.q).q)) a_nil))).q))).t (
        (ss_one (s_ret d_bl))) (ss_nil))
      (ss_cons (s_if (t_cmp (o_ne (hu64 hr)) (d_callL C_index_by_digits relX_mono (hr.mono (by decide)) (a_cons (dv 0) (a_cons (d_op (o_add) (qv 4) (f_lst (a_cons (d_op o_mod (d_ix (qv 2) d_int.q).q d_int.q) (a_cons (d_op o_mod (d_ix (qv 2) d_int.q).q d_int.q) a_nil))).p.q) a_nil))).q (qv 5)) (
        (ss_one (s_ret d_bl))) (ss_nil))
      (ss_one (s_put 3 (d_ix (qv 5) d_int.q).q (d_op (o_add) (d_ix (qv 3) (d_ix (qv 5) d_int.q).q).q d_int.q)))))) (ss_nil))))))))
  (ss_cons (s_set (i := 6) sc__law_even.nd rfl (.inl rfl) (d_ix (d_callL C_telling_rows relX_mono (hr.mono (by decide)) (a_cons (dv 0) (a_cons (dv 1) a_nil))).q (qv 1)))
  (ss_one (s_ret (d_and (d_call C__law_is_number relR_mono (hr.mono (by decide)) (a_cons (dv 6) a_nil)) (d_one (d_cmp (o_eq (hu64 hr)) (qv 3) (d_op (o_mul) (f_lst (a_cons (dv 6) a_nil)).p.q (qv 0)).q))))))))) (fun ds Q h => ?_)

  · obtain ⟨d, ⟨c, n, l, rfl, _⟩, _⟩ := h; rfl
  · obtain ⟨d, ⟨c, n, dr, rfl, hc, hc2, hn, hdr, rfl⟩, q⟩ := h
    have h0 : repD [D.int 0] (c : Int).toNat = natsD (tal c n []) := by
      show repD [D.int ((0 : Nat) : Int)] c = _
      rw [repD_map (fun (n : Nat) => D.int (n : Int)) 0 c]
      unfold natsD tal
      congr 1
      refine List.ext_getElem? fun j => ?_
      by_cases hj : j < c
      · rw [List.getElem?_replicate, if_pos hj, List.getElem?_map, List.getElem?_range hj]; rfl
      · rw [List.getElem?_replicate, if_neg hj, List.getElem?_eq_none_iff.mpr (by rw [List.length_map, List.length_range]; omega)]
    refine ⟨⟨by omega, by omega, le_lim (by show 1 * c ≤ _; omega)⟩, ⟨_, ⟨n, rfl, hn, rfl⟩, loop_inv (fun j δ => ∃ (x4 x5 x6 : Sl), δ = [.d (.int c), .d (.int n), .d (.lst (natsD dr)), .own (natsD (tal c n ((allB n).take j))), x4, x5, x6]) ⟨_, _, _, by show [_, _, _, Sl.own (repD [D.int 0] (c : Int).toNat), _, _, _] = _; rw [h0]; rfl⟩ ?_ ?_⟩⟩
    · rintro j x δ ex ⟨x4, x5, x6, rfl⟩ N hN
      obtain ⟨row, er, rfl⟩ : ∃ row, (allB n)[j]? = some row ∧ x = .lst (natsD row) := by
        unfold rowsD at ex
        rw [List.getElem?_map] at ex
        cases e : (allB n)[j]? with
        | none => rw [e] at ex; cases ex
        | some row => rw [e] at ex; exact ⟨row, rfl, (Option.some.inj ex).symm⟩
      have hr := allB_row n row (List.mem_of_getElem? er)
      have tk : (allB n).take (j + 1) = (allB n).take j ++ [row] := by rw [List.take_add_one, er]; rfl
      rcases e : stp c row 0 1 0 with _ | ⟨i, k⟩
      · refine ⟨_, .inl ⟨c, row, rfl, hc, hr.2, rfl⟩, ?_⟩
        rw [e]
        refine hN _ ⟨.d (.lst (natsD row)), .d .non, x6, ?_⟩
        rw [tk, tal_skip fun i z => by rw [e] at z; cases z]; rfl
      · have hik := stp_at c row 0 1 0 _ e
        refine ⟨_, .inl ⟨c, row, rfl, hc, hr.2, rfl⟩, ?_⟩
        rw [e]
        refine ⟨rfl, ⟨_, ⟨c, row, rfl, hc, hr.2, by omega, rfl⟩, ?_⟩⟩
        rw [e]
        refine oEqB_refl (ok2 _ _) ⟨_, ⟨_, rfl, rfl, rfl⟩, yD (fun hk => ?_) (fun hk => ?_)⟩
        · have hk' : k = n := by omega
          subst hk'
          have dd : ∀ m, m < 3 → ∃ x, (natsD dr)[m]? = some (.int (x : Nat)) := fun m hm => ⟨_, natsD_get (List.getElem?_eq_getElem (by omega))⟩
          obtain ⟨d1, e1⟩ := dd 1 (by omega)
          obtain ⟨d2, e2⟩ := dd 2 (by omega)
          have rest : ∀ F : DE, (∀ δ, N δ → F.nx δ) → gSeq (gIf (tOf (dOp oNe (dCall (fun ds Q => relX (r_index_by_digits W) ds Q fun _ => False) [dV 0, dOp oAdd (qV 4) (ofF (fLst (dArgs [dOp oMod (dOp oIx (qV 2) (dC (.int 1))) (dC (.int 2)), dOp oMod (dOp oIx (qV 2) (dC (.int 2))) (dC (.int 2))])))]) (qV 5))) (gRet (dC (.bl false))) gNext)
              (gPut 3 (dOp oIx (qV 5) (dC (.int 0))) (dOp oAdd (dOp oIx (qV 3) (dOp oIx (qV 5) (dC (.int 0)))) (dC (.int 1)))) F
              [.d (.int c), .d (.int k), .d (.lst (natsD dr)), .own (natsD (tal c k ((allB k).take j))), .d (.lst (natsD row)), .d (.tup [.int i, .int k]), x6] := fun F hF => by
            refine onSome_of e1 ⟨md (by decide), onSome_of e2 ⟨md (by decide), le_lim (by rw [natsD_len]; show row.length + 2 ≤ _; omega), ?_⟩⟩
            refine ⟨.ret (toldD (some (i, k))), .inl ⟨c, row ++ [d1 % 2, d2 % 2], ?_, hc, ?_, ?_⟩, ?_⟩
            · show [D.int c, D.lst (natsD row ++ [.int ((d1 : Int) % 2), .int ((d2 : Int) % 2)])] = _
              unfold natsD
              rw [List.map_append]; rfl
            · intro d hd
              rcases List.mem_append.mp hd with hd | hd
              · exact hr.2 d hd
              · have h2 : ∀ x : Nat, x % 2 ≤ 1 := fun x => by omega
                rcases List.mem_cons.mp hd with rfl | hd
                · exact h2 _
                · rw [List.mem_singleton.mp hd]; exact h2 _
            · rw [stp_more c row _ 0 1 0 _ e]
            · show oNe (.tup [.int i, .int k]) (.tup [.int i, .int k]) _
              refine oEqB_refl (ok2 _ _) ?_
              have hi : i < c := hik.2.2
              have et : ixD (natsD (tal c k ((allB k).take j))) (i : Int) = some (.int (cnt c k i ((allB k).take j) : Nat)) := natsD_get (tal_get hi)
              refine onSome_of et (onSome_of (ixN_nat (by rw [natsD_len]; unfold tal; rw [List.length_map, List.length_range]; exact hi)) (hF _ (hN _ ⟨.d (.lst (natsD row)), .d (.tup [.int i, .int k]), x6, ?_⟩)))
              rw [tk, ← tal_step e hi, ← natsD_set]; rfl
          refine yD (fun hp => ?_) (fun hp => ?_)
          · have hne : row ≠ [] := fun z => by rw [z] at hr; have := hr.1; simp at this; omega
            have hlast : row = row.dropLast ++ [row.getLast hne] := (List.dropLast_concat_getLast hne).symm
            refine ⟨.ret (toldD none), .inl ⟨c, row.dropLast, ?_, hc, fun d hd => hr.2 d (List.dropLast_subset _ hd), ?_⟩, ?_⟩
            · show [D.int c, D.lst (cutD (natsD row) none (some (-1)))] = _
              rw [cut_last]
            · have : stp c row.dropLast 0 1 0 = none := by
                rw [hlast] at e
                refine stp_less e ?_
                rw [List.length_dropLast, hr.1]
                show k = k - 1 + 1
                omega
              rw [this]
            · refine rest ⟨N, _, _, _, _⟩ ?_
              exact fun _ h => h
          · refine rest ⟨N, _, _, _, _⟩ ?_
            exact fun _ h => h
        · refine hN _ ⟨.d (.lst (natsD row)), .d (.tup [.int i, .int k]), x6, ?_⟩
          rw [tk, tal_skip fun i z => by rw [e] at z; cases z; exact hk rfl]; rfl
    · rintro δ ⟨x4, x5, x6, rfl⟩
      have hl : (rowsD (allB n)).length = (allB n).length := List.length_map _
      rw [hl, List.take_length]
      have eb : ixD (natsD (bits c (n + 1))) (n : Int) = some (.int (bit c n : Nat)) := natsD_get (by
        unfold bits
        rw [List.getElem?_map, List.getElem?_range (by omega)]; rfl)
      refine ⟨_, .inl ⟨c, n, rfl, hc, ?_, by omega, rfl⟩, onSome_of eb ⟨_, ⟨_, rfl, rfl, rfl⟩, ⟨⟨by omega, by omega, le_lim (by show 1 * c ≤ _; omega)⟩, ?_⟩⟩⟩
      · show c < 2 ^ 8000
        refine Nat.lt_of_le_of_lt hc2 (Nat.lt_of_lt_of_le (by decide : 40 < 2 ^ 6) (Nat.pow_le_pow_right (by decide) (by decide)))
      · have e2 : repD [D.int (bit c n : Nat)] (c : Int).toNat = natsD (tal c n (allB n)) := by
          show repD [D.int ((bit c n : Nat) : Int)] c = _
          rw [repD_map (fun (n : Nat) => D.int (n : Int)) (bit c n) c]
          unfold natsD tal
          congr 1
          refine List.ext_getElem? fun j => ?_
          by_cases hj : j < c
          · rw [List.getElem?_replicate, if_pos hj, List.getElem?_map, List.getElem?_range hj]
            show _ = some (cnt c n j (allB n))
            rw [show cnt c n j (allB n) = bit c n from even_t hc hc2 (by omega) hj]
          · rw [List.getElem?_replicate, if_neg hj, List.getElem?_eq_none_iff.mpr (by rw [List.length_map, List.length_range]; omega)]
        rw [e2]
        exact oEqB_refl (okD_nats _) q
end
end DL

namespace DL
open PySem L2
open SMath48
section
variable {P : Program} {w : World} {K : PySem.W.Frag} {mg : Str → Option Value} {base : Heap} {W : Ad}
def r_law (ds : List D) (d : D) : Prop := ∃ ns : List Int, ds = [.scr (ns.map D.int)] ∧ ns.length ≤ 63 ∧ d = .bl true
theorem sm_of {g j : Nat} (h : g + 1 ≤ 2 * 1009 ^ j) (hj : j ≤ 14) : sm g := by
  have h1 : 1009 ^ j ≤ 1024 ^ 14 := Nat.le_trans (Nat.pow_le_pow_left (by decide) j) (Nat.pow_le_pow_right (by decide) hj)
  have h2 : (1024 : Nat) ^ 14 = 2 ^ 140 := by decide
  have h3 : (2 : Nat) ^ 141 ≤ 2 ^ 8000 := Nat.pow_le_pow_right (by decide) (by decide)
  have h4 : (2 : Nat) ^ 141 = 2 * 2 ^ 140 := by decide
  show g < 2 ^ 8000
  refine Nat.lt_of_lt_of_le ?_ h3
  rw [h4, ← h2]
  omega
def nm (c : Nat) : Nat → Nat
  | 0 => 0
  | k + 1 => num c k
theorem nm_s (c k : Nat) : nm c (k + 1) = 2 * nm c k + bit c k := by
  cases k with
  | zero => show bit c 0 = 2 * 0 + bit c 0; omega
  | succ k => rfl
theorem bit_le (c k : Nat) : bit c k = 0 ∨ bit c k = 1 := by
  cases k with
  | zero => rw [bit_0]; split <;> simp
  | succ k => rw [bit_s]; split <;> simp
theorem oSub_of {i j z : Int} {Q : D → Prop} (h : i - j = z) (q : Q (.int z)) : oSub (.int i) (.int j) Q := by subst h; exact q
theorem nodig : digs [] := fun d h => by cases h
theorem okTold : ∀ o, okD (toldD o) = true
  | none => rfl
  | some (_, _) => rfl
theorem ok_law (T : Tx K mg W) {fa : Addr} {fd : FuncData} (Dd : Fun K "law" "law" s_law fa fd) (C__law_draws : Cal P w K mg base CX0 1 "_law_draws" ["script", "many"] (spW K (allR dom__law_draws r__law_draws))) (C_telling_rows : Cal P w K mg base (L2.CX P w) 3 "telling_rows" ["count", "most"] (spX K (relX (r_telling_rows W)))) (C__law_even : Cal P w K mg base CX0 4 "_law_even" ["count", "length", "draws"] (spW K (relR r__law_even))) (C__law_rows_refused : Cal P w K mg base CX0 4 "_law_rows_refused" ["count", "most"] (spW K (relR r__law_rows_refused))) (C_index_by_digits : Cal P w K mg base (L2.CX P w) 3 "index_by_digits" ["count", "digits"] (spX K (relX (r_index_by_digits W)))) (C__law_stepped : Cal P w K mg base CX0 1 "_law_stepped" ["count", "digits"] (spW K (relR r__law_stepped))) (C__law_told : Cal P w K mg base CX0 4 "_law_told" ["count", "digits"] (spW K (relR r__law_told))) (C__law_is_number : Cal P w K mg base CX0 1 "_law_is_number" ["value"] (spW K (relR r__law_is_number))) : FnOk P w K mg base CX0 5 fa fd ["script"] (spW K (relR r_law)) := by
  refine fn_ok Dd sc_law (fun ds Q h => ?_) (fun f cdv A outer s H E hr => 
  (ss_cons (s_set (i := 1) sc_law.nd rfl (.inr rfl) (d_call C__law_draws allR_mono (hr.mono (by decide)) (a_cons (dv 0) (a_cons d_int a_nil))))
  (ss_cons (s_par (i := 2) (j := 3) sc_law.nd rfl rfl (d_op (o_add) d_int.q (d_op o_mod (d_ix (qv 1) d_int.q).q d_int.q).q) (d_op o_mod (d_ix (qv 1) d_int.q).q d_int.q))
  (ss_cons (s_if (t_not (t_val (d_call C__law_even relR_mono (hr.mono (by decide)) (a_cons (dv 2) (a_cons (dv 3) (a_cons (dv 1) a_nil)))).q)) (
    (ss_one (s_ret d_bl))) (ss_nil))
  (ss_cons (s_set (i := 4) sc_law.nd rfl (.inl rfl) d_int)
  (ss_cons (s_for PassesOwn.never (i_range1 T.n_range (d_op o_mod (d_ix (qv 1) d_int.q).q d_int.q).q) (g_name (i := 5) sc_law.nd rfl (.inl rfl)) (
    (ss_one (s_set (i := 4) sc_law.nd rfl (.inl rfl) (d_op (o_add) (d_op (o_mul) (qv 4) d_int.q).q (d_op o_mod (d_ix (qv 1) (d_op (o_add) d_int.q (qv 5)).q).q d_int.q).q)))))
  (ss_cons (s_set (i := 6) sc_law.nd rfl (.inl rfl) (d_op o_mod (d_ix (qv 1) d_int.q).q d_int.q))
  (ss_cons (s_setLc (i := 7) sc_law.nd rfl (i_range1 T.n_range (qv 6)).q (blkOk_by (own := [("k", 5)]) (N := ["script", "draws", "count", "length", "great", "k", "many", "digits", "copy", "most", "rows", "number", "one", "left", "at", "bad"]) (sc := defScope s_law) (by decide +kernel)) (fun _ _ _ _ _ => (g_name (i := 5) sc_law.nd rfl (.inl rfl))) (fun _ _ _ _ _ => ts_nil) (fun _ _ _ _ _ => (d_op o_mod (d_op o_div (d_op o_div (d_ix (qv 1) (d_op o_mod (d_op (o_add) d_int.q (qv 5)).q d_int.q).q).q (d_op (o_add) d_int.q (d_op (o_mul) (d_op o_div (qv 5) d_int.q).q d_int.q).q).q).q d_int.q).q d_int.q)))
  (ss_cons (s_if (t_cmp (o_eq (hu64 hr)) (d_op o_mod (d_ix (qv 1) d_int.q).q d_int.q).q d_int.q) (
    (ss_one (s_set (i := 7) sc_law.nd rfl (.inl rfl) (d_op (o_mul) (f_lst (a_cons d_int a_nil)).p.q (qv 6))))) (ss_nil))
  (ss_cons (s_set (i := 8) sc_law.nd rfl (.inl rfl) (f_callT c_list T.n_list (b_cons (qv 7) b_nil)).p)
  (ss_cons (s_if (w_or (t_cmp (o_ne (hu64 hr)) (d_callL C_index_by_digits relX_mono (hr.mono (by decide)) (a_cons (dv 4) (a_cons (dv 7) a_nil))).q (d_call C__law_stepped relR_mono (hr.mono (by decide)) (a_cons (dv 4) (a_cons (dv 7) a_nil))).q) (w_or (t_cmp (o_ne (hu64 hr)) (qv 7) (qv 8)) (w_or1 (t_cmp (o_ne (hu64 hr)) (d_callL C_index_by_digits relX_mono (hr.mono (by decide)) (a_cons d_int (a_cons (dv 7) a_nil))).q (d_tup (a_cons d_int (a_cons d_int a_nil))).q)))).t (
    (ss_one (s_ret d_bl))) (ss_nil))
  (ss_cons (s_set (i := 9) sc_law.nd rfl (.inl rfl) (d_op o_mod (d_ix (qv 1) d_int.q).q d_int.q))
  (ss_cons (s_set (i := 10) sc_law.nd rfl (.inl rfl) (d_callL C_telling_rows relX_mono (hr.mono (by decide)) (a_cons (dv 4) (a_cons (dv 9) a_nil))))
  (ss_cons (s_if (w_or (t_not (t_val (d_isi k_list T.n_isinstance T.n_list (qv 10)).q)) (w_or (t_cmp (o_ne (hu64 hr)) (d_callB (c_len) T.n_len (b_cons (qv 10) b_nil)).q (d_op (o_add) (qv 9) d_int.q).q) (w_or1 (t_cmp (o_ne (hu64 hr)) (d_ix (qv 10) d_int.q).q (d_callT c_int T.n_int (b_cons (d_cmp (o_eq (hu64 hr)) (qv 4) d_int.q).q b_nil)).q)))).t (
    (ss_one (s_ret d_bl))) (ss_nil))
  (ss_cons (s_set (i := 11) sc_law.nd rfl (.inl rfl) d_int)
  (ss_cons (s_for PassesOwn.never (i_list (dv 10)) (g_name (i := 12) sc_law.nd rfl (.inl rfl)) (
    (ss_cons (s_if (w_or (t_cmp (o_notIn) (qv 12) (d_tup (a_cons d_int (a_cons d_int a_nil))).q) (w_or1 (t_not (t_val (d_call C__law_is_number relR_mono (hr.mono (by decide)) (a_cons (dv 12) a_nil)).q)))).t (
      (ss_one (s_ret d_bl))) (ss_nil))
    (ss_one (s_set (i := 11) sc_law.nd rfl (.inl rfl) (d_op (o_add) (d_op (o_mul) d_int.q (qv 11)).q (qv 12)))))))
  (ss_cons (s_set (i := 13) sc_law.nd rfl (.inl rfl) (d_op o_sub (d_op o_shl d_int.q (qv 9)).q (d_op (o_mul) (qv 11) (qv 4)).q))
  (ss_cons (s_if (t_not (t_chain o_le o_lt d_int.q (qv 13) (qv 4))) (
    (ss_one (s_ret d_bl))) (ss_nil))
  (ss_cons (s_if (w_or (t_cmp (o_ne (hu64 hr)) (d_call C__law_told relR_mono (hr.mono (by decide)) (a_cons d_int (a_cons (f_lst (a_cons d_int a_nil)).p a_nil))).q (f_lst (a_cons d_bl (a_cons d_bl a_nil))).p.q) (w_or (t_cmp (o_ne (hu64 hr)) (d_call C__law_told relR_mono (hr.mono (by decide)) (a_cons d_int (a_cons (f_lst a_nil).p a_nil))).q (f_lst (a_cons d_bl (a_cons d_bl a_nil))).p.q) (w_or1 (t_cmp (o_ne (hu64 hr)) (d_call C__law_told relR_mono (hr.mono (by decide)) (a_cons d_bl (a_cons (f_lst a_nil).p a_nil))).q (f_lst (a_cons d_bl (a_cons d_bl a_nil))).p.q)))).t (
    (ss_one (s_ret d_bl))) (ss_nil))
  (ss_cons (s_set (i := 14) sc_law.nd rfl (.inl rfl) (d_op o_mod (d_ix (qv 1) d_int.q).q (d_op (o_add) (qv 6) d_int.q).q))
  (ss_cons (s_for PassesOwn.never (i_list (f_lst (a_cons (d_op (o_add) (d_op (o_add) (d_slice (qv 7) o_none (o_some (qv 14))).q (f_lst (a_cons d_int a_nil)).p.q).q (d_slice (qv 7) (o_some (qv 14)) o_none).q) (a_cons (d_op (o_add) (d_op (o_add) (d_slice (qv 7) o_none (o_some (qv 14))).q (f_lst (a_cons d_bl a_nil)).p.q).q (d_slice (qv 7) (o_some (qv 14)) o_none).q) (a_cons (d_callT c_tuple T.n_tuple (b_cons (qv 7) b_nil)) (a_cons d_non (a_cons (d_op (o_add) (qv 7) (f_lst (a_cons (d_neg d_int.q) a_nil)).p.q) a_nil)))))).p) (g_name (i := 15) sc_law.nd rfl (.inl rfl)) (
    (ss_one (s_if (t_cmp (o_ne (hu64 hr)) (d_call C__law_told relR_mono (hr.mono (by decide)) (a_cons (dv 4) (a_cons (dv 15) a_nil))).q (f_lst (a_cons d_bl (a_cons d_bl a_nil))).p.q) (
      (ss_one (s_ret d_bl))) (ss_nil)))))
  (ss_cons (s_if (w_or (t_not (t_val (d_call C__law_rows_refused relR_mono (hr.mono (by decide)) (a_cons d_int (a_cons (dv 9) a_nil))).q)) (w_or (t_not (t_val (d_call C__law_rows_refused relR_mono (hr.mono (by decide)) (a_cons (dv 4) (a_cons d_int a_nil))).q)) (w_or1 (t_not (t_val (d_call C__law_rows_refused relR_mono (hr.mono (by decide)) (a_cons (dv 4) (a_cons (d_neg d_int.q) a_nil))).q))))).t (
    (ss_one (s_ret d_bl))) (ss_nil))
  (ss_one (s_ret (d_and (d_call C__law_rows_refused relR_mono (hr.mono (by decide)) (a_cons (dv 4) (a_cons d_bl a_nil))) (d_and (d_cmp (o_eq (hu64 hr)) (d_callL C_telling_rows relX_mono (hr.mono (by decide)) (a_cons d_int (a_cons d_int a_nil))).q (f_lst (a_cons d_int (a_cons d_int (a_cons d_int a_nil)))).p.q) (d_one (d_cmp (o_eq (hu64 hr)) (d_callL C_telling_rows relX_mono (hr.mono (by decide)) (a_cons d_int (a_cons d_int a_nil))).q (f_lst (a_cons d_int (a_cons d_int (a_cons d_int (a_cons d_int (a_cons d_int (a_cons d_int (a_cons d_int a_nil)))))))).p.q)))))))))))))))))))))))))))) (fun ds Q h => ?_)

  · obtain ⟨d, ⟨ns, rfl, _⟩, _⟩ := h; rfl
  · obtain ⟨d, ⟨ns, rfl, hn, rfl⟩, q⟩ := h
    refine ⟨⟨ns, 60, rfl, hn, by decide⟩, ?_⟩
    rintro d ⟨m, dr, em, rfl, hl, hb⟩
    obtain rfl : m = 60 := by
      have := Option.some.inj em
      injection this with this
      omega
    clear em
    have g : ∀ m, m < 60 → ∃ x : Nat, dr[m]? = some x ∧ (natsD dr)[m]? = some (.int (x : Int)) := fun m hm => ⟨_, List.getElem?_eq_getElem (by omega), natsD_get (List.getElem?_eq_getElem (by omega))⟩
    obtain ⟨x0, _, e0⟩ := g 0 (by decide)
    obtain ⟨x1, _, e1⟩ := g 1 (by decide)
    obtain ⟨x2, _, e2⟩ := g 2 (by decide)
    obtain ⟨x17, _, e17⟩ := g 17 (by decide)
    obtain ⟨x18, _, e18⟩ := g 18 (by decide)
    obtain ⟨x19, _, e19⟩ := g 19 (by decide)
    obtain ⟨x20, _, e20⟩ := g 20 (by decide)
    refine onSome_of e0 ⟨md (by decide), onSome_of e1 ⟨md (by decide), ?_⟩⟩
    refine ⟨_, ⟨1 + x0 % 40, x1 % 7, dr, rfl, by omega, by omega, by omega, by omega, rfl⟩, ?_⟩
    have hx2 : x2 % 15 ≤ 14 := by omega
    refine onSome_of e2 ⟨md (by decide), ?_⟩
    refine ⟨rgb (by decide) (by decide) (by omega) (by omega) (by omega), loop_rg (n := x2 % 15) (fun j δ => ∃ (g : Nat) (x5 : Sl), δ = [.d (.scr (ns.map D.int)), .d (.lst (natsD dr)), .d (.int (1 + (x0 : Int) % 40)), .d (.int ((x1 : Int) % 7)), .d (.int g), x5, .no, .no, .no, .no, .no, .no, .no, .no, .no, .no] ∧ 1 ≤ g ∧ g + 1 ≤ 2 * 1009 ^ j) (by omega) ⟨1, .no, rfl, by omega, by decide⟩ ?_ ?_⟩
    · rintro j δ hj ⟨gr, x5, rfl, h1, h2⟩ N hN
      obtain ⟨x, _, ex⟩ := g (3 + (0 + j)) (by omega)
      refine ⟨mulR ⟨by decide, by decide⟩, onSome_of ex ⟨md (by decide), hN _ ⟨gr * 1009 + x % 1009, .d (.int (0 + (j : Int))), rfl, by omega, ?_⟩⟩⟩
      rw [Nat.pow_succ]
      omega
    · rintro δ ⟨gr, x5, rfl, hg, hg2⟩
      have hsm := sm_of hg2 hx2
      have hm : x20 % 201 ≤ 200 := by omega
      -- the digits
      let dgt : Nat → Nat := fun i => (dr.getD ((21 + (0 + i)) % 60) 0) / (1 + (0 + i) / 60 * 3) / 2 % 2
      refine onSome_of e20 ⟨md (by decide), rgb (by decide) (by decide) (by omega) (by omega) (by omega), lc_rg (fun i => .int (dgt i : Nat)) (fun i hi P p => ?_) ?_⟩
      · have h1 : (21 + (0 + i)) % 60 < dr.length := by omega
        have e : (natsD dr)[(21 + (0 + i)) % 60]? = some (.int (dr.getD ((21 + (0 + i)) % 60) 0 : Nat)) := natsD_get (by rw [List.getD_eq_getElem?_getD, List.getElem?_eq_getElem h1]; rfl)
        refine ⟨md (by decide), onSome_of e ⟨divS (by decide) (by decide), mulR ⟨by decide, by decide⟩, divS ?_ ?_, divS (by decide) (by decide), md (by decide), p⟩⟩
        · have : i ≤ 200 := by omega
          omega
        · have : i ≤ 200 := by omega
          omega
      · have hrg : ((x20 : Int) % 201 - 0).toNat = x20 % 201 := by omega
        rw [hrg]
        obtain ⟨L1, eL, hL1⟩ : ∃ L1 : List Nat, ((List.range (x20 % 201)).map fun i => D.int (dgt i : Nat)) = natsD L1 ∧ (digs L1 ∧ L1.length = x20 % 201) := by
          refine ⟨(List.range (x20 % 201)).map dgt, by unfold natsD; rw [List.map_map]; rfl, fun d hd => ?_, by rw [List.length_map, List.length_range]⟩
          obtain ⟨i, _, rfl⟩ := List.mem_map.mp hd
          show _ % 2 ≤ 1
          omega
        rw [eL]
        have hmi : (x20 : Int) % 201 = ((x20 % 201 : Nat) : Int) := by omega
        dsimp (config := { proj := false }) only
        rw [hmi]
        clear hmi hrg
        generalize hmm : x20 % 201 = mm at *
        refine onSome_of e18 ⟨md (by decide), ?_⟩
        apply joinB (fun L => digs L ∧ L.length = mm) L1 hL1
        · intro _ hN
          refine ⟨⟨by omega, by omega, by rw [show [D.int 1].length * ((mm : Nat) : Int).toNat = 1 * mm from rfl]; exact le_lim (by omega)⟩, ?_⟩
          rw [show ((mm : Nat) : Int).toNat = mm from rfl, show repD [D.int 1] mm = natsD (List.replicate mm 1) from repD_map (fun (n : Nat) => D.int n) 1 mm]
          exact hN _ ⟨fun d hd => by rw [List.eq_of_mem_replicate hd]; exact Nat.le_refl 1, List.length_replicate⟩
        · rintro L ⟨hd, hl⟩
          refine ⟨.ret (toldD (stp gr L 0 1 0)), .inl ⟨gr, L, rfl, hg, hd, rfl⟩, ⟨_, ⟨gr, L, rfl, hg, hd, by omega, rfl⟩, ?_⟩⟩
          refine oEqB_refl (okTold _) ?_
          show oNe (.lst (natsD L)) (.lst (natsD L)) _
          refine oEqB_refl (okD_nats L) ?_
          refine ⟨.ret (toldD (stp 1 L 0 1 0)), .inl ⟨1, L, rfl, by decide, hd, rfl⟩, ?_⟩
          rw [stp_one rfl]
          show oNe (.tup [.int 0, .int 0]) (.tup [.int 0, .int 0]) _
          refine oEqB_refl (ok2 0 0) ?_
          obtain ⟨ms, hms, hmi⟩ : ∃ ms : Nat, (x19 : Int) % 1001 = (ms : Int) ∧ ms ≤ 1000 := ⟨x19 % 1001, by omega, by omega⟩
          refine onSome_of e19 ⟨md (by decide), ?_⟩
          dsimp (config := { proj := false }) only
          rw [hms]
          refine ⟨.ret (.lst (natsD (bits gr (ms + 1)))), .inl ⟨gr, ms, rfl, hg, hsm, by omega, rfl⟩, ?_⟩
          have hb0 : (natsD (bits gr (ms + 1)))[0]? = some (.int (bit gr 0 : Nat)) := natsD_get (by unfold bits; rw [List.getElem?_map, List.getElem?_range (by omega)]; rfl)
          have hbl := bits_len gr (ms + 1)
          refine ⟨rfl, ?_⟩
          show ite ((!decide ((((natsD (bits gr (ms + 1))).length : Nat) : Int) = (ms : Int) + 1)) = true) _ _
          refine yN (fun h => absurd (by rw [hbl]; omega) h) (fun _ => onSome_of hb0 ?_)
          show ite ((!decide (((bit gr 0 : Nat) : Int) = if decide ((gr : Int) = 1) = true then 1 else 0)) = true) _ _
          refine yN (fun h => absurd ?_ h) (fun _ => ?_)
          · rw [bit_0]
            by_cases h1 : gr ≤ 1
            · rw [if_pos h1, if_pos (decide_eq_true (by omega))]; rfl
            · rw [if_neg h1, if_neg (by rw [decide_eq_true_iff]; omega)]; rfl
          refine loop_inv (fun i δ => ∃ (x12 : Sl), δ = [.d (.scr (ns.map D.int)), .d (.lst (natsD dr)), .d (.int (1 + (x0 : Int) % 40)), .d (.int ((x1 : Int) % 7)), .d (.int gr), x5, .d (.int mm), .d (.lst (natsD L)), .d (.lst (natsD L)), .d (.int ms), .d (.lst (natsD (bits gr (ms + 1)))), .d (.int (nm gr i : Nat)), x12, .no, .no, .no]) ⟨_, rfl⟩ ?_ ?_
          · rintro i x δ ex ⟨x12, rfl⟩ N hN
            obtain ⟨b, eb, rfl⟩ := natsD_of ex
            have hb : b = bit gr i := by
              unfold bits at eb
              rw [List.getElem?_map] at eb
              cases er : (List.range (ms + 1))[i]? with
              | none => rw [er] at eb; cases eb
              | some j =>
                rw [er] at eb
                have := List.getElem?_eq_some_iff.mp er
                obtain ⟨h1, h2⟩ := this
                rw [List.getElem_range] at h2
                rw [h2]
                exact (Option.some.inj eb).symm
            have hn := nm_s gr i
            rw [← hb] at hn
            rcases bit_le gr i with h0 | h0
            · rw [h0] at hb
              subst hb
              exact ⟨⟨rfl, rfl⟩, ⟨_, ⟨_, rfl, rfl, rfl⟩, mulL ⟨by decide, by decide⟩, hN _ ⟨.d (.int 0), by rw [hn]; rfl⟩⟩⟩
            · rw [h0] at hb
              subst hb
              exact ⟨⟨rfl, rfl⟩, ⟨_, ⟨_, rfl, rfl, rfl⟩, mulL ⟨by decide, by decide⟩, hN _ ⟨.d (.int 1), by rw [hn]; rfl⟩⟩⟩
          rintro δ ⟨x12, rfl⟩
          rw [bits_len]
          have hnr := num_rem hg ms
          have hlt := rem_lt hg ms
          have hleft : (1 : Int) * 2 ^ ((ms : Nat) : Int).toNat - ((nm gr (ms + 1) : Nat) : Int) * (gr : Int) = ((rem gr ms : Nat) : Int) := by
            have h1 : ((num gr ms * gr + rem gr ms : Nat) : Int) = ((2 ^ ms : Nat) : Int) := congrArg _ hnr
            rw [Int.natCast_add, Int.natCast_mul, Int.natCast_pow] at h1
            rw [Int.toNat_natCast, Int.one_mul]
            show _ - ((num gr ms : Nat) : Int) * (gr : Int) = _
            have h2 : ((2 : Nat) : Int) = 2 := rfl
            rw [h2] at h1
            omega
          have hw : mulOk ((nm gr (ms + 1) : Nat) : Int) (gr : Int) := by
            refine .inr (wide_mul (a := 1001) (b := 8000) ?_ ?_ (by decide) (by decide) (by decide))
            · rw [Int.natAbs_natCast]
              have h1 : num gr ms ≤ num gr ms * gr := Nat.le_mul_of_pos_right _ hg
              have h2 : (2 : Nat) ^ ms ≤ 2 ^ 1000 := Nat.pow_le_pow_right (by decide) hmi
              have h3 : (2 : Nat) ^ 1000 < 2 ^ 1001 := Nat.pow_lt_pow_right (by decide) (by decide)
              show num gr ms < _
              exact Nat.lt_of_le_of_lt (Nat.le_trans h1 (Nat.le_trans (by rw [← hnr]; exact Nat.le_add_right _ _) h2)) h3
            · rw [Int.natAbs_natCast]
              exact hsm
          refine ⟨⟨by omega, by omega, by decide⟩, hw, ?_⟩
          refine oSub_of hleft ?_
          show ite ((!decide (((rem gr ms : Nat) : Int) < (gr : Int))) = true) _ _
          refine yN (fun h => absurd (by omega) h) (fun _ => ?_)
          refine ⟨_, .inl ⟨.int 0, .lst (natsD [2]), rfl, plainD_nats _, rfl, rfl⟩, ?_⟩
          show oNe (.lst [.bl false, .bl true]) (.lst [.bl false, .bl true]) _
          refine oEqB_refl rfl ?_
          refine ⟨_, .inr ⟨.int 0, [], rfl, nodig, rfl, rfl, rfl⟩, ?_⟩
          show oNe (.lst [.bl true, .bl false]) (.lst [.bl true, .bl false]) _
          refine oEqB_refl rfl ?_
          refine ⟨_, .inr ⟨.bl true, [], rfl, nodig, rfl, rfl, rfl⟩, ?_⟩
          show oNe (.lst [.bl true, .bl false]) (.lst [.bl true, .bl false]) _
          refine oEqB_refl rfl ?_
          refine onSome_of e17 ⟨by show (0 : Int) < (mm : Int) + 1; omega, ?_⟩
          have cl1 : (cutD (natsD L) none (some ((x17 : Int) % ((mm : Int) + 1)))).length ≤ mm := by
            have := cutD_len (natsD L) none (some ((x17 : Int) % ((mm : Int) + 1)))
            rw [natsD_len] at this
            omega
          have cl2 : (cutD (natsD L) (some ((x17 : Int) % ((mm : Int) + 1))) none).length ≤ mm := by
            have := cutD_len (natsD L) (some ((x17 : Int) % ((mm : Int) + 1))) none
            rw [natsD_len] at this
            omega
          have pl : ∀ x : D, notRef x = true → plainD (.lst ((cutD (natsD L) none (some ((x17 : Int) % ((mm : Int) + 1))) ++ [x]) ++ cutD (natsD L) (some ((x17 : Int) % ((mm : Int) + 1))) none)) := fun x hx => ⟨rfl, fun l e d hd => by
            cases e
            rcases List.mem_append.mp hd with hd | hd
            · rcases List.mem_append.mp hd with hd | hd
              · exact natsD_ref d (cutD_mem hd)
              · rw [List.mem_singleton.mp hd]; exact hx
            · exact natsD_ref d (cutD_mem hd), fun l e => by cases e⟩
          have nd : ∀ (A B : List D) (x : D), isDig x = false → okDigs (.lst ((A ++ [x]) ++ B)) = false := fun A B x hx => by
            show (A ++ [x] ++ B).all isDig = false
            rw [List.all_append, List.all_append, List.all_cons, hx]
            simp
          have l1 : (cutD (natsD L) none (some ((x17 : Int) % ((mm : Int) + 1)))).length + 1 ≤ LIM := le_lim (by omega)
          have l2 : ∀ x : D, (cutD (natsD L) none (some ((x17 : Int) % ((mm : Int) + 1))) ++ [x]).length + (cutD (natsD L) (some ((x17 : Int) % ((mm : Int) + 1))) none).length ≤ LIM := fun x => le_lim (by rw [List.length_append, List.length_singleton]; omega)
          have l3 : (natsD L).length + 1 ≤ LIM := le_lim (by rw [natsD_len]; omega)
          have plm : plainD (.lst (natsD L ++ [.int (-1)])) := ⟨rfl, fun l e d hd => by
            cases e
            rcases List.mem_append.mp hd with hd | hd
            · exact natsD_ref d hd
            · rw [List.mem_singleton.mp hd]; rfl, fun l e => by cases e⟩
          have ndm : okDigs (.lst (natsD L ++ [.int (-1)])) = false := by
            have := nd (natsD L) [] (.int (-1)) rfl
            rw [List.append_nil] at this
            exact this
          have pt : plainD (.tup (natsD L)) := ⟨rfl, nofun, nofun⟩
          have pn : plainD .non := ⟨rfl, nofun, nofun⟩
          refine ⟨l1, l2 _, l1, l2 _, l3, ?_⟩
          refine ⟨_, .inl ⟨_, _, rfl, pl (.int 2) rfl, nd _ _ _ rfl, rfl⟩, ?_⟩
          show oNe (.lst [.bl false, .bl true]) (.lst [.bl false, .bl true]) _
          refine oEqB_refl rfl ?_
          refine ⟨_, .inl ⟨_, _, rfl, pl (.bl true) rfl, nd _ _ _ rfl, rfl⟩, ?_⟩
          show oNe (.lst [.bl false, .bl true]) (.lst [.bl false, .bl true]) _
          refine oEqB_refl rfl ?_
          refine ⟨_, .inl ⟨_, _, rfl, pt, rfl, rfl⟩, ?_⟩
          show oNe (.lst [.bl false, .bl true]) (.lst [.bl false, .bl true]) _
          refine oEqB_refl rfl ?_
          refine ⟨_, .inl ⟨_, _, rfl, pn, rfl, rfl⟩, ?_⟩
          show oNe (.lst [.bl false, .bl true]) (.lst [.bl false, .bl true]) _
          refine oEqB_refl rfl ?_
          refine ⟨_, .inl ⟨_, _, rfl, plm, ndm, rfl⟩, ?_⟩
          show oNe (.lst [.bl false, .bl true]) (.lst [.bl false, .bl true]) _
          refine oEqB_refl rfl ?_
          have om : okMost (.int (ms : Int)) = true := by
            show (decide ((0 : Int) ≤ (ms : Int)) && decide ((ms : Int) ≤ 1000)) = true
            rw [decide_eq_true (by omega), decide_eq_true (by omega)]; rfl
          refine ⟨_, .inl ⟨.int 0, .int ms, rfl, rfl, rfl, rfl⟩, ?_⟩
          refine ⟨_, .inr ⟨gr, .int 1001, rfl, hg, rfl, rfl, rfl⟩, ?_⟩
          refine ⟨_, .inr ⟨gr, .int (-1), rfl, hg, rfl, rfl, rfl⟩, ?_⟩
          refine ⟨_, .inr ⟨gr, .bl true, rfl, hg, rfl, rfl, rfl⟩, ?_⟩
          refine ⟨_, .inl ⟨1, 2, rfl, by decide, sm_of (j := 0) (by decide) (by decide), by decide, rfl⟩, ?_⟩
          rw [show natsD (bits 1 (2 + 1)) = [.int 1, .int 0, .int 0] from rfl]
          show oEq (.lst [.int 1, .int 0, .int 0]) (.lst [.int 1, .int 0, .int 0]) _
          refine oEqB_refl rfl ?_
          refine ⟨_, .inl ⟨3, 6, rfl, by decide, sm_of (j := 1) (by decide) (by decide), by decide, rfl⟩, ?_⟩
          rw [show natsD (bits 3 (6 + 1)) = [.int 0, .int 0, .int 1, .int 0, .int 1, .int 0, .int 1] from rfl]
          show oEq (.lst [.int 0, .int 0, .int 1, .int 0, .int 1, .int 0, .int 1]) (.lst [.int 0, .int 0, .int 1, .int 0, .int 1, .int 0, .int 1]) _
          refine oEqB_refl rfl ?_
          exact q
end
end DL

set_option maxHeartbeats 8000000
namespace DL
open PySem L2
theorem kit_ref {K : PySem.W.Frag} {C D : Addr} (e0 : PySem.W.subIn K (.ref C) (.ref C) = some true) (i : PySem.W.isClsIn K D = true) (t : PySem.W.typeIn K (.ref D) = some (.type "type")) (e : PySem.W.subIn K (.ref C) (.ref D) = some false) : PySem.W.kitOne K (.ref C) (.ref D) = some false := by
  unfold PySem.W.kitOne
  rw [if_neg (by
    intro z
    have z' := beq_iff_eq.mp z
    rw [← z', e0] at e
    cases e)]
  show (if ((PySem.W.clsIn K D).isSome && PySem.W.typeIn K (.ref D) == some (.type "type")) = true then _ else none) = _
  rw [if_pos (by rw [show (PySem.W.clsIn K D).isSome = true from i, t]; rfl)]
  exact e
theorem law_start {K : PySem.W.Frag} {H : Hp} {a : Addr} {ns : List Int} {E : XK} (hl : ns.length ≤ 63) (hS : SqL K H a (ns.map V.int)) : spW K (relR r_law) [.ref a] H (fun v _ => v = .bl true) E := by
  have e : hid [] H = H := by funext x; exact hid_of (by simp)
  have ai : ∀ l : List Int, AtAll K H (l.map V.int) (l.map D.int) := fun l => by
    induction l with
    | nil => exact .nil
    | cons i l ih => exact .cons (.int i) ih
  refine ⟨[], [.scr (ns.map D.int)], nofun, ?_, .bl true, ⟨ns, rfl, hl, rfl⟩, fun v H' _ h => ?_⟩
  · rw [e]
    exact .cons (.scr hS (by rw [List.length_map]; exact Nat.le_trans hl (by decide)) (ai ns)) .nil
  · cases h
    rfl
theorem all_mk {l : PySem.W.OpenLaw} {w : World} {K : PySem.W.Frag} {h : Heap} {mg : Str → Option Value} {fa : Addr} (X : K.In h) (G : h.Ns mainGlobals mg) (hfa : mg "law" = some (.ref fa))
    {f0 : Addr} {oc0 kV0 dc0 pm0 cd0 ct0 : Value} {od0 an0 : Option Addr} {sl0 : Array (Option Value)}
    {f1 : Addr} {oc1 kV1 dc1 pm1 cd1 ct1 : Value} {od1 an1 : Option Addr} {sl1 : Array (Option Value)}
    {f2 : Addr} {oc2 kV2 dc2 pm2 cd2 ct2 : Value} {od2 an2 : Option Addr} {sl2 : Array (Option Value)}
    {f3 : Addr} {oc3 kV3 dc3 pm3 cd3 ct3 : Value} {od3 an3 : Option Addr} {sl3 : Array (Option Value)}
    {f4 : Addr} {oc4 kV4 dc4 pm4 cd4 ct4 : Value} {od4 an4 : Option Addr} {sl4 : Array (Option Value)}
    {f5 : Addr} {oc5 kV5 dc5 pm5 cd5 ct5 : Value} {od5 an5 : Option Addr} {sl5 : Array (Option Value)}
    {f6 : Addr} {oc6 kV6 dc6 pm6 cd6 ct6 : Value} {od6 an6 : Option Addr} {sl6 : Array (Option Value)}
    {f7 : Addr} {oc7 kV7 dc7 pm7 cd7 ct7 : Value} {od7 an7 : Option Addr} {sl7 : Array (Option Value)}
    {f8 : Addr} {oc8 kV8 dc8 pm8 cd8 ct8 : Value} {od8 an8 : Option Addr} {sl8 : Array (Option Value)}
    {f9 : Addr} {oc9 kV9 dc9 pm9 cd9 ct9 : Value} {od9 an9 : Option Addr} {sl9 : Array (Option Value)}
    {f10 : Addr} {oc10 kV10 dc10 pm10 cd10 ct10 : Value} {od10 an10 : Option Addr} {sl10 : Array (Option Value)}
    {f11 : Addr} {oc11 kV11 dc11 pm11 cd11 ct11 : Value} {od11 an11 : Option Addr} {sl11 : Array (Option Value)}
    {f12 : Addr} {oc12 kV12 dc12 pm12 cd12 ct12 : Value} {od12 an12 : Option Addr} {sl12 : Array (Option Value)}
    {f13 : Addr} {oc13 kV13 dc13 pm13 cd13 ct13 : Value} {od13 an13 : Option Addr} {sl13 : Array (Option Value)}
    {cSpeciesError cBadIndex cBadDigits : Addr}
    {tMOST_DIGITS : Tok}
    (a0 : PySem.W.nsIn K mainGlobals "is_whole" = some (some (.ref f0)))
    (l0 : K.lookup f0 = some ⟨oc0, od0, .func (PySem.W.fnOf "is_whole" "is_whole" (defArgs s_is_whole) (defBody s_is_whole) (defScope s_is_whole) .none kV0 dc0 pm0 an0 cd0 ct0), sl0⟩)
    (c0 : PySem.W.codeIn K cd0 "is_whole" = true)
    (k0 : PySem.W.keepIn K (.ref f0) = true)
    (a1 : PySem.W.nsIn K mainGlobals "index_by_digits" = some (some (.ref f1)))
    (l1 : K.lookup f1 = some ⟨oc1, od1, .func (PySem.W.fnOf "index_by_digits" "index_by_digits" (defArgs s_index_by_digits) (defBody s_index_by_digits) (defScope s_index_by_digits) .none kV1 dc1 pm1 an1 cd1 ct1), sl1⟩)
    (c1 : PySem.W.codeIn K cd1 "index_by_digits" = true)
    (k1 : PySem.W.keepIn K (.ref f1) = true)
    (a2 : PySem.W.nsIn K mainGlobals "telling_rows" = some (some (.ref f2)))
    (l2 : K.lookup f2 = some ⟨oc2, od2, .func (PySem.W.fnOf "telling_rows" "telling_rows" (defArgs s_telling_rows) (defBody s_telling_rows) (defScope s_telling_rows) .none kV2 dc2 pm2 an2 cd2 ct2), sl2⟩)
    (c2 : PySem.W.codeIn K cd2 "telling_rows" = true)
    (k2 : PySem.W.keepIn K (.ref f2) = true)
    (a3 : PySem.W.nsIn K mainGlobals "_told_index" = some (some (.ref f3)))
    (l3 : K.lookup f3 = some ⟨oc3, od3, .func (PySem.W.fnOf "_told_index" "_told_index" (defArgs s__told_index) (defBody s__told_index) (defScope s__told_index) .none kV3 dc3 pm3 an3 cd3 ct3), sl3⟩)
    (c3 : PySem.W.codeIn K cd3 "_told_index" = true)
    (k3 : PySem.W.keepIn K (.ref f3) = true)
    (a4 : PySem.W.nsIn K mainGlobals "_check_digits" = some (some (.ref f4)))
    (l4 : K.lookup f4 = some ⟨oc4, od4, .func (PySem.W.fnOf "_check_digits" "_check_digits" (defArgs s__check_digits) (defBody s__check_digits) (defScope s__check_digits) .none kV4 dc4 pm4 an4 cd4 ct4), sl4⟩)
    (c4 : PySem.W.codeIn K cd4 "_check_digits" = true)
    (k4 : PySem.W.keepIn K (.ref f4) = true)
    (a5 : PySem.W.nsIn K mainGlobals "_check_count" = some (some (.ref f5)))
    (l5 : K.lookup f5 = some ⟨oc5, od5, .func (PySem.W.fnOf "_check_count" "_check_count" (defArgs s__check_count) (defBody s__check_count) (defScope s__check_count) .none kV5 dc5 pm5 an5 cd5 ct5), sl5⟩)
    (c5 : PySem.W.codeIn K cd5 "_check_count" = true)
    (k5 : PySem.W.keepIn K (.ref f5) = true)
    (a6 : PySem.W.nsIn K mainGlobals "_law_draws" = some (some (.ref f6)))
    (l6 : K.lookup f6 = some ⟨oc6, od6, .func (PySem.W.fnOf "_law_draws" "_law_draws" (defArgs s__law_draws) (defBody s__law_draws) (defScope s__law_draws) .none kV6 dc6 pm6 an6 cd6 ct6), sl6⟩)
    (c6 : PySem.W.codeIn K cd6 "_law_draws" = true)
    (k6 : PySem.W.keepIn K (.ref f6) = true)
    (a7 : PySem.W.nsIn K mainGlobals "_law_is_number" = some (some (.ref f7)))
    (l7 : K.lookup f7 = some ⟨oc7, od7, .func (PySem.W.fnOf "_law_is_number" "_law_is_number" (defArgs s__law_is_number) (defBody s__law_is_number) (defScope s__law_is_number) .none kV7 dc7 pm7 an7 cd7 ct7), sl7⟩)
    (c7 : PySem.W.codeIn K cd7 "_law_is_number" = true)
    (k7 : PySem.W.keepIn K (.ref f7) = true)
    (a8 : PySem.W.nsIn K mainGlobals "_law_all" = some (some (.ref f8)))
    (l8 : K.lookup f8 = some ⟨oc8, od8, .func (PySem.W.fnOf "_law_all" "_law_all" (defArgs s__law_all) (defBody s__law_all) (defScope s__law_all) .none kV8 dc8 pm8 an8 cd8 ct8), sl8⟩)
    (c8 : PySem.W.codeIn K cd8 "_law_all" = true)
    (k8 : PySem.W.keepIn K (.ref f8) = true)
    (a9 : PySem.W.nsIn K mainGlobals "_law_stepped" = some (some (.ref f9)))
    (l9 : K.lookup f9 = some ⟨oc9, od9, .func (PySem.W.fnOf "_law_stepped" "_law_stepped" (defArgs s__law_stepped) (defBody s__law_stepped) (defScope s__law_stepped) .none kV9 dc9 pm9 an9 cd9 ct9), sl9⟩)
    (c9 : PySem.W.codeIn K cd9 "_law_stepped" = true)
    (k9 : PySem.W.keepIn K (.ref f9) = true)
    (a10 : PySem.W.nsIn K mainGlobals "_law_told" = some (some (.ref f10)))
    (l10 : K.lookup f10 = some ⟨oc10, od10, .func (PySem.W.fnOf "_law_told" "_law_told" (defArgs s__law_told) (defBody s__law_told) (defScope s__law_told) .none kV10 dc10 pm10 an10 cd10 ct10), sl10⟩)
    (c10 : PySem.W.codeIn K cd10 "_law_told" = true)
    (k10 : PySem.W.keepIn K (.ref f10) = true)
    (a11 : PySem.W.nsIn K mainGlobals "_law_rows_refused" = some (some (.ref f11)))
    (l11 : K.lookup f11 = some ⟨oc11, od11, .func (PySem.W.fnOf "_law_rows_refused" "_law_rows_refused" (defArgs s__law_rows_refused) (defBody s__law_rows_refused) (defScope s__law_rows_refused) .none kV11 dc11 pm11 an11 cd11 ct11), sl11⟩)
    (c11 : PySem.W.codeIn K cd11 "_law_rows_refused" = true)
    (k11 : PySem.W.keepIn K (.ref f11) = true)
    (a12 : PySem.W.nsIn K mainGlobals "_law_even" = some (some (.ref f12)))
    (l12 : K.lookup f12 = some ⟨oc12, od12, .func (PySem.W.fnOf "_law_even" "_law_even" (defArgs s__law_even) (defBody s__law_even) (defScope s__law_even) .none kV12 dc12 pm12 an12 cd12 ct12), sl12⟩)
    (c12 : PySem.W.codeIn K cd12 "_law_even" = true)
    (k12 : PySem.W.keepIn K (.ref f12) = true)
    (a13 : PySem.W.nsIn K mainGlobals "law" = some (some (.ref f13)))
    (l13 : K.lookup f13 = some ⟨oc13, od13, .func (PySem.W.fnOf "law" "law" (defArgs s_law) (defBody s_law) (defScope s_law) .none kV13 dc13 pm13 an13 cd13 ct13), sl13⟩)
    (c13 : PySem.W.codeIn K cd13 "law" = true)
    (k13 : PySem.W.keepIn K (.ref f13) = true)
    (g_SpeciesError : PySem.W.nsIn K mainGlobals "SpeciesError" = some (some (.ref cSpeciesError)))
    (g_BadIndex : PySem.W.nsIn K mainGlobals "BadIndex" = some (some (.ref cBadIndex)))
    (g_BadDigits : PySem.W.nsIn K mainGlobals "BadDigits" = some (some (.ref cBadDigits)))
    (n_isinstance : PySem.W.nsIn K mainGlobals "isinstance" = some none)
    (n_int : PySem.W.nsIn K mainGlobals "int" = some none)
    (n_bool : PySem.W.nsIn K mainGlobals "bool" = some none)
    (n_range : PySem.W.nsIn K mainGlobals "range" = some none)
    (n_len : PySem.W.nsIn K mainGlobals "len" = some none)
    (n_any : PySem.W.nsIn K mainGlobals "any" = some none)
    (n_list : PySem.W.nsIn K mainGlobals "list" = some none)
    (n_abs : PySem.W.nsIn K mainGlobals "abs" = some none)
    (n_tuple : PySem.W.nsIn K mainGlobals "tuple" = some none)
    (g_MOST_DIGITS : PySem.W.nsIn K mainGlobals "MOST_DIGITS" = some (some (.int 1000 tMOST_DIGITS)))
    (BadIndex_x : PySem.W.excIn K cBadIndex [.type "ValueError", .type "Exception", .type "BaseException", .type "object"] "ValueError.__new__" = true)
    (BadIndex_k : PySem.W.keepIn K (.ref cBadIndex) = true)
    (BadIndex_b : PySem.W.subIn K (.ref cBadIndex) (.type "BaseException") = some true)
    (BadIndex_t : PySem.W.typeIn K (.ref cBadIndex) = some (.type "type"))
    (BadDigits_x : PySem.W.excIn K cBadDigits [.type "ValueError", .type "Exception", .type "BaseException", .type "object"] "ValueError.__new__" = true)
    (BadDigits_k : PySem.W.keepIn K (.ref cBadDigits) = true)
    (BadDigits_b : PySem.W.subIn K (.ref cBadDigits) (.type "BaseException") = some true)
    (BadDigits_t : PySem.W.typeIn K (.ref cBadDigits) = some (.type "type"))
    (BadIndex_ga : PySem.W.findIn K (.ref cBadIndex) "__getattribute__" = some (some (.builtin "BaseException.__getattribute__")))
    (BadIndex_gt : PySem.W.findIn K (.ref cBadIndex) "__getattr__" = some none)
    (BadIndex_hd : PySem.W.hasDictIn K cBadIndex = true)
    (BadIndex_ca : PySem.W.findIn K (.ref cBadIndex) "__class__" = some (some (.builtin "object.__class__")))
    (BadIndex_cm : PySem.W.mroIn K cBadIndex (.type "object") = some true)
    (BadIndex_s : PySem.W.subIn K (.ref cBadIndex) (.ref cSpeciesError) = some true)
    (BadIndex_e : PySem.W.subIn K (.ref cBadIndex) (.ref cBadIndex) = some true)
    (BadIndex_i : PySem.W.isClsIn K cBadIndex = true)
    (BadDigits_ga : PySem.W.findIn K (.ref cBadDigits) "__getattribute__" = some (some (.builtin "BaseException.__getattribute__")))
    (BadDigits_gt : PySem.W.findIn K (.ref cBadDigits) "__getattr__" = some none)
    (BadDigits_hd : PySem.W.hasDictIn K cBadDigits = true)
    (BadDigits_ca : PySem.W.findIn K (.ref cBadDigits) "__class__" = some (some (.builtin "object.__class__")))
    (BadDigits_cm : PySem.W.mroIn K cBadDigits (.type "object") = some true)
    (BadDigits_s : PySem.W.subIn K (.ref cBadDigits) (.ref cSpeciesError) = some true)
    (BadDigits_e : PySem.W.subIn K (.ref cBadDigits) (.ref cBadDigits) = some true)
    (BadDigits_i : PySem.W.isClsIn K cBadDigits = true)
    (B_cn : PySem.W.specialIn K (.builtin "object.__class__") "__get__" = some (some (.builtin "getset_descriptor.__get__")))
    (B_ct : PySem.W.takesIn K (.builtin "object.__class__") = some true)
    (S_b : PySem.W.subIn K (.ref cSpeciesError) (.type "BaseException") = some true)
    (S_hd : PySem.W.hasDictIn K cSpeciesError = true)
    (S_t : PySem.W.typeIn K (.ref cSpeciesError) = some (.type "type"))
    (J_BadIndex_BadDigits : PySem.W.subIn K (.ref cBadIndex) (.ref cBadDigits) = some false)
    (J_BadDigits_BadIndex : PySem.W.subIn K (.ref cBadDigits) (.ref cBadIndex) = some false) :
    ∃ fd : FuncData, (∀ (s : Shared) (v : Value), BindsTo s fd ⟨[v], []⟩ [("script", v)]) ∧ ∀ base : Heap, K.In base → base.Ns mainGlobals mg → FnOk l.prog w K mg base CX0 5 fa fd ["script"] (spW K (relR r_law)) := by
  have e := hfa.symm.trans (PySem.W.mg_of X G a13)
  cases e
  have F0 := fun_mk (st := s_is_whole) l0 c0 k0
  have D0 : Df K mg "is_whole" s_is_whole ["value"] := ⟨f0, _, PySem.W.mg_of X G a0, F0, F0.binds (ps := ["value"]) fun _ _ _ _ _ _ us hl => match us, hl with | [_], _ => rfl⟩
  have F1 := fun_mk (st := s_index_by_digits) l1 c1 k1
  have D1 : Df K mg "index_by_digits" s_index_by_digits ["count", "digits"] := ⟨f1, _, PySem.W.mg_of X G a1, F1, F1.binds (ps := ["count", "digits"]) fun _ _ _ _ _ _ us hl => match us, hl with | [_, _], _ => rfl⟩
  have F2 := fun_mk (st := s_telling_rows) l2 c2 k2
  have D2 : Df K mg "telling_rows" s_telling_rows ["count", "most"] := ⟨f2, _, PySem.W.mg_of X G a2, F2, F2.binds (ps := ["count", "most"]) fun _ _ _ _ _ _ us hl => match us, hl with | [_, _], _ => rfl⟩
  have F3 := fun_mk (st := s__told_index) l3 c3 k3
  have D3 : Df K mg "_told_index" s__told_index ["count", "digits", "start"] := ⟨f3, _, PySem.W.mg_of X G a3, F3, F3.binds (ps := ["count", "digits", "start"]) fun _ _ _ _ _ _ us hl => match us, hl with | [_, _, _], _ => rfl⟩
  have F4 := fun_mk (st := s__check_digits) l4 c4 k4
  have D4 : Df K mg "_check_digits" s__check_digits ["digits"] := ⟨f4, _, PySem.W.mg_of X G a4, F4, F4.binds (ps := ["digits"]) fun _ _ _ _ _ _ us hl => match us, hl with | [_], _ => rfl⟩
  have F5 := fun_mk (st := s__check_count) l5 c5 k5
  have D5 : Df K mg "_check_count" s__check_count ["count"] := ⟨f5, _, PySem.W.mg_of X G a5, F5, F5.binds (ps := ["count"]) fun _ _ _ _ _ _ us hl => match us, hl with | [_], _ => rfl⟩
  have F6 := fun_mk (st := s__law_draws) l6 c6 k6
  have D6 : Df K mg "_law_draws" s__law_draws ["script", "many"] := ⟨f6, _, PySem.W.mg_of X G a6, F6, F6.binds (ps := ["script", "many"]) fun _ _ _ _ _ _ us hl => match us, hl with | [_, _], _ => rfl⟩
  have F7 := fun_mk (st := s__law_is_number) l7 c7 k7
  have D7 : Df K mg "_law_is_number" s__law_is_number ["value"] := ⟨f7, _, PySem.W.mg_of X G a7, F7, F7.binds (ps := ["value"]) fun _ _ _ _ _ _ us hl => match us, hl with | [_], _ => rfl⟩
  have F8 := fun_mk (st := s__law_all) l8 c8 k8
  have D8 : Df K mg "_law_all" s__law_all ["length"] := ⟨f8, _, PySem.W.mg_of X G a8, F8, F8.binds (ps := ["length"]) fun _ _ _ _ _ _ us hl => match us, hl with | [_], _ => rfl⟩
  have F9 := fun_mk (st := s__law_stepped) l9 c9 k9
  have D9 : Df K mg "_law_stepped" s__law_stepped ["count", "digits"] := ⟨f9, _, PySem.W.mg_of X G a9, F9, F9.binds (ps := ["count", "digits"]) fun _ _ _ _ _ _ us hl => match us, hl with | [_, _], _ => rfl⟩
  have F10 := fun_mk (st := s__law_told) l10 c10 k10
  have D10 : Df K mg "_law_told" s__law_told ["count", "digits"] := ⟨f10, _, PySem.W.mg_of X G a10, F10, F10.binds (ps := ["count", "digits"]) fun _ _ _ _ _ _ us hl => match us, hl with | [_, _], _ => rfl⟩
  have F11 := fun_mk (st := s__law_rows_refused) l11 c11 k11
  have D11 : Df K mg "_law_rows_refused" s__law_rows_refused ["count", "most"] := ⟨f11, _, PySem.W.mg_of X G a11, F11, F11.binds (ps := ["count", "most"]) fun _ _ _ _ _ _ us hl => match us, hl with | [_, _], _ => rfl⟩
  have F12 := fun_mk (st := s__law_even) l12 c12 k12
  have D12 : Df K mg "_law_even" s__law_even ["count", "length", "draws"] := ⟨f12, _, PySem.W.mg_of X G a12, F12, F12.binds (ps := ["count", "length", "draws"]) fun _ _ _ _ _ _ us hl => match us, hl with | [_, _, _], _ => rfl⟩
  have F13 := fun_mk (st := s_law) l13 c13 k13
  have T : Tx K mg ⟨cSpeciesError, cBadIndex, cBadDigits, (.int 1000 tMOST_DIGITS)⟩ := ⟨PySem.W.mg_none_of X G n_isinstance, PySem.W.mg_none_of X G n_int, PySem.W.mg_none_of X G n_bool, PySem.W.mg_none_of X G n_range, PySem.W.mg_none_of X G n_len, PySem.W.mg_none_of X G n_any, PySem.W.mg_none_of X G n_list, PySem.W.mg_none_of X G n_abs, PySem.W.mg_none_of X G n_tuple, PySem.W.mg_of X G g_MOST_DIGITS, ⟨_, rfl⟩, fun H => .int _, ⟨PySem.W.mg_of X G g_BadIndex, BadIndex_x, BadIndex_k, BadIndex_b, BadIndex_t⟩, ⟨PySem.W.mg_of X G g_BadDigits, BadDigits_x, BadDigits_k, BadDigits_b, BadDigits_t⟩, PySem.W.mg_of X G g_SpeciesError⟩
  have kk : ∀ c : Addr, PySem.W.kitOne K (.ref c) (.ref c) = some true := fun c => by (unfold PySem.W.kitOne; rw [if_pos (beq_self_eq_true _)])
  have XX : Ex K ⟨cSpeciesError, cBadIndex, cBadDigits, (.int 1000 tMOST_DIGITS)⟩ := ⟨⟨⟨BadIndex_ga, BadIndex_gt, BadIndex_b, BadIndex_hd, BadIndex_ca, B_cn, B_ct, BadIndex_cm⟩, PySem.W.exm_ref S_b S_hd S_t BadIndex_s⟩, ⟨⟨BadDigits_ga, BadDigits_gt, BadDigits_b, BadDigits_hd, BadDigits_ca, B_cn, B_ct, BadDigits_cm⟩, PySem.W.exm_ref S_b S_hd S_t BadDigits_s⟩, kk cBadIndex, kit_ref BadIndex_e BadDigits_i BadDigits_t J_BadIndex_BadDigits, kit_ref BadDigits_e BadIndex_i BadIndex_t J_BadDigits_BadIndex, kk cBadDigits⟩
  refine ⟨PySem.W.fnOf "law" "law" (defArgs s_law) (defBody s_law) (defScope s_law) .none kV13 dc13 pm13 an13 cd13 ct13, fun s v => .of_eq rfl, fun base _ _ => ?_⟩
  have C__law_draws := ok__law_draws (P := l.prog) (w := w) (base := base) T D6
  have C_is_whole := ok_is_whole (P := l.prog) (w := w) (base := base) T D0
  have C__check_count := ok__check_count (P := l.prog) (w := w) (base := base) T D5 C_is_whole
  have C_telling_rows := ok_telling_rows (P := l.prog) (w := w) (base := base) T D2 C__check_count C_is_whole
  have C__law_all := ok__law_all (P := l.prog) (w := w) (base := base) T D8
  have C__check_digits := ok__check_digits (P := l.prog) (w := w) (base := base) T D4 C_is_whole
  have C__told_index := ok__told_index (P := l.prog) (w := w) (base := base) T D3
  have C_index_by_digits := ok_index_by_digits (P := l.prog) (w := w) (base := base) T D1 C__check_digits C__check_count C__told_index
  have C__law_is_number := ok__law_is_number (P := l.prog) (w := w) (base := base) T D7
  have C__law_stepped := ok__law_stepped (P := l.prog) (w := w) (base := base) T D9
  have C__law_even := ok__law_even (P := l.prog) (w := w) (base := base) T D12 C__law_all C_index_by_digits C_telling_rows C__law_is_number C__law_stepped
  have C__law_rows_refused := ok__law_rows_refused (P := l.prog) (w := w) (base := base) T D11 XX C_telling_rows
  have C__law_told := ok__law_told (P := l.prog) (w := w) (base := base) T D10 XX C_index_by_digits
  exact ok_law T F13 C__law_draws C_telling_rows C__law_even C__law_rows_refused C_index_by_digits C__law_stepped C__law_told C__law_is_number
theorem walk {l : PySem.W.OpenLaw} {q : Program} {loose : List Str} {XP : (Str → Option Value) → Heap → Prop} {YP : World → Heap → Prop} {d : DefRec} {K : Params → PySem.W.Frag} (hn : l.most = some 63) (hdf : d.params.defaults = [])
    (hY : ∀ (w : World) (h : Heap), YP w h → (K w.params).In h)
    (F : ∀ (w : World) (mg : Str → Option Value) (fa : Addr) (h : Heap), (K w.params).In h → h.Ns mainGlobals mg → mg d.name = some (.ref fa) →
      ∃ fd : FuncData, (∀ (s : Shared) (u : Value), BindsTo s fd ⟨[u], []⟩ [("script", u)]) ∧ ∀ base : Heap, (K w.params).In base → base.Ns mainGlobals mg → FnOk l.prog w (K w.params) mg base CX0 5 fa fd ["script"] (spW (K w.params) (relR r_law))) :
    PySem.W.WalkO q loose XP YP l.row.toRowW d [] (fun f vs => PySem.call f vs) :=
  L2.walk_of (n := 63) (k := 5) (x := "script") (CX := fun _ => CX0) (sp := fun w => spW (K w.params) (relR r_law)) hn (by decide) hdf ⟨rfl, by decide, by decide⟩ hY F (fun _ _ a ns hl _ hS => law_start hl hS) fun _ _ _ _ _ z => z
end DL

open PySem PySem.W PyProof.Rows
set_option maxRecDepth 100000 in
set_option maxHeartbeats 0 in
theorem PySem.Challenge.cw_speciesmill_k48_whole_digits_draw_evenly_holds : PySem.Challenge.rw_speciesmill_k48_whole_digits_draw_evenly.Holds := by
  w_on; o_law; k_head; (case hw => w_witness2)
  k_fill
  refine DL.walk (l := PySem.Challenge.rw_speciesmill_k48_whole_digits_draw_evenly) rfl rfl (fun w h Y => PySem.W.kIn_of Y) ?F
  case F =>
    intro w mg fa h KX G hmg
    refine' DL.all_mk KX G hmg ?a0 ?l0 ?c0 ?k0 ?a1 ?l1 ?c1 ?k1 ?a2 ?l2 ?c2 ?k2 ?a3 ?l3 ?c3 ?k3 ?a4 ?l4 ?c4 ?k4 ?a5 ?l5 ?c5 ?k5 ?a6 ?l6 ?c6 ?k6 ?a7 ?l7 ?c7 ?k7 ?a8 ?l8 ?c8 ?k8 ?a9 ?l9 ?c9 ?k9 ?a10 ?l10 ?c10 ?k10 ?a11 ?l11 ?c11 ?k11 ?a12 ?l12 ?c12 ?k12 ?a13 ?l13 ?c13 ?k13 ?g_SpeciesError ?g_BadIndex ?g_BadDigits ?n_isinstance ?n_int ?n_bool ?n_range ?n_len ?n_any ?n_list ?n_abs ?n_tuple ?g_MOST_DIGITS ?BadIndex_x ?BadIndex_k ?BadIndex_b ?BadIndex_t ?BadDigits_x ?BadDigits_k ?BadDigits_b ?BadDigits_t ?BadIndex_ga ?BadIndex_gt ?BadIndex_hd ?BadIndex_ca ?BadIndex_cm ?BadIndex_s ?BadIndex_e ?BadIndex_i ?BadDigits_ga ?BadDigits_gt ?BadDigits_hd ?BadDigits_ca ?BadDigits_cm ?BadDigits_s ?BadDigits_e ?BadDigits_i ?B_cn ?B_ct ?S_b ?S_hd ?S_t ?J_BadIndex_BadDigits ?J_BadDigits_BadIndex
    (case g_SpeciesError => k_is); (case g_BadIndex => k_is); (case g_BadDigits => k_is); (case a0 => k_is); (case l0 => k_is); (case c0 => k_is); (case k0 => k_is); (case a1 => k_is)
    (case l1 => k_is); (case c1 => k_is); (case k1 => k_is); (case a2 => k_is); (case l2 => k_is); (case c2 => k_is); (case k2 => k_is); (case a3 => k_is)
    (case l3 => k_is); (case c3 => k_is); (case k3 => k_is); (case a4 => k_is); (case l4 => k_is); (case c4 => k_is); (case k4 => k_is); (case a5 => k_is)
    (case l5 => k_is); (case c5 => k_is); (case k5 => k_is); (case a6 => k_is); (case l6 => k_is); (case c6 => k_is); (case k6 => k_is); (case a7 => k_is)
    (case l7 => k_is); (case c7 => k_is); (case k7 => k_is); (case a8 => k_is); (case l8 => k_is); (case c8 => k_is); (case k8 => k_is); (case a9 => k_is)
    (case l9 => k_is); (case c9 => k_is); (case k9 => k_is); (case a10 => k_is); (case l10 => k_is); (case c10 => k_is); (case k10 => k_is); (case a11 => k_is)
    (case l11 => k_is); (case c11 => k_is); (case k11 => k_is); (case a12 => k_is); (case l12 => k_is); (case c12 => k_is); (case k12 => k_is); (case a13 => k_is)
    (case l13 => k_is); (case c13 => k_is); (case k13 => k_is); (case n_isinstance => k_is); (case n_int => k_is); (case n_bool => k_is); (case n_range => k_is); (case n_len => k_is)
    (case n_any => k_is); (case n_list => k_is); (case n_abs => k_is); (case n_tuple => k_is); (case g_MOST_DIGITS => k_is); (case BadIndex_x => k_exc); (case BadIndex_k => k_is); (case BadIndex_b => k_is)
    (case BadIndex_t => k_is); (case BadDigits_x => k_exc); (case BadDigits_k => k_is); (case BadDigits_b => k_is); (case BadDigits_t => k_is); (case BadIndex_ga => k_is); (case BadIndex_gt => k_is); (case BadIndex_hd => k_is)
    (case BadIndex_ca => k_is); (case BadIndex_cm => k_is); (case BadIndex_s => first | k_is | rfl); (case BadIndex_e => first | k_is | rfl); (case BadIndex_i => k_is); (case BadDigits_ga => k_is); (case BadDigits_gt => k_is); (case BadDigits_hd => k_is)
    (case BadDigits_ca => k_is); (case BadDigits_cm => k_is); (case BadDigits_s => first | k_is | rfl); (case BadDigits_e => first | k_is | rfl); (case BadDigits_i => k_is); (case B_cn => k_is); (case B_ct => k_is); (case S_b => k_is)
    (case S_hd => k_is); (case S_t => k_is); (case J_BadIndex_BadDigits => k_is); (case J_BadDigits_BadIndex => k_is)
#print axioms PySem.Challenge.cw_speciesmill_k48_whole_digits_draw_evenly_holds

