import PyProof.Rows.All
import Wide.All
import OpenK.AllK
import Wide.FinOn
import HandS.ForExc
import HandS.Comp
import HandS.Iter
import HandS.Gcd
import HandS.IsInst
import HandS.ExcIs
import HandS.Flow
import HandS.Wide
import KE.KMathGC
import HandS.TupLe
import HandS.TupAny
import HandS.Dict
import HandS.Text
import HandS.SortInts
import HandS.Conv
import HandS.Small
import HandS.FStr
import HandS.SortKw
import HandS.SetFor
import HandS.TupSets
import HandS.Strs
import HandS.Star
import HandS.Style
import HandS.TupMul
import KE.KTupSum
import PySem.Challenge.RW_speciesmill_k50_shapes
set_option Elab.async false
set_option linter.all false
set_option maxRecDepth 100000
set_option maxHeartbeats 4000000
/-! values as data: a layer over the hand layer in which no heap is seen -/
namespace DL
open PySem L2
abbrev LIM : Nat := 1000000
theorem LIM_size : LIM < sizeLine := by decide
inductive D where
  | non | bl (b : Bool) | int (i : Int) | str (s : Str)
  | tup (l : List D) | lst (l : List D) | scr (l : List D) | dic (ks : List Key) (vs : List D) | ref (a : Addr) | ptp (l : List D)
instance : Inhabited D := ⟨.non⟩
mutual
inductive At (K : PySem.W.Frag) (H : Hp) : V → D → Prop
  | non : At K H .non .non
  | bl (b : Bool) : At K H (.bl b) (.bl b)
  | int (i : Int) : At K H (.int i) (.int i)
  | str (s : Str) : At K H (.str s) (.str s)
  | ref (a : Addr) : At K H (.ref a) (.ref a)
  | tup {a : Addr} {xs : List V} {l : List D} : SqT K H a xs → l.length ≤ LIM → AtAll K H xs l → At K H (.ref a) (.tup l)
  | lst {a : Addr} {xs : List V} {l : List D} : H a = some (.lst xs) → l.length ≤ LIM → AtAll K H xs l → At K H (.ref a) (.lst l)
  | scr {a : Addr} {xs : List V} {l : List D} : SqL K H a xs → l.length ≤ LIM → AtAll K H xs l → At K H (.ref a) (.scr l)
  | dic {a : Addr} {ks : List Key} {xs : List V} {l : List D} : Rd H a (.dK (ks.zip xs)) → ks.length = xs.length → ks.length ≤ LIM → AtAll K H xs l → At K H (.ref a) (.dic ks l)
  | ptp {a : Addr} {o : Obj} {xs : List V} {l : List D} : H a = some (.frz o (.tup xs)) → o.dict = none → l.length ≤ LIM → AtAll K H xs l → At K H (.ref a) (.ptp l)
inductive AtAll (K : PySem.W.Frag) (H : Hp) : List V → List D → Prop
  | nil : AtAll K H [] []
  | cons {v : V} {vs : List V} {t : D} {ts : List D} : At K H v t → AtAll K H vs ts → AtAll K H (v :: vs) (t :: ts)
end
section
variable {K : PySem.W.Frag} {H H' : Hp}
theorem sqT_mono (e : Same H H') {a : Addr} {xs : List V} (h : SqT K H a xs) : SqT K H' a xs := by
  rcases h with (h | ⟨o, h⟩) | h
  · exact .inl (.inl (e _ _ h))
  · exact .inl (.inr ⟨o, e _ _ h⟩)
  · exact .inr h
theorem rd_mono (e : Same H H') {a : Addr} {u : HO} (h : Rd H a u) : Rd H' a u := by
  rcases h with h | ⟨o, h⟩
  · exact .inl (e _ _ h)
  · exact .inr ⟨o, e _ _ h⟩
mutual
theorem At.mono (s : Same H H') {v : V} {t : D} : At K H v t → At K H' v t
  | .non => .non
  | .bl b => .bl b
  | .int i => .int i
  | .str z => .str z
  | .ref a => .ref a
  | .tup h n r => .tup (sqT_mono s h) n (AtAll.mono s r)
  | .lst h n r => .lst (s _ _ h) n (AtAll.mono s r)
  | .scr h n r => .scr (s.seq h) n (AtAll.mono s r)
  | .dic h e n r => .dic (rd_mono s h) e n (AtAll.mono s r)
  | .ptp h e n r => .ptp (s _ _ h) e n (AtAll.mono s r)
theorem AtAll.mono (s : Same H H') {vs : List V} {ts : List D} : AtAll K H vs ts → AtAll K H' vs ts
  | .nil => .nil
  | .cons h r => .cons (At.mono s h) (AtAll.mono s r)
end
theorem AtAll.len {vs : List V} {ts : List D} (h : AtAll K H vs ts) : vs.length = ts.length := by
  induction vs generalizing ts with
  | nil => cases h; rfl
  | cons v vs ih => cases h with
    | cons _ r => rw [List.length_cons, List.length_cons, ih r]
theorem AtAll.get {vs : List V} {ts : List D} (h : AtAll K H vs ts) {i : Nat} {v : V} (e : vs[i]? = some v) : ∃ t, ts[i]? = some t ∧ At K H v t := by
  induction vs generalizing ts i with
  | nil => simp at e
  | cons w ws ih =>
    cases h with
    | cons h1 h2 =>
      cases i with
      | zero => simp at e; subst e; exact ⟨_, rfl, h1⟩
      | succ i => exact ih h2 (by simpa using e)
theorem AtAll.get' {vs : List V} {ts : List D} (h : AtAll K H vs ts) {i : Nat} {t : D} (e : ts[i]? = some t) : ∃ v, vs[i]? = some v ∧ At K H v t := by
  have hi : i < vs.length := by rw [h.len]; exact (List.getElem?_eq_some_iff.mp e).1
  obtain ⟨t', e', a⟩ := h.get (List.getElem?_eq_getElem hi)
  rw [e] at e'
  obtain rfl := Option.some.inj e'
  exact ⟨_, List.getElem?_eq_getElem hi, a⟩
theorem AtAll.append {vs ws : List V} {ts us : List D} (h : AtAll K H vs ts) (r : AtAll K H ws us) : AtAll K H (vs ++ ws) (ts ++ us) := by
  induction vs generalizing ts with
  | nil => cases h; exact r
  | cons v vs ih => cases h with
    | cons a b => exact .cons a (ih b)
theorem AtAll.drop {vs : List V} {ts : List D} (h : AtAll K H vs ts) : ∀ n, AtAll K H (vs.drop n) (ts.drop n) := by
  induction vs generalizing ts with
  | nil => cases h; intro n; simp; exact .nil
  | cons v vs ih => cases h with
    | cons a b => intro n; cases n with
      | zero => exact .cons a b
      | succ n => exact ih b n
theorem AtAll.take {vs : List V} {ts : List D} (h : AtAll K H vs ts) : ∀ n, AtAll K H (vs.take n) (ts.take n) := by
  induction vs generalizing ts with
  | nil => cases h; intro n; simp; exact .nil
  | cons v vs ih => cases h with
    | cons a b => intro n; cases n with
      | zero => exact .nil
      | succ n => exact .cons a (ih b n)
theorem AtAll.set {vs : List V} {ts : List D} (h : AtAll K H vs ts) {v : V} {t : D} (a : At K H v t) : ∀ n, AtAll K H (vs.set n v) (ts.set n t) := by
  induction vs generalizing ts with
  | nil => cases h; intro n; exact .nil
  | cons w vs ih => cases h with
    | cons b c => intro n; cases n with
      | zero => exact .cons a c
      | succ n => exact .cons b (ih c n)
theorem AtAll.reverse {vs : List V} {ts : List D} (h : AtAll K H vs ts) : AtAll K H vs.reverse ts.reverse := by
  induction vs generalizing ts with
  | nil => cases h; exact .nil
  | cons w vs ih => cases h with
    | cons b c =>
      rw [List.reverse_cons, List.reverse_cons]
      exact (ih c).append (.cons b .nil)
theorem AtAll.of {vs : List V} {ts : List D} (hl : vs.length = ts.length) (h : ∀ (i : Nat) (v : V) (t : D), vs[i]? = some v → ts[i]? = some t → At K H v t) : AtAll K H vs ts := by
  induction vs generalizing ts with
  | nil => cases ts with
    | nil => exact .nil
    | cons t ts => simp at hl
  | cons v vs ih => cases ts with
    | nil => simp at hl
    | cons t ts => exact .cons (h 0 v t rfl rfl) (ih (by simpa using hl) fun i a b e f => h (i + 1) a b (by simpa using e) (by simpa using f))
theorem AtAll.ints (ns : List Int) : AtAll K H (ns.map V.int) (ns.map D.int) := by
  induction ns with
  | nil => exact .nil
  | cons n ns ih => exact .cons (.int n) ih
theorem AtAll.ints_of {vs : List V} {ns : List Int} (h : AtAll K H vs (ns.map D.int)) : vs = ns.map V.int := by
  induction ns generalizing vs with
  | nil => cases h; rfl
  | cons n ns ih => cases h with
    | cons a b => cases a; rw [ih b]; rfl
theorem AtAll.bls_of {vs : List V} {ns : List Bool} (h : AtAll K H vs (ns.map D.bl)) : vs = ns.map V.bl := by
  induction ns generalizing vs with
  | nil => cases h; rfl
  | cons n ns ih => cases h with
    | cons a b => cases a; rw [ih b]; rfl
theorem AtAll.strs_of {vs : List V} {ns : List Str} (h : AtAll K H vs (ns.map D.str)) : vs = ns.map V.str := by
  induction ns generalizing vs with
  | nil => cases h; rfl
  | cons n ns ih => cases h with
    | cons a b => cases a; rw [ih b]; rfl
end
/-! ### what is hidden -/
def hid (O : List Addr) (H : Hp) : Hp := fun a => if a ∈ O then none else H a
theorem hid_of {O : List Addr} {H : Hp} {a : Addr} (h : a ∉ O) : hid O H a = H a := if_neg h
theorem hid_some {O : List Addr} {H : Hp} {a : Addr} {u : HO} (h : hid O H a = some u) : a ∉ O ∧ H a = some u := by
  unfold hid at h
  by_cases m : a ∈ O
  · rw [if_pos m] at h; cases h
  · rw [if_neg m] at h; exact ⟨m, h⟩
theorem hid_same {O : List Addr} {H H' : Hp} (s : Same H H') : Same (hid O H) (hid O H') := fun b x h => by
  obtain ⟨m, h⟩ := hid_some h
  rw [hid_of m]; exact s _ _ h
theorem hid_sub {O O' : List Addr} {H : Hp} (s : ∀ a ∈ O', a ∈ O) : Same (hid O H) (hid O' H) := fun b x h => by
  obtain ⟨m, h⟩ := hid_some h
  rw [hid_of fun z => m (s _ z)]; exact h
theorem hid_out {O : List Addr} {H : Hp} : Same (hid O H) H := fun b x h => (hid_some h).2
theorem hid_new {O : List Addr} {H H' : Hp} {p : Addr} (n : H p = none) (s : Same H H') : Same (hid O H) (hid (p :: O) H') := fun b x h => by
  obtain ⟨m, h⟩ := hid_some h
  rw [hid_of fun z => ?_]
  · exact s _ _ h
  · rcases List.mem_cons.mp z with rfl | z
    · rw [n] at h; cases h
    · exact m z
theorem hid_upd {O : List Addr} {H : Hp} {q : Addr} {x : HO} (m : q ∈ O) : hid O (upd H q x) = hid O H := by
  funext a
  unfold hid
  by_cases h : a ∈ O
  · rw [if_pos h, if_pos h]
  · rw [if_neg h, if_neg h, upd_ne (fun z : a = q => h (by rw [z]; exact m))]
theorem same_new {H : Hp} {p : Addr} {o : HO} (h : H p = none) : Same H (upd H p o) := fun b x e => by
  rw [upd_ne (ne_of_none e h)]
  exact e
theorem same_new' {H H' : Hp} {p : Addr} {o : HO} (e : Same H H') (h : H p = none) : Same H (upd H' p o) := fun b x q => by
  rw [upd_ne (ne_of_none q h)]
  exact e b x q
/-! ### slots -/
inductive Sl where
  | no | d (x : D) | own (l : List D) | owk (ks : List Key) (vs : List D)
def sl : List Sl → Nat → Sl
  | [], _ => .no
  | s :: _, 0 => s
  | _ :: r, n + 1 => sl r n
theorem sl_set_same : ∀ (δ : List Sl) (i : Nat) (s : Sl), i < δ.length → sl (δ.set i s) i = s
  | [], _, _, h => by simp at h
  | _ :: _, 0, _, _ => rfl
  | _ :: r, i + 1, s, h => sl_set_same r i s (by simpa using h)
theorem sl_set_ne : ∀ (δ : List Sl) (i j : Nat) (s : Sl), i ≠ j → sl (δ.set i s) j = sl δ j
  | [], _, _, _, _ => rfl
  | _ :: _, 0, 0, _, h => absurd rfl h
  | _ :: _, 0, j + 1, _, _ => rfl
  | _ :: _, i + 1, 0, _, _ => rfl
  | _ :: r, i + 1, j + 1, s, h => sl_set_ne r i j s (by omega)
theorem sl_none : ∀ (δ : List Sl) (i : Nat), δ.length ≤ i → sl δ i = .no
  | [], _, _ => rfl
  | _ :: r, 0, h => by simp at h
  | _ :: r, i + 1, h => sl_none r i (by simpa using h)
def isOwn : Sl → Bool
  | .own _ => true
  | .owk _ _ => true
  | _ => false
def SlOk (K : PySem.W.Frag) (Hb : Hp) (O : List Addr) (H : Hp) (o : Option (Option V)) : Sl → Prop
  | .no => True
  | .d x => ∃ v, o = some (some v) ∧ At K (hid O H) v x
  | .own l => ∃ q vs, o = some (some (.ref q)) ∧ q ∈ O ∧ Hb q = none ∧ H q = some (.lst vs) ∧ l.length ≤ LIM ∧ AtAll K (hid O H) vs l
  | .owk ks l => ∃ q vs, o = some (some (.ref q)) ∧ q ∈ O ∧ Hb q = none ∧ H q = some (.dK (ks.zip vs)) ∧ ks.length = vs.length ∧ ks.length ≤ LIM ∧ AtAll K (hid O H) vs l
structure Sta (K : PySem.W.Frag) (Hb : Hp) (B O : List Addr) (H : Hp) (σ : St) (δ : List Sl) : Prop where
  len : σ.length = δ.length
  same : Same Hb H
  sub : ∀ b ∈ B, b ∈ O
  liveB : ∀ b ∈ B, Hb b ≠ none
  live : ∀ b ∈ O, H b ≠ none
  fresh : ∀ q ∈ O, q ∈ B ∨ Hb q = none
  at_ : ∀ i, SlOk K Hb O H (σ[i]?) (sl δ i)
  inj : ∀ i j q, isOwn (sl δ i) = true → isOwn (sl δ j) = true → σ[i]? = some (some (.ref q)) → σ[j]? = some (some (.ref q)) → i = j
section
variable {K : PySem.W.Frag} {Hb H H' : Hp} {B O : List Addr} {σ : St} {δ : List Sl}
theorem live_same {a : Addr} (h : H a ≠ none) (s : Same H H') : H' a ≠ none := by
  cases e : H a with
  | none => exact absurd e h
  | some u => rw [s _ _ e]; exact fun z => by cases z
theorem SlOk.grow {o : Option (Option V)} {s : Sl} (h : SlOk K Hb O H o s) (e : Same H H') : SlOk K Hb O H' o s := by
  cases s with
  | no => trivial
  | d x => obtain ⟨v, h1, h2⟩ := h; exact ⟨v, h1, h2.mono (hid_same e)⟩
  | own l => obtain ⟨q, vs, h1, h2, h3, h4, h5, h6⟩ := h; exact ⟨q, vs, h1, h2, h3, e _ _ h4, h5, h6.mono (hid_same e)⟩
  | owk ks l => obtain ⟨q, vs, h1, h2, h3, h4, h5, h6, h7⟩ := h; exact ⟨q, vs, h1, h2, h3, e _ _ h4, h5, h6, h7.mono (hid_same e)⟩
theorem Sta.grow (S : Sta K Hb B O H σ δ) (e : Same H H') : Sta K Hb B O H' σ δ :=
  ⟨S.len, S.same.trans e, S.sub, S.liveB, fun b hb => live_same (S.live b hb) e, S.fresh, fun i => (S.at_ i).grow e, S.inj⟩
/-- more is hidden: a new cell -/
theorem SlOk.more {o : Option (Option V)} {s : Sl} {p : Addr} (h : SlOk K Hb O H o s) (n : H p = none) (e : Same H H') : SlOk K Hb (p :: O) H' o s := by
  cases s with
  | no => trivial
  | d x => obtain ⟨v, h1, h2⟩ := h; exact ⟨v, h1, h2.mono (hid_new n e)⟩
  | own l => obtain ⟨q, vs, h1, h2, h3, h4, h5, h6⟩ := h; exact ⟨q, vs, h1, List.mem_cons_of_mem _ h2, h3, e _ _ h4, h5, h6.mono (hid_new n e)⟩
  | owk ks l => obtain ⟨q, vs, h1, h2, h3, h4, h5, h6, h7⟩ := h; exact ⟨q, vs, h1, List.mem_cons_of_mem _ h2, h3, e _ _ h4, h5, h6, h7.mono (hid_new n e)⟩
theorem Sta.more (S : Sta K Hb B O H σ δ) {p : Addr} (n : H p = none) (e : Same H H') (l : H' p ≠ none) : Sta K Hb B (p :: O) H' σ δ :=
  ⟨S.len, S.same.trans e, fun b hb => List.mem_cons_of_mem _ (S.sub b hb), S.liveB, fun b hb => by
    rcases List.mem_cons.mp hb with rfl | hb
    · exact l
    · exact live_same (S.live b hb) e, fun b hb => by
    rcases List.mem_cons.mp hb with rfl | hb
    · exact .inr (S.same.free n)
    · exact S.fresh b hb, fun i => (S.at_ i).more n e, S.inj⟩
theorem set_at {i j : Nat} {σ : St} {v : Option V} : (σ.set i v)[j]? = if i = j then (if j < σ.length then some v else none) else σ[j]? := by
  by_cases h : i = j
  · subst h
    rw [if_pos rfl]
    by_cases l : i < σ.length
    · rw [if_pos l, List.getElem?_set_self l]
    · rw [if_neg l, List.getElem?_eq_none_iff.mpr (by rw [List.length_set]; omega)]
  · rw [if_neg h, List.getElem?_set_ne h]
/-- a value stored -/
theorem Sta.set (S : Sta K Hb B O H σ δ) {i : Nat} {v : V} {x : D} (a : At K (hid O H) v x) : Sta K Hb B O H (σ.set i (some v)) (δ.set i (.d x)) := by
  refine ⟨by rw [List.length_set, List.length_set, S.len], S.same, S.sub, S.liveB, S.live, S.fresh, fun j => ?_, fun j k q hj hk ej ek => ?_⟩
  · by_cases h : i = j
    · subst h
      by_cases l : i < δ.length
      · rw [sl_set_same _ _ _ l, set_at, if_pos rfl, if_pos (by rw [S.len]; exact l)]
        exact ⟨v, rfl, a⟩
      · rw [sl_none _ _ (by rw [List.length_set]; omega)]
        trivial
    · rw [sl_set_ne _ _ _ _ h, set_at, if_neg h]
      exact S.at_ j
  · have nj : i ≠ j := fun z => by
      subst z
      by_cases l : i < δ.length
      · rw [sl_set_same _ _ _ l] at hj; cases hj
      · rw [sl_none _ _ (by rw [List.length_set]; omega)] at hj; cases hj
    have nk : i ≠ k := fun z => by
      subst z
      by_cases l : i < δ.length
      · rw [sl_set_same _ _ _ l] at hk; cases hk
      · rw [sl_none _ _ (by rw [List.length_set]; omega)] at hk; cases hk
    rw [sl_set_ne _ _ _ _ nj] at hj
    rw [sl_set_ne _ _ _ _ nk] at hk
    rw [set_at, if_neg nj] at ej
    rw [set_at, if_neg nk] at ek
    exact S.inj j k q hj hk ej ek
theorem Sta.unset (S : Sta K Hb B O H σ δ) {i : Nat} {o : Option V} : Sta K Hb B O H (σ.set i o) (δ.set i .no) := by
  refine ⟨by rw [List.length_set, List.length_set, S.len], S.same, S.sub, S.liveB, S.live, S.fresh, fun j => ?_, fun j k q hj hk ej ek => ?_⟩
  · by_cases h : i = j
    · subst h
      by_cases l : i < δ.length
      · rw [sl_set_same _ _ _ l]; trivial
      · rw [sl_none _ _ (by rw [List.length_set]; omega)]
        trivial
    · rw [sl_set_ne _ _ _ _ h, set_at, if_neg h]
      exact S.at_ j
  · have nn : ∀ j, isOwn (sl (δ.set i .no) j) = true → i ≠ j := fun j hj z => by
      subst z
      by_cases l : i < δ.length
      · rw [sl_set_same _ _ _ l] at hj; cases hj
      · rw [sl_none _ _ (by rw [List.length_set]; omega)] at hj; cases hj
    have nj := nn j hj
    have nk := nn k hk
    rw [sl_set_ne _ _ _ _ nj] at hj
    rw [sl_set_ne _ _ _ _ nk] at hk
    rw [set_at, if_neg nj] at ej
    rw [set_at, if_neg nk] at ek
    exact S.inj j k q hj hk ej ek
/-- a place that holds an own thing -/
theorem sl_len {i : Nat} (h : sl δ i ≠ .no) : i < δ.length := by
  by_cases l : i < δ.length
  · exact l
  · exact absurd (sl_none _ _ (by omega)) h
/-- an own cell made: put into a place -/
theorem Sta.own_new (S : Sta K Hb B O H σ δ) {i : Nat} {p : Addr} {s : Sl} (n : H p = none) (e : Same H H') (hs : isOwn s = true) (hp : SlOk K Hb (p :: O) H' (some (some (.ref p))) s) (l : H' p ≠ none) : Sta K Hb B (p :: O) H' (σ.set i (some (.ref p))) (δ.set i s) := by
  have S' := S.more n e l
  have np : ∀ j, isOwn (sl δ j) = true → σ[j]? ≠ some (some (.ref p)) := fun j hj z => by
    have a := S.at_ j
    cases q : sl δ j with
    | no => rw [q] at hj; cases hj
    | d x => rw [q] at hj; cases hj
    | own l =>
      rw [q] at a
      obtain ⟨w, vs, h1, h2, h3, h4, _⟩ := a
      rw [z] at h1; cases h1
      rw [n] at h4; cases h4
    | owk ks l =>
      rw [q] at a
      obtain ⟨w, vs, h1, h2, h3, h4, _⟩ := a
      rw [z] at h1; cases h1
      rw [n] at h4; cases h4
  refine ⟨by rw [List.length_set, List.length_set, S.len], S'.same, S'.sub, S'.liveB, S'.live, S'.fresh, fun j => ?_, fun j k q hj hk ej ek => ?_⟩
  · by_cases h : i = j
    · subst h
      by_cases l : i < δ.length
      · rw [sl_set_same _ _ _ l, set_at, if_pos rfl, if_pos (by rw [S.len]; exact l)]
        exact hp
      · rw [sl_none _ _ (by rw [List.length_set]; omega)]
        trivial
    · rw [sl_set_ne _ _ _ _ h, set_at, if_neg h]
      exact S'.at_ j
  · by_cases h1 : i = j
    · by_cases h2 : i = k
      · exact h1.symm.trans h2
      · exfalso
        rw [sl_set_ne _ _ _ _ h2] at hk
        rw [set_at, if_neg h2] at ek
        rw [set_at, if_pos h1] at ej
        split at ej
        · cases ej; exact np k hk ek
        · cases ej
    · rw [sl_set_ne _ _ _ _ h1] at hj
      rw [set_at, if_neg h1] at ej
      by_cases h2 : i = k
      · exfalso
        rw [set_at, if_pos h2] at ek
        split at ek
        · cases ek; exact np j hj ej
        · cases ek
      · rw [sl_set_ne _ _ _ _ h2] at hk
        rw [set_at, if_neg h2] at ek
        exact S.inj j k q hj hk ej ek
/-- an own cell changed -/
theorem Sta.own_upd (S : Sta K Hb B O H σ δ) {i : Nat} {q : Addr} {x : HO} {s : Sl} (ho : isOwn (sl δ i) = true) (hq : σ[i]? = some (some (.ref q))) (m : q ∈ O) (hb : Hb q = none) (hs : SlOk K Hb O (upd H q x) (some (some (.ref q))) s) : Sta K Hb B O (upd H q x) σ (δ.set i s) := by
  have hi : i < δ.length := sl_len fun z => by rw [z] at ho; cases ho
  refine ⟨by rw [List.length_set, S.len], same_new' S.same hb, S.sub, S.liveB, fun b hm => ?_, S.fresh, fun j => ?_, fun j k r hj hk ej ek => ?_⟩
  · by_cases z : b = q
    · rw [z, upd_same]; exact fun z => by cases z
    · rw [upd_ne z]; exact S.live b hm
  · by_cases h : i = j
    · subst h
      rw [sl_set_same _ _ _ hi, hq]
      exact hs
    · rw [sl_set_ne _ _ _ _ h]
      have a := S.at_ j
      cases e : sl δ j with
      | no => trivial
      | d y =>
        rw [e] at a
        obtain ⟨v, h1, h2⟩ := a
        exact ⟨v, h1, by rw [hid_upd m]; exact h2⟩
      | own l =>
        rw [e] at a
        obtain ⟨r, vs, h1, h2, h3, h4, h5, h6⟩ := a
        have nr : r ≠ q := fun z => h (S.inj i j q ho (by rw [e]; rfl) hq (by rw [h1, z]))
        exact ⟨r, vs, h1, h2, h3, by rw [upd_ne nr]; exact h4, h5, by rw [hid_upd m]; exact h6⟩
      | owk ks l =>
        rw [e] at a
        obtain ⟨r, vs, h1, h2, h3, h4, h5, h6, h7⟩ := a
        have nr : r ≠ q := fun z => h (S.inj i j q ho (by rw [e]; rfl) hq (by rw [h1, z]))
        exact ⟨r, vs, h1, h2, h3, by rw [upd_ne nr]; exact h4, h5, h6, by rw [hid_upd m]; exact h7⟩
  · have f : ∀ j, isOwn (sl (δ.set i s) j) = true → isOwn (sl δ j) = true := fun j hj => by
      by_cases h : i = j
      · subst h; exact ho
      · rw [sl_set_ne _ _ _ _ h] at hj; exact hj
    exact S.inj j k r (f j hj) (f k hk) ej ek
/-- an own thing is from now on a value -/
def frzS : Sl → Sl
  | .own l => .d (.lst l)
  | .owk ks vs => .d (.dic ks vs)
  | s => s
theorem Sta.freeze (S : Sta K Hb B O H σ δ) {i : Nat} (ho : isOwn (sl δ i) = true) : ∃ O', Sta K Hb B O' H σ (δ.set i (frzS (sl δ i))) := by
  have hi : i < δ.length := sl_len fun z => by rw [z] at ho; cases ho
  obtain ⟨q, hq, hm, hb⟩ : ∃ q, σ[i]? = some (some (.ref q)) ∧ q ∈ O ∧ Hb q = none := by
    have a := S.at_ i
    cases e : sl δ i with
    | no => rw [e] at ho; cases ho
    | d x => rw [e] at ho; cases ho
    | own l => rw [e] at a; obtain ⟨q, vs, h1, h2, h3, _⟩ := a; exact ⟨q, h1, h2, h3⟩
    | owk ks l => rw [e] at a; obtain ⟨q, vs, h1, h2, h3, _⟩ := a; exact ⟨q, h1, h2, h3⟩
  have sb : ∀ a ∈ O.filter (· ≠ q), a ∈ O := fun a h => (List.mem_filter.mp h).1
  have hn : q ∉ O.filter (· ≠ q) := fun h => by simpa using (List.mem_filter.mp h).2
  refine ⟨O.filter (· ≠ q), by rw [List.length_set, S.len], S.same, fun b h => ?_, S.liveB, fun b h => S.live b (sb b h), fun b h => S.fresh b (sb b h), fun j => ?_, fun j k r hj hk ej ek => ?_⟩
  · refine List.mem_filter.mpr ⟨S.sub b h, ?_⟩
    have : b ≠ q := fun z => S.liveB b h (by rw [z]; exact hb)
    simpa using this
  · by_cases h : i = j
    · subst h
      rw [sl_set_same _ _ _ hi, hq]
      have a := S.at_ i
      cases e : sl δ i with
      | no => rw [e] at ho; cases ho
      | d x => rw [e] at ho; cases ho
      | own l =>
        rw [e] at a
        obtain ⟨r, vs, h1, h2, h3, h4, h5, h6⟩ := a
        rw [hq] at h1; cases h1
        exact ⟨_, rfl, .lst (by rw [hid_of hn]; exact h4) h5 (h6.mono (hid_sub sb))⟩
      | owk ks l =>
        rw [e] at a
        obtain ⟨r, vs, h1, h2, h3, h4, h5, h6, h7⟩ := a
        rw [hq] at h1; cases h1
        exact ⟨_, rfl, .dic (.inl (by rw [hid_of hn]; exact h4)) h5 h6 (h7.mono (hid_sub sb))⟩
    · rw [sl_set_ne _ _ _ _ h]
      have a := S.at_ j
      have no : ∀ r, isOwn (sl δ j) = true → σ[j]? = some (some (.ref r)) → r ∈ O → r ∈ O.filter (· ≠ q) := fun r h1 h2 h3 => by
        refine List.mem_filter.mpr ⟨h3, ?_⟩
        have : r ≠ q := fun z => h (S.inj i j q ho h1 hq (by rw [h2, z]))
        simpa using this
      cases e : sl δ j with
      | no => trivial
      | d y =>
        rw [e] at a
        obtain ⟨v, h1, h2⟩ := a
        exact ⟨v, h1, h2.mono (hid_sub sb)⟩
      | own l =>
        rw [e] at a
        obtain ⟨r, vs, h1, h2, h3, h4, h5, h6⟩ := a
        exact ⟨r, vs, h1, no r (by rw [e]; rfl) h1 h2, h3, h4, h5, h6.mono (hid_sub sb)⟩
      | owk ks l =>
        rw [e] at a
        obtain ⟨r, vs, h1, h2, h3, h4, h5, h6, h7⟩ := a
        exact ⟨r, vs, h1, no r (by rw [e]; rfl) h1 h2, h3, h4, h5, h6, h7.mono (hid_sub sb)⟩
  · have f : ∀ j, isOwn (sl (δ.set i (frzS (sl δ i))) j) = true → isOwn (sl δ j) = true := fun j hj => by
      by_cases h : i = j
      · subst h; exact ho
      · rw [sl_set_ne _ _ _ _ h] at hj; exact hj
    exact S.inj j k r (f j hj) (f k hk) ej ek
/-- a value as the caller sees it -/
theorem Sta.out (S : Sta K Hb B O H σ δ) {v : V} {x : D} (a : At K (hid O H) v x) : At K (hid B H) v x := a.mono (hid_sub S.sub)
/-! ### a value that may be an own thing -/
inductive OAt (K : PySem.W.Frag) (O : List Addr) (H : Hp) : V → D → Prop
  | at_ {v : V} {x : D} : At K (hid O H) v x → OAt K O H v x
  | lst {q : Addr} {vs : List V} {l : List D} : q ∈ O → H q = some (.lst vs) → l.length ≤ LIM → AtAll K (hid O H) vs l → OAt K O H (.ref q) (.lst l)
  | dic {q : Addr} {ks : List Key} {vs : List V} {l : List D} : q ∈ O → H q = some (.dK (ks.zip vs)) → ks.length = vs.length → ks.length ≤ LIM → AtAll K (hid O H) vs l → OAt K O H (.ref q) (.dic ks l)
theorem OAt.grow {v : V} {x : D} (h : OAt K O H v x) (e : Same H H') : OAt K O H' v x := by
  cases h with
  | at_ a => exact .at_ (a.mono (hid_same e))
  | lst m h n r => exact .lst m (e _ _ h) n (r.mono (hid_same e))
  | dic m h e' n r => exact .dic m (e _ _ h) e' n (r.mono (hid_same e))
theorem OAt.plain {v : V} {x : D} (h : OAt K O H v x) : At K H v x := by
  cases h with
  | at_ a => exact a.mono hid_out
  | lst m h n r => exact .lst h n (r.mono hid_out)
  | dic m h e' n r => exact .dic (.inl h) e' n (r.mono hid_out)
theorem OAt.int {v : V} {i : Int} (h : OAt K O H v (.int i)) : v = .int i := by cases h with | at_ a => cases a; rfl
theorem OAt.bl {v : V} {i : Bool} (h : OAt K O H v (.bl i)) : v = .bl i := by cases h with | at_ a => cases a; rfl
theorem OAt.str {v : V} {i : Str} (h : OAt K O H v (.str i)) : v = .str i := by cases h with | at_ a => cases a; rfl
theorem OAt.non {v : V} (h : OAt K O H v .non) : v = .non := by cases h with | at_ a => cases a; rfl
/-- a list, own or not: its items are values -/
theorem OAt.list {v : V} {l : List D} (h : OAt K O H v (.lst l)) : ∃ q vs, v = .ref q ∧ H q = some (.lst vs) ∧ l.length ≤ LIM ∧ AtAll K (hid O H) vs l := by
  cases h with
  | at_ a => cases a with
    | lst h n r => exact ⟨_, _, rfl, hid_out _ _ h, n, r⟩
  | lst m h n r => exact ⟨_, _, rfl, h, n, r⟩
theorem OAt.tuple {v : V} {l : List D} (h : OAt K O H v (.tup l)) : ∃ q vs, v = .ref q ∧ SqT K H q vs ∧ l.length ≤ LIM ∧ AtAll K (hid O H) vs l ∧ SqT K (hid O H) q vs := by
  cases h with
  | at_ a => cases a with
    | tup h n r => exact ⟨_, _, rfl, sqT_mono hid_out h, n, r, h⟩
theorem At.tupOf {H : Hp} {v : V} {l : List D} (h : At K H v (.ptp l)) : At K H v (.tup l) := by
  cases h with
  | ptp h _ n r => exact .tup (.inl (.inr ⟨_, h⟩)) n r
theorem OAt.tupOf {v : V} {l : List D} (h : OAt K O H v (.ptp l)) : OAt K O H v (.tup l) := by
  cases h with
  | at_ a => exact .at_ a.tupOf
theorem OAt.plainT {v : V} {l : List D} (h : OAt K O H v (.ptp l)) : ∃ q o vs, v = .ref q ∧ H q = some (.frz o (.tup vs)) ∧ o.dict = none ∧ l.length ≤ LIM ∧ AtAll K (hid O H) vs l := by
  cases h with
  | at_ a => cases a with
    | ptp h e n r => exact ⟨_, _, _, rfl, hid_out _ _ h, e, n, r⟩
theorem OAt.script {v : V} {l : List D} (h : OAt K O H v (.scr l)) : ∃ q vs, v = .ref q ∧ SqL K H q vs ∧ l.length ≤ LIM ∧ AtAll K (hid O H) vs l := by
  cases h with
  | at_ a => cases a with
    | scr h n r => exact ⟨_, _, rfl, hid_out.seq h, n, r⟩
theorem OAt.dict {v : V} {ks : List Key} {l : List D} (h : OAt K O H v (.dic ks l)) : ∃ q vs, v = .ref q ∧ Rd H q (.dK (ks.zip vs)) ∧ ks.length = vs.length ∧ ks.length ≤ LIM ∧ AtAll K (hid O H) vs l := by
  cases h with
  | at_ a => cases a with
    | dic h e n r => exact ⟨_, _, rfl, rd_mono hid_out h, e, n, r⟩
  | dic m h e n r => exact ⟨_, _, rfl, .inl h, e, n, r⟩
end
end DL

namespace DL
open PySem L2
/-! ## expressions -/
abbrev DX := List Sl → (D → Prop) → Prop
abbrev DT := List Sl → (Bool → Prop) → Prop
abbrev DAs := List Sl → (List D → Prop) → Prop
section
variable (K : PySem.W.Frag)
def tP (x : DX) : TE := fun σ H Q => ∃ Hb B O δ, Sta K Hb B O H σ δ ∧ x δ fun d => ∀ v H', Same H H' → At K (hid O H') v d → Q v H'
def tQ (x : DX) : TE := fun σ H Q => ∃ Hb B O δ, Sta K Hb B O H σ δ ∧ x δ fun d => ∀ v H', Same H H' → OAt K O H' v d → Q v H'
def tF (x : DAs) : TE := fun σ H Q => ∃ Hb B O δ, Sta K Hb B O H σ δ ∧ x δ fun l => ∀ p vs H', Same H H' → H p = none → H' p = some (.lst vs) → l.length ≤ LIM → AtAll K (hid (p :: O) H') vs l → Q (.ref p) H'
def tT (x : DT) : TT := fun σ H Q => ∃ Hb B O δ, Sta K Hb B O H σ δ ∧ x δ fun b => ∀ H', Same H H' → Q b H'
end
inductive OAll (K : PySem.W.Frag) (O : List Addr) (H : Hp) : List V → List D → Prop
  | nil : OAll K O H [] []
  | cons {v : V} {vs : List V} {t : D} {ts : List D} : OAt K O H v t → OAll K O H vs ts → OAll K O H (v :: vs) (t :: ts)
theorem OAll.grow {K : PySem.W.Frag} {O : List Addr} {H H' : Hp} {vs : List V} {ts : List D} (h : OAll K O H vs ts) (e : Same H H') : OAll K O H' vs ts := by
  induction h with
  | nil => exact .nil
  | cons a _ ih => exact .cons (a.grow e) ih
def tA (K : PySem.W.Frag) (x : DAs) : TA := fun σ H Q => ∃ Hb B O δ, Sta K Hb B O H σ δ ∧ x δ fun ds => ∀ vs H', Same H H' → AtAll K (hid O H') vs ds → Q vs H'
def tB (K : PySem.W.Frag) (x : DAs) : TA := fun σ H Q => ∃ Hb B O δ, Sta K Hb B O H σ δ ∧ x δ fun ds => ∀ vs H', Same H H' → OAll K O H' vs ds → Q vs H'
def dArgs : List DX → DAs
  | [], _, Q => Q []
  | x :: xs, δ, Q => x δ fun a => dArgs xs δ fun as => Q (a :: as)
def MonoX (x : DX) : Prop := ∀ δ {Q Q' : D → Prop}, (∀ d, Q d → Q' d) → x δ Q → x δ Q'
def MonoT (x : DT) : Prop := ∀ δ {Q Q' : Bool → Prop}, (∀ d, Q d → Q' d) → x δ Q → x δ Q'
def MonoA (x : DAs) : Prop := ∀ δ {Q Q' : List D → Prop}, (∀ d, Q d → Q' d) → x δ Q → x δ Q'
structure PD (X : Cx) (K : PySem.W.Frag) (e : Expr) (x : DX) : Prop where
  mono : MonoX x
  pe : PE X e (tP K x)
structure QD (X : Cx) (K : PySem.W.Frag) (e : Expr) (x : DX) : Prop where
  mono : MonoX x
  pe : PE X e (tQ K x)
structure FD (X : Cx) (K : PySem.W.Frag) (e : Expr) (x : DAs) : Prop where
  mono : MonoA x
  pe : PE X e (tF K x)
structure TD (X : Cx) (K : PySem.W.Frag) (e : Expr) (x : DT) : Prop where
  mono : MonoT x
  pt : PT X e (tT K x)
structure WD (X : Cx) (K : PySem.W.Frag) (e : Expr) (x : DT) : Prop where
  mono : MonoT x
  pw : PW X e (tT K x)
structure AD (X : Cx) (K : PySem.W.Frag) (es : List Expr) (xs : List DX) : Prop where
  mono : MonoA (dArgs xs)
  len : ∀ δ Q, dArgs xs δ Q → dArgs xs δ fun ds => ds.length = xs.length ∧ Q ds
  pa : PA X es (tA K (dArgs xs))
structure BD (X : Cx) (K : PySem.W.Frag) (es : List Expr) (xs : List DX) : Prop where
  mono : MonoA (dArgs xs)
  pa : PA X es (tB K (dArgs xs))
section
variable {X : Cx} {K : PySem.W.Frag} {e a b c : Expr} {pos : Pos}
theorem pe_weak {t t' : TE} (h : PE X e t) (i : ∀ σ H Q, t' σ H Q → t σ H Q) : PE X e t' := ⟨fun pins s σ H Q I q => h.run pins s σ H Q I (i _ _ _ q)⟩
theorem pt_weak {t t' : TT} (h : PT X e t) (i : ∀ σ H Q, t' σ H Q → t σ H Q) : PT X e t' := ⟨fun pins s σ H Q I q => h.run pins s σ H Q I (i _ _ _ q)⟩
theorem pw_weak {t t' : TT} (h : PW X e t) (i : ∀ σ H Q, t' σ H Q → t σ H Q) : PW X e t' := ⟨fun w pins s σ H Q I q => h.run w pins s σ H Q I (i _ _ _ q)⟩
theorem pa_weak {es : List Expr} {t t' : TA} (h : PA X es t) (i : ∀ σ H Q, t' σ H Q → t σ H Q) : PA X es t' := ⟨fun p pins s σ H Q I q => h.run p pins s σ H Q I (i _ _ _ q)⟩
theorem PD.q {x : DX} (h : PD X K e x) : QD X K e x := ⟨h.mono, pe_weak h.pe fun σ H Q ⟨Hb, B, O, δ, S, q⟩ => ⟨Hb, B, O, δ, S, h.mono δ (fun d k v H' s a => k v H' s (.at_ a)) q⟩⟩
def ofF (x : DAs) : DX := fun δ Q => x δ fun l => Q (.lst l)
theorem FD.p {x : DAs} (h : FD X K e x) : PD X K e (ofF x) := ⟨fun δ Q Q' i q => h.mono δ (fun l => i _) q, pe_weak h.pe fun σ H Q ⟨Hb, B, O, δ, S, q⟩ => ⟨Hb, B, O, δ, S, h.mono δ (fun l k p vs H' s n hp hl a => k _ H' s (by
  have np : p ∉ O := fun z => S.live p z n
  exact .lst (by rw [hid_of np]; exact hp) hl (a.mono (hid_sub fun _ z => List.mem_cons_of_mem _ z)))) q⟩⟩
theorem FD.q {x : DAs} (h : FD X K e x) : QD X K e (ofF x) := h.p.q
/-- a plain tuple read as a tuple -/
def unP : D → D
  | .ptp l => .tup l
  | d => d
theorem unP_at {O : List Addr} {H : Hp} {v : V} {d : D} (h : OAt K O H v d) : OAt K O H v (unP d) := by
  cases d with
  | ptp l => exact h.tupOf
  | _ => exact h
theorem unP_at1 {H : Hp} {v : V} {d : D} (h : At K H v d) : At K H v (unP d) := by
  cases d with
  | ptp l => exact h.tupOf
  | _ => exact h
def dU (x : DX) : DX := fun δ Q => x δ fun d => Q (unP d)
theorem QD.u {x : DX} (h : QD X K e x) : QD X K e (dU x) := ⟨fun δ Q Q' i q => h.mono δ (fun d => i _) q, pe_weak h.pe fun σ H Q ⟨Hb, B, O, δ, S, q⟩ => ⟨Hb, B, O, δ, S, h.mono δ (fun d k v H' s a => k v H' s (unP_at a)) q⟩⟩
theorem PD.u {x : DX} (h : PD X K e x) : PD X K e (dU x) := ⟨fun δ Q Q' i q => h.mono δ (fun d => i _) q, pe_weak h.pe fun σ H Q ⟨Hb, B, O, δ, S, q⟩ => ⟨Hb, B, O, δ, S, h.mono δ (fun d k v H' s a => k v H' s (unP_at1 a)) q⟩⟩
/-! ### names, constants -/
def dV (i : Nat) : DX := fun δ Q => match sl δ i with
  | .d x => Q x
  | _ => False
def qV (i : Nat) : DX := fun δ Q => match sl δ i with
  | .d x => Q x
  | .own l => Q (.lst l)
  | .owk ks vs => Q (.dic ks vs)
  | .no => False
def dC (d : D) : DX := fun _ Q => Q d
theorem dv (i : Nat) {x : Str} (hN : X.N[i]? = some x := by rfl) (hv : Vis X.env.scope x := by first | exact Or.inl rfl | exact Or.inr (Or.inl rfl) | exact Or.inr (Or.inr rfl)) (hd : (x == ("__debug__" : Str)) = false := by decide)
    (hcd : (x == ("__classdict__" : Str)) = false := by decide) : PD X K (.Name x pos) (dV i) := by
  refine ⟨fun δ Q Q' h q => ?_, pe_weak (pe_var hN hv hd hcd) fun σ H Q ⟨Hb, B, O, δ, S, q⟩ => ?_⟩
  · unfold dV at q ⊢
    split at q
    · exact h _ q
    · exact q
  · have a := S.at_ i
    unfold dV at q
    cases e : sl δ i with
    | d x =>
      rw [e] at a q
      obtain ⟨v, h1, h2⟩ := a
      exact ⟨v, h1, q v H (.refl H) h2⟩
    | no => rw [e] at q; exact q.elim
    | own l => rw [e] at q; exact q.elim
    | owk ks l => rw [e] at q; exact q.elim
theorem qv (i : Nat) {x : Str} (hN : X.N[i]? = some x := by rfl) (hv : Vis X.env.scope x := by first | exact Or.inl rfl | exact Or.inr (Or.inl rfl) | exact Or.inr (Or.inr rfl)) (hd : (x == ("__debug__" : Str)) = false := by decide)
    (hcd : (x == ("__classdict__" : Str)) = false := by decide) : QD X K (.Name x pos) (qV i) := by
  refine ⟨fun δ Q Q' h q => ?_, pe_weak (pe_var hN hv hd hcd) fun σ H Q ⟨Hb, B, O, δ, S, q⟩ => ?_⟩
  · unfold qV at q ⊢
    split at q
    · exact h _ q
    · exact h _ q
    · exact h _ q
    · exact q
  · have a := S.at_ i
    unfold qV at q
    cases e : sl δ i with
    | d x =>
      rw [e] at a q
      obtain ⟨v, h1, h2⟩ := a
      exact ⟨v, h1, q v H (.refl H) (.at_ h2)⟩
    | no => rw [e] at q; exact q.elim
    | own l =>
      rw [e] at a q
      obtain ⟨r, vs, h1, h2, h3, h4, h5, h6⟩ := a
      exact ⟨_, h1, q _ H (.refl H) (.lst h2 h4 h5 h6)⟩
    | owk ks l =>
      rw [e] at a q
      obtain ⟨r, vs, h1, h2, h3, h4, h5, h6, h7⟩ := a
      exact ⟨_, h1, q _ H (.refl H) (.dic h2 h4 h5 h6 h7)⟩
theorem d_c {v : V} {d : D} (h : PE X e (tC v)) (a : ∀ H, At K H v d) : PD X K e (dC d) :=
  ⟨fun δ Q Q' i q => i _ q, pe_weak h fun σ H Q ⟨Hb, B, O, δ, S, q⟩ => q v H (.refl H) (a _)⟩
theorem d_int {i : Int} {j pos} : PD X K (.Constant (.int i) j pos) (dC (.int i)) := d_c pe_int fun _ => .int i
theorem d_bl {i : Bool} {j pos} : PD X K (.Constant (.bool i) j pos) (dC (.bl i)) := d_c pe_bl fun _ => .bl i
theorem d_str {i : Str} {j pos} : PD X K (.Constant (.str i) j pos) (dC (.str i)) := d_c pe_str fun _ => .str i
theorem d_non {j pos} : PD X K (.Constant .none j pos) (dC .non) := d_c pe_non fun _ => .non
theorem d_glob {x : Str} {v : V} {u : Value} {d : D} (hm : X.mg x = some u) (r : RelV v u) (a : ∀ H, At K H v d) (hg : Gl X x := by rfl) (hd : (x == ("__debug__" : Str)) = false := by decide) : PD X K (.Name x pos) (dC d) := d_c (pe_glob hg hm r hd) a
/-! ### arguments -/
theorem monoArgs : ∀ {xs : List DX}, (∀ x ∈ xs, MonoX x) → MonoA (dArgs xs)
  | [], _ => fun δ Q Q' i q => i _ q
  | x :: xs, h => fun δ Q Q' i q => h x List.mem_cons_self δ (fun a => monoArgs (fun y hy => h y (List.mem_cons_of_mem _ hy)) δ fun as => i _) q
theorem a_nil : AD X K [] [] := ⟨fun δ Q Q' i q => i _ q, fun δ Q q => ⟨rfl, q⟩, pa_weak pa_nil fun σ H Q ⟨Hb, B, O, δ, S, q⟩ => q [] H (.refl H) .nil⟩
theorem b_nil : BD X K [] [] := ⟨fun δ Q Q' i q => i _ q, pa_weak pa_nil fun σ H Q ⟨Hb, B, O, δ, S, q⟩ => q [] H (.refl H) .nil⟩
theorem a_cons {es : List Expr} {x : DX} {xs : List DX} (h : PD X K e x) (r : AD X K es xs) (hs : starEach (e :: es) X.env = (false, eval e X.env) :: starEach es X.env := by rfl) : AD X K (e :: es) (x :: xs) := by
  refine ⟨fun δ Q Q' i q => h.mono δ (fun a => r.mono δ fun as => i _) q, fun δ Q q => h.mono δ (fun a k => r.mono δ (fun as k => ⟨by rw [List.length_cons, List.length_cons, k.1], k.2⟩) (r.len δ _ k)) q, pa_weak (pa_cons h.pe r.pa hs) fun σ H Q ⟨Hb, B, O, δ, S, q⟩ => ⟨Hb, B, O, δ, S, h.mono δ (fun d k v H1 s1 a => ?_) q⟩⟩
  exact ⟨Hb, B, O, δ, S.grow s1, r.mono δ (fun ds k vs H2 s2 as => k _ _ (s1.trans s2) (.cons (a.mono (hid_same s2)) as)) k⟩
theorem b_cons {es : List Expr} {x : DX} {xs : List DX} (h : QD X K e x) (r : BD X K es xs) (hs : starEach (e :: es) X.env = (false, eval e X.env) :: starEach es X.env := by rfl) : BD X K (e :: es) (x :: xs) := by
  refine ⟨fun δ Q Q' i q => h.mono δ (fun a => r.mono δ fun as => i _) q, pa_weak (pa_cons h.pe r.pa hs) fun σ H Q ⟨Hb, B, O, δ, S, q⟩ => ⟨Hb, B, O, δ, S, h.mono δ (fun d k v H1 s1 a => ?_) q⟩⟩
  exact ⟨Hb, B, O, δ, S.grow s1, r.mono δ (fun ds k vs H2 s2 as => k _ _ (s1.trans s2) (.cons (a.grow s2) as)) k⟩
/-! ### tuples and lists written out -/
theorem At.newT {O : List Addr} {H : Hp} {p : Addr} {vs : List V} {l : List D} (live : ∀ b ∈ O, H b ≠ none) (n : H p = none) (hl : l.length ≤ LIM) (a : AtAll K (hid O H) vs l) : At K (hid O (upd H p (.tup vs))) (.ref p) (.tup l) := by
  have np : p ∉ O := fun z => live p z n
  exact .tup (.inl (.inl (by rw [hid_of np, upd_same]))) hl (a.mono (hid_same (same_new n)))
theorem At.newL {O : List Addr} {H : Hp} {p : Addr} {vs : List V} {l : List D} (live : ∀ b ∈ O, H b ≠ none) (n : H p = none) (hl : l.length ≤ LIM) (a : AtAll K (hid O H) vs l) : At K (hid O (upd H p (.lst vs))) (.ref p) (.lst l) := by
  have np : p ∉ O := fun z => live p z n
  exact .lst (by rw [hid_of np, upd_same]) hl (a.mono (hid_same (same_new n)))
def dTup (x : DAs) : DX := fun δ Q => x δ fun ds => Q (.tup ds)
theorem d_tup {es : List Expr} {xs : List DX} {k : Nat} (h : AD X K es xs) (hn : xs.length ≤ 1000 := by exact Nat.le_of_ble_eq_true rfl) : PD X K (.Tuple es k pos) (dTup (dArgs xs)) := by
  refine ⟨fun δ Q Q' i q => h.mono δ (fun ds q => i _ q) q, pe_weak (pe_tup h.pa) fun σ H Q ⟨Hb, B, O, δ, S, q⟩ => ⟨Hb, B, O, δ, S, h.mono δ (fun ds ⟨hl, k⟩ vs H1 s1 a => ⟨?_, fun p n => ?_⟩) (h.len δ _ q)⟩⟩
  · rw [a.len, hl]; exact Nat.le_of_lt (Nat.lt_of_le_of_lt (Nat.le_trans hn (by decide)) LIM_size)
  · exact k _ _ (s1.trans (same_new n)) (At.newT (fun b hb => live_same (S.live b hb) s1) n (by rw [hl]; exact Nat.le_trans hn (by decide)) a)
def fLst (x : DAs) : DAs := fun δ Q => x δ Q
theorem f_lst {es : List Expr} {xs : List DX} (h : AD X K es xs) (hn : xs.length ≤ 1000 := by exact Nat.le_of_ble_eq_true rfl) : FD X K (.List es pos) (fLst (dArgs xs)) := by
  refine ⟨fun δ Q Q' i q => h.mono δ (fun ds q => i _ q) q, pe_weak (pe_lst h.pa) fun σ H Q ⟨Hb, B, O, δ, S, q⟩ => ⟨Hb, B, O, δ, S, h.mono δ (fun ds ⟨hl, k⟩ vs H1 s1 a => ⟨?_, fun p n => ?_⟩) (h.len δ _ q)⟩⟩
  · rw [a.len, hl]; exact Nat.le_of_lt (Nat.lt_of_le_of_lt (Nat.le_trans hn (by decide)) LIM_size)
  · exact k _ _ _ (s1.trans (same_new n)) (s1.free n) upd_same (by rw [hl]; exact Nat.le_trans hn (by decide)) (a.mono (hid_new n (same_new n)))
/-! ### operators -/
structure OpD (X : Cx) (K : PySem.W.Frag) (f : Value → Value → Sem Value) (o : D → D → (D → Prop) → Prop) : Prop where
  mono : ∀ a b {Q Q' : D → Prop}, (∀ d, Q d → Q' d) → o a b Q → o a b Q'
  ex : ∃ r, OpR X f r ∧ ∀ O H x y a b Q, (∀ p ∈ O, H p ≠ none) → OAt K O H x a → OAt K O H y b → (o a b fun d => ∀ v H', Same H H' → At K (hid O H') v d → Q v H') → r x y H Q
/-- .. that makes a new list -/
structure OpF (X : Cx) (K : PySem.W.Frag) (f : Value → Value → Sem Value) (o : D → D → (List D → Prop) → Prop) : Prop where
  mono : ∀ a b {Q Q' : List D → Prop}, (∀ d, Q d → Q' d) → o a b Q → o a b Q'
  ex : ∃ r, OpR X f r ∧ ∀ O H x y a b Q, (∀ p ∈ O, H p ≠ none) → OAt K O H x a → OAt K O H y b →
    (o a b fun l => ∀ p vs H', Same H H' → H p = none → H' p = some (.lst vs) → l.length ≤ LIM → AtAll K (hid (p :: O) H') vs l → Q (.ref p) H') → r x y H Q
def dOp (o : D → D → (D → Prop) → Prop) (x y : DX) : DX := fun δ Q => x δ fun a => y δ fun b => o a b Q
def fOp (o : D → D → (List D → Prop) → Prop) (x y : DX) : DAs := fun δ Q => x δ fun a => y δ fun b => o a b Q
theorem bin_imp {x y : DX} {r : R2} {σ : St} {H : Hp} {Q : VK} {G : D → D → Prop} (ha : QD X K a x) (hb : QD X K b y) {Hb : Hp} {B O : List Addr} {δ : List Sl} (S : Sta K Hb B O H σ δ) (q : x δ fun a => y δ fun b => G a b)
    (k : ∀ u v H2 d e, Same H H2 → (∀ p ∈ O, H2 p ≠ none) → OAt K O H2 u d → OAt K O H2 v e → G d e → r u v H2 Q) : tOp r (tQ K x) (tQ K y) σ H Q :=
  ⟨Hb, B, O, δ, S, ha.mono δ (fun d g u H1 s1 au => ⟨Hb, B, O, δ, S.grow s1, hb.mono δ (fun e g v H2 s2 av => k u v H2 d e (s1.trans s2) (fun p hp => live_same (live_same (S.live p hp) s1) s2) (au.grow s2) av g) g⟩) q⟩
theorem d_op {op : Operator} {o : D → D → (D → Prop) → Prop} {x y : DX} (ho : OpD X K (binaryOp op) o) (ha : QD X K a x) (hb : QD X K b y) : PD X K (.BinOp a op b pos) (dOp o x y) := by
  obtain ⟨r, hr, hi⟩ := ho.ex
  refine ⟨fun δ Q Q' i q => ha.mono δ (fun d => hb.mono δ fun e => ho.mono d e i) q, pe_weak (pe_op hr ha.pe hb.pe) fun σ H Q ⟨Hb, B, O, δ, S, q⟩ => bin_imp ha hb S q fun u v H2 d e s l au av g => ?_⟩
  exact hi O H2 u v d e Q l au av (ho.mono d e (fun w k v' H' s' a => k v' H' (s.trans s') a) g)
theorem f_op {op : Operator} {o : D → D → (List D → Prop) → Prop} {x y : DX} (ho : OpF X K (binaryOp op) o) (ha : QD X K a x) (hb : QD X K b y) : FD X K (.BinOp a op b pos) (fOp o x y) := by
  obtain ⟨r, hr, hi⟩ := ho.ex
  refine ⟨fun δ Q Q' i q => ha.mono δ (fun d => hb.mono δ fun e => ho.mono d e i) q, pe_weak (pe_op hr ha.pe hb.pe) fun σ H Q ⟨Hb, B, O, δ, S, q⟩ => bin_imp ha hb S q fun u v H2 d e s l au av g => ?_⟩
  exact hi O H2 u v d e Q l au av (ho.mono d e (fun w k p vs H' s' n hp hl a => k p vs H' (s.trans s') (s.free n) hp hl a) g)
theorem d_cmp {op : CmpOp} {o : D → D → (D → Prop) → Prop} {x y : DX} (ho : OpD X K (compareOp op) o) (ha : QD X K a x) (hb : QD X K b y) (hm : behindInMarks op b = false := by first | exact nomark _ | rfl) : PD X K (.Compare a [op] [b] pos) (dOp o x y) := by
  obtain ⟨r, hr, hi⟩ := ho.ex
  refine ⟨fun δ Q Q' i q => ha.mono δ (fun d => hb.mono δ fun e => ho.mono d e i) q, pe_weak (pe_cmpR hr ha.pe hb.pe hm) fun σ H Q ⟨Hb, B, O, δ, S, q⟩ => bin_imp ha hb S q fun u v H2 d e s l au av g => ?_⟩
  exact hi O H2 u v d e Q l au av (ho.mono d e (fun w k v' H' s' a => k v' H' (s.trans s') a) g)
def asB (Q : Bool → Prop) : D → Prop
  | .bl b => Q b
  | _ => False
theorem asB_mono {Q Q' : Bool → Prop} (h : ∀ b, Q b → Q' b) : ∀ d, asB Q d → asB Q' d
  | .bl b, q => h b q
  | .non, q | .int _, q | .str _, q | .tup _, q | .lst _, q | .scr _, q | .dic _ _, q | .ref _, q | .ptp _, q => q.elim
def tOf (x : DX) : DT := fun δ Q => x δ (asB Q)
theorem asB_at {Q : Bool → Prop} {O : List Addr} {H : Hp} {v : V} : ∀ {d : D}, asB Q d → OAt K O H v d → ∃ b, v = .bl b ∧ Q b
  | .bl b, q, a => ⟨b, a.bl, q⟩
  | .non, q, _ | .int _, q, _ | .str _, q, _ | .tup _, q, _ | .lst _, q, _ | .scr _, q, _ | .dic _ _, q, _ | .ref _, q, _ | .ptp _, q, _ => q.elim
theorem t_cmp {op : CmpOp} {o : D → D → (D → Prop) → Prop} {x y : DX} (ho : OpD X K (compareOp op) o) (ha : QD X K a x) (hb : QD X K b y) (hm : behindInMarks op b = false := by first | exact nomark _ | rfl) : TD X K (.Compare a [op] [b] pos) (tOf (dOp o x y)) := by
  obtain ⟨r, hr, hi⟩ := ho.ex
  refine ⟨fun δ Q Q' i q => ha.mono δ (fun d => hb.mono δ fun e => ho.mono d e (asB_mono i)) q, pt_weak (pt_cmpR hr ha.pe hb.pe hm) fun σ H Q ⟨Hb, B, O, δ, S, q⟩ => ?_⟩
  show tOp r (tQ K x) (tQ K y) σ H _
  refine bin_imp ha hb S q fun u v H2 d e s l au av g => ?_
  refine hi O H2 u v d e _ l au av (ho.mono d e (fun w k v' H' s' a => ?_) g)
  obtain ⟨b, rfl, k⟩ := asB_at k (.at_ a)
  exact ⟨b, rfl, k H' (s.trans s')⟩
theorem t_val {x : DX} (h : QD X K e x) (he : ∀ whole, isTrue e X.env whole = (do let v ← whole; standAt e.pos; holding [v] (truthy v)) := by intro _; rfl) : TD X K e (tOf x) := by
  refine ⟨fun δ Q Q' i q => h.mono δ (asB_mono i) q, pt_weak (pt_val h.pe he) fun σ H Q ⟨Hb, B, O, δ, S, q⟩ => ⟨Hb, B, O, δ, S, h.mono δ (fun d k v H' s a => ?_) q⟩⟩
  obtain ⟨b, rfl, k⟩ := asB_at k a
  exact ⟨b, rfl, k H' s⟩
/-- truth of a list, a tuple, an int -/
def truD (Q : Bool → Prop) : D → Prop
  | .bl b => Q b
  | .lst l => Q (!l.isEmpty)
  | .tup l => Q (!l.isEmpty)
  | .int i => Q (i != 0)
  | .non => Q false
  | _ => False
theorem truD_mono {Q Q' : Bool → Prop} (h : ∀ b, Q b → Q' b) : ∀ d, truD Q d → truD Q' d
  | .bl b, q => h b q
  | .lst l, q => h _ q
  | .tup l, q => h _ q
  | .int i, q => h _ q
  | .non, q => h _ q
  | .str _, q | .scr _, q | .dic _ _, q | .ref _, q | .ptp _, q => q.elim
theorem isEmpty_at {H : Hp} {vs : List V} {l : List D} (h : AtAll K H vs l) : vs.isEmpty = l.isEmpty := by
  cases h <;> rfl
theorem truD_at (hK : X.K = K) {Q : Bool → Prop} {O : List Addr} {H : Hp} {v : V} {d : D} (q : truD Q d) (a : OAt K O H v d) : ∃ k, TruV X.K v H k ∧ Q k := by
  subst hK
  cases d with
  | bl b => rw [a.bl]; exact ⟨b, rfl, q⟩
  | int i => rw [a.int]; exact ⟨_, rfl, q⟩
  | non => rw [a.non]; exact ⟨_, rfl, q⟩
  | lst l =>
    obtain ⟨p, vs, rfl, h1, h2, h3⟩ := a.list
    exact ⟨_, .inl ⟨vs, .inl (.inl h1), rfl⟩, by rw [isEmpty_at h3]; exact q⟩
  | tup l =>
    obtain ⟨p, vs, rfl, h1, h2, h3, _⟩ := a.tuple
    exact ⟨_, .inr (.inl ⟨vs, h1, rfl⟩), by rw [isEmpty_at h3]; exact q⟩
  | str _ => exact q.elim
  | scr _ => exact q.elim
  | dic _ _ => exact q.elim
  | ref _ => exact q.elim
  | ptp _ => exact q.elim
def tTru (x : DX) : DT := fun δ Q => x δ (truD Q)
theorem t_truth {x : DX} (h : QD X K e x) (hK : X.K = K := by rfl) (he : ∀ whole, isTrue e X.env whole = (do let v ← whole; standAt e.pos; holding [v] (truthy v)) := by intro _; rfl) : TD X K e (tTru x) := by
  refine ⟨fun δ Q Q' i q => h.mono δ (truD_mono i) q, pt_weak (pt_truth h.pe he) fun σ H Q ⟨Hb, B, O, δ, S, q⟩ => ⟨Hb, B, O, δ, S, h.mono δ (fun d k v H' s a => ?_) q⟩⟩
  obtain ⟨b, t, k⟩ := truD_at (X := X) hK k a
  exact ⟨b, t, k H' s⟩
/-! ### and, or, not -/
def tAndD (x y : DT) : DT := fun δ Q => x δ fun c => if c = true then y δ Q else Q false
def tOrD (x y : DT) : DT := fun δ Q => x δ fun c => if c = true then Q true else y δ Q
def tNotD (x : DT) : DT := fun δ Q => x δ fun c => Q (!c)
theorem ite_mono {A A' B B' : Prop} (c : Bool) (ha : A → A') (hb : B → B') (h : if c = true then A else B) : if c = true then A' else B' := by
  cases c with
  | true => exact ha h
  | false => exact hb h
theorem w_and1 {x : DT} (h : TD X K a x) : WD X K (.BoolOp .And [a] pos) x := ⟨h.mono, pw_and1 h.pt⟩
theorem w_or1 {x : DT} (h : TD X K a x) : WD X K (.BoolOp .Or [a] pos) x := ⟨h.mono, pw_or1 h.pt⟩
theorem w_and {x y : DT} {rest : List Expr} (h : TD X K a x) (r : WD X K (.BoolOp .And (b :: rest) pos) y) : WD X K (.BoolOp .And (a :: b :: rest) pos) (tAndD x y) := by
  refine ⟨fun δ Q Q' i q => h.mono δ (fun c => ite_mono c (r.mono δ i) (i _)) q, pw_weak (pw_and h.pt r.pw) fun σ H Q ⟨Hb, B, O, δ, S, q⟩ => ⟨Hb, B, O, δ, S, h.mono δ (fun c k H1 s1 => ?_) q⟩⟩
  refine ite_mono c (fun k => ⟨Hb, B, O, δ, S.grow s1, r.mono δ (fun d k H2 s2 => k H2 (s1.trans s2)) k⟩) (fun k => k H1 s1) k
theorem w_or {x y : DT} {rest : List Expr} (h : TD X K a x) (r : WD X K (.BoolOp .Or (b :: rest) pos) y) : WD X K (.BoolOp .Or (a :: b :: rest) pos) (tOrD x y) := by
  refine ⟨fun δ Q Q' i q => h.mono δ (fun c => ite_mono c (i _) (r.mono δ i)) q, pw_weak (pw_or h.pt r.pw) fun σ H Q ⟨Hb, B, O, δ, S, q⟩ => ⟨Hb, B, O, δ, S, h.mono δ (fun c k H1 s1 => ?_) q⟩⟩
  refine ite_mono c (fun k => k H1 s1) (fun k => ⟨Hb, B, O, δ, S.grow s1, r.mono δ (fun d k H2 s2 => k H2 (s1.trans s2)) k⟩) k
theorem WD.t {x : DT} (h : WD X K e x) : TD X K e x := ⟨h.mono, h.pw.pt⟩
theorem t_not {x : DT} (h : TD X K a x) : TD X K (.UnaryOp .Not a pos) (tNotD x) :=
  ⟨fun δ Q Q' i q => h.mono δ (fun c => i _) q, pt_weak (pt_not h.pt) fun σ H Q ⟨Hb, B, O, δ, S, q⟩ => ⟨Hb, B, O, δ, S, q⟩⟩
/-- .. as values -/
def dAnd (x y : DX) : DX := fun δ Q => x δ (asB fun c => if c = true then y δ Q else Q (.bl false))
def dOr (x y : DX) : DX := fun δ Q => x δ (asB fun c => if c = true then Q (.bl true) else y δ Q)
def dNot (x : DX) : DX := fun δ Q => x δ (asB fun c => Q (.bl (!c)))
theorem d_one {op} {x : DX} (h : PD X K a x) : PD X K (.BoolOp op [a] pos) x := ⟨h.mono, pe_one h.pe⟩
theorem d_and {x y : DX} {rest : List Expr} (h : PD X K a x) (r : PD X K (.BoolOp .And (b :: rest) pos) y) : PD X K (.BoolOp .And (a :: b :: rest) pos) (dAnd x y) := by
  refine ⟨fun δ Q Q' i q => h.mono δ (asB_mono fun c => ite_mono c (r.mono δ i) (i _)) q, pe_weak (pe_and h.pe r.pe) fun σ H Q ⟨Hb, B, O, δ, S, q⟩ => ⟨Hb, B, O, δ, S, h.mono δ (fun d k v H1 s1 a => ?_) q⟩⟩
  obtain ⟨c, rfl, k⟩ := asB_at k (.at_ a)
  exact ⟨c, rfl, ite_mono c (fun k => ⟨Hb, B, O, δ, S.grow s1, r.mono δ (fun d k v H2 s2 a => k v H2 (s1.trans s2) a) k⟩) (fun k => k _ H1 s1 (.bl false)) k⟩
theorem d_or {x y : DX} {rest : List Expr} (h : PD X K a x) (r : PD X K (.BoolOp .Or (b :: rest) pos) y) : PD X K (.BoolOp .Or (a :: b :: rest) pos) (dOr x y) := by
  refine ⟨fun δ Q Q' i q => h.mono δ (asB_mono fun c => ite_mono c (i _) (r.mono δ i)) q, pe_weak (pe_or h.pe r.pe) fun σ H Q ⟨Hb, B, O, δ, S, q⟩ => ⟨Hb, B, O, δ, S, h.mono δ (fun d k v H1 s1 a => ?_) q⟩⟩
  obtain ⟨c, rfl, k⟩ := asB_at k (.at_ a)
  exact ⟨c, rfl, ite_mono c (fun k => k _ H1 s1 (.bl true)) (fun k => ⟨Hb, B, O, δ, S.grow s1, r.mono δ (fun d k v H2 s2 a => k v H2 (s1.trans s2) a) k⟩) k⟩
theorem d_not {x : DX} (h : PD X K a x) : PD X K (.UnaryOp .Not a pos) (dNot x) := by
  refine ⟨fun δ Q Q' i q => h.mono δ (asB_mono fun c => i _) q, pe_weak (pe_not h.pe) fun σ H Q ⟨Hb, B, O, δ, S, q⟩ => ⟨Hb, B, O, δ, S, h.mono δ (fun d k v H1 s1 a => ?_) q⟩⟩
  obtain ⟨c, rfl, k⟩ := asB_at k (.at_ a)
  exact ⟨c, rfl, k _ H1 s1 (.bl _)⟩
def dIf (t : DT) (x y : DX) : DX := fun δ Q => t δ fun c => if c = true then x δ Q else y δ Q
theorem d_if {t : DT} {x y : DX} (h : TD X K c t) (ha : PD X K a x) (hb : PD X K b y) : PD X K (.IfExp c a b pos) (dIf t x y) := by
  refine ⟨fun δ Q Q' i q => h.mono δ (fun c => ite_mono c (ha.mono δ i) (hb.mono δ i)) q, pe_weak (pe_ifExp h.pt ha.pe hb.pe) fun σ H Q ⟨Hb, B, O, δ, S, q⟩ => ⟨Hb, B, O, δ, S, h.mono δ (fun c k H1 s1 => ?_) q⟩⟩
  exact ite_mono c (fun k => ⟨Hb, B, O, δ, S.grow s1, ha.mono δ (fun d k v H2 s2 a => k v H2 (s1.trans s2) a) k⟩) (fun k => ⟨Hb, B, O, δ, S.grow s1, hb.mono δ (fun d k v H2 s2 a => k v H2 (s1.trans s2) a) k⟩) k
/-- is None -/
def isNon : D → Bool
  | .non => true
  | _ => false
theorem isNon_at {O : List Addr} {H : Hp} {v : V} {d : D} (a : OAt K O H v d) : decide (v = .non) = isNon d := by
  cases d with
  | non => rw [a.non]; rfl
  | bl b => rw [a.bl]; rfl
  | int i => rw [a.int]; rfl
  | str i => rw [a.str]; rfl
  | lst l => obtain ⟨p, vs, rfl, _⟩ := a.list; rfl
  | tup l => obtain ⟨p, vs, rfl, _⟩ := a.tuple; rfl
  | scr l => obtain ⟨p, vs, rfl, _⟩ := a.script; rfl
  | dic ks l => obtain ⟨p, vs, rfl, _⟩ := a.dict; rfl
  | ptp l => obtain ⟨p, vs, rfl, _⟩ := a.tupOf.tuple; rfl
  | ref p => cases a with | at_ a => cases a; rfl
def dIsN (neg : Bool) (x : DX) : DX := fun δ Q => x δ fun d => Q (.bl (if neg then !isNon d else isNon d))
theorem d_isN {x : DX} {j pos'} (h : QD X K a x) : PD X K (.Compare a [.Is] [.Constant .none j pos'] pos) (dIsN false x) := by
  refine ⟨fun δ Q Q' i q => h.mono δ (fun d => i _) q, pe_weak (pe_cmp (pc_isN h.pe) rfl) fun σ H Q ⟨Hb, B, O, δ, S, q⟩ => ⟨Hb, B, O, δ, S, h.mono δ (fun d k v H1 s1 a => ?_) q⟩⟩
  dsimp only
  rw [isNon_at a]
  exact k _ H1 s1 (.bl _)
theorem d_notN {x : DX} {j pos'} (h : QD X K a x) : PD X K (.Compare a [.IsNot] [.Constant .none j pos'] pos) (dIsN true x) := by
  refine ⟨fun δ Q Q' i q => h.mono δ (fun d => i _) q, pe_weak (pe_cmp (pc_notN h.pe) rfl) fun σ H Q ⟨Hb, B, O, δ, S, q⟩ => ⟨Hb, B, O, δ, S, h.mono δ (fun d k v H1 s1 a => ?_) q⟩⟩
  dsimp only
  rw [isNon_at a]
  exact k _ H1 s1 (.bl _)
theorem t_isN {x : DX} {j pos'} (h : QD X K a x) : TD X K (.Compare a [.Is] [.Constant .none j pos'] pos) (tOf (dIsN false x)) := by
  refine ⟨fun δ Q Q' i q => h.mono δ (fun d => i _) q, pt_weak (pt_cmp (pc_isN h.pe) rfl) fun σ H Q ⟨Hb, B, O, δ, S, q⟩ => ⟨Hb, B, O, δ, S, h.mono δ (fun d k v H1 s1 a => ?_) q⟩⟩
  dsimp only
  rw [isNon_at a]
  exact ⟨_, rfl, k H1 s1⟩
theorem t_notN {x : DX} {j pos'} (h : QD X K a x) : TD X K (.Compare a [.IsNot] [.Constant .none j pos'] pos) (tOf (dIsN true x)) := by
  refine ⟨fun δ Q Q' i q => h.mono δ (fun d => i _) q, pt_weak (pt_cmp (pc_notN h.pe) rfl) fun σ H Q ⟨Hb, B, O, δ, S, q⟩ => ⟨Hb, B, O, δ, S, h.mono δ (fun d k v H1 s1 a => ?_) q⟩⟩
  dsimp only
  rw [isNon_at a]
  exact ⟨_, rfl, k H1 s1⟩
/-- a <= b < c -/
def tChD (o o' : D → D → (D → Prop) → Prop) (x y z : DX) : DT := fun δ Q => x δ fun a => y δ fun b => o a b (asB fun k => if k = true then z δ fun c => o' b c (asB Q) else Q false)
def dChD (o o' : D → D → (D → Prop) → Prop) (x y z : DX) : DX := fun δ Q => tChD o o' x y z δ fun b => Q (.bl b)
end
end DL

namespace DL
open PySem L2
section
variable {X : Cx} {K : PySem.W.Frag} {e a b c : Expr} {pos : Pos}
theorem opR_or {f : Value → Value → Sem Value} {r r' : R2} (h : OpR X f r) (h' : OpR X f r') : OpR X f (fun x y H Q => r x y H Q ∨ r' x y H Q) := by
  intro pins s σ H x y v u Q I rx ry q
  rcases q with q | q
  · exact h pins s σ H x y v u Q I rx ry q
  · exact h' pins s σ H x y v u Q I rx ry q
theorem callR_or {f : Value} {r r' : List V → Hp → VK → Prop} (h : CallR X f r) (h' : CallR X f r') : CallR X f (fun x H Q => r x H Q ∨ r' x H Q) := by
  intro pins s σ H x u Q I rx q
  rcases q with q | q
  · exact h pins s σ H x u Q I rx q
  · exact h' pins s σ H x u Q I rx q
/-! ### ints -/
def oI (g : Int → Int → D) : D → D → (D → Prop) → Prop
  | .int i, .int j, Q => Q (g i j)
  | _, _, _ => False
def oIc (C : Int → Int → Prop) (g : Int → Int → D) : D → D → (D → Prop) → Prop
  | .int i, .int j, Q => C i j ∧ Q (g i j)
  | _, _, _ => False
theorem oI_mono {g : Int → Int → D} (a b : D) {Q Q' : D → Prop} (i : ∀ d, Q d → Q' d) (q : oI g a b Q) : oI g a b Q' := by
  unfold oI at q ⊢
  split at q
  · exact i _ q
  · exact q
theorem oIc_mono {C : Int → Int → Prop} {g : Int → Int → D} (a b : D) {Q Q' : D → Prop} (i : ∀ d, Q d → Q' d) (q : oIc C g a b Q) : oIc C g a b Q' := by
  unfold oIc at q ⊢
  split at q
  · exact ⟨q.1, i _ q.2⟩
  · exact q
theorem opI_d {f : Value → Value → Sem Value} {g : Int → Int → V} {g' : Int → Int → D} (h : OpR X f (rI0 g)) (k : ∀ i j H, At K H (g i j) (g' i j)) : OpD X K f (oI g') := by
  refine ⟨fun a b Q Q' => oI_mono a b, _, h, fun O H x y a b Q l ax ay q => ?_⟩
  unfold oI at q
  split at q
  · exact ⟨_, _, ax.int, ay.int, q _ H (.refl H) (k _ _ _)⟩
  · exact q.elim
theorem opIc_d {f : Value → Value → Sem Value} {C : Int → Int → Prop} {g : Int → Int → V} {g' : Int → Int → D} (h : OpR X f (rI C g)) (k : ∀ i j H, At K H (g i j) (g' i j)) : OpD X K f (oIc C g') := by
  refine ⟨fun a b Q Q' => oIc_mono a b, _, h, fun O H x y a b Q l ax ay q => ?_⟩
  unfold oIc at q
  split at q
  · exact ⟨_, _, ax.int, ay.int, q.1, q.2 _ H (.refl H) (k _ _ _)⟩
  · exact q.elim
abbrev oSub := oI fun i j => .int (i - j)
theorem o_sub : OpD X K (binaryOp .Sub) oSub := opI_d op_sub fun i j H => .int _
abbrev oMod := oIc (fun _ j => 0 < j) fun i j => .int (i % j)
theorem o_mod : OpD X K (binaryOp .Mod) oMod := opIc_d op_mod fun i j H => .int _
abbrev oDiv := oIc CDivW fun i j => .int (i / j)
theorem o_div : OpD X K (binaryOp .FloorDiv) oDiv := opIc_d op_fdivW fun i j H => .int _
abbrev oPow := oIc CPow fun i j => .int (i ^ j.toNat)
theorem o_pow : OpD X K (binaryOp .Pow) oPow := opIc_d op_pow fun i j H => .int _
abbrev oShl := oIc CPow fun i j => .int (i * 2 ^ j.toNat)
theorem o_shl : OpD X K (binaryOp .LShift) oShl := opIc_d op_shl fun i j H => .int _
abbrev oLt := oI fun i j => .bl (decide (i < j))
abbrev oLe := oI fun i j => .bl (decide (i ≤ j))
abbrev oGt := oI fun i j => .bl (decide (j < i))
abbrev oGe := oI fun i j => .bl (decide (j ≤ i))
theorem o_lt : OpD X K (compareOp .Lt) oLt := opI_d op_lt fun i j H => .bl _
theorem o_le : OpD X K (compareOp .LtE) oLe := opI_d op_le fun i j H => .bl _
theorem o_gt : OpD X K (compareOp .Gt) oGt := opI_d op_gt fun i j H => .bl _
theorem o_ge : OpD X K (compareOp .GtE) oGe := opI_d op_ge fun i j H => .bl _
/-! ### + -/
def oAdd : D → D → (D → Prop) → Prop
  | .int i, .int j, Q => Q (.int (i + j))
  | .str x, .str y, Q => x.length + y.length ≤ LIM ∧ Q (.str (x ++ y))
  | .tup l, .tup m, Q => l.length + m.length ≤ LIM ∧ Q (.tup (l ++ m))
  | .lst l, .lst m, Q => l.length + m.length ≤ LIM ∧ Q (.lst (l ++ m))
  | _, _, _ => False
theorem oAdd_mono (a b : D) {Q Q' : D → Prop} (i : ∀ d, Q d → Q' d) (q : oAdd a b Q) : oAdd a b Q' := by
  unfold oAdd at q ⊢
  split at q
  · exact i _ q
  · exact ⟨q.1, i _ q.2⟩
  · exact ⟨q.1, i _ q.2⟩
  · exact ⟨q.1, i _ q.2⟩
  · exact q
theorem lim_sz {n : Nat} (h : n ≤ LIM) : n ≤ sizeLine := Nat.le_of_lt (Nat.lt_of_le_of_lt h LIM_size)
theorem o_add (hK : X.K = K := by rfl) : OpD X K (binaryOp .Add) oAdd := by
  subst hK
  refine ⟨fun a b Q Q' => oAdd_mono a b, _, opR_or op_add (opR_or op_add_str (opR_or op_catA op_cat)), fun O H x y a b Q l ax ay q => ?_⟩
  unfold oAdd at q
  split at q
  · exact .inl ⟨_, _, ax.int, ay.int, q _ H (.refl H) (.int _)⟩
  · exact .inr (.inl ⟨_, _, ax.str, ay.str, lim_sz q.1, q.2 _ H (.refl H) (.str _)⟩)
  · obtain ⟨p, vs, rfl, h1, h2, h3, h4⟩ := ax.tuple
    obtain ⟨r, ws, rfl, g1, g2, g3, g4⟩ := ay.tuple
    refine .inr (.inr (.inl ⟨p, r, vs, ws, rfl, rfl, h1, g1, lim_sz (by rw [h3.len, g3.len]; exact q.1), fun e => ?_, fun _ e => ?_, fun _ _ t n => ?_⟩))
    · subst e
      cases h3
      exact q.2 _ H (.refl H) (.tup g4 g2 g3)
    · subst e
      cases g3
      exact q.2 _ H (.refl H) (by rw [List.append_nil]; exact .tup h4 h2 h3)
    · exact q.2 _ _ (same_new n) (At.newT l n (by rw [List.length_append]; exact q.1) (h3.append g3))
  · obtain ⟨p, vs, rfl, h1, h2, h3⟩ := ax.list
    obtain ⟨r, ws, rfl, g1, g2, g3⟩ := ay.list
    exact .inr (.inr (.inr ⟨p, r, vs, ws, rfl, rfl, h1, g1, lim_sz (by rw [h3.len, g3.len]; exact q.1), fun t n => q.2 _ _ (same_new n) (At.newL l n (by rw [List.length_append]; exact q.1) (h3.append g3))⟩))
  · exact q.elim
/-- two lists, a new one -/
def oCat : D → D → (List D → Prop) → Prop
  | .lst l, .lst m, Q => l.length + m.length ≤ LIM ∧ Q (l ++ m)
  | _, _, _ => False
theorem o_cat (hK : X.K = K := by rfl) : OpF X K (binaryOp .Add) oCat := by
  subst hK
  refine ⟨fun a b Q Q' i q => ?_, _, op_cat, fun O H x y a b Q l ax ay q => ?_⟩
  · unfold oCat at q ⊢
    split at q
    · exact ⟨q.1, i _ q.2⟩
    · exact q
  · unfold oCat at q
    split at q
    · obtain ⟨p, vs, rfl, h1, h2, h3⟩ := ax.list
      obtain ⟨r, ws, rfl, g1, g2, g3⟩ := ay.list
      exact ⟨p, r, vs, ws, rfl, rfl, h1, g1, lim_sz (by rw [h3.len, g3.len]; exact q.1), fun t n => q.2 t _ _ (same_new n) n upd_same (by rw [List.length_append]; exact q.1) ((h3.append g3).mono (hid_new n (same_new n)))⟩
    · exact q.elim
/-! ### * -/
def repD (l : List D) : Nat → List D
  | 0 => []
  | n + 1 => l ++ repD l n
theorem rep_len (l : List D) : ∀ n, (repD l n).length = l.length * n
  | 0 => by simp [repD]
  | n + 1 => by rw [repD, List.length_append, rep_len l n, Nat.mul_succ, Nat.add_comm]
theorem rep_at {H : Hp} {vs : List V} {l : List D} (h : AtAll K H vs l) : ∀ n, AtAll K H ((List.replicate n vs).flatten) (repD l n)
  | 0 => .nil
  | n + 1 => by
    rw [List.replicate_succ, List.flatten_cons, repD]
    exact h.append (rep_at h n)
def mulOk (i j : Int) : Prop := CMul i j ∨ CMulW i j
theorem op_mulA : OpR X (binaryOp .Mult) (rI mulOk fun i j => .int (i * j)) := by
  intro pins s σ H x y v u Q I rx ry q
  obtain ⟨i, j, e1, e2, c, q⟩ := q
  rcases c with c | c
  · exact op_mul pins s σ H x y v u Q I rx ry ⟨i, j, e1, e2, c, q⟩
  · exact op_mulW pins s σ H x y v u Q I rx ry ⟨i, j, e1, e2, c, q⟩
def oMul : D → D → (D → Prop) → Prop
  | .int i, .int j, Q => mulOk i j ∧ Q (.int (i * j))
  | .lst l, .int k, Q => (0 ≤ k ∧ k ≤ 1000000 ∧ l.length * k.toNat ≤ LIM) ∧ Q (.lst (repD l k.toNat))
  | _, _, _ => False
theorem oMul_mono (a b : D) {Q Q' : D → Prop} (i : ∀ d, Q d → Q' d) (q : oMul a b Q) : oMul a b Q' := by
  unfold oMul at q ⊢
  split at q
  · exact ⟨q.1, i _ q.2⟩
  · exact ⟨q.1, i _ q.2⟩
  · exact q
theorem o_mul (hK : X.K = K := by rfl) : OpD X K (binaryOp .Mult) oMul := by
  subst hK
  refine ⟨fun a b Q Q' => oMul_mono a b, _, opR_or op_mulA op_rep, fun O H x y a b Q l ax ay q => ?_⟩
  unfold oMul at q
  split at q
  · exact .inl ⟨_, _, ax.int, ay.int, q.1, q.2 _ H (.refl H) (.int _)⟩
  · obtain ⟨p, vs, rfl, h1, h2, h3⟩ := ax.list
    obtain ⟨⟨k1, k2, k3⟩, q⟩ := q
    refine .inr ⟨p, _, vs, rfl, ay.int, h1, by omega, by omega, lim_sz (by rw [h3.len]; exact k3), fun t n => q _ _ (same_new n) (At.newL l n (by rw [rep_len]; exact k3) (rep_at h3 _))⟩
  · exact q.elim
def oRep : D → D → (List D → Prop) → Prop
  | .lst l, .int k, Q => (0 ≤ k ∧ k ≤ 1000000 ∧ l.length * k.toNat ≤ LIM) ∧ Q (repD l k.toNat)
  | _, _, _ => False
theorem o_rep (hK : X.K = K := by rfl) : OpF X K (binaryOp .Mult) oRep := by
  subst hK
  refine ⟨fun a b Q Q' i q => ?_, _, op_rep, fun O H x y a b Q l ax ay q => ?_⟩
  · unfold oRep at q ⊢
    split at q
    · exact ⟨q.1, i _ q.2⟩
    · exact q
  · unfold oRep at q
    split at q
    · obtain ⟨p, vs, rfl, h1, h2, h3⟩ := ax.list
      obtain ⟨⟨k1, k2, k3⟩, q⟩ := q
      exact ⟨p, _, vs, rfl, ay.int, h1, by omega, by omega, lim_sz (by rw [h3.len]; exact k3), fun t n => q t _ _ (same_new n) n upd_same (by rw [rep_len]; exact k3) ((rep_at h3 _).mono (hid_new n (same_new n)))⟩
    · exact q.elim
/-! ### == -/
mutual
def toP : D → PyData
  | .non => .none
  | .bl b => .bool b
  | .int i => .int i
  | .str s => .str s
  | .tup l => .tuple (toPs l)
  | .lst l => .list (toPs l)
  | .scr l => .list (toPs l)
  | .ptp l => .tuple (toPs l)
  | .dic _ _ => .none
  | .ref _ => .none
def toPs : List D → List PyData
  | [] => []
  | d :: ds => toP d :: toPs ds
end
mutual
def isDat : D → Bool
  | .non | .bl _ | .int _ | .str _ => true
  | .tup l | .lst l => isDats l
  | .scr l => isDats l
  | .ptp l => isDats l
  | .dic _ _ | .ref _ => false
def isDats : List D → Bool
  | [] => true
  | d :: ds => isDat d && isDats ds
end
mutual
theorem At.dp {H : Hp} {v : V} {d : D} : At K H v d → isDat d = true → Dp K H v (toP d)
  | .non, _ => .non
  | .bl b, _ => .bl b
  | .int i, _ => .int i
  | .str z, _ => .str z
  | .ref a, h => by cases h
  | .tup e _ r, h => .tup e (AtAll.dp r h)
  | .lst e _ r, h => .lst (.inl (.inl e)) (AtAll.dp r h)
  | .scr e _ r, h => .lst e (AtAll.dp r h)
  | .dic _ _ _ _, h => by cases h
  | .ptp e _ _ r, h => .tup (.inl (.inr ⟨_, e⟩)) (AtAll.dp r h)
theorem AtAll.dp {H : Hp} {vs : List V} {ds : List D} : AtAll K H vs ds → isDats ds = true → DpAll K H vs (toPs ds)
  | .nil, _ => .nil
  | .cons a r, h => by
    unfold isDats at h
    rw [Bool.and_eq_true] at h
    exact .cons (At.dp a h.1) (AtAll.dp r h.2)
end
def okD (d : D) : Bool := isDat d && SeqAt.shaped (toP d)
def eqD (a b : D) : Bool := PyData.eqv (toP a) (toP b)
/-- == : Q is asked of its answer -/
def oEqB (Q : Bool → Prop) : D → D → Prop
  | .int i, .int j => Q (decide (i = j))
  | a, b => (okD a = true ∧ okD b = true) ∧ Q (eqD a b)
theorem oEqB_mono {Q Q' : Bool → Prop} (a b : D) (i : ∀ d, Q d → Q' d) (q : oEqB Q a b) : oEqB Q' a b := by
  unfold oEqB at q ⊢
  split at q
  · exact i _ q
  · exact ⟨q.1, i _ q.2⟩
theorem oEqB_at {O : List Addr} {H : Hp} {x y : V} {a b : D} {Q : Bool → Prop} (ax : OAt K O H x a) (ay : OAt K O H y b) (q : oEqB Q a b) : ∃ d e, Dp K H x d ∧ Dp K H y e ∧ SeqAt.shaped d = true ∧ SeqAt.shaped e = true ∧ Q (PyData.eqv d e) := by
  unfold oEqB at q
  split at q
  · rename_i i j
    rw [ax.int, ay.int]
    refine ⟨_, _, .int i, .int j, rfl, rfl, ?_⟩
    have : PyData.eqv (.int i) (.int j) = decide (i = j) := Bool.beq_eq_decide_eq i j
    rw [this]; exact q
  · obtain ⟨⟨h1, h2⟩, q⟩ := q
    unfold okD at h1 h2
    rw [Bool.and_eq_true] at h1 h2
    exact ⟨_, _, ax.plain.dp h1.1, ay.plain.dp h2.1, h1.2, h2.2, q⟩
def oEq : D → D → (D → Prop) → Prop := fun a b Q => oEqB (fun k => Q (.bl k)) a b
def oNe : D → D → (D → Prop) → Prop := fun a b Q => oEqB (fun k => Q (.bl (!k))) a b
theorem o_eq (hu : X.A.units + 64 < cLine) (hK : X.K = K := by rfl) : OpD X K (compareOp .Eq) oEq := by
  subst hK
  refine ⟨fun a b Q Q' i => oEqB_mono a b fun _ => i _, _, op_eqD hu, fun O H x y a b Q l ax ay q => ?_⟩
  obtain ⟨d, e, h1, h2, h3, h4, q⟩ := oEqB_at ax ay q
  exact ⟨d, e, h1, h2, h3, h4, q _ H (.refl H) (.bl _)⟩
theorem o_ne (hu : X.A.units + 64 < cLine) (hK : X.K = K := by rfl) : OpD X K (compareOp .NotEq) oNe := by
  subst hK
  refine ⟨fun a b Q Q' i => oEqB_mono a b fun _ => i _, _, op_neD hu, fun O H x y a b Q l ax ay q => ?_⟩
  obtain ⟨d, e, h1, h2, h3, h4, q⟩ := oEqB_at ax ay q
  exact ⟨d, e, h1, h2, h3, h4, q _ H (.refl H) (.bl _)⟩
mutual
theorem eqv_refl : ∀ d : PyData, d.canLay0 = true → PyData.eqv d d = true
  | .none, _ => rfl
  | .bool b, _ => by unfold PyData.eqv; exact beq_self_eq_true b
  | .int i, _ => by unfold PyData.eqv; exact beq_self_eq_true i
  | .str x, _ => by unfold PyData.eqv; exact beq_self_eq_true x
  | .list xs, h => by unfold PyData.eqv; exact eqv_refls xs (by unfold PyData.canLay0 at h; exact h)
  | .tuple xs, h => by unfold PyData.eqv; exact eqv_refls xs (by unfold PyData.canLay0 at h; exact h)
  | .dict kvs, h => by unfold PyData.canLay0 at h; cases h
theorem eqv_refls : ∀ ds : List PyData, PyData.canLayAll0 ds = true → PyData.eqvAll ds ds = true
  | [], _ => by unfold PyData.eqvAll; rfl
  | d :: ds, h => by
    unfold PyData.canLayAll0 at h
    rw [Bool.and_eq_true] at h
    unfold PyData.eqvAll
    rw [eqv_refl d h.1, eqv_refls ds h.2]; rfl
end
theorem eqD_refl {d : D} (h : okD d = true) : eqD d d = true := by
  unfold okD at h
  rw [Bool.and_eq_true] at h
  exact eqv_refl _ (SeqAt.canLay_of_shaped h.2)
/-- the same on both sides -/
theorem oEqB_refl {Q : Bool → Prop} {d : D} (h : okD d = true) (q : Q true) : oEqB Q d d := by
  have r : Q (eqD d d) := by rw [eqD_refl h]; exact q
  cases d with
  | int i => show Q (decide (i = i)); rw [decide_eq_true rfl]; exact q
  | non | bl b | str s | tup l | lst l | scr l | dic ks vs | ref a | ptp l => exact ⟨⟨h, h⟩, r⟩
/-! ### subscripts -/
def onSome {α : Type} (o : Option α) (Q : α → Prop) : Prop := match o with
  | some x => Q x
  | none => False
theorem onSome_of {α : Type} {o : Option α} {x : α} {Q : α → Prop} (h : o = some x) (q : Q x) : onSome o Q := by rw [h]; exact q
theorem of_onSome {α : Type} {o : Option α} {Q : α → Prop} (h : onSome o Q) : ∃ x, o = some x ∧ Q x := by
  cases o with
  | none => exact h.elim
  | some x => exact ⟨x, rfl, h⟩
theorem onSome_mono {α : Type} {o : Option α} {Q Q' : α → Prop} (i : ∀ x, Q x → Q' x) (h : onSome o Q) : onSome o Q' := by
  cases o with
  | none => exact h
  | some x => exact i x h
def ixD {α : Type} (l : List α) : Int → Option α
  | .ofNat n => l[n]?
  | .negSucc m => if m < l.length then l[l.length - (m + 1)]? else none
theorem ixD_at {α : Type} (l : List α) (k : Int) : ixD l k = atI l k := by
  unfold ixD atI ixN
  cases k with
  | ofNat n =>
    have e : (Int.ofNat n) = (n : Int) := rfl
    by_cases h : n < l.length
    · rw [if_pos (by omega), if_pos (by rw [e]; omega)]
      rfl
    · rw [if_pos (by omega), if_neg (by rw [e]; omega)]
      exact List.getElem?_eq_none_iff.mpr (by omega)
  | negSucc m =>
    have e : Int.negSucc m = -((m : Int) + 1) := by omega
    by_cases h : m < l.length
    · show (if m < l.length then _ else _) = _
      rw [if_pos h, if_neg (by omega), if_pos (by omega)]
      show _ = l[(Int.negSucc m + (l.length : Int)).toNat]?
      congr 1
      omega
    · show (if m < l.length then _ else _) = _
      rw [if_neg h, if_neg (by omega), if_neg (by omega)]
      rfl
theorem ixD_V {H : Hp} {vs : List V} {l : List D} (h : AtAll K H vs l) {k : Int} {d : D} (q : ixD l k = some d) : ∃ v, atI vs k = some v ∧ At K H v d := by
  rw [← ixD_at]
  unfold ixD at q ⊢
  cases k with
  | ofNat n => exact h.get' q
  | negSucc m =>
    dsimp only at q ⊢
    rw [h.len]
    by_cases c : m < l.length
    · rw [if_pos c] at q ⊢; exact h.get' q
    · rw [if_neg c] at q; cases q
def oIx : D → D → (D → Prop) → Prop
  | .lst l, .int k, Q => onSome (ixD l k) Q
  | .tup l, .int k, Q => onSome (ixD l k) Q
  | .scr l, .int k, Q => onSome (ixD l k) Q
  | .str z, .int k, Q => z.length ≤ LIM ∧ onSome (ixD z.cps.toList k) fun c => Q (.str ⟨#[c]⟩)
  | _, _, _ => False
theorem oIx_mono (a b : D) {Q Q' : D → Prop} (i : ∀ d, Q d → Q' d) (q : oIx a b Q) : oIx a b Q' := by
  unfold oIx at q ⊢
  split at q
  · exact onSome_mono i q
  · exact onSome_mono i q
  · exact onSome_mono i q
  · exact ⟨q.1, onSome_mono (fun c => i _) q.2⟩
  · exact q
theorem d_ix {x y : DX} (ha : QD X K a x) (hb : QD X K b y) (hK : X.K = K := by rfl) (hs : PlainIx b := by exact fun _ _ => rfl) : PD X K (.Subscript a b pos) (dOp oIx x y) := by
  subst hK
  refine ⟨fun δ Q Q' i q => ha.mono δ (fun d => hb.mono δ fun e => oIx_mono d e i) q, pe_weak (pe_ix ix_seq ha.pe hb.pe hs) fun σ H Q ⟨Hb, B, O, δ, S, q⟩ => bin_imp ha hb S q fun u v H2 d e s l au av g => ?_⟩
  unfold oIx at g
  split at g
  · obtain ⟨x, g1, g2⟩ := of_onSome g
    obtain ⟨p, vs, rfl, h1, h2, h3⟩ := au.list
    obtain ⟨w, h4, h5⟩ := ixD_V h3 g1
    exact .inl ⟨p, vs, _, w, rfl, av.int, .inl (.inl h1), h4, g2 w H2 s h5⟩
  · obtain ⟨x, g1, g2⟩ := of_onSome g
    obtain ⟨p, vs, rfl, h1, h2, h3, _⟩ := au.tuple
    obtain ⟨w, h4, h5⟩ := ixD_V h3 g1
    exact .inr (.inl ⟨p, vs, _, w, rfl, av.int, h1, h4, g2 w H2 s h5⟩)
  · obtain ⟨x, g1, g2⟩ := of_onSome g
    obtain ⟨p, vs, rfl, h1, h2, h3⟩ := au.script
    obtain ⟨w, h4, h5⟩ := ixD_V h3 g1
    exact .inl ⟨p, vs, _, w, rfl, av.int, h1, h4, g2 w H2 s h5⟩
  · obtain ⟨gl, g⟩ := g
    obtain ⟨x, g1, g2⟩ := of_onSome g
    rw [ixD_at] at g1
    exact .inr (.inr ⟨_, _, x, au.str, av.int, lim_sz gl, g1, g2 _ H2 s (.str _)⟩)
  · exact g.elim
/-! ### slices -/
abbrev DO := List Sl → (Option Int → Prop) → Prop
def tPo (K : PySem.W.Frag) (x : DO) : TO := fun σ H Q => ∃ Hb B O δ, Sta K Hb B O H σ δ ∧ x δ fun i => ∀ H', Same H H' → Q i H'
structure OD (X : Cx) (K : PySem.W.Frag) (e : Option Expr) (x : DO) : Prop where
  mono : ∀ δ {Q Q' : Option Int → Prop}, (∀ d, Q d → Q' d) → x δ Q → x δ Q'
  po : PO X e (tPo K x)
theorem po_weak {e : Option Expr} {t t' : TO} (h : PO X e t) (i : ∀ σ H Q, t' σ H Q → t σ H Q) : PO X e t' := ⟨fun pins s σ H Q I q => h.run pins s σ H Q I (i _ _ _ q)⟩
theorem o_none : OD X K none (fun _ Q => Q none) := ⟨fun δ Q Q' i q => i _ q, po_weak po_none fun σ H Q ⟨Hb, B, O, δ, S, q⟩ => q H (.refl H)⟩
def asI (Q : Int → Prop) : D → Prop
  | .int i => Q i
  | _ => False
theorem asI_mono {Q Q' : Int → Prop} (h : ∀ b, Q b → Q' b) : ∀ d, asI Q d → asI Q' d
  | .int b, q => h b q
  | .non, q | .bl _, q | .str _, q | .tup _, q | .lst _, q | .scr _, q | .dic _ _, q | .ref _, q | .ptp _, q => q.elim
theorem asI_at {Q : Int → Prop} {O : List Addr} {H : Hp} {v : V} : ∀ {d : D}, asI Q d → OAt K O H v d → ∃ b, v = .int b ∧ Q b
  | .int b, q, a => ⟨b, a.int, q⟩
  | .non, q, _ | .bl _, q, _ | .str _, q, _ | .tup _, q, _ | .lst _, q, _ | .scr _, q, _ | .dic _ _, q, _ | .ref _, q, _ | .ptp _, q, _ => q.elim
theorem o_some {x : DX} (h : QD X K e x) : OD X K (some e) (fun δ Q => x δ (asI fun i => Q (some i))) := by
  refine ⟨fun δ Q Q' i q => h.mono δ (asI_mono fun _ => i _) q, po_weak (po_some h.pe) fun σ H Q ⟨Hb, B, O, δ, S, q⟩ => ⟨Hb, B, O, δ, S, h.mono δ (fun d k v H' s a => ?_) q⟩⟩
  obtain ⟨i, rfl, k⟩ := asI_at k a
  exact ⟨i, rfl, k H' s⟩
def cutD {α : Type} (l : List α) (lo hi : Option Int) : List α := (l.drop (HT.sIx l.length 0 lo)).take (HT.sIx l.length l.length hi - HT.sIx l.length 0 lo)
theorem cutD_len {α : Type} (l : List α) (lo hi : Option Int) : (cutD l lo hi).length ≤ l.length := by
  unfold cutD
  rw [List.length_take, List.length_drop]
  omega
theorem cut_at {H : Hp} {vs : List V} {l : List D} (h : AtAll K H vs l) (lo hi : Option Int) : AtAll K H (cutV vs lo hi) (cutD l lo hi) := by
  unfold cutV cutD
  rw [h.len]
  exact (h.drop _).take _
def fSl (Q : List D → Prop) : D → Option Int → Option Int → Prop
  | .lst l, lo, hi => Q (cutD l lo hi)
  | .scr l, lo, hi => Q (cutD l lo hi)
  | _, _, _ => False
theorem fSl_mono {Q Q' : List D → Prop} (i : ∀ x, Q x → Q' x) (d : D) (lo hi : Option Int) (q : fSl Q d lo hi) : fSl Q' d lo hi := by
  unfold fSl at q ⊢
  split at q
  · exact i _ q
  · exact i _ q
  · exact q
theorem f_slice {lo hi : Option Expr} {p2 : Pos} {x : DX} {y z : DO} (ha : QD X K a x) (hl : OD X K lo y) (hh : OD X K hi z) (hK : X.K = K := by rfl) : FD X K (.Subscript a (.Slice lo hi none p2) pos) (fun δ Q => x δ fun d => y δ fun l => z δ fun u => fSl Q d l u) := by
  subst hK
  refine ⟨fun δ Q Q' i q => ha.mono δ (fun d => hl.mono δ fun l => hh.mono δ fun u => fSl_mono i d l u) q, pe_weak (pe_slice sl_list ha.pe hl.po hh.po) fun σ H Q ⟨Hb, B, O, δ, S, q⟩ =>
    ⟨Hb, B, O, δ, S, ha.mono δ (fun d g u H1 s1 au => ⟨Hb, B, O, δ, S.grow s1, hl.mono δ (fun l g H2 s2 => ⟨Hb, B, O, δ, S.grow (s1.trans s2), hh.mono δ (fun h g H3 s3 => ?_) g⟩) g⟩) q⟩⟩
  have au := au.grow (s2.trans s3)
  have s := s1.trans (s2.trans s3)
  unfold fSl at g
  split at g
  · obtain ⟨p, vs, rfl, h1, h2, h3⟩ := au.list
    exact ⟨p, vs, rfl, .inl (.inl h1), fun t n => g t _ _ (s.trans (same_new n)) (s.free n) upd_same (Nat.le_trans (cutD_len _ _ _) h2) ((cut_at h3 _ _).mono (hid_new n (same_new n)))⟩
  · obtain ⟨p, vs, rfl, h1, h2, h3⟩ := au.script
    exact ⟨p, vs, rfl, h1, fun t n => g t _ _ (s.trans (same_new n)) (s.free n) upd_same (Nat.le_trans (cutD_len _ _ _) h2) ((cut_at h3 _ _).mono (hid_new n (same_new n)))⟩
  · exact g.elim
def dSlT (Q : D → Prop) : D → Option Int → Option Int → Prop
  | .tup l, lo, hi => Q (.tup (cutD l lo hi))
  | _, _, _ => False
theorem dSlT_mono {Q Q' : D → Prop} (i : ∀ x, Q x → Q' x) (d : D) (lo hi : Option Int) (q : dSlT Q d lo hi) : dSlT Q' d lo hi := by
  unfold dSlT at q ⊢
  split at q
  · exact i _ q
  · exact q
theorem d_sliceT {lo hi : Option Expr} {p2 : Pos} {x : DX} {y z : DO} (ha : QD X K a x) (hl : OD X K lo y) (hh : OD X K hi z) (hK : X.K = K := by rfl) : PD X K (.Subscript a (.Slice lo hi none p2) pos) (fun δ Q => x δ fun d => y δ fun l => z δ fun u => dSlT Q d l u) := by
  subst hK
  refine ⟨fun δ Q Q' i q => ha.mono δ (fun d => hl.mono δ fun l => hh.mono δ fun u => dSlT_mono i d l u) q, pe_weak (pe_slice sl_tupA ha.pe hl.po hh.po) fun σ H Q ⟨Hb, B, O, δ, S, q⟩ =>
    ⟨Hb, B, O, δ, S, ha.mono δ (fun d g u H1 s1 au => ⟨Hb, B, O, δ, S.grow s1, hl.mono δ (fun l g H2 s2 => ⟨Hb, B, O, δ, S.grow (s1.trans s2), hh.mono δ (fun h g H3 s3 => ?_) g⟩) g⟩) q⟩⟩
  have au := au.grow (s2.trans s3)
  have s := s1.trans (s2.trans s3)
  unfold dSlT at g
  split at g
  · obtain ⟨p, vs, rfl, h1, h2, h3, h4⟩ := au.tuple
    refine ⟨p, vs, rfl, h1, fun w => g _ H3 s ?_, fun w t n => g _ _ (s.trans (same_new n)) (At.newT (fun b hb => live_same (S.live b hb) s) n (Nat.le_trans (cutD_len _ _ _) h2) (cut_at h3 _ _))⟩
    have e : ∀ lst : List D, lst.length = vs.length → cutD lst l h = lst := fun lst hl => by
      unfold cutD
      rw [hl, w.1, w.2, List.drop_zero, Nat.sub_zero, ← hl, List.take_length]
    rw [e _ h3.len.symm]
    exact .tup h4 h2 h3
  · exact g.elim
end
end DL

namespace DL
open PySem L2
section
variable {X : Cx} {K : PySem.W.Frag} {e a b c : Expr} {pos : Pos}
/-! ### chains of two comparisons -/
theorem t_chain {op op' : CmpOp} {o o' : D → D → (D → Prop) → Prop} {x y z : DX} (ho : OpD X K (compareOp op) o) (ho' : OpD X K (compareOp op') o') (ha : QD X K a x) (hb : QD X K b y) (hc : QD X K c z)
    (hm : lastMarks [op, op'] [b, c] = false := by with_unfolding_all rfl) : TD X K (.Compare a [op, op'] [b, c] pos) (tChD o o' x y z) := by
  obtain ⟨r, hr, hi⟩ := ho.ex
  obtain ⟨r', hr', hi'⟩ := ho'.ex
  refine ⟨fun δ Q Q' i q => ha.mono δ (fun d => hb.mono δ fun e => ho.mono d e (asB_mono fun k => ite_mono k (hc.mono δ fun c => ho'.mono e c (asB_mono i)) (i _))) q,
    pt_weak (pt_chain hr hr' ha.pe hb.pe hc.pe hm) fun σ H Q ⟨Hb, B, O, δ, S, q⟩ => ⟨Hb, B, O, δ, S, ha.mono δ (fun d g u H1 s1 au => ⟨Hb, B, O, δ, S.grow s1, hb.mono δ (fun e g v H2 s2 av => ?_) g⟩) q⟩⟩
  refine hi O H2 u v d e _ (fun p hp => live_same (live_same (S.live p hp) s1) s2) (au.grow s2) av (ho.mono d e (fun w k v' H3 s3 a3 => ?_) g)
  obtain ⟨k0, rfl, k⟩ := asB_at k (.at_ a3)
  refine ⟨k0, rfl, ite_mono k0 (fun k => ⟨Hb, B, O, δ, S.grow (s1.trans (s2.trans s3)), hc.mono δ (fun cd g w H4 s4 aw => ?_) k⟩) (fun k => ⟨false, rfl, k H3 (s1.trans (s2.trans s3))⟩) k⟩
  have s := s1.trans (s2.trans (s3.trans s4))
  refine hi' O H4 v w e cd _ (fun p hp => live_same (S.live p hp) s) (av.grow (s3.trans s4)) aw (ho'.mono e cd (fun w k v' H5 s5 a5 => ?_) g)
  obtain ⟨k1, rfl, k⟩ := asB_at k (.at_ a5)
  exact ⟨k1, rfl, k H5 (s.trans s5)⟩
theorem d_chain {op op' : CmpOp} {o o' : D → D → (D → Prop) → Prop} {x y z : DX} (ho : OpD X K (compareOp op) o) (ho' : OpD X K (compareOp op') o') (ha : QD X K a x) (hb : QD X K b y) (hc : QD X K c z)
    (hm : lastMarks [op, op'] [b, c] = false := by with_unfolding_all rfl) : PD X K (.Compare a [op, op'] [b, c] pos) (dChD o o' x y z) := by
  obtain ⟨r, hr, hi⟩ := ho.ex
  obtain ⟨r', hr', hi'⟩ := ho'.ex
  refine ⟨fun δ Q Q' i q => ha.mono δ (fun d => hb.mono δ fun e => ho.mono d e (asB_mono fun k => ite_mono k (hc.mono δ fun c => ho'.mono e c (asB_mono fun _ => i _)) (i _))) q,
    pe_weak (pe_chain hr hr' ha.pe hb.pe hc.pe hm) fun σ H Q ⟨Hb, B, O, δ, S, q⟩ => ⟨Hb, B, O, δ, S, ha.mono δ (fun d g u H1 s1 au => ⟨Hb, B, O, δ, S.grow s1, hb.mono δ (fun e g v H2 s2 av => ?_) g⟩) q⟩⟩
  refine hi O H2 u v d e _ (fun p hp => live_same (live_same (S.live p hp) s1) s2) (au.grow s2) av (ho.mono d e (fun w k v' H3 s3 a3 => ?_) g)
  obtain ⟨k0, rfl, k⟩ := asB_at k (.at_ a3)
  refine ⟨k0, rfl, ite_mono k0 (fun k => ⟨Hb, B, O, δ, S.grow (s1.trans (s2.trans s3)), hc.mono δ (fun cd g w H4 s4 aw => ?_) k⟩) (fun k => k _ H3 (s1.trans (s2.trans s3)) (.bl _)) k⟩
  have s := s1.trans (s2.trans (s3.trans s4))
  refine hi' O H4 v w e cd _ (fun p hp => live_same (S.live p hp) s) (av.grow (s3.trans s4)) aw (ho'.mono e cd (fun w k v' H5 s5 a5 => ?_) g)
  obtain ⟨k1, rfl, k⟩ := asB_at k (.at_ a5)
  exact k _ H5 (s.trans s5) (.bl _)
/-! ### calls of built-in functions -/
structure CaD (X : Cx) (K : PySem.W.Frag) (f : Value) (o : List D → (D → Prop) → Prop) : Prop where
  mono : ∀ ds {Q Q' : D → Prop}, (∀ d, Q d → Q' d) → o ds Q → o ds Q'
  ex : ∃ r, CallR X f r ∧ ∀ O H vs ds Q, (∀ p ∈ O, H p ≠ none) → OAll K O H vs ds → (o ds fun d => ∀ v H', Same H H' → At K (hid O H') v d → Q v H') → r vs H Q
structure CaF (X : Cx) (K : PySem.W.Frag) (f : Value) (o : List D → (List D → Prop) → Prop) : Prop where
  mono : ∀ ds {Q Q' : List D → Prop}, (∀ d, Q d → Q' d) → o ds Q → o ds Q'
  ex : ∃ r, CallR X f r ∧ ∀ O H vs ds Q, (∀ p ∈ O, H p ≠ none) → OAll K O H vs ds →
    (o ds fun l => ∀ p vs H', Same H H' → H p = none → H' p = some (.lst vs) → l.length ≤ LIM → AtAll K (hid (p :: O) H') vs l → Q (.ref p) H') → r vs H Q
def dCa (o : List D → (D → Prop) → Prop) (xs : List DX) : DX := fun δ Q => dArgs xs δ fun ds => o ds Q
def fCa (o : List D → (List D → Prop) → Prop) (xs : List DX) : DAs := fun δ Q => dArgs xs δ fun ds => o ds Q
theorem d_callB {o : List D → (D → Prop) → Prop} {x : Str} {id : String} {p : Pos} {es : List Expr} {xs : List DX} (ho : CaD X K (.builtin id) o) (hm : X.mg x = none) (ha : BD X K (e :: es) xs) (hg : Gl X x := by rfl) (hv : bootBuiltins x = some (.builtin id) := by decide +kernel) (hn : x ≠ "__name__" := by decide) (hdb : (x == ("__debug__" : Str)) = false := by decide)
    (he : starEach (e :: es) X.env = (false, eval e X.env) :: starEach es X.env := by rfl) (hpl : (backTo pos (starEach es X.env)).any (·.1) = false := by rfl) : PD X K (.Call (.Name x p) (e :: es) [] pos) (dCa o xs) := by
  obtain ⟨r, hr, hi⟩ := ho.ex
  refine ⟨fun δ Q Q' i q => ha.mono δ (fun ds => ho.mono ds i) q, pe_weak (pe_callB hr hg hm hv ha.pa hn hdb he hpl) fun σ H Q ⟨Hb, B, O, δ, S, q⟩ => ⟨Hb, B, O, δ, S, ha.mono δ (fun ds g vs H1 s1 as => ?_) q⟩⟩
  exact hi O H1 vs ds Q (fun p hp => live_same (S.live p hp) s1) as (ho.mono ds (fun d k v H' s a => k v H' (s1.trans s) a) g)
theorem d_callT {o : List D → (D → Prop) → Prop} {x : Str} {T : String} {p : Pos} {es : List Expr} {xs : List DX} (ho : CaD X K (.type T) o) (hm : X.mg x = none) (ha : BD X K (e :: es) xs) (hg : Gl X x := by rfl) (hv : bootBuiltins x = some (.type T) := by decide +kernel) (hn : x ≠ "__name__" := by decide) (hdb : (x == ("__debug__" : Str)) = false := by decide)
    (he : starEach (e :: es) X.env = (false, eval e X.env) :: starEach es X.env := by rfl) (hpl : (backTo pos (starEach es X.env)).any (·.1) = false := by rfl) : PD X K (.Call (.Name x p) (e :: es) [] pos) (dCa o xs) := by
  obtain ⟨r, hr, hi⟩ := ho.ex
  refine ⟨fun δ Q Q' i q => ha.mono δ (fun ds => ho.mono ds i) q, pe_weak (pe_callTy hr hg hm hv ha.pa hn hdb he hpl) fun σ H Q ⟨Hb, B, O, δ, S, q⟩ => ⟨Hb, B, O, δ, S, ha.mono δ (fun ds g vs H1 s1 as => ?_) q⟩⟩
  exact hi O H1 vs ds Q (fun p hp => live_same (S.live p hp) s1) as (ho.mono ds (fun d k v H' s a => k v H' (s1.trans s) a) g)
theorem f_callB {o : List D → (List D → Prop) → Prop} {x : Str} {id : String} {p : Pos} {es : List Expr} {xs : List DX} (ho : CaF X K (.builtin id) o) (hm : X.mg x = none) (ha : BD X K (e :: es) xs) (hg : Gl X x := by rfl) (hv : bootBuiltins x = some (.builtin id) := by decide +kernel) (hn : x ≠ "__name__" := by decide) (hdb : (x == ("__debug__" : Str)) = false := by decide)
    (he : starEach (e :: es) X.env = (false, eval e X.env) :: starEach es X.env := by rfl) (hpl : (backTo pos (starEach es X.env)).any (·.1) = false := by rfl) : FD X K (.Call (.Name x p) (e :: es) [] pos) (fCa o xs) := by
  obtain ⟨r, hr, hi⟩ := ho.ex
  refine ⟨fun δ Q Q' i q => ha.mono δ (fun ds => ho.mono ds i) q, pe_weak (pe_callB hr hg hm hv ha.pa hn hdb he hpl) fun σ H Q ⟨Hb, B, O, δ, S, q⟩ => ⟨Hb, B, O, δ, S, ha.mono δ (fun ds g vs H1 s1 as => ?_) q⟩⟩
  exact hi O H1 vs ds Q (fun p hp => live_same (S.live p hp) s1) as (ho.mono ds (fun l k p vs H' s n hp hl a => k p vs H' (s1.trans s) (s1.free n) hp hl a) g)
theorem f_callT {o : List D → (List D → Prop) → Prop} {x : Str} {T : String} {p : Pos} {es : List Expr} {xs : List DX} (ho : CaF X K (.type T) o) (hm : X.mg x = none) (ha : BD X K (e :: es) xs) (hg : Gl X x := by rfl) (hv : bootBuiltins x = some (.type T) := by decide +kernel) (hn : x ≠ "__name__" := by decide) (hdb : (x == ("__debug__" : Str)) = false := by decide)
    (he : starEach (e :: es) X.env = (false, eval e X.env) :: starEach es X.env := by rfl) (hpl : (backTo pos (starEach es X.env)).any (·.1) = false := by rfl) : FD X K (.Call (.Name x p) (e :: es) [] pos) (fCa o xs) := by
  obtain ⟨r, hr, hi⟩ := ho.ex
  refine ⟨fun δ Q Q' i q => ha.mono δ (fun ds => ho.mono ds i) q, pe_weak (pe_callTy hr hg hm hv ha.pa hn hdb he hpl) fun σ H Q ⟨Hb, B, O, δ, S, q⟩ => ⟨Hb, B, O, δ, S, ha.mono δ (fun ds g vs H1 s1 as => ?_) q⟩⟩
  exact hi O H1 vs ds Q (fun p hp => live_same (S.live p hp) s1) as (ho.mono ds (fun l k p vs H' s n hp hl a => k p vs H' (s1.trans s) (s1.free n) hp hl a) g)
theorem OAll.one {O : List Addr} {H : Hp} {vs : List V} {d : D} (h : OAll K O H vs [d]) : ∃ v, vs = [v] ∧ OAt K O H v d := by
  cases h with
  | cons a r => cases r; exact ⟨_, rfl, a⟩
theorem OAll.two {O : List Addr} {H : Hp} {vs : List V} {d d' : D} (h : OAll K O H vs [d, d']) : ∃ v v', vs = [v, v'] ∧ OAt K O H v d ∧ OAt K O H v' d' := by
  cases h with
  | cons a r => cases r with
    | cons b r => cases r; exact ⟨_, _, rfl, a, b⟩
/-- of one thing -/
def o1 (g : D → (D → Prop) → Prop) : List D → (D → Prop) → Prop
  | [d], Q => g d Q
  | _, _ => False
theorem ca1 {f : Value} {g : D → (D → Prop) → Prop} {r : List V → Hp → VK → Prop} (hr : CallR X f r) (hm : ∀ d {Q Q' : D → Prop}, (∀ d, Q d → Q' d) → g d Q → g d Q')
    (hi : ∀ O H v d Q, (∀ p ∈ O, H p ≠ none) → OAt K O H v d → (g d fun d => ∀ v H', Same H H' → At K (hid O H') v d → Q v H') → r [v] H Q) : CaD X K f (o1 g) := by
  refine ⟨fun ds Q Q' i q => ?_, r, hr, fun O H vs ds Q l as q => ?_⟩
  · unfold o1 at q ⊢
    split at q
    · exact hm _ i q
    · exact q
  · unfold o1 at q
    split at q
    · obtain ⟨v, rfl, a⟩ := as.one
      exact hi O H v _ Q l a q
    · exact q.elim
def o1F (g : D → (List D → Prop) → Prop) : List D → (List D → Prop) → Prop
  | [d], Q => g d Q
  | _, _ => False
theorem ca1F {f : Value} {g : D → (List D → Prop) → Prop} {r : List V → Hp → VK → Prop} (hr : CallR X f r) (hm : ∀ d {Q Q' : List D → Prop}, (∀ d, Q d → Q' d) → g d Q → g d Q')
    (hi : ∀ O H v d Q, (∀ p ∈ O, H p ≠ none) → OAt K O H v d → (g d fun l => ∀ p vs H', Same H H' → H p = none → H' p = some (.lst vs) → l.length ≤ LIM → AtAll K (hid (p :: O) H') vs l → Q (.ref p) H') → r [v] H Q) : CaF X K f (o1F g) := by
  refine ⟨fun ds Q Q' i q => ?_, r, hr, fun O H vs ds Q l as q => ?_⟩
  · unfold o1F at q ⊢
    split at q
    · exact hm _ i q
    · exact q
  · unfold o1F at q
    split at q
    · obtain ⟨v, rfl, a⟩ := as.one
      exact hi O H v _ Q l a q
    · exact q.elim
/-- len -/
def gLen : D → (D → Prop) → Prop
  | .lst l, Q | .tup l, Q | .scr l, Q => Q (.int l.length)
  | .str z, Q => z.length ≤ LIM ∧ Q (.int z.length)
  | _, _ => False
theorem c_len (hK : X.K = K := by rfl) : CaD X K (.builtin "len") (o1 gLen) := by
  subst hK
  refine ca1 (callR_or call_len_seq call_len_str) (fun d Q Q' i q => ?_) fun O H v d Q l a q => ?_
  · unfold gLen at q ⊢
    split at q
    · exact i _ q
    · exact i _ q
    · exact i _ q
    · exact ⟨q.1, i _ q.2⟩
    · exact q
  · unfold gLen at q
    split at q
    · obtain ⟨p, vs, rfl, h1, h2, h3⟩ := a.list
      exact .inl ⟨p, vs, rfl, .inl (.inl (.inl h1)), by rw [h3.len]; exact q _ H (.refl H) (.int _)⟩
    · obtain ⟨p, vs, rfl, h1, h2, h3, _⟩ := a.tuple
      exact .inl ⟨p, vs, rfl, .inr h1, by rw [h3.len]; exact q _ H (.refl H) (.int _)⟩
    · obtain ⟨p, vs, rfl, h1, h2, h3⟩ := a.script
      exact .inl ⟨p, vs, rfl, .inl h1, by rw [h3.len]; exact q _ H (.refl H) (.int _)⟩
    · rw [a.str]
      exact .inr ⟨_, rfl, lim_sz q.1, q.2 _ H (.refl H) (.int _)⟩
    · exact q.elim
/-- abs -/
def gI (g : Int → D) : D → (D → Prop) → Prop
  | .int i, Q => Q (g i)
  | _, _ => False
theorem gI_mono {g : Int → D} (d : D) {Q Q' : D → Prop} (i : ∀ d, Q d → Q' d) (q : gI g d Q) : gI g d Q' := by
  unfold gI at q ⊢
  split at q
  · exact i _ q
  · exact q
abbrev gAbs := gI fun i => .int (if i < 0 then -i else i)
theorem c_abs : CaD X K (.builtin "abs") (o1 gAbs) := by
  refine ca1 call_abs (fun d => gI_mono d) fun O H v d Q l a q => ?_
  unfold gAbs gI at q
  split at q
  · exact ⟨_, by rw [a.int], q _ H (.refl H) (.int _)⟩
  · exact q.elim
/-- int of an int, of a bool -/
def gInt : D → (D → Prop) → Prop
  | .int i, Q => Q (.int i)
  | .bl k, Q => Q (.int (if k then 1 else 0))
  | _, _ => False
theorem c_int : CaD X K (.type "int") (o1 gInt) := by
  refine ca1 call_int1 (fun d Q Q' i q => ?_) fun O H v d Q l a q => ?_
  · unfold gInt at q ⊢
    split at q
    · exact i _ q
    · exact i _ q
    · exact q
  · unfold gInt at q
    split at q
    · exact .inl ⟨_, by rw [a.int], q _ H (.refl H) (.int _)⟩
    · exact .inr ⟨_, by rw [a.bl], q _ H (.refl H) (.int _)⟩
    · exact q.elim
/-- sum, any, all of a list -/
def gSum : D → (D → Prop) → Prop
  | .lst l, Q => ∃ ns : List Int, l = ns.map D.int ∧ Q (.int ns.sum)
  | _, _ => False
theorem c_sum (hc : X.calm = true := by rfl) (hK : X.K = K := by rfl) : CaD X K (.builtin "sum") (o1 gSum) := by
  subst hK
  refine ca1 (cr_sum hc) (fun d Q Q' i q => ?_) fun O H v d Q l a q => ?_
  · unfold gSum at q ⊢
    split at q
    · obtain ⟨ns, h, q⟩ := q; exact ⟨ns, h, i _ q⟩
    · exact q
  · unfold gSum at q
    split at q
    · obtain ⟨ns, rfl, q⟩ := q
      obtain ⟨p, vs, rfl, h1, h2, h3⟩ := a.list
      obtain rfl := h3.ints_of
      exact ⟨p, ns, rfl, .inl (.inl h1), q _ H (.refl H) (.int _)⟩
    · exact q.elim
def gAny (f : List Bool → Bool) : D → (D → Prop) → Prop
  | .lst l, Q => ∃ ns : List Bool, l = ns.map D.bl ∧ Q (.bl (f ns))
  | _, _ => False
theorem gAny_mono {f : List Bool → Bool} (d : D) {Q Q' : D → Prop} (i : ∀ d, Q d → Q' d) (q : gAny f d Q) : gAny f d Q' := by
  unfold gAny at q ⊢
  split at q
  · obtain ⟨ns, h, q⟩ := q; exact ⟨ns, h, i _ q⟩
  · exact q
theorem c_any (hc : X.calm = true := by rfl) (hK : X.K = K := by rfl) : CaD X K (.builtin "any") (o1 (gAny fun bs => bs.any id)) := by
  subst hK
  refine ca1 (cr_any hc) (fun d => gAny_mono d) fun O H v d Q l a q => ?_
  unfold gAny at q
  split at q
  · obtain ⟨ns, rfl, q⟩ := q
    obtain ⟨p, vs, rfl, h1, h2, h3⟩ := a.list
    obtain rfl := h3.bls_of
    exact ⟨p, ns, rfl, .inl (.inl h1), q _ H (.refl H) (.bl _)⟩
  · exact q.elim
theorem c_all (hc : X.calm = true := by rfl) (hK : X.K = K := by rfl) : CaD X K (.builtin "all") (o1 (gAny fun bs => bs.all id)) := by
  subst hK
  refine ca1 (cr_all hc) (fun d => gAny_mono d) fun O H v d Q l a q => ?_
  unfold gAny at q
  split at q
  · obtain ⟨ns, rfl, q⟩ := q
    obtain ⟨p, vs, rfl, h1, h2, h3⟩ := a.list
    obtain rfl := h3.bls_of
    exact ⟨p, ns, rfl, .inl (.inl h1), q _ H (.refl H) (.bl _)⟩
  · exact q.elim
/-- max, min of two; of a list -/
def o2I (g : Int → Int → D) : List D → (D → Prop) → Prop
  | [.int i, .int j], Q => Q (g i j)
  | _, _ => False
theorem ca2 {f : Value} {g : Int → Int → Int} {r : List V → Hp → VK → Prop} (hr : CallR X f r) (hi : ∀ i j H Q, Q (.int (g i j)) H → r [.int i, .int j] H Q) : CaD X K f (o2I fun i j => .int (g i j)) := by
  refine ⟨fun ds Q Q' i q => ?_, r, hr, fun O H vs ds Q l as q => ?_⟩
  · unfold o2I at q ⊢
    split at q
    · exact i _ q
    · exact q
  · unfold o2I at q
    split at q
    · obtain ⟨v, w, rfl, a, b⟩ := as.two
      rw [a.int, b.int]
      exact hi _ _ H Q (q _ H (.refl H) (.int _))
    · exact q.elim
theorem c_max2 (hc : X.calm = true := by rfl) : CaD X K (.builtin "max") (o2I fun i j => .int (if j > i then j else i)) := ca2 (call_max2 hc) fun i j H Q q => ⟨i, j, rfl, q⟩
theorem c_min2 (hc : X.calm = true := by rfl) : CaD X K (.builtin "min") (o2I fun i j => .int (if j < i then j else i)) := ca2 (call_min2 hc) fun i j H Q q => ⟨i, j, rfl, q⟩
def gMost (R : Int → Int → Prop) : D → (D → Prop) → Prop
  | .lst l, Q => ∃ ns : List Int, l = ns.map D.int ∧ 0 < ns.length ∧ ∀ m, m ∈ ns → (∀ y, y ∈ ns → R m y) → Q (.int m)
  | _, _ => False
theorem gMost_mono {R : Int → Int → Prop} (d : D) {Q Q' : D → Prop} (i : ∀ d, Q d → Q' d) (q : gMost R d Q) : gMost R d Q' := by
  unfold gMost at q ⊢
  split at q
  · obtain ⟨ns, h, h2, q⟩ := q; exact ⟨ns, h, h2, fun m a b => i _ (q m a b)⟩
  · exact q
theorem c_max (hc : X.calm = true := by rfl) (hK : X.K = K := by rfl) : CaD X K (.builtin "max") (o1 (gMost fun m y => y ≤ m)) := by
  subst hK
  refine ca1 (cr_max hc) (fun d => gMost_mono d) fun O H v d Q l a q => ?_
  unfold gMost at q
  split at q
  · obtain ⟨ns, rfl, h0, q⟩ := q
    obtain ⟨p, vs, rfl, h1, h2, h3⟩ := a.list
    obtain rfl := h3.ints_of
    exact ⟨p, ns, rfl, .inl (.inl h1), h0, fun m a b => q m a b _ H (.refl H) (.int _)⟩
  · exact q.elim
theorem c_min (hc : X.calm = true := by rfl) (hK : X.K = K := by rfl) : CaD X K (.builtin "min") (o1 (gMost fun m y => m ≤ y)) := by
  subst hK
  refine ca1 (cr_min hc) (fun d => gMost_mono d) fun O H v d Q l a q => ?_
  unfold gMost at q
  split at q
  · obtain ⟨ns, rfl, h0, q⟩ := q
    obtain ⟨p, vs, rfl, h1, h2, h3⟩ := a.list
    obtain rfl := h3.ints_of
    exact ⟨p, ns, rfl, .inl (.inl h1), h0, fun m a b => q m a b _ H (.refl H) (.int _)⟩
  · exact q.elim
/-- sorted of ints -/
def gSort : D → (List D → Prop) → Prop
  | .lst l, Q => ∃ ns : List Int, l = ns.map D.int ∧ ∀ ns' : List Int, ns'.Perm ns → ns'.Pairwise (· ≤ ·) → Q (ns'.map D.int)
  | _, _ => False
theorem c_sorted (hK : X.K = K := by rfl) : CaF X K (.builtin "sorted") (o1F gSort) := by
  subst hK
  refine ca1F cr_sortedI (fun d Q Q' i q => ?_) fun O H v d Q l a q => ?_
  · unfold gSort at q ⊢
    split at q
    · obtain ⟨ns, h, q⟩ := q; exact ⟨ns, h, fun m a b => i _ (q m a b)⟩
    · exact q
  · unfold gSort at q
    split at q
    · obtain ⟨ns, rfl, q⟩ := q
      obtain ⟨p, vs, rfl, h1, h2, h3⟩ := a.list
      obtain rfl := h3.ints_of
      refine ⟨p, ns, rfl, .inl (.inl h1), fun ns' t pm pw n => q ns' pm pw t _ _ (same_new n) n upd_same ?_ (.ints _)⟩
      rw [List.length_map] at h2 ⊢
      rw [pm.length_eq]; exact h2
    · exact q.elim
/-- list(xs) -/
def gList : D → (List D → Prop) → Prop
  | .lst l, Q | .tup l, Q | .scr l, Q => Q l
  | _, _ => False
theorem c_list (hK : X.K = K := by rfl) : CaF X K (.type "list") (o1F gList) := by
  subst hK
  refine ca1F call_list_of (fun d Q Q' i q => ?_) fun O H v d Q l a q => ?_
  · unfold gList at q ⊢
    split at q
    · exact i _ q
    · exact i _ q
    · exact i _ q
    · exact q
  · unfold gList at q
    split at q
    · obtain ⟨p, vs, rfl, h1, h2, h3⟩ := a.list
      exact ⟨p, vs, rfl, .inl (.inl (.inl h1)), fun t n => q t _ _ (same_new n) n upd_same h2 (h3.mono (hid_new n (same_new n)))⟩
    · obtain ⟨p, vs, rfl, h1, h2, h3, _⟩ := a.tuple
      exact ⟨p, vs, rfl, .inr h1, fun t n => q t _ _ (same_new n) n upd_same h2 (h3.mono (hid_new n (same_new n)))⟩
    · obtain ⟨p, vs, rfl, h1, h2, h3⟩ := a.script
      exact ⟨p, vs, rfl, .inl h1, fun t n => q t _ _ (same_new n) n upd_same h2 (h3.mono (hid_new n (same_new n)))⟩
    · exact q.elim
/-- tuple(xs) -/
def gTuple : D → (D → Prop) → Prop
  | .lst l, Q | .tup l, Q | .scr l, Q => Q (.tup l)
  | _, _ => False
theorem c_tuple (hK : X.K = K := by rfl) : CaD X K (.type "tuple") (o1 gTuple) := by
  subst hK
  refine ca1 call_tuple_of (fun d Q Q' i q => ?_) fun O H v d Q l a q => ?_
  · unfold gTuple at q ⊢
    split at q
    · exact i _ q
    · exact i _ q
    · exact i _ q
    · exact q
  · unfold gTuple at q
    split at q
    · obtain ⟨p, vs, rfl, h1, h2, h3⟩ := a.list
      exact ⟨p, vs, rfl, .inl ⟨.inl (.inl h1), fun t n => q _ _ (same_new n) (At.newT l n h2 h3)⟩⟩
    · obtain ⟨p, vs, rfl, h1, h2, h3, h4⟩ := a.tuple
      exact ⟨p, vs, rfl, .inr ⟨h1, q _ H (.refl H) (.tup h4 h2 h3)⟩⟩
    · obtain ⟨p, vs, rfl, h1, h2, h3⟩ := a.script
      exact ⟨p, vs, rfl, .inl ⟨h1, fun t n => q _ _ (same_new n) (At.newT l n h2 h3)⟩⟩
    · exact q.elim
/-! ### isinstance -/
def tyN : D → String
  | .non => "NoneType"
  | .bl _ => "bool"
  | .int _ => "int"
  | .str _ => "str"
  | .tup _ => "tuple"
  | .ptp _ => "tuple"
  | .lst _ | .scr _ => "list"
  | .dic _ _ => "dict"
  | .ref _ => ""
def notRef : D → Bool
  | .ref _ => false
  | _ => true
theorem OAt.ty {O : List Addr} {H : Hp} {v : V} {d : D} (h : OAt K O H v d) (n : notRef d = true) : TyX K H v (.type (tyN d)) := by
  cases d with
  | non => rw [h.non]; exact .base .non
  | bl b => rw [h.bl]; exact .base (.bl b)
  | int i => rw [h.int]; exact .base (.int i)
  | str z => rw [h.str]; exact .base (.str z)
  | lst l => obtain ⟨p, vs, rfl, h1, _⟩ := h.list; exact .base (.lst h1)
  | tup l =>
    obtain ⟨p, vs, rfl, h1, _⟩ := h.tuple
    rcases h1 with (h1 | ⟨o, h1⟩) | ⟨o, its, n, h1, h2, _⟩
    · exact .base (.tup h1)
    · exact .fTuple h1
    · exact .kTuple h1 h2
  | ptp l =>
    obtain ⟨p, vs, rfl, h1, _⟩ := h.tupOf.tuple
    rcases h1 with (h1 | ⟨o, h1⟩) | ⟨o, its, n, h1, h2, _⟩
    · exact .base (.tup h1)
    · exact .fTuple h1
    · exact .kTuple h1 h2
  | scr l =>
    obtain ⟨p, vs, rfl, h1, _⟩ := h.script
    rcases h1 with (h1 | ⟨o, h1⟩) | ⟨o, its, n, h1, h2, _⟩
    · exact .base (.lst h1)
    · exact .base (.frz h1)
    · exact .kList h1 h2
  | dic ks l =>
    obtain ⟨p, vs, rfl, h1, _⟩ := h.dict
    rcases h1 with h1 | ⟨o, h1⟩
    · exact .base (.dK h1)
    · exact .fDict h1
  | ref a => cases n
structure Kind (K : PySem.W.Frag) (T : String) (p : D → Bool) : Prop where
  is : ∀ d, notRef d = true → PySem.W.kitOne K (.type (tyN d)) (.type T) = some (p d)
def isInt : D → Bool
  | .int _ | .bl _ => true
  | _ => false
def isBl : D → Bool
  | .bl _ => true
  | _ => false
def isLst : D → Bool
  | .lst _ | .scr _ => true
  | _ => false
def isTup : D → Bool
  | .tup _ => true
  | .ptp _ => true
  | _ => false
def isStr : D → Bool
  | .str _ => true
  | _ => false
def isDic : D → Bool
  | .dic _ _ => true
  | _ => false
theorem k_int : Kind K "int" isInt := ⟨fun d h => by
  cases d with
  | ref a => cases h
  | non => exact kit_ty (a := "NoneType") (show kitB "NoneType" "int" = some false by decide +kernel)
  | bl b => exact kit_ty (a := "bool") (show kitB "bool" "int" = some true by decide +kernel)
  | int i => exact kit_ty (a := "int") (show kitB "int" "int" = some true by decide +kernel)
  | str z => exact kit_ty (a := "str") (show kitB "str" "int" = some false by decide +kernel)
  | tup l => exact kit_ty (a := "tuple") (show kitB "tuple" "int" = some false by decide +kernel)
  | ptp l => exact kit_ty (a := "tuple") (show kitB "tuple" "int" = some false by decide +kernel)
  | lst l => exact kit_ty (a := "list") (show kitB "list" "int" = some false by decide +kernel)
  | scr l => exact kit_ty (a := "list") (show kitB "list" "int" = some false by decide +kernel)
  | dic ks l => exact kit_ty (a := "dict") (show kitB "dict" "int" = some false by decide +kernel)⟩
theorem k_bool : Kind K "bool" isBl := ⟨fun d h => by
  cases d with
  | ref a => cases h
  | non => exact kit_ty (a := "NoneType") (show kitB "NoneType" "bool" = some false by decide +kernel)
  | bl b => exact kit_ty (a := "bool") (show kitB "bool" "bool" = some true by decide +kernel)
  | int i => exact kit_ty (a := "int") (show kitB "int" "bool" = some false by decide +kernel)
  | str z => exact kit_ty (a := "str") (show kitB "str" "bool" = some false by decide +kernel)
  | tup l => exact kit_ty (a := "tuple") (show kitB "tuple" "bool" = some false by decide +kernel)
  | ptp l => exact kit_ty (a := "tuple") (show kitB "tuple" "bool" = some false by decide +kernel)
  | lst l => exact kit_ty (a := "list") (show kitB "list" "bool" = some false by decide +kernel)
  | scr l => exact kit_ty (a := "list") (show kitB "list" "bool" = some false by decide +kernel)
  | dic ks l => exact kit_ty (a := "dict") (show kitB "dict" "bool" = some false by decide +kernel)⟩
theorem k_list : Kind K "list" isLst := ⟨fun d h => by
  cases d with
  | ref a => cases h
  | non => exact kit_ty (a := "NoneType") (show kitB "NoneType" "list" = some false by decide +kernel)
  | bl b => exact kit_ty (a := "bool") (show kitB "bool" "list" = some false by decide +kernel)
  | int i => exact kit_ty (a := "int") (show kitB "int" "list" = some false by decide +kernel)
  | str z => exact kit_ty (a := "str") (show kitB "str" "list" = some false by decide +kernel)
  | tup l => exact kit_ty (a := "tuple") (show kitB "tuple" "list" = some false by decide +kernel)
  | ptp l => exact kit_ty (a := "tuple") (show kitB "tuple" "list" = some false by decide +kernel)
  | lst l => exact kit_ty (a := "list") (show kitB "list" "list" = some true by decide +kernel)
  | scr l => exact kit_ty (a := "list") (show kitB "list" "list" = some true by decide +kernel)
  | dic ks l => exact kit_ty (a := "dict") (show kitB "dict" "list" = some false by decide +kernel)⟩
theorem k_tuple : Kind K "tuple" isTup := ⟨fun d h => by
  cases d with
  | ref a => cases h
  | non => exact kit_ty (a := "NoneType") (show kitB "NoneType" "tuple" = some false by decide +kernel)
  | bl b => exact kit_ty (a := "bool") (show kitB "bool" "tuple" = some false by decide +kernel)
  | int i => exact kit_ty (a := "int") (show kitB "int" "tuple" = some false by decide +kernel)
  | str z => exact kit_ty (a := "str") (show kitB "str" "tuple" = some false by decide +kernel)
  | tup l => exact kit_ty (a := "tuple") (show kitB "tuple" "tuple" = some true by decide +kernel)
  | ptp l => exact kit_ty (a := "tuple") (show kitB "tuple" "tuple" = some true by decide +kernel)
  | lst l => exact kit_ty (a := "list") (show kitB "list" "tuple" = some false by decide +kernel)
  | scr l => exact kit_ty (a := "list") (show kitB "list" "tuple" = some false by decide +kernel)
  | dic ks l => exact kit_ty (a := "dict") (show kitB "dict" "tuple" = some false by decide +kernel)⟩
theorem k_str : Kind K "str" isStr := ⟨fun d h => by
  cases d with
  | ref a => cases h
  | non => exact kit_ty (a := "NoneType") (show kitB "NoneType" "str" = some false by decide +kernel)
  | bl b => exact kit_ty (a := "bool") (show kitB "bool" "str" = some false by decide +kernel)
  | int i => exact kit_ty (a := "int") (show kitB "int" "str" = some false by decide +kernel)
  | str z => exact kit_ty (a := "str") (show kitB "str" "str" = some true by decide +kernel)
  | tup l => exact kit_ty (a := "tuple") (show kitB "tuple" "str" = some false by decide +kernel)
  | ptp l => exact kit_ty (a := "tuple") (show kitB "tuple" "str" = some false by decide +kernel)
  | lst l => exact kit_ty (a := "list") (show kitB "list" "str" = some false by decide +kernel)
  | scr l => exact kit_ty (a := "list") (show kitB "list" "str" = some false by decide +kernel)
  | dic ks l => exact kit_ty (a := "dict") (show kitB "dict" "str" = some false by decide +kernel)⟩
theorem k_dict : Kind K "dict" isDic := ⟨fun d h => by
  cases d with
  | ref a => cases h
  | non => exact kit_ty (a := "NoneType") (show kitB "NoneType" "dict" = some false by decide +kernel)
  | bl b => exact kit_ty (a := "bool") (show kitB "bool" "dict" = some false by decide +kernel)
  | int i => exact kit_ty (a := "int") (show kitB "int" "dict" = some false by decide +kernel)
  | str z => exact kit_ty (a := "str") (show kitB "str" "dict" = some false by decide +kernel)
  | tup l => exact kit_ty (a := "tuple") (show kitB "tuple" "dict" = some false by decide +kernel)
  | ptp l => exact kit_ty (a := "tuple") (show kitB "tuple" "dict" = some false by decide +kernel)
  | lst l => exact kit_ty (a := "list") (show kitB "list" "dict" = some false by decide +kernel)
  | scr l => exact kit_ty (a := "list") (show kitB "list" "dict" = some false by decide +kernel)
  | dic ks l => exact kit_ty (a := "dict") (show kitB "dict" "dict" = some true by decide +kernel)⟩
def dIsi (p : D → Bool) (x : DX) : DX := fun δ Q => x δ fun d => notRef d = true ∧ Q (.bl (p d))
theorem d_isi {T : String} {x : Str} {p : D → Bool} {y : DX} {p1 p2 pos : Pos} (k : Kind K T p) (hm : X.mg "isinstance" = none) (hT : X.mg x = none) (ha : QD X K e y) (hK : X.K = K := by rfl) (hv : bootBuiltins x = some (.type T) := by decide +kernel)
    (hg : Gl X "isinstance" := by rfl) (hgT : Gl X x := by rfl) (hn : x ≠ "__name__" := by decide) (hd : (x == ("__debug__" : Str)) = false := by decide)
    (he : starEach [e, .Name x p2] X.env = (false, eval e X.env) :: starEach [.Name x p2] X.env := by rfl) (hpl : (backTo pos (starEach [.Name x p2] X.env)).any (·.1) = false := by rfl) (hs : starEach [.Name x p2] X.env = (false, eval (.Name x p2) X.env) :: starEach [] X.env := by rfl) :
    PD X K (.Call (.Name "isinstance" p1) [e, .Name x p2] [] pos) (dIsi p y) := by
  subst hK
  refine ⟨fun δ Q Q' i q => ha.mono δ (fun d q => ⟨q.1, i _ q.2⟩) q, pe_weak (pe_callB call_isi hg hm (by decide +kernel) (pa_cons ha.pe (pa_cons (pe_bltn (v := .ty T) hgT hT hv rfl hn hd) pa_nil hs) he) (he := he) (hpl := hpl)) fun σ H Q ⟨Hb, B, O, δ, S, q⟩ => ⟨Hb, B, O, δ, S, ha.mono δ (fun d g v H1 s1 a => ?_) q⟩⟩
  exact ⟨v, .ty T, _, _, p d, rfl, .ty T, a.ty g.1, k.is d g.1, g.2 _ H1 s1 (.bl _)⟩
end
end DL

namespace DL
open PySem L2
/-! ### own defs -/
structure Cal (P : Program) (w : World) (K : PySem.W.Frag) (mg : Str → Option Value) (base : Heap) (CX : CXT) (k : Nat) (x : Str) (ps : List Str) (sp : Sp) : Prop where
  ex : ∃ (f : Addr) (fd : FuncData), mg x = some (.ref f) ∧ PySem.W.keepIn K (.ref f) = true ∧ Binds K fd ps [] ∧ FnOk P w K mg base CX k f fd ps sp
def Df (K : PySem.W.Frag) (mg : Str → Option Value) (x : Str) (st : Stmt) (ps : List Str) : Prop :=
  ∃ (f : Addr) (fd : FuncData), mg x = some (.ref f) ∧ Fun K x x st f fd ∧ Binds K fd ps []
theorem Cal.mono {P : Program} {w : World} {K : PySem.W.Frag} {mg : Str → Option Value} {base : Heap} {CX : CXT} {j k : Nat} {x : Str} {ps : List Str} {sp : Sp} (C : Cal P w K mg base CX j x ps sp) (h : j ≤ k) : Cal P w K mg base CX k x ps sp := by
  obtain ⟨f, fd, a, b, c, d⟩ := C.ex
  exact ⟨f, fd, a, b, c, d.mono h⟩
theorem Cal.imp {P : Program} {w : World} {K : PySem.W.Frag} {mg : Str → Option Value} {base : Heap} {CX : CXT} {k : Nat} {x : Str} {ps : List Str} {sp sp' : Sp} (C : Cal P w K mg base CX k x ps sp) (h : ∀ vs H Q E, sp' vs H Q E → sp vs H Q E) : Cal P w K mg base CX k x ps sp' := by
  obtain ⟨f, fd, a, b, c, d⟩ := C.ex
  exact ⟨f, fd, a, b, c, d.imp h⟩
abbrev Rf := List D → (D → Prop) → Prop
/-- what a def gives: R from its arguments, nothing changed -/
def spW (K : PySem.W.Frag) (R : Rf) : Sp := fun vs H Q _ => ∃ B ds, (∀ b ∈ B, H b ≠ none) ∧ AtAll K (hid B H) vs ds ∧ R ds fun d => ∀ v H', Same H H' → At K (hid B H') v d → Q v H'
abbrev Rx := List D → (D → Prop) → (Addr → Prop) → Prop
/-- .. of a def that may raise an error of a class without more -/
def spX (K : PySem.W.Frag) (R : Rx) : Sp := fun vs H Q E => ∃ B ds, (∀ b ∈ B, H b ≠ none) ∧ AtAll K (hid B H) vs ds ∧ R ds (fun d => ∀ v H', Same H H' → At K (hid B H') v d → Q v H') fun C => ∀ H', Same H H' → E (.ref C) none H'
def MonoR (R : Rf) : Prop := ∀ ds {Q Q' : D → Prop}, (∀ d, Q d → Q' d) → R ds Q → R ds Q'
section
variable {X : Cx} {K : PySem.W.Frag} {e a b c : Expr} {pos : Pos}
def dCall (R : Rf) (xs : List DX) : DX := fun δ Q => dArgs xs δ fun ds => R ds Q
theorem d_call {k : Nat} {x : Str} {ps : List Str} {R : Rf} {es : List Expr} {xs : List DX} {p : Pos} (C : Cal X.prog X.w X.K X.mg X.base CX0 k x ps (spW K R)) (hm : MonoR R) (hr : Room k X.A) (ha : AD X K (e :: es) xs) (hg : Gl X x := by rfl) (hdb : (x == ("__debug__" : Str)) = false := by decide)
    (he : starEach (e :: es) X.env = (false, eval e X.env) :: starEach es X.env := by rfl) (hpl : (backTo pos (starEach es X.env)).any (·.1) = false := by rfl) : PD X K (.Call (.Name x p) (e :: es) [] pos) (dCall R xs) := by
  obtain ⟨f, fd, h1, h2, h3, h4⟩ := C.ex
  refine ⟨fun δ Q Q' i q => ha.mono δ (fun ds => hm ds i) q, pe_weak (pe_call h4 hr hg h1 h2 h3 .nil pass0 ha.pa hdb he hpl) fun σ H Q ⟨Hb, B, O, δ, S, q⟩ => ⟨Hb, B, O, δ, S, ha.mono δ (fun ds g vs H1 s1 as => ?_) q⟩⟩
  show spW K R (vs ++ []) H1 Q E0
  rw [List.append_nil]
  exact ⟨O, ds, fun p hp => live_same (S.live p hp) s1, as, hm ds (fun d k v H' s a => k v H' (s1.trans s) a) g⟩
theorem d_call0 {k : Nat} {x : Str} {ps : List Str} {R : Rf} {p : Pos} (C : Cal X.prog X.w X.K X.mg X.base CX0 k x ps (spW K R)) (hm : MonoR R) (hr : Room k X.A) (hg : Gl X x := by rfl) (hdb : (x == ("__debug__" : Str)) = false := by decide) : PD X K (.Call (.Name x p) [] [] pos) (dCall R []) := by
  obtain ⟨f, fd, h1, h2, h3, h4⟩ := C.ex
  refine ⟨fun δ Q Q' i q => hm [] i q, pe_weak (pe_call0 h4 hr hg h1 h2 h3 .nil pass0 hdb) fun σ H Q ⟨Hb, B, O, δ, S, q⟩ => ?_⟩
  exact ⟨O, [], S.live, .nil, q⟩
/-! ### lists of ranges -/
def rgD (a b : Int) : List D := (List.range (b - a).toNat).map fun i => D.int (a + (i : Nat))
theorem rg_at {H : Hp} (a b : Int) : AtAll K H (rgV a b) (rgD a b) := by
  have : ∀ l : List Nat, AtAll K H (l.map fun i => V.int (a + (i : Nat))) (l.map fun i => D.int (a + (i : Nat))) := fun l => by
    induction l with
    | nil => exact .nil
    | cons x l ih => exact .cons (.int _) ih
  exact this _
theorem rg_len (a b : Int) : (rgD a b).length = (b - a).toNat := by unfold rgD; rw [List.length_map, List.length_range]
def RgB (a b : Int) : Prop := -1000000 ≤ a ∧ a ≤ 1000000 ∧ -1000000 ≤ b ∧ b ≤ 1000000 ∧ (b - a).toNat ≤ LIM
theorem RgB.ok {a b : Int} (h : RgB a b) : RgOk a b := by
  obtain ⟨h1, h2, h3, h4, h5⟩ := h
  exact ⟨by omega, by omega, by omega, by omega, Nat.le_trans h5 (by decide)⟩
abbrev DR := List Sl → (Int → Int → Prop) → Prop
def tR (K : PySem.W.Frag) (x : DR) : St → Hp → (Int → Int → Hp → Prop) → Prop := fun σ H Q => ∃ Hb B O δ, Sta K Hb B O H σ δ ∧ x δ fun i j => ∀ H', Same H H' → Q i j H'
structure RD (X : Cx) (K : PySem.W.Frag) (e : Expr) (x : DR) : Prop where
  mono : ∀ δ {Q Q' : Int → Int → Prop}, (∀ i j, Q i j → Q' i j) → x δ Q → x δ Q'
  rg : PRg X e (tR K x)
theorem r_1 {x : DX} {p : Pos} (hm : X.mg "range" = none) (ha : QD X K a x) (hg : Gl X "range" := by rfl) (na : starEach [a] X.env = (false, eval a X.env) :: starEach [] X.env := by rfl) : RD X K (.Call (.Name "range" p) [a] [] pos) (fun δ Q => x δ (asI fun n => Q 0 n)) := by
  refine ⟨fun δ Q Q' i q => ha.mono δ (asI_mono fun _ => i _ _) q, fun pins s σ H Q I ⟨Hb, B, O, δ, S, q⟩ => prg_1 hg hm ha.pe na pins s σ H Q I ⟨Hb, B, O, δ, S, ha.mono δ (fun d k v H' s a => ?_) q⟩⟩
  obtain ⟨i, rfl, k⟩ := asI_at k a
  exact ⟨i, rfl, k H' s⟩
theorem r_2 {x y : DX} {p : Pos} (hm : X.mg "range" = none) (ha : QD X K a x) (hb : QD X K b y) (hg : Gl X "range" := by rfl) (na : starEach [a, b] X.env = (false, eval a X.env) :: starEach [b] X.env := by rfl)
    (nb : starEach [b] X.env = (false, eval b X.env) :: starEach [] X.env := by rfl) (hp : (backTo pos (starEach [b] X.env)).any (·.1) = false := by rfl) : RD X K (.Call (.Name "range" p) [a, b] [] pos) (fun δ Q => x δ (asI fun n => y δ (asI fun m => Q n m))) := by
  refine ⟨fun δ Q Q' i q => ha.mono δ (asI_mono fun _ => hb.mono δ (asI_mono fun _ => i _ _)) q, fun pins s σ H Q I ⟨Hb, B, O, δ, S, q⟩ => prg_2 hg hm ha.pe hb.pe na nb hp pins s σ H Q I ⟨Hb, B, O, δ, S, ha.mono δ (fun d k v H1 s1 a => ?_) q⟩⟩
  obtain ⟨i, rfl, k⟩ := asI_at k a
  refine ⟨Hb, B, O, δ, S.grow s1, hb.mono δ (fun d k v H2 s2 a => ?_) k⟩
  obtain ⟨j, rfl, k⟩ := asI_at k a
  exact ⟨i, j, rfl, rfl, k H2 (s1.trans s2)⟩
def fRg (x : DR) : DAs := fun δ Q => x δ fun i j => RgB i j ∧ Q (rgD i j)
theorem f_listRg {x : DR} {p : Pos} (hm : X.mg "list" = none) (ha : RD X K e x) (hc : X.calm = true := by rfl) (hg : Gl X "list" := by rfl) (na : starEach [e] X.env = (false, eval e X.env) :: starEach [] X.env := by rfl) : FD X K (.Call (.Name "list" p) [e] [] pos) (fRg x) := by
  refine ⟨fun δ Q Q' i q => ha.mono δ (fun _ _ q => ⟨q.1, i _ q.2⟩) q, pe_weak (pe_listRg hc hg hm ha.rg na) fun σ H Q ⟨Hb, B, O, δ, S, q⟩ => ⟨Hb, B, O, δ, S, ha.mono δ (fun i j ⟨k1, k2⟩ H1 s1 => ⟨k1.ok, fun t n => ?_⟩) q⟩⟩
  exact k2 t _ _ (s1.trans (same_new n)) (s1.free n) upd_same (by rw [rg_len]; exact k1.2.2.2.2) (rg_at _ _)
def dRg (x : DR) : DX := fun δ Q => x δ fun i j => RgB i j ∧ Q (.tup (rgD i j))
theorem d_tupRg {x : DR} {p : Pos} (hm : X.mg "tuple" = none) (ha : RD X K e x) (hc : X.calm = true := by rfl) (hg : Gl X "tuple" := by rfl) (na : starEach [e] X.env = (false, eval e X.env) :: starEach [] X.env := by rfl) : PD X K (.Call (.Name "tuple" p) [e] [] pos) (dRg x) := by
  refine ⟨fun δ Q Q' i q => ha.mono δ (fun _ _ q => ⟨q.1, i _ q.2⟩) q, pe_weak (pe_tupRg hc hg hm ha.rg na) fun σ H Q ⟨Hb, B, O, δ, S, q⟩ => ⟨Hb, B, O, δ, S, ha.mono δ (fun i j ⟨k1, k2⟩ H1 s1 => ⟨k1.ok, fun t n => ?_⟩) q⟩⟩
  exact k2 _ _ (s1.trans (same_new n)) (At.newT (fun b hb => live_same (S.live b hb) s1) n (by rw [rg_len]; exact k1.2.2.2.2) (rg_at _ _))
end
/-! ### what is walked -/
/-- from the things that stand in H0 and are values in Hf: the items l, one after the other -/
def WalkD (K : PySem.W.Frag) (H0 Hf : Hp) (l : List D) (J : It) : Prop := ∀ i H, Same H0 H →
  (∀ d, l[i]? = some d → J.go i H ∧ ∀ x H', J.yld i H x H' → Same H H' ∧ ∀ O, (∀ q ∈ O, H q ≠ none) → Same Hf (hid O H) → At K (hid O H') x d) ∧ (l.length ≤ i → J.stop i H)
/-- over values: what is walked stands among the values; over own things too -/
def iP (K : PySem.W.Frag) (src : DAs) : TI := fun σ H R => ∃ Hb B O δ, Sta K Hb B O H σ δ ∧ src δ fun l => ∀ J H', Same H H' → l.length ≤ LIM → WalkD K (hid O H') (hid O H') l J → R J H'
def iQ (K : PySem.W.Frag) (src : DAs) : TI := fun σ H R => ∃ Hb B O δ, Sta K Hb B O H σ δ ∧ src δ fun l => ∀ J H', Same H H' → l.length ≤ LIM → WalkD K H' (hid O H') l J → R J H'
structure IP (X : Cx) (K : PySem.W.Frag) (tg e : Expr) (src : DAs) : Prop where
  mono : MonoA src
  pi : PI X tg e (iP K src)
structure IQ (X : Cx) (K : PySem.W.Frag) (tg e : Expr) (src : DAs) : Prop where
  mono : MonoA src
  pi : PI X tg e (iQ K src)
section
variable {X : Cx} {K : PySem.W.Frag} {tg e a b c : Expr} {pos : Pos}
theorem pi_weak {t t' : TI} (h : PI X tg e t) (i : ∀ σ H Q, t' σ H Q → t σ H Q) : PI X tg e t' := ⟨fun pins s σ H Q I q => h.run pins s σ H Q I (i _ _ _ q)⟩
theorem IP.q {src : DAs} (h : IP X K tg e src) : IQ X K tg e src := ⟨h.mono, pi_weak h.pi fun σ H R ⟨Hb, B, O, δ, S, q⟩ => ⟨Hb, B, O, δ, S, h.mono δ (fun l k J H' s n w => k J H' s n fun i H2 s2 => w i H2 (hid_out.trans s2)) q⟩⟩
theorem walk_list {H0 Hf : Hp} {p : Addr} {vs : List V} {l : List D} (h : SqL K H0 p vs) (a : AtAll K Hf vs l) : WalkD K H0 Hf l (Itl K p) := fun i H s => by
  refine ⟨fun d e => ?_, fun n => ⟨vs, s.seq h, by rw [a.len]; exact n⟩⟩
  obtain ⟨v, ev, av⟩ := a.get' e
  refine ⟨⟨vs, v, s.seq h, ev⟩, fun x H' y => ?_⟩
  obtain ⟨rfl, y⟩ := y
  have := y vs (s.seq h)
  rw [ev] at this
  obtain rfl := Option.some.inj this
  exact ⟨.refl _, fun O hO sf => av.mono sf⟩
theorem walk_tup {H0 Hf : Hp} {p : Addr} {vs : List V} {l : List D} (h : SqT K H0 p vs) (a : AtAll K Hf vs l) : WalkD K H0 Hf l (Itt K p) := fun i H s => by
  refine ⟨fun d e => ?_, fun n => ⟨vs, sqT_mono s h, by rw [a.len]; exact n⟩⟩
  obtain ⟨v, ev, av⟩ := a.get' e
  refine ⟨⟨vs, v, sqT_mono s h, ev⟩, fun x H' y => ?_⟩
  obtain ⟨rfl, y⟩ := y
  have := y vs (sqT_mono s h)
  rw [ev] at this
  obtain rfl := Option.some.inj this
  exact ⟨.refl _, fun O hO sf => av.mono sf⟩
theorem rgD_get {lo hi : Int} {i : Nat} {d : D} (h : (rgD lo hi)[i]? = some d) : i < (hi - lo).toNat ∧ d = .int (lo + (i : Nat)) := by
  have hi' := (List.getElem?_eq_some_iff.mp h).1
  rw [rg_len] at hi'
  refine ⟨hi', ?_⟩
  unfold rgD at h
  rw [List.getElem?_map, List.getElem?_range hi'] at h
  exact (Option.some.inj h).symm
theorem walk_range {H0 Hf : Hp} (lo hi : Int) : WalkD K H0 Hf (rgD lo hi) (Itr lo (hi - lo).toNat) := fun i H s => by
  refine ⟨fun d e => ?_, fun n => by rw [rg_len] at n; exact n⟩
  obtain ⟨h1, rfl⟩ := rgD_get e
  refine ⟨h1, fun x H' y => ?_⟩
  obtain ⟨rfl, rfl⟩ := y
  exact ⟨.refl _, fun O _ _ => .int _⟩
/-- a list or a tuple of values -/
def asL (Q : List D → Prop) : D → Prop
  | .lst l => Q l
  | .scr l => Q l
  | _ => False
theorem asL_mono {Q Q' : List D → Prop} (i : ∀ l, Q l → Q' l) (d : D) (q : asL Q d) : asL Q' d := by
  unfold asL at q ⊢
  split at q
  · exact i _ q
  · exact i _ q
  · exact q
theorem asL_of {Q : List D → Prop} {d : D} (q : asL Q d) : ∃ l, (d = .lst l ∨ d = .scr l) ∧ Q l := by
  unfold asL at q
  split at q
  · exact ⟨_, .inl rfl, q⟩
  · exact ⟨_, .inr rfl, q⟩
  · exact q.elim
theorem At.asL {H : Hp} {v : V} {d : D} {l : List D} (h : d = .lst l ∨ d = .scr l) (a : At K H v d) : ∃ p vs, v = .ref p ∧ SqL K H p vs ∧ l.length ≤ LIM ∧ AtAll K H vs l := by
  rcases h with rfl | rfl
  · cases a with
    | lst h1 h2 h3 => exact ⟨_, _, rfl, .inl (.inl h1), h2, h3⟩
  · cases a with
    | scr h1 h2 h3 => exact ⟨_, _, rfl, h1, h2, h3⟩
def asT (Q : List D → Prop) : D → Prop
  | .tup l => Q l
  | _ => False
theorem asT_mono {Q Q' : List D → Prop} (i : ∀ l, Q l → Q' l) (d : D) (q : asT Q d) : asT Q' d := by
  unfold asT at q ⊢
  split at q
  · exact i _ q
  · exact q
def sL (x : DX) : DAs := fun δ Q => x δ (asL Q)
def sT (x : DX) : DAs := fun δ Q => x δ (asT Q)
theorem sL_mono {x : DX} (h : MonoX x) : MonoA (sL x) := fun δ Q Q' i q => h δ (asL_mono i) q
theorem sT_mono {x : DX} (h : MonoX x) : MonoA (sT x) := fun δ Q Q' i q => h δ (asT_mono i) q
theorem i_list {x : DX} (h : PD X K e x) (hK : X.K = K := by rfl) : IP X K tg e (sL x) := by
  subst hK
  refine ⟨sL_mono h.mono, pi_weak (pi_list h.pe) fun σ H R ⟨Hb, B, O, δ, S, q⟩ => ⟨Hb, B, O, δ, S, h.mono δ (fun d k v H1 s1 a => ?_) q⟩⟩
  obtain ⟨l, hl, k⟩ := asL_of k
  obtain ⟨p, vs, rfl, h1, h2, h3⟩ := a.asL hl
  exact ⟨p, rfl, ⟨_, hid_out.seq h1⟩, k _ H1 s1 h2 (walk_list h1 h3)⟩
theorem i_listQ {x : DX} (h : QD X K e x) (hK : X.K = K := by rfl) : IQ X K tg e (sL x) := by
  subst hK
  refine ⟨sL_mono h.mono, pi_weak (pi_list h.pe) fun σ H R ⟨Hb, B, O, δ, S, q⟩ => ⟨Hb, B, O, δ, S, h.mono δ (fun d k v H1 s1 a => ?_) q⟩⟩
  obtain ⟨l, hl, k⟩ := asL_of k
  rcases hl with rfl | rfl
  · obtain ⟨p, vs, rfl, h1, h2, h3⟩ := a.list
    exact ⟨p, rfl, ⟨vs, .inl (.inl h1)⟩, k _ H1 s1 h2 (walk_list (.inl (.inl h1)) h3)⟩
  · obtain ⟨p, vs, rfl, h1, h2, h3⟩ := a.script
    exact ⟨p, rfl, ⟨vs, h1⟩, k _ H1 s1 h2 (walk_list h1 h3)⟩
theorem i_tup {x : DX} (h : PD X K e x) (hK : X.K = K := by rfl) : IP X K tg e (sT x) := by
  subst hK
  refine ⟨sT_mono h.mono, pi_weak (pi_tup h.pe) fun σ H R ⟨Hb, B, O, δ, S, q⟩ => ⟨Hb, B, O, δ, S, h.mono δ (fun d k v H1 s1 a => ?_) q⟩⟩
  unfold asT at k
  split at k
  · cases a with
    | tup h1 h2 h3 => exact ⟨_, rfl, ⟨_, sqT_mono hid_out h1⟩, k _ H1 s1 h2 (walk_tup h1 h3)⟩
  · exact k.elim
def sR1 (x : DX) : DAs := fun δ Q => x δ (asI fun n => RgB 0 n ∧ Q (rgD 0 n))
def sR2 (x y : DX) : DAs := fun δ Q => x δ (asI fun m => y δ (asI fun n => RgB m n ∧ Q (rgD m n)))
theorem i_range1 {x : DX} {p : Pos} (hm : X.mg "range" = none) (ha : QD X K a x) (hg : Gl X "range" := by rfl) (hs : starEach [a] X.env = [(false, eval a X.env)] := by rfl) : IP X K tg (.Call (.Name "range" p) [a] [] pos) (sR1 x) := by
  refine ⟨fun δ Q Q' i q => ha.mono δ (asI_mono fun _ q => ⟨q.1, i _ q.2⟩) q, pi_weak (pi_range1 hg hm (b_cons ha b_nil hs).pa hs) fun σ H R ⟨Hb, B, O, δ, S, q⟩ => ⟨Hb, B, O, δ, S, ha.mono δ (fun d k vs H1 s1 as => ?_) q⟩⟩
  obtain ⟨v, rfl, a⟩ := as.one
  obtain ⟨n, rfl, ⟨k1, k2, k3, k4, k5⟩, k⟩ := asI_at k a
  refine ⟨n, rfl, by omega, by omega, ?_⟩
  have := k (Itr 0 (n - 0).toNat) H1 s1 (by rw [rg_len]; exact k5) (walk_range 0 n)
  rw [Int.sub_zero] at this
  exact this
theorem i_range2 {x y : DX} {p : Pos} (hm : X.mg "range" = none) (ha : QD X K a x) (hb : QD X K b y) (hg : Gl X "range" := by rfl) (hs : starEach [a, b] X.env = [(false, eval a X.env), (false, eval b X.env)] := by rfl) (hs2 : starEach [b] X.env = [(false, eval b X.env)] := by rfl) :
    IP X K tg (.Call (.Name "range" p) [a, b] [] pos) (sR2 x y) := by
  have hs' : starEach [a, b] X.env = (false, eval a X.env) :: starEach [b] X.env := by rw [hs, hs2]
  refine ⟨fun δ Q Q' i q => ha.mono δ (asI_mono fun _ => hb.mono δ (asI_mono fun _ q => ⟨q.1, i _ q.2⟩)) q, pi_weak (pi_range2 hg hm (b_cons ha (b_cons hb b_nil hs2) hs').pa hs hs2) fun σ H R ⟨Hb, B, O, δ, S, q⟩ => ⟨Hb, B, O, δ, S, ?_⟩⟩
  show x δ fun d => y δ fun e => _
  refine ha.mono δ (fun d k => ?_) q
  cases d with
  | int i =>
    refine hb.mono δ (fun d k vs H1 s1 as => ?_) k
    obtain ⟨v, w, rfl, a1, a2⟩ := as.two
    obtain ⟨n, rfl, ⟨k1, k2, k3, k4, k5⟩, k⟩ := asI_at k a2
    rw [a1.int]
    exact ⟨i, n, rfl, ⟨by omega, by omega, by omega, by omega⟩, k _ H1 s1 (by rw [rg_len]; exact k5) (walk_range _ _)⟩
  | non | bl _ | str _ | tup _ | lst _ | scr _ | dic _ _ | ref _ | ptp _ => exact k.elim
/-- enumerate, reversed, zip over lists -/
def enumD (l : List D) : Nat → List D
  | i => (List.range l.length).map fun j => D.tup [.int ((i + j : Nat) : Int), l.getD j .non]
theorem walk_enum {H0 Hf : Hp} {p : Addr} {vs : List V} {l : List D} (h : SqL K H0 p vs) (a : AtAll K Hf vs l) : WalkD K H0 Hf (enumD l 0) (Ite K p) := fun i H s => by
  have en : (enumD l 0).length = l.length := by unfold enumD; rw [List.length_map, List.length_range]
  refine ⟨fun d e => ?_, fun n => ⟨vs, s.seq h, by rw [a.len, ← en]; exact n⟩⟩
  have hi : i < l.length := by rw [← en]; exact (List.getElem?_eq_some_iff.mp e).1
  unfold enumD at e
  rw [List.getElem?_map, List.getElem?_range hi] at e
  obtain rfl := (Option.some.inj e).symm
  have e' : l[i]? = some (l.getD i .non) := by rw [List.getD_eq_getElem?_getD, List.getElem?_eq_getElem hi]; rfl
  obtain ⟨v, ev, av⟩ := a.get' e'
  refine ⟨⟨vs, v, s.seq h, ev⟩, fun x H' y => ?_⟩
  obtain ⟨t, w, rfl, n, rfl, y⟩ := y
  have := y vs (s.seq h)
  rw [ev] at this
  obtain rfl := Option.some.inj this
  refine ⟨same_new n, fun O hO sf => At.newT hO n (by show 2 ≤ LIM; decide) (.cons ?_ (.cons (av.mono sf) .nil))⟩
  rw [Nat.zero_add]
  exact .int _
def sEn (x : DX) : DAs := fun δ Q => sL x δ fun l => Q (enumD l 0)
theorem i_enum {x : DX} {elts : List Expr} {kk : Nat} {tpos p : Pos} (hm : X.mg "enumerate" = none) (h : PD X K e x) (hK : X.K = K := by rfl) (hg : Gl X "enumerate" := by rfl) (hs : starEach [e] X.env = [(false, eval e X.env)] := by rfl) :
    IP X K (.Tuple elts kk tpos) (.Call (.Name "enumerate" p) [e] [] pos) (sEn x) := by
  subst hK
  refine ⟨fun δ Q Q' i q => sL_mono h.mono δ (fun l => i _) q, pi_weak (pi_enum hg hm (a_cons h a_nil hs).pa hs) fun σ H R ⟨Hb, B, O, δ, S, q⟩ => ⟨Hb, B, O, δ, S, h.mono δ (fun d k vs H1 s1 as => ?_) q⟩⟩
  have en : ∀ l : List D, (enumD l 0).length = l.length := fun l => by unfold enumD; rw [List.length_map, List.length_range]
  obtain ⟨l, hl, k⟩ := asL_of k
  cases as with
  | cons a r =>
    cases r
    obtain ⟨p, vs, rfl, h1, h2, h3⟩ := a.asL hl
    exact ⟨_, _, rfl, hid_out.seq h1, k _ H1 s1 (by rw [en]; exact h2) (walk_enum h1 h3)⟩
theorem walk_rev {H0 Hf : Hp} {p : Addr} {vs : List V} {l : List D} (h : SqL K H0 p vs) (a : AtAll K Hf vs l) : WalkD K H0 Hf l.reverse (Itv K p vs.length) := fun i H s => by
  refine ⟨fun d e => ?_, fun n => by rw [List.length_reverse, ← a.len] at n; exact n⟩
  have hi : i < l.length := by have := (List.getElem?_eq_some_iff.mp e).1; rw [List.length_reverse] at this; exact this
  rw [List.getElem?_reverse hi] at e
  obtain ⟨v, ev, av⟩ := a.get' e
  rw [← a.len] at ev hi
  refine ⟨⟨hi, vs, v, s.seq h, ev⟩, fun x H' y => ?_⟩
  obtain ⟨rfl, y⟩ := y
  have := y vs (s.seq h)
  rw [ev] at this
  obtain rfl := Option.some.inj this
  exact ⟨.refl _, fun O hO sf => av.mono sf⟩
def sRev (x : DX) : DAs := fun δ Q => sL x δ fun l => Q l.reverse
theorem i_rev {x : DX} {p : Pos} (hm : X.mg "reversed" = none) (h : PD X K e x) (hK : X.K = K := by rfl) (hg : Gl X "reversed" := by rfl) (hs : starEach [e] X.env = [(false, eval e X.env)] := by rfl) :
    IP X K tg (.Call (.Name "reversed" p) [e] [] pos) (sRev x) := by
  subst hK
  refine ⟨fun δ Q Q' i q => sL_mono h.mono δ (fun l => i _) q, pi_weak (pi_reversed hg hm (a_cons h a_nil hs).pa hs) fun σ H R ⟨Hb, B, O, δ, S, q⟩ => ⟨Hb, B, O, δ, S, h.mono δ (fun d k vs H1 s1 as => ?_) q⟩⟩
  obtain ⟨l, hl, k⟩ := asL_of k
  cases as with
  | cons a r =>
    cases r
    obtain ⟨p, vs, rfl, h1, h2, h3⟩ := a.asL hl
    exact ⟨_, _, rfl, hid_out.seq h1, k _ H1 s1 (by rw [List.length_reverse]; exact h2) (walk_rev h1 h3)⟩
def zipD : List D → List D → List D
  | a :: l, b :: m => .tup [a, b] :: zipD l m
  | _, _ => []
theorem zipD_len : ∀ l m : List D, (zipD l m).length = min l.length m.length
  | [], m => by simp [zipD]
  | a :: l, [] => by simp [zipD]
  | a :: l, b :: m => by rw [zipD, List.length_cons, zipD_len l m, List.length_cons, List.length_cons]; omega
theorem zipD_get : ∀ {l m : List D} {i : Nat} {d : D}, (zipD l m)[i]? = some d → ∃ a b, l[i]? = some a ∧ m[i]? = some b ∧ d = .tup [a, b]
  | [], m, i, d, h => by simp [zipD] at h
  | a :: l, [], i, d, h => by simp [zipD] at h
  | a :: l, b :: m, 0, d, h => by simp [zipD] at h; exact ⟨a, b, rfl, rfl, h.symm⟩
  | a :: l, b :: m, i + 1, d, h => by
    have h' : (zipD l m)[i]? = some d := by simpa [zipD] using h
    obtain ⟨x, y, h1, h2, h3⟩ := zipD_get h'
    exact ⟨x, y, by simpa using h1, by simpa using h2, h3⟩
theorem walk_zip {H0 Hf : Hp} {p r : Addr} {vs ws : List V} {l m : List D} (h : SqL K H0 p vs) (g : SqL K H0 r ws) (a : AtAll K Hf vs l) (b : AtAll K Hf ws m) : WalkD K H0 Hf (zipD l m) (Itz K p r) := fun i H s => by
  refine ⟨fun d e => ?_, fun n => ⟨vs, ws, s.seq h, s.seq g, by rw [zipD_len] at n; rw [a.len, b.len]; omega⟩⟩
  obtain ⟨x, y, h1, h2, rfl⟩ := zipD_get e
  obtain ⟨v, ev, av⟩ := a.get' h1
  obtain ⟨w, ew, aw⟩ := b.get' h2
  refine ⟨⟨vs, ws, v, w, s.seq h, s.seq g, ev, ew⟩, fun x H' y => ?_⟩
  obtain ⟨t, v', w', rfl, n, rfl, y1, y2⟩ := y
  have q1 := y1 vs (s.seq h)
  have q2 := y2 ws (s.seq g)
  rw [ev] at q1
  rw [ew] at q2
  obtain rfl := Option.some.inj q1
  obtain rfl := Option.some.inj q2
  exact ⟨same_new n, fun O hO sf => At.newT hO n (by show 2 ≤ LIM; decide) (.cons (av.mono sf) (.cons (aw.mono sf) .nil))⟩
def sZip (x y : DX) : DAs := fun δ Q => sL x δ fun l => sL y δ fun m => Q (zipD l m)
theorem i_zip {x y : DX} {elts : List Expr} {kk : Nat} {tpos p : Pos} (hm : X.mg "zip" = none) (ha : PD X K a x) (hb : PD X K b y) (hK : X.K = K := by rfl) (hg : Gl X "zip" := by rfl)
    (hs : starEach [a, b] X.env = (false, eval a X.env) :: starEach [b] X.env := by rfl) (hs2 : starEach [b] X.env = [(false, eval b X.env)] := by rfl) (hpl : (backTo pos (starEach [b] X.env)).any (·.1) = false := by rfl) :
    IP X K (.Tuple elts kk tpos) (.Call (.Name "zip" p) [a, b] [] pos) (sZip x y) := by
  subst hK
  refine ⟨fun δ Q Q' i q => sL_mono ha.mono δ (fun l => sL_mono hb.mono δ fun m => i _) q, pi_weak (pi_zip hg hm (a_cons ha (a_cons hb a_nil hs2) hs).pa hs hpl) fun σ H R ⟨Hb, B, O, δ, S, q⟩ => ⟨Hb, B, O, δ, S, ?_⟩⟩
  show x δ fun d => y δ fun e => _
  refine ha.mono δ (fun d k => ?_) q
  obtain ⟨l, hl, k⟩ := asL_of k
  refine hb.mono δ (fun e k vs H1 s1 as => ?_) k
  obtain ⟨m, hm, k⟩ := asL_of k
  cases as with
  | cons a1 r =>
    cases r with
    | cons a2 r =>
      cases r
      obtain ⟨p, vs, rfl, g1, g2, g3⟩ := a1.asL hl
      obtain ⟨r, ws, rfl, f1, f2, f3⟩ := a2.asL hm
      exact ⟨p, r, vs, ws, rfl, hid_out.seq g1, hid_out.seq f1, k _ H1 s1 (by rw [zipD_len]; omega) (walk_zip g1 f1 g3 f3)⟩
end
/-! ### targets -/
abbrev DG := D → List Sl → (List Sl → Prop) → Prop
def tG (K : PySem.W.Frag) (js : List Nat) (t : DG) : TG := fun v σ H Q => ∃ Hb B O δ d, Sta K Hb B O H σ δ ∧ At K (hid O H) v d ∧ t d δ fun δ' => ∀ σ', Sta K Hb B O H σ' δ' → (∀ vs, (∀ j ∈ js, j ∈ vs) → wipe σ' vs = wipe σ vs) → Q σ' H
structure GD (X : Cx) (K : PySem.W.Frag) (tg : Expr) (js : List Nat) (t : DG) : Prop where
  mono : ∀ d δ {Q Q' : List Sl → Prop}, (∀ δ, Q δ → Q' δ) → t d δ Q → t d δ Q'
  ext : ∀ d δ (P : Prop), t d δ (fun _ => P) → P
  pg : PG X tg (tG K js t)
abbrev DGs := List D → List Sl → (List Sl → Prop) → Prop
def tGs (K : PySem.W.Frag) (js : List Nat) (t : DGs) : TGs := fun vs σ H Q => ∃ Hb B O δ ds, Sta K Hb B O H σ δ ∧ AtAll K (hid O H) vs ds ∧ t ds δ fun δ' => ∀ σ', Sta K Hb B O H σ' δ' → (∀ vs, (∀ j ∈ js, j ∈ vs) → wipe σ' vs = wipe σ vs) → Q σ' H
structure GDs (X : Cx) (K : PySem.W.Frag) (tgs : List Expr) (js : List Nat) (t : DGs) : Prop where
  mono : ∀ d δ {Q Q' : List Sl → Prop}, (∀ δ, Q δ → Q' δ) → t d δ Q → t d δ Q'
  ext : ∀ d δ (P : Prop), t d δ (fun _ => P) → P
  len : ∀ d δ Q, t d δ Q → d.length = tgs.length
  pg : PGs X tgs (tGs K js t)
section
variable {X : Cx} {K : PySem.W.Frag} {tg e : Expr} {pos : Pos}
theorem wipe_set : ∀ {vs : List Nat} {σ : St} {j : Nat} {x : Option V}, j ∈ vs → wipe (σ.set j x) vs = wipe σ vs
  | v :: vs, σ, j, x, h => by
    unfold wipe
    by_cases e : j ∈ vs
    · rw [wipe_set e]
    · have ej : j = v := by
        rcases List.mem_cons.mp h with h | h
        · exact h
        · exact absurd h e
      subst ej
      have : ∀ (vs : List Nat) (σ : St), (wipe (σ.set j x) vs).set j none = (wipe σ vs).set j none := by
        intro vs
        induction vs with
        | nil => intro σ; show (σ.set j x).set j none = _; rw [List.set_set]; rfl
        | cons u us ih =>
          intro σ
          unfold wipe
          by_cases hu : u = j
          · subst hu; rw [List.set_set, List.set_set, ih]
          · rw [List.set_comm _ _ hu, List.set_comm _ _ hu, ih]
      exact this vs σ
  | [], _, _, _, h => by cases h
def gN (i : Nat) : DG := fun d δ Q => Q (δ.set i (.d d))
theorem g_name {i : Nat} {x : Str} (hN : X.N.Nodup) (hi : X.N[i]? = some x) (hx : Loc X.env.scope x) (hf : X.fn x = true ∨ X.env.scope.names.lookup x = some .local := by first | exact .inl rfl | exact .inr rfl | assumption) : GD X K (.Name x pos) [i] (gN i) := by
  refine ⟨fun d δ Q Q' i q => i _ q, fun d δ P q => q, ⟨fun pins s σ H v u Q I r ⟨Hb, B, O, δ, d, S, a, q⟩ => (pg_name hN hi hx hf).run pins s σ H v u Q I r ?_⟩⟩
  exact q _ (S.set a) fun vs h => wipe_set (h i (List.mem_singleton.mpr rfl))
def gsN : DGs := fun ds δ Q => match ds with
  | [] => Q δ
  | _ => False
def gsC (t : DG) (u : DGs) : DGs := fun ds δ Q => match ds with
  | d :: ds => t d δ fun δ' => u ds δ' Q
  | [] => False
theorem gs_nil : GDs X K [] [] gsN := by
  refine ⟨fun ds δ Q Q' i q => ?_, fun ds δ P q => ?_, fun ds δ Q q => ?_, ⟨fun pins s σ H vs us Q I r ⟨Hb, B, O, δ, ds, S, a, q⟩ => pgs_nil.run pins s σ H vs us Q I r ?_⟩⟩
  · cases ds with
    | nil => exact i _ q
    | cons d ds => exact q
  · cases ds with
    | nil => exact q
    | cons d ds => exact q.elim
  · cases ds with
    | nil => rfl
    | cons d ds => exact q.elim
  · cases ds with
    | nil => cases a; exact ⟨rfl, q σ S fun vs _ => rfl⟩
    | cons d ds => exact q.elim
theorem gs_cons {es : List Expr} {js ks : List Nat} {t : DG} {u : DGs} (h1 : GD X K e js t) (h2 : GDs X K es ks u) (hs : (assignEach (e :: es) X.env).map (·.2) = assign e X.env :: (assignEach es X.env).map (·.2) := by rfl) : GDs X K (e :: es) (js ++ ks) (gsC t u) := by
  refine ⟨fun ds δ Q Q' i q => ?_, fun ds δ P q => ?_, fun ds δ Q q => ?_, ⟨fun pins s σ H vs us Q I r ⟨Hb, B, O, δ, ds, S, a, q⟩ => (pgs_cons h1.pg h2.pg hs).run pins s σ H vs us Q I r ?_⟩⟩
  · cases ds with
    | nil => exact q
    | cons d ds => exact h1.mono d δ (fun δ' => h2.mono ds δ' i) q
  · cases ds with
    | nil => exact q.elim
    | cons d ds => exact h1.ext d δ P (h1.mono d δ (fun δ' => h2.ext ds δ' P) q)
  · cases ds with
    | nil => exact q.elim
    | cons d ds =>
      rw [List.length_cons, List.length_cons]
      exact congrArg (· + 1) (h1.ext d δ _ (h1.mono d δ (fun δ' => h2.len ds δ' Q) q))
  · cases ds with
    | nil => exact q.elim
    | cons d ds =>
      cases a with
      | cons a r =>
        refine ⟨_, _, rfl, Hb, B, O, δ, d, S, a, h1.mono d δ (fun δ' k σ' S' hw => ?_) q⟩
        exact ⟨Hb, B, O, δ', ds, S', r, h2.mono ds δ' (fun δ'' k σ'' S'' hw2 => k σ'' S'' fun vs hv => (hw2 vs fun j hj => hv j (List.mem_append_right _ hj)).trans (hw vs fun j hj => hv j (List.mem_append_left _ hj))) k⟩
def gT (u : DGs) : DG := fun d δ Q => match d with
  | .tup l => u l δ Q
  | _ => False
theorem g_tup {es : List Expr} {k : Nat} {js : List Nat} {u : DGs} (h : GDs X K es js u) (hc : X.calm = true := by rfl) (hK : X.K = K := by rfl) (hn : (assignEach es X.env).length = es.length := by rfl) (hst : (assignEach es X.env).findIdx? (·.1) = none := by rfl) : GD X K (.Tuple es k pos) js (gT u) := by
  subst hK
  refine ⟨fun d δ Q Q' i q => ?_, fun d δ P q => ?_, ⟨fun pins s σ H v w Q I r ⟨Hb, B, O, δ, d, S, a, q⟩ => (pg_tup hc h.pg hn hst).run pins s σ H v w Q I r ?_⟩⟩
  · cases d with
    | tup l => exact h.mono l δ i q
    | non | bl _ | int _ | str _ | lst _ | scr _ | dic _ _ | ref _ | ptp _ => exact q.elim
  · cases d with
    | tup l => exact h.ext l δ P q
    | non | bl _ | int _ | str _ | lst _ | scr _ | dic _ _ | ref _ | ptp _ => exact q.elim
  · cases d with
    | tup l =>
      cases a with
      | tup h1 h2 h3 => exact ⟨_, _, rfl, sqT_mono hid_out h1, by rw [h3.len]; exact h.len l δ _ q, Hb, B, O, δ, l, S, h3, q⟩
    | non | bl _ | int _ | str _ | lst _ | scr _ | dic _ _ | ref _ | ptp _ => exact q.elim
end
end DL

namespace DL
open PySem L2
/-! ### comprehensions -/
def wipeD (δ : List Sl) : List Nat → List Sl
  | [] => δ
  | v :: vs => (wipeD δ vs).set v .no
def lcRun (t : DG) (tst : DT) (elt : DX) (δ : List Sl) (Q : List D → Prop) : List D → List D → Prop
  | [], acc => Q acc
  | x :: xs, acc => t x δ fun δ' => tst δ' fun b => if b = true then elt δ' fun y => lcRun t tst elt δ Q xs (acc ++ [y]) else lcRun t tst elt δ Q xs acc
def tYesD : DT := fun _ Q => Q true
structure TsD (X : Cx) (K : PySem.W.Frag) (es : List Expr) (x : DT) : Prop where
  mono : MonoT x
  pts : PTs X es (tT K x)
section
variable {X : Cx} {K : PySem.W.Frag} {e : Expr} {pos : Pos}
theorem pts_weak {es : List Expr} {t t' : TT} (h : PTs X es t) (i : ∀ σ H Q, t' σ H Q → t σ H Q) : PTs X es t' := ⟨fun pins s σ H Q I q => h.run pins s σ H Q I (i _ _ _ q)⟩
theorem ts_nil : TsD X K [] tYesD := ⟨fun δ Q Q' i q => i _ q, pts_weak pts_nil fun σ H Q ⟨Hb, B, O, δ, S, q⟩ => q H (.refl H)⟩
theorem ts_one {x : DT} (h : TD X K e x) : TsD X K [e] x := ⟨h.mono, pts_one h.pt⟩
theorem Sta.wiped {Hb H : Hp} {B O : List Addr} {σ : St} {δ : List Sl} (S : Sta K Hb B O H σ δ) : ∀ vs : List Nat, Sta K Hb B O H (wipe σ vs) (wipeD δ vs)
  | [] => S
  | v :: vs => (S.wiped vs).unset
theorem wipe_wipe (σ : St) : ∀ us vs : List Nat, (∀ u ∈ us, u ∈ vs) → wipe (wipe σ us) vs = wipe σ vs
  | [], vs, _ => rfl
  | u :: us, vs, h => by
    show wipe ((wipe σ us).set u none) vs = _
    rw [wipe_set (h u List.mem_cons_self)]
    exact wipe_wipe σ us vs fun w hw => h w (List.mem_cons_of_mem _ hw)
theorem lcRun_mono {t : DG} {tst : DT} {elt : DX} {δ : List Sl} {Q Q' : List D → Prop} (mg : ∀ d δ {Q Q' : List Sl → Prop}, (∀ δ, Q δ → Q' δ) → t d δ Q → t d δ Q') (mt : MonoT tst) (me : MonoX elt) (i : ∀ l, Q l → Q' l) :
    ∀ l acc, lcRun t tst elt δ Q l acc → lcRun t tst elt δ Q' l acc
  | [], acc, h => i _ h
  | x :: xs, acc, h => mg x δ (fun δ' => mt δ' fun b => ite_mono b (me δ' fun y => lcRun_mono mg mt me i xs _) (lcRun_mono mg mt me i xs acc)) h
def fLc (src : DAs) (t : DG) (tst : DT) (elt : DX) (vs : List Nat) : DAs := fun δ Q => src δ fun l => lcRun t tst elt (wipeD δ vs) Q l []
theorem tLc_of {src : DAs} {t : DG} {tst : DT} {elt : DX} {vs js : List Nat} (ms : MonoA src) (mg : ∀ d δ {Q Q' : List Sl → Prop}, (∀ δ, Q δ → Q' δ) → t d δ Q → t d δ Q') (mt : MonoT tst) (me : MonoX elt) (hj : ∀ j ∈ js, j ∈ vs) {σ : St} {H : Hp} {Q : VK}
    (h : tF K (fLc src t tst elt vs) σ H Q) : tLc (iQ K src) (tG K js t) (tT K tst) (tP K elt) vs σ H Q := by
  obtain ⟨Hb, B, O, δ, S, q⟩ := h
  refine ⟨Hb, B, O, δ, S, ms δ (fun l q J H1 s1 hl wk Dn n => ?_) q⟩
  have S0 := S.grow s1
  have live : ∀ b ∈ O, H1 b ≠ none := S0.live
  let Qf : List D → Prop := fun l => ∀ p vs H', Same H H' → H p = none → H' p = some (.lst vs) → l.length ≤ LIM → AtAll K (hid (p :: O) H') vs l → Q (.ref p) H'
  let W : Nat → Nat → Hp → Prop := fun i m H2 => m = l.length - i ∧ i ≤ l.length ∧ ∃ acc ws, Same H1 H2 ∧ H2 Dn = some (.lst ws) ∧ acc.length ≤ i ∧ AtAll K (hid (Dn :: O) H2) ws acc ∧ lcRun t tst elt (wipeD δ vs) Qf (l.drop i) acc
  refine ⟨W, ⟨l.length, by simp, Nat.zero_le _, [], [], same_new n, upd_same, Nat.le_refl _, .nil, q⟩, ?_⟩
  rintro i m H2 ⟨rfl, hi, acc, ws, s2, hd, ha, at2, q⟩
  have nn : H2 Dn ≠ none := by rw [hd]; exact fun z => by cases z
  by_cases lt : i < l.length
  · right
    obtain ⟨d, ed⟩ : ∃ d, l[i]? = some d := ⟨l[i], List.getElem?_eq_getElem lt⟩
    have dr : l.drop i = d :: l.drop (i + 1) := by
      rw [List.drop_eq_getElem_cons lt]
      rw [List.getElem?_eq_getElem lt] at ed
      rw [Option.some.inj ed]
    obtain ⟨go, yl⟩ := (wk i H2 s2).1 d ed
    refine ⟨go, W (i + 1) (l.length - (i + 1)), fun H' w => ⟨_, by omega, w⟩, fun x H3 y => ?_⟩
    obtain ⟨s3, ax⟩ := yl x H3 y
    have S2 := (S0.wiped vs).more n s2 nn
    have ax := ax (Dn :: O) S2.live (hid_new n s2)
    have S3 := S2.grow s3
    rw [dr] at q
    refine ⟨Hb, B, Dn :: O, wipeD δ vs, d, S3, ax, mg d _ (fun δ' q σ' S' hw => ⟨?_, ?_⟩) q⟩
    · rw [hw vs hj, wipe_wipe σ vs vs fun _ z => z]
    · refine ⟨Hb, B, Dn :: O, δ', S', mt δ' (fun b q H4 s4 => ite_mono b (fun q => ?_) (fun q => ?_) q) q⟩
      · refine ⟨Hb, B, Dn :: O, δ', S'.grow s4, me δ' (fun y q v H5 s5 ay => ?_) q⟩
        have s35 := s3.trans (s4.trans s5)
        refine ⟨ws, s35 _ _ hd, ?_, rfl, lt, acc ++ [y], ws ++ [v], same_new' (s2.trans s35) n, upd_same, ?_, ?_, q⟩
        · rw [at2.len]; exact Nat.lt_of_le_of_lt (Nat.le_trans ha (Nat.le_trans hi hl)) LIM_size
        · rw [List.length_append, List.length_singleton]; omega
        · rw [hid_upd List.mem_cons_self]
          exact (at2.mono (hid_same s35)).append (.cons ay .nil)
      · have s34 := s3.trans s4
        exact ⟨rfl, lt, acc, ws, s2.trans s34, s34 _ _ hd, by omega, at2.mono (hid_same s34), q⟩
  · left
    have e : i = l.length := by omega
    subst e
    rw [List.drop_length] at q
    exact ⟨(wk _ H2 s2).2 (Nat.le_refl _), q Dn ws H2 (s1.trans s2) (s1.free n) hd (Nat.le_trans ha hl) at2⟩
variable {elt tg iter : Expr} {ifs : List Expr} {scope : Scope} {own : List (Str × Nat)} {spos : Pos}
theorem lc_monos {t : DG} {tst : DT} {el : DX} {js : List Nat} (hg : ∀ (s : Shared) (H : Hp) (C : Addr) (cl : List (Str × Addr)) (fp : List Addr), GD (X.blk s H scope (compEnvC scope cl C X.env) fp) K tg js t)
    (ht : ∀ (s : Shared) (H : Hp) (C : Addr) (cl : List (Str × Addr)) (fp : List Addr), TsD (X.blk s H scope (compEnvC scope cl C X.env) fp) K ifs tst)
    (he : ∀ (s : Shared) (H : Hp) (C : Addr) (cl : List (Str × Addr)) (fp : List Addr), PD (X.blk s H scope (compEnvC scope cl C X.env) fp) K elt el) : (∀ d δ {Q Q' : List Sl → Prop}, (∀ δ, Q δ → Q' δ) → t d δ Q → t d δ Q') ∧ MonoT tst ∧ MonoX el :=
  ⟨(hg {} (fun _ => none) 0 [] []).mono, (ht {} (fun _ => none) 0 [] []).mono, (he {} (fun _ => none) 0 [] []).mono⟩
theorem f_lc {src : DAs} {t : DG} {tst : DT} {el : DX} {js : List Nat} (hN : X.N.Nodup) (hi : IQ X K tg iter src) (ok : BlkOk X.N X.env.scope scope own)
    (hg : ∀ (s : Shared) (H : Hp) (C : Addr) (cl : List (Str × Addr)) (fp : List Addr), GD (X.blk s H scope (compEnvC scope cl C X.env) fp) K tg js t)
    (ht : ∀ (s : Shared) (H : Hp) (C : Addr) (cl : List (Str × Addr)) (fp : List Addr), TsD (X.blk s H scope (compEnvC scope cl C X.env) fp) K ifs tst)
    (he : ∀ (s : Shared) (H : Hp) (C : Addr) (cl : List (Str × Addr)) (fp : List Addr), PD (X.blk s H scope (compEnvC scope cl C X.env) fp) K elt el)
    (hj : ∀ j ∈ js, j ∈ own.map (·.2) := by decide) (hc : X.calm = true := by rfl) (hs : ∀ x, foldedSetIterable iter X.env x = pure x := by intro _; rfl) :
    FD X K (.ListComp elt [⟨tg, iter, ifs, 0⟩] scope pos) (fLc src t tst el (own.map (·.2))) := by
  obtain ⟨m1, m2, m3⟩ := lc_monos hg ht he
  exact ⟨fun δ Q Q' i q => hi.mono δ (fun l => lcRun_mono m1 m2 m3 i l []) q, pe_weak (pe_lc hc hN hi.pi ok (fun s H C cl fp => (hg s H C cl fp).pg) (fun s H C cl fp => (ht s H C cl fp).pts) (fun s H C cl fp => (he s H C cl fp).pe) hs) fun σ H Q h => tLc_of hi.mono m1 m2 m3 hj h⟩
end
/-! ## statements -/
structure DE where
  nx : List Sl → Prop
  rt : D → Prop
  bk : List Sl → Prop
  ct : List Sl → Prop
  ex : Addr → Prop
abbrev DS := DE → List Sl → Prop
structure Lk (K : PySem.W.Frag) (Ex : XK) (Hb : Hp) (B : List Addr) (F : DE) (E : Ends) : Prop where
  nx : ∀ O σ H δ, Sta K Hb B O H σ δ → F.nx δ → E.nx σ H
  bk : ∀ O σ H δ, Sta K Hb B O H σ δ → F.bk δ → E.bk σ H
  ct : ∀ O σ H δ, Sta K Hb B O H σ δ → F.ct δ → E.ct σ H
  rt : ∀ v H d, Same Hb H → At K (hid B H) v d → F.rt d → E.rt v H
  ex : ∀ C H, Same Hb H → F.ex C → Ex (.ref C) none H
def tS (K : PySem.W.Frag) (Ex : XK) (g : DS) : TS := fun E σ H => ∃ Hb B O δ F, Sta K Hb B O H σ δ ∧ g F δ ∧ Lk K Ex Hb B F E
structure SD (X : Cx) (K : PySem.W.Frag) (Ex : XK) (st : Stmt) (g : DS) : Prop where
  ps : PS X st (tS K Ex g)
structure SDs (X : Cx) (K : PySem.W.Frag) (Ex : XK) (sts : List Stmt) (g : DS) : Prop where
  pss : PSs X sts (tS K Ex g)
section
variable {X : Cx} {K : PySem.W.Frag} {Ex : XK} {e : Expr} {pos : Pos} {st : Stmt} {sts : List Stmt}
theorem ps_weak {t t' : TS} (h : PS X st t) (i : ∀ E σ H, t' E σ H → t E σ H) : PS X st t' := ⟨fun pins s σ H E I q => h.run pins s σ H E I (i _ _ _ q)⟩
theorem pss_weak {t t' : TS} (h : PSs X sts t) (i : ∀ E σ H, t' E σ H → t E σ H) : PSs X sts t' := ⟨fun pins s σ H E I q => h.run pins s σ H E I (i _ _ _ q)⟩
def gNext : DS := fun F δ => F.nx δ
def gSeq (g h : DS) : DS := fun F δ => g { F with nx := h F } δ
theorem ss_nil : SDs X K Ex [] gNext := ⟨pss_weak pss_nil fun E σ H ⟨Hb, B, O, δ, F, S, q, L⟩ => L.nx _ _ _ _ S q⟩
theorem ss_cons {g h : DS} (h1 : SD X K Ex st g) (h2 : SDs X K Ex sts h) : SDs X K Ex (st :: sts) (gSeq g h) :=
  ⟨pss_weak (pss_cons h1.ps h2.pss) fun E σ H ⟨Hb, B, O, δ, F, S, q, L⟩ => ⟨Hb, B, O, δ, { F with nx := h F }, S, q, fun O' σ' H' δ' S' q' => ⟨Hb, B, O', δ', F, S', q', L⟩, L.bk, L.ct, L.rt, L.ex⟩⟩
theorem ss_one {g : DS} (h1 : SD X K Ex st g) : SDs X K Ex [st] g := ⟨pss_one h1.ps⟩
theorem s_pass : SD X K Ex (.Pass pos) gNext := ⟨ps_weak ps_pass fun E σ H ⟨Hb, B, O, δ, F, S, q, L⟩ => L.nx _ _ _ _ S q⟩
def gBreak : DS := fun F δ => F.bk δ
def gCont : DS := fun F δ => F.ct δ
theorem s_break : SD X K Ex (.Break pos) gBreak := ⟨ps_weak ps_break fun E σ H ⟨Hb, B, O, δ, F, S, q, L⟩ => L.bk _ _ _ _ S q⟩
theorem s_continue : SD X K Ex (.Continue pos) gCont := ⟨ps_weak ps_continue fun E σ H ⟨Hb, B, O, δ, F, S, q, L⟩ => L.ct _ _ _ _ S q⟩
def gNever : DS := fun _ _ => False
theorem s_never : SD X K Ex st gNever := ⟨ps_weak ps_never fun E σ H ⟨Hb, B, O, δ, F, S, q, L⟩ => q⟩
def gDrop (x : DX) : DS := fun F δ => x δ fun _ => F.nx δ
theorem s_expr {x : DX} (h : QD X K e x) (hs : swapsWith e none pos.line X.env = pure false := by rfl) : SD X K Ex (.Expr e pos) (gDrop x) :=
  ⟨ps_weak (ps_expr h.pe hs) fun E σ H ⟨Hb, B, O, δ, F, S, q, L⟩ => ⟨Hb, B, O, δ, S, h.mono δ (fun d k v H' s a => L.nx _ _ _ _ (S.grow s) k) q⟩⟩
def gRet (x : DX) : DS := fun F δ => x δ F.rt
theorem s_ret {x : DX} (h : PD X K e x) : SD X K Ex (.Return (some e) pos) (gRet x) :=
  ⟨ps_weak (ps_ret h.pe) fun E σ H ⟨Hb, B, O, δ, F, S, q, L⟩ => ⟨Hb, B, O, δ, S, h.mono δ (fun d k v H' s a => L.rt v H' d (S.same.trans s) ((S.grow s).out a) k) q⟩⟩
def gRetN : DS := fun F _ => F.rt .non
theorem s_retN : SD X K Ex (.Return none pos) gRetN := ⟨ps_weak ps_retN fun E σ H ⟨Hb, B, O, δ, F, S, q, L⟩ => L.rt _ H _ S.same .non q⟩
/-- ahead of a statement: what an own name holds is from now on a value -/
def gFrz (i : Nat) (g : DS) : DS := fun F δ => match sl δ i with
  | .own l => g F (δ.set i (.d (.lst l)))
  | .owk ks vs => g F (δ.set i (.d (.dic ks vs)))
  | _ => False
theorem s_frz (i : Nat) {g : DS} (h : SD X K Ex st g) : SD X K Ex st (gFrz i g) := ⟨ps_weak h.ps fun E σ H ⟨Hb, B, O, δ, F, S, q, L⟩ => by
  unfold gFrz at q
  cases e : sl δ i with
  | own l =>
    rw [e] at q
    obtain ⟨O', S'⟩ := S.freeze (i := i) (by rw [e]; rfl)
    rw [e] at S'
    exact ⟨Hb, B, O', _, F, S', q, L⟩
  | owk ks l =>
    rw [e] at q
    obtain ⟨O', S'⟩ := S.freeze (i := i) (by rw [e]; rfl)
    rw [e] at S'
    exact ⟨Hb, B, O', _, F, S', q, L⟩
  | no => rw [e] at q; exact q.elim
  | d x => rw [e] at q; exact q.elim⟩
/-! ### stores -/
def gSet (i : Nat) (x : DX) : DS := fun F δ => x δ fun d => F.nx (δ.set i (.d d))
theorem s_set {i : Nat} {x : Str} {y : DX} {pos' : Pos} (hN : X.N.Nodup) (hi : X.N[i]? = some x) (hx : Loc X.env.scope x) (h : PD X K e y) (hs : swapsWith e (some (.Name x pos')) pos.line X.env = pure false := by rfl)
    (hf : X.fn x = true ∨ X.env.scope.names.lookup x = some .local := by first | exact .inl rfl | exact .inr rfl | assumption) : SD X K Ex (.Assign [.Name x pos'] e pos) (gSet i y) :=
  ⟨ps_weak (ps_set hN hi hx h.pe hs hf) fun E σ H ⟨Hb, B, O, δ, F, S, q, L⟩ => ⟨Hb, B, O, δ, S, h.mono δ (fun d k v H' s a => L.nx _ _ _ _ ((S.grow s).set a) k) q⟩⟩
def gOwn (i : Nat) (x : DAs) : DS := fun F δ => x δ fun l => F.nx (δ.set i (.own l))
theorem own_imp {Hb H H' : Hp} {B O : List Addr} {σ : St} {δ : List Sl} {i : Nat} {p : Addr} {vs : List V} {l : List D} (S : Sta K Hb B O H σ δ) (s : Same H H') (n : H p = none) (hp : H' p = some (.lst vs)) (hl : l.length ≤ LIM) (a : AtAll K (hid (p :: O) H') vs l) :
    Sta K Hb B (p :: O) H' (σ.set i (some (.ref p))) (δ.set i (.own l)) :=
  S.own_new n s rfl ⟨p, vs, rfl, List.mem_cons_self, S.same.free n, hp, hl, a⟩ (by rw [hp]; exact fun z => by cases z)
theorem s_own {i : Nat} {x : Str} {y : DAs} {pos' : Pos} (hN : X.N.Nodup) (hi : X.N[i]? = some x) (hx : Loc X.env.scope x) (h : FD X K e y) (hs : swapsWith e (some (.Name x pos')) pos.line X.env = pure false := by rfl)
    (hf : X.fn x = true ∨ X.env.scope.names.lookup x = some .local := by first | exact .inl rfl | exact .inr rfl | assumption) : SD X K Ex (.Assign [.Name x pos'] e pos) (gOwn i y) :=
  ⟨ps_weak (ps_set hN hi hx h.pe hs hf) fun E σ H ⟨Hb, B, O, δ, F, S, q, L⟩ => ⟨Hb, B, O, δ, S, h.mono δ (fun l k p vs H' s n hp hl a => L.nx _ _ _ _ (own_imp S s n hp hl a) k) q⟩⟩
/-! name = [.. for ..] -/
section
variable {elt tg iter : Expr} {ifs : List Expr} {scope : Scope} {own : List (Str × Nat)} {spos : Pos} {src : DAs} {t : DG} {tst : DT} {el : DX} {js : List Nat} {i : Nat} {y : Str} {py : Pos}
theorem s_ownLc (hN : X.N.Nodup) (hy : X.N[i]? = some y) (hi : IQ X K tg iter src) (ok : BlkOk X.N X.env.scope scope own)
    (hg : ∀ (s : Shared) (H : Hp) (C : Addr) (cl : List (Str × Addr)) (fp : List Addr), GD (X.blk s H scope (compEnvC scope cl C X.env) fp) K tg js t)
    (ht : ∀ (s : Shared) (H : Hp) (C : Addr) (cl : List (Str × Addr)) (fp : List Addr), TsD (X.blk s H scope (compEnvC scope cl C X.env) fp) K ifs tst)
    (he : ∀ (s : Shared) (H : Hp) (C : Addr) (cl : List (Str × Addr)) (fp : List Addr), PD (X.blk s H scope (compEnvC scope cl C X.env) fp) K elt el)
    (hj : ∀ j ∈ js, j ∈ own.map (·.2) := by decide) (hyl : X.env.scope.names.lookup y = some .local := by rfl)
    (hsw : swapsWith (.ListComp elt [⟨tg, iter, ifs, 0⟩] scope pos) (some (.Name y py)) spos.line X.env = pure true := by exact sw_true rfl rfl rfl (by decide +kernel))
    (hc : X.calm = true := by rfl) (hs : ∀ x, foldedSetIterable iter X.env x = pure x := by intro _; rfl) :
    SD X K Ex (.Assign [.Name y py] (.ListComp elt [⟨tg, iter, ifs, 0⟩] scope pos) spos) (gOwn i (fLc src t tst el (own.map (·.2)))) := by
  obtain ⟨m1, m2, m3⟩ := lc_monos hg ht he
  have mo : MonoA (fLc src t tst el (own.map (·.2))) := fun δ Q Q' i q => hi.mono δ (fun l => lcRun_mono m1 m2 m3 i l []) q
  refine ⟨ps_weak (ps_setLc hc hN hy hyl hsw hi.pi ok (fun s H C cl fp => (hg s H C cl fp).pg) (fun s H C cl fp => (ht s H C cl fp).pts) (fun s H C cl fp => (he s H C cl fp).pe) hs) fun E σ H ⟨Hb, B, O, δ, F, S, q, L⟩ => ?_⟩
  show tLc _ _ _ _ _ σ H _
  exact tLc_of hi.mono m1 m2 m3 hj ⟨Hb, B, O, δ, S, mo δ (fun l k p vs H' s n hp hl a => L.nx _ _ _ _ (own_imp S s n hp hl a) k) q⟩
theorem s_setLc (hN : X.N.Nodup) (hy : X.N[i]? = some y) (hi : IQ X K tg iter src) (ok : BlkOk X.N X.env.scope scope own)
    (hg : ∀ (s : Shared) (H : Hp) (C : Addr) (cl : List (Str × Addr)) (fp : List Addr), GD (X.blk s H scope (compEnvC scope cl C X.env) fp) K tg js t)
    (ht : ∀ (s : Shared) (H : Hp) (C : Addr) (cl : List (Str × Addr)) (fp : List Addr), TsD (X.blk s H scope (compEnvC scope cl C X.env) fp) K ifs tst)
    (he : ∀ (s : Shared) (H : Hp) (C : Addr) (cl : List (Str × Addr)) (fp : List Addr), PD (X.blk s H scope (compEnvC scope cl C X.env) fp) K elt el)
    (hj : ∀ j ∈ js, j ∈ own.map (·.2) := by decide) (hyl : X.env.scope.names.lookup y = some .local := by rfl)
    (hsw : swapsWith (.ListComp elt [⟨tg, iter, ifs, 0⟩] scope pos) (some (.Name y py)) spos.line X.env = pure true := by exact sw_true rfl rfl rfl (by decide +kernel))
    (hc : X.calm = true := by rfl) (hs : ∀ x, foldedSetIterable iter X.env x = pure x := by intro _; rfl) :
    SD X K Ex (.Assign [.Name y py] (.ListComp elt [⟨tg, iter, ifs, 0⟩] scope pos) spos) (gSet i (ofF (fLc src t tst el (own.map (·.2))))) := by
  obtain ⟨m1, m2, m3⟩ := lc_monos hg ht he
  have mo : MonoA (fLc src t tst el (own.map (·.2))) := fun δ Q Q' i q => hi.mono δ (fun l => lcRun_mono m1 m2 m3 i l []) q
  refine ⟨ps_weak (ps_setLc hc hN hy hyl hsw hi.pi ok (fun s H C cl fp => (hg s H C cl fp).pg) (fun s H C cl fp => (ht s H C cl fp).pts) (fun s H C cl fp => (he s H C cl fp).pe) hs) fun E σ H ⟨Hb, B, O, δ, F, S, q, L⟩ => ?_⟩
  show tLc _ _ _ _ _ σ H _
  refine tLc_of hi.mono m1 m2 m3 hj ⟨Hb, B, O, δ, S, mo δ (fun l k p vs H' s n hp hl a => L.nx _ _ _ _ ((S.grow s).set ?_) k) q⟩
  have np : p ∉ O := fun z => S.live p z n
  exact .lst (by rw [hid_of np]; exact hp) hl (a.mono (hid_sub fun _ z => List.mem_cons_of_mem _ z))
end
/-- target = value -/
def gAsg (x : DX) (t : DG) : DS := fun F δ => x δ fun d => t d δ F.nx
theorem s_asg {tg : Expr} {js : List Nat} {x : DX} {t : DG} (h : PD X K e x) (hg : GD X K tg js t) (hs : swapsWithSole [tg] e pos.line X.env = pure false := by rfl) (hw : swappedStores [tg] e X.env = pure none := by rfl)
    (h1 : (assignEach [tg] X.env).map (·.2) = [assign tg X.env] := by rfl) : SD X K Ex (.Assign [tg] e pos) (gAsg x t) :=
  ⟨ps_weak (ps_asg h.pe hg.pg hs hw h1) fun E σ H ⟨Hb, B, O, δ, F, S, q, L⟩ => ⟨Hb, B, O, δ, S, h.mono δ (fun d k v H' s a => ⟨Hb, B, O, δ, d, S.grow s, a, hg.mono d δ (fun δ' k σ' S' _ => L.nx _ _ _ _ S' k) k⟩) q⟩⟩
/-- a, b = x, y -/
def gPar (i j : Nat) (x y : DX) : DS := fun F δ => x δ fun a => y δ fun b => F.nx ((δ.set i (.d a)).set j (.d b))
theorem s_par {i j : Nat} {x y : Str} {a b : Expr} {u v : DX} {px py pt : Pos} {kt k2 pt2} (hN : X.N.Nodup) (hi : X.N[i]? = some x) (hj : X.N[j]? = some y) (ha : PD X K a u) (hb : PD X K b v)
    (hij : i ≠ j := by decide) (hx : X.env.scope.names.lookup x = some .local := by rfl) (hy : X.env.scope.names.lookup y = some .local := by rfl)
    (hw : swappedStores [.Tuple [.Name x px, .Name y py] kt pt] (.Tuple [a, b] k2 pt2) X.env = pure (some [x, y]) := by rfl)
    (hs : swapsWithSole [.Tuple [.Name x px, .Name y py] kt pt] (.Tuple [a, b] k2 pt2) pos.line X.env = pure false := by rfl)
    (h1 : starEach [a, b] X.env = (false, eval a X.env) :: starEach [b] X.env := by rfl) (h2 : starEach [b] X.env = (false, eval b X.env) :: starEach [] X.env := by rfl) (hc : X.calm = true := by rfl) :
    SD X K Ex (.Assign [.Tuple [.Name x px, .Name y py] kt pt] (.Tuple [a, b] k2 pt2) pos) (gPar i j u v) := by
  refine ⟨ps_weak (ps_par hc hN hi hj hij hx hy (a_cons ha (a_cons hb a_nil h2) h1).pa hw hs) fun E σ H ⟨Hb, B, O, δ, F, S, q, L⟩ => ⟨Hb, B, O, δ, S, ?_⟩⟩
  show u δ fun d => v δ fun e => _
  refine ha.mono δ (fun d k => hb.mono δ (fun e k vs H1 s1 as => ?_) k) q
  cases as with
  | cons a1 r => cases r with
    | cons a2 r =>
      cases r
      exact ⟨_, _, rfl, L.nx _ _ _ _ (((S.grow s1).set a1).set a2) k⟩
/-- name op= e, of ints -/
def gAug (i : Nat) (f : Int → Int → Int) (y : DX) : DS := fun F δ => dV i δ (asI fun m => y δ (asI fun n => F.nx (δ.set i (.d (.int (f m n))))))
theorem s_aug {i : Nat} {x : Str} {op : Operator} {f : Int → Int → Int} {y : DX} {pos' : Pos} (hN : X.N.Nodup) (hi : X.N[i]? = some x) (hx : Loc X.env.scope x) (h : QD X K e y) (ho : PIp X op (ipI f))
    (hf : X.fn x = true ∨ X.env.scope.names.lookup x = some .local := by first | exact .inl rfl | exact .inr rfl | assumption) : SD X K Ex (.AugAssign (.Name x pos') op e pos) (gAug i f y) := by
  refine ⟨ps_weak (ps_aug hN hi hx h.pe ho hf) fun E σ H ⟨Hb, B, O, δ, F, S, q, L⟩ => ?_⟩
  have a := S.at_ i
  unfold gAug dV at q
  cases es : sl δ i with
  | d x =>
    rw [es] at a q
    obtain ⟨v, h1, h2⟩ := a
    obtain ⟨m, rfl, k⟩ := asI_at q (.at_ h2)
    refine ⟨_, h1, Hb, B, O, δ, S, h.mono δ (fun d k v H1 s1 a => ?_) k⟩
    obtain ⟨n, rfl, k⟩ := asI_at k a
    exact ⟨m, n, rfl, rfl, L.nx _ _ _ _ ((S.grow s1).set (.int _)) k⟩
  | no => rw [es] at q; exact q.elim
  | own l => rw [es] at q; exact q.elim
  | owk ks l => rw [es] at q; exact q.elim
/-! ### own lists changed -/
def onOwn (Q : List D → Prop) : Sl → Prop
  | .own l => Q l
  | _ => False
theorem onOwn_at {Q : List D → Prop} {Hb H : Hp} {O : List Addr} {o : Option (Option V)} {s : Sl} (q : onOwn Q s) (a : SlOk K Hb O H o s) : ∃ l r vs, s = .own l ∧ Q l ∧ o = some (some (.ref r)) ∧ r ∈ O ∧ Hb r = none ∧ H r = some (.lst vs) ∧ l.length ≤ LIM ∧ AtAll K (hid O H) vs l := by
  cases s with
  | own l => obtain ⟨r, vs, h⟩ := a; exact ⟨l, r, vs, rfl, q, h⟩
  | no => exact q.elim
  | d x => exact q.elim
  | owk ks l => exact q.elim
theorem own_upd {Hb H : Hp} {B O : List Addr} {σ : St} {δ : List Sl} {i : Nat} {r : Addr} {l l' : List D} {vs : List V} (S : Sta K Hb B O H σ δ) (e : sl δ i = .own l) (hq : σ[i]? = some (some (.ref r))) (m : r ∈ O) (hb : Hb r = none) (hl : l'.length ≤ LIM) (a : AtAll K (hid O H) vs l') :
    Sta K Hb B O (upd H r (.lst vs)) σ (δ.set i (.own l')) :=
  S.own_upd (by rw [e]; rfl) hq m hb ⟨r, vs, rfl, m, hb, upd_same, hl, by rw [hid_upd m]; exact a⟩
def gApp (i : Nat) (x : DX) : DS := fun F δ => onOwn (fun l => x δ fun d => l.length < LIM ∧ F.nx (δ.set i (.own (l ++ [d])))) (sl δ i)
theorem s_append (i : Nat) {x : Str} {y : DX} {p1 p2 p3 : Pos} (h : PD X K e y) (hK : X.K = K := by rfl) (hN : X.N[i]? = some x := by rfl) (hv : Vis X.env.scope x := by first | exact Or.inl rfl | exact Or.inr (Or.inl rfl) | exact Or.inr (Or.inr rfl)) (hd : (x == ("__debug__" : Str)) = false := by decide)
    (hcd : (x == ("__classdict__" : Str)) = false := by decide) (hbase : attributeBase (.Name x p1) "append" X.env (eval (.Name x p1) X.env) = eval (.Name x p1) X.env := by rfl)
    (hfew : ((backTo p3 (starEach [e] X.env)).all (fun x => !x.1) && (backToKw p3 (keywordEach [] X.env)).all (fun x => x.1.isSome) && decide ([e].length + ([] : List Keyword).length + (if ([] : List Keyword).isEmpty then 0 else 1) < 30)) = true := by rfl)
    (hline : (p2.endLine == p3.line) = true := by rfl) (hs : starEach [e] X.env = (false, eval e X.env) :: starEach [] X.env := by rfl) (hpl : (backTo p3 (starEach [] X.env)).any (·.1) = false := by rfl)
    (hsw : swapsWith (.Call (.Attribute (.Name x p1) "append" p2) [e] [] p3) none pos.line X.env = pure false := by rfl) :
    SD X K Ex (.Expr (.Call (.Attribute (.Name x p1) "append" p2) [e] [] p3) pos) (gApp i y) := by
  subst hK
  refine ⟨ps_weak (ps_expr (pe_bm PySem.F.plainAttrs_list PySem.F.slot_list_append PySem.F.type_list_append mt_append (pe_var hN hv hd hcd) (a_cons h a_nil hs).pa hbase hfew hline hs hpl) hsw) fun E σ H ⟨Hb, B, O, δ, F, S, q, L⟩ => ?_⟩
  obtain ⟨l, r, vs, e1, q, h1, h2, h3, h4, h5, h6⟩ := onOwn_at q (S.at_ i)
  refine ⟨_, h1, .inl ⟨rfl, _, .inl (.inl h4)⟩, Hb, B, O, δ, S, h.mono δ (fun d ⟨k0, k⟩ ws H1 s1 as => ?_) q⟩
  cases as with
  | cons a1 r' =>
    cases r'
    refine ⟨r, vs, _, rfl, rfl, s1 _ _ h4, ?_, L.nx _ _ _ _ (own_upd (S.grow s1) e1 h1 h2 h3 ?_ ((h6.mono (hid_same s1)).append (.cons a1 .nil))) k⟩
    · rw [h6.len]; exact Nat.lt_trans k0 LIM_size
    · rw [List.length_append, List.length_singleton]; omega
def asLo (Q : List D → Prop) : D → Prop
  | .lst l => Q l
  | _ => False
def gExt (i : Nat) (x : DX) : DS := fun F δ => onOwn (fun l => x δ (asLo fun m => l.length + m.length ≤ LIM ∧ F.nx (δ.set i (.own (l ++ m))))) (sl δ i)
theorem s_extend (i : Nat) {x : Str} {y : DX} {p1 p2 p3 : Pos} (h : PD X K e y) (hK : X.K = K := by rfl) (hN : X.N[i]? = some x := by rfl) (hv : Vis X.env.scope x := by first | exact Or.inl rfl | exact Or.inr (Or.inl rfl) | exact Or.inr (Or.inr rfl)) (hd : (x == ("__debug__" : Str)) = false := by decide)
    (hcd : (x == ("__classdict__" : Str)) = false := by decide) (hbase : attributeBase (.Name x p1) "extend" X.env (eval (.Name x p1) X.env) = eval (.Name x p1) X.env := by rfl)
    (hfew : ((backTo p3 (starEach [e] X.env)).all (fun x => !x.1) && (backToKw p3 (keywordEach [] X.env)).all (fun x => x.1.isSome) && decide ([e].length + ([] : List Keyword).length + (if ([] : List Keyword).isEmpty then 0 else 1) < 30)) = true := by rfl)
    (hline : (p2.endLine == p3.line) = true := by rfl) (hs : starEach [e] X.env = (false, eval e X.env) :: starEach [] X.env := by rfl) (hpl : (backTo p3 (starEach [] X.env)).any (·.1) = false := by rfl)
    (hsw : swapsWith (.Call (.Attribute (.Name x p1) "extend" p2) [e] [] p3) none pos.line X.env = pure false := by rfl) :
    SD X K Ex (.Expr (.Call (.Attribute (.Name x p1) "extend" p2) [e] [] p3) pos) (gExt i y) := by
  subst hK
  refine ⟨ps_weak (ps_expr (pe_bm PySem.F.plainAttrs_list PySem.F.slot_list_extend PySem.F.type_list_extend mt_extend (pe_var hN hv hd hcd) (a_cons h a_nil hs).pa hbase hfew hline hs hpl) hsw) fun E σ H ⟨Hb, B, O, δ, F, S, q, L⟩ => ?_⟩
  obtain ⟨l, r, vs, e1, q, h1, h2, h3, h4, h5, h6⟩ := onOwn_at q (S.at_ i)
  refine ⟨_, h1, .inl ⟨rfl, _, .inl (.inl h4)⟩, Hb, B, O, δ, S, h.mono δ (fun d k ws H1 s1 as => ?_) q⟩
  cases as with
  | cons a1 r' =>
    cases r'
    unfold asLo at k
    split at k
    · obtain ⟨k0, k⟩ := k
      cases a1 with
      | lst g1 g2 g3 =>
        refine ⟨r, _, vs, _, rfl, rfl, s1 _ _ h4, hid_out _ _ g1, ?_, L.nx _ _ _ _ (own_upd (S.grow s1) e1 h1 h2 h3 ?_ ((h6.mono (hid_same s1)).append g3)) k⟩
        · rw [h6.len, g3.len]; exact lim_sz k0
        · rw [List.length_append]; exact k0
    · exact k.elim
/-- target = own.pop() -/
def gPop (i : Nat) (t : DG) : DS := fun F δ => onOwn (fun l => onSome l.getLast? fun d => t d (δ.set i (.own l.dropLast)) F.nx) (sl δ i)
theorem s_popSet (i : Nat) {x : Str} {tg : Expr} {js : List Nat} {t : DG} {p1 p2 p3 : Pos} (hg : GD X K tg js t) (hK : X.K = K := by rfl) (hN : X.N[i]? = some x := by rfl) (hv : Vis X.env.scope x := by first | exact Or.inl rfl | exact Or.inr (Or.inl rfl) | exact Or.inr (Or.inr rfl)) (hd : (x == ("__debug__" : Str)) = false := by decide)
    (hcd : (x == ("__classdict__" : Str)) = false := by decide) (hbase : attributeBase (.Name x p1) "pop" X.env (eval (.Name x p1) X.env) = eval (.Name x p1) X.env := by rfl) (hline : (p2.endLine == p3.line) = true := by rfl)
    (hs : swapsWithSole [tg] (.Call (.Attribute (.Name x p1) "pop" p2) [] [] p3) pos.line X.env = pure false := by rfl) (hw : swappedStores [tg] (.Call (.Attribute (.Name x p1) "pop" p2) [] [] p3) X.env = pure none := by rfl)
    (h1 : (assignEach [tg] X.env).map (·.2) = [assign tg X.env] := by rfl) : SD X K Ex (.Assign [tg] (.Call (.Attribute (.Name x p1) "pop" p2) [] [] p3) pos) (gPop i t) := by
  subst hK
  refine ⟨ps_weak (ps_asg (pe_bm0 PySem.F.plainAttrs_list PySem.F.slot_list_pop PySem.F.type_list_pop mt_pop (pe_var hN hv hd hcd) hbase hline) hg.pg hs hw h1) fun E σ H ⟨Hb, B, O, δ, F, S, q, L⟩ => ?_⟩
  obtain ⟨l, r, vs, e1, q, h1, h2, h3, h4, h5, h6⟩ := onOwn_at q (S.at_ i)
  obtain ⟨d, e2, k⟩ := of_onSome q
  rw [List.getLast?_eq_getElem?] at e2
  obtain ⟨v, ev, av⟩ := h6.get' e2
  rw [← h6.len] at ev
  refine ⟨_, h1, .inl ⟨rfl, _, .inl (.inl h4)⟩, r, vs, v, rfl, rfl, h4, ev, Hb, B, O, _, d, own_upd (l' := l.dropLast) S e1 h1 h2 h3 ?_ ?_, ?_, hg.mono d _ (fun δ' k σ' S' _ => L.nx _ _ _ _ S' k) k⟩
  · rw [List.length_dropLast]; omega
  · rw [List.dropLast_eq_take, List.dropLast_eq_take, h6.len]
    exact h6.take _
  · rw [hid_upd h2]; exact av
/-- own[i] = e -/
def gPut (i : Nat) (x y : DX) : DS := fun F δ => y δ fun d => onOwn (fun l => x δ (asI fun k => onSome (ixN l.length k) fun j => F.nx (δ.set i (.own (l.set j d))))) (sl δ i)
theorem s_put (i : Nat) {x : Str} {ie : Expr} {u v : DX} {p1 p2 : Pos} (hi : QD X K ie u) (h : PD X K e v) (hN : X.N[i]? = some x := by rfl) (hv : Vis X.env.scope x := by first | exact Or.inl rfl | exact Or.inr (Or.inl rfl) | exact Or.inr (Or.inr rfl)) (hd : (x == ("__debug__" : Str)) = false := by decide)
    (hcd : (x == ("__classdict__" : Str)) = false := by decide)
    (ha : ∀ v, assign (.Subscript (.Name x p1) ie p2) X.env v = (do
      let ov ← holding [v] (eval (.Name x p1) X.env)
      let iv ← holding [v, ov] (eval ie X.env)
      standAt p2
      holding [v, ov, iv] (setItem ov iv v)
      release [v, ov, iv] []) := by intro _; rfl)
    (hs : swapsWithSole [.Subscript (.Name x p1) ie p2] e pos.line X.env = pure false := by rfl) (hw : swappedStores [.Subscript (.Name x p1) ie p2] e X.env = pure none := by rfl)
    (h1 : (assignEach [.Subscript (.Name x p1) ie p2] X.env).map (·.2) = [assign (.Subscript (.Name x p1) ie p2) X.env] := by rfl) :
    SD X K Ex (.Assign [.Subscript (.Name x p1) ie p2] e pos) (gPut i u v) := by
  refine ⟨ps_weak (ps_asg h.pe (pg_sub (pe_var hN hv hd hcd) hi.pe set_list ha) hs hw h1) fun E σ H ⟨Hb, B, O, δ, F, S, q, L⟩ => ⟨Hb, B, O, δ, S, h.mono δ (fun d q w H1 s1 aw => ?_) q⟩⟩
  have S1 := S.grow s1
  obtain ⟨l, r, vs, e1, q, h1, h2, h3, h4, h5, h6⟩ := onOwn_at q (S1.at_ i)
  refine ⟨_, h1, Hb, B, O, δ, S1, hi.mono δ (fun ix q z H2 s2 az => ?_) q⟩
  obtain ⟨k, rfl, q⟩ := asI_at q az
  obtain ⟨j, ej, q⟩ := of_onSome q
  refine ⟨r, vs, k, j, rfl, rfl, s2 _ _ h4, by rw [h6.len]; exact ej, L.nx _ _ _ _ (own_upd (S1.grow s2) e1 h1 h2 h3 (by rw [List.length_set]; exact h5) ((h6.mono (hid_same s2)).set (aw.mono (hid_same s2)) j)) q⟩
/-! ### if, while, for -/
def gIf (t : DT) (g h : DS) : DS := fun F δ => t δ fun b => if b = true then g F δ else h F δ
theorem s_if {c : Expr} {a b : List Stmt} {t : DT} {g h : DS} (hc : TD X K c t) (ha : SDs X K Ex a g) (hb : SDs X K Ex b h) : SD X K Ex (.If c a b pos) (gIf t g h) :=
  ⟨ps_weak (ps_if hc.pt ha.pss hb.pss) fun E σ H ⟨Hb, B, O, δ, F, S, q, L⟩ => ⟨Hb, B, O, δ, S, hc.mono δ (fun b k H' s => ite_mono b (fun k => ⟨Hb, B, O, δ, F, S.grow s, k, L⟩) (fun k => ⟨Hb, B, O, δ, F, S.grow s, k, L⟩) k) q⟩⟩
def gWhile (t : DT) (g : DS) : DS := fun F δ => ∃ I : Nat → List Sl → Prop, (∃ m, I m δ) ∧ ∀ m δ, I m δ → t δ fun b => if b = true then g { F with nx := fun δ' => ∃ m', m' < m ∧ I m' δ', ct := fun δ' => ∃ m', m' < m ∧ I m' δ', bk := F.nx } δ else F.nx δ
theorem s_while {c : Expr} {body : List Stmt} {t : DT} {g : DS} (hp : PassesOwn (model X.prog X.w) X.A X.env X.xe) (hc : TD X K c t) (hb : SDs X K Ex body g) : SD X K Ex (.While c body [] pos) (gWhile t g) := by
  refine ⟨ps_weak (ps_while hp hc.pt hb.pss) fun E σ H ⟨Hb, B, O, δ, F, S, ⟨I, ⟨m0, i0⟩, step⟩, L⟩ => ⟨fun m σ H => ∃ O δ, Sta K Hb B O H σ δ ∧ I m δ, ⟨m0, O, δ, S, i0⟩, ?_⟩⟩
  rintro m σ1 H1 ⟨O1, δ1, S1, i1⟩
  refine ⟨Hb, B, O1, δ1, S1, hc.mono δ1 (fun b k H' s => ite_mono b (fun k => ?_) (fun k => L.nx _ _ _ _ (S1.grow s) k) k) (step m δ1 i1)⟩
  refine ⟨fun σ' H' => ∃ m', m' < m ∧ ∃ O δ, Sta K Hb B O H' σ' δ ∧ I m' δ, fun _ _ w => w, Hb, B, O1, δ1, _, S1.grow s, k, ?_⟩
  exact ⟨fun O σ H δ S ⟨m', h1, h2⟩ => ⟨m', h1, O, δ, S, h2⟩, L.nx, fun O σ H δ S ⟨m', h1, h2⟩ => ⟨m', h1, O, δ, S, h2⟩, L.rt, L.ex⟩
def fLoop (t : DG) (g : DS) (F : DE) : List D → List Sl → Prop
  | [], δ => F.nx δ
  | x :: xs, δ => t x δ fun δ' => g { F with nx := fLoop t g F xs, ct := fLoop t g F xs, bk := F.nx } δ'
def gFor (src : DAs) (t : DG) (g : DS) : DS := fun F δ => src δ fun l => fLoop t g F l δ
def nbs (Hb : Hp) (O : List Addr) : List Addr := O.filter fun a => (Hb a).isNone
theorem nbs_in {Hb : Hp} {O : List Addr} {a : Addr} (h : a ∈ nbs Hb O) : a ∈ O ∧ Hb a = none := by
  obtain ⟨h1, h2⟩ := List.mem_filter.mp h
  exact ⟨h1, by simpa using h2⟩
theorem in_nbs {Hb : Hp} {O : List Addr} {a : Addr} (h : a ∈ O) (n : Hb a = none) : a ∈ nbs Hb O := List.mem_filter.mpr ⟨h, by rw [n]; rfl⟩
theorem hid_in {O : List Addr} {H : Hp} {a : Addr} (h : a ∈ O) : hid O H a = none := if_pos h
theorem Sta.rebase {Hb H : Hp} {B O : List Addr} {σ : St} {δ : List Sl} (S : Sta K Hb B O H σ δ) : Sta K (hid (nbs Hb O) H) B O H σ δ := by
  refine ⟨S.len, hid_out, S.sub, fun b hb => ?_, S.live, fun q hq => ?_, fun i => ?_, S.inj⟩
  · rw [hid_of fun z => S.liveB b hb (nbs_in z).2]
    exact S.live b (S.sub b hb)
  · exact (S.fresh q hq).imp id fun n => hid_in (in_nbs hq n)
  · have a := S.at_ i
    cases e : sl δ i with
    | no => trivial
    | d x => rw [e] at a; exact a
    | own l => rw [e] at a; obtain ⟨q, vs, h1, h2, h3, h4⟩ := a; exact ⟨q, vs, h1, h2, hid_in (in_nbs h2 h3), h4⟩
    | owk ks l => rw [e] at a; obtain ⟨q, vs, h1, h2, h3, h4⟩ := a; exact ⟨q, vs, h1, h2, hid_in (in_nbs h2 h3), h4⟩
theorem Sta.rebase_same {Hb H : Hp} {B O : List Addr} {σ : St} {δ : List Sl} (S : Sta K Hb B O H σ δ) : Same Hb (hid (nbs Hb O) H) := fun b x h => by
  rw [hid_of fun z => by have := (nbs_in z).2; rw [h] at this; cases this]
  exact S.same _ _ h
theorem Sta.based {Hb Hc H : Hp} {B O : List Addr} {σ : St} {δ : List Sl} (S : Sta K Hc B O H σ δ) (s : Same Hb Hc) (lb : ∀ b ∈ B, Hb b ≠ none) : Sta K Hb B O H σ δ := by
  refine ⟨S.len, s.trans S.same, S.sub, lb, S.live, fun q hq => (S.fresh q hq).imp id fun n => s.free n, fun i => ?_, S.inj⟩
  have a := S.at_ i
  cases e : sl δ i with
  | no => trivial
  | d x => rw [e] at a; exact a
  | own l => rw [e] at a; obtain ⟨q, vs, h1, h2, h3, h4⟩ := a; exact ⟨q, vs, h1, h2, s.free h3, h4⟩
  | owk ks l => rw [e] at a; obtain ⟨q, vs, h1, h2, h3, h4⟩ := a; exact ⟨q, vs, h1, h2, s.free h3, h4⟩
theorem s_for {tg iter : Expr} {body : List Stmt} {js : List Nat} {src : DAs} {t : DG} {g : DS} (hp : PassesOwn (model X.prog X.w) X.A X.env X.xe) (hi : IP X K tg iter src) (hg : GD X K tg js t) (hb : SDs X K Ex body g) (hc : X.calm = true := by rfl)
    (hs : ∀ x, foldedSetIterable iter X.env x = pure x := by intro _; rfl) : SD X K Ex (.For tg iter body [] pos) (gFor src t g) := by
  refine ⟨ps_weak (ps_for hp hc hi.pi hg.pg hb.pss hs) fun E σ H ⟨Hb, B, O, δ, F, S, q, L⟩ => ⟨Hb, B, O, δ, S, hi.mono δ (fun l q J H1 s1 hl wk => ?_) q⟩⟩
  have S1 := S.grow s1
  have hsb : Same (hid O H1) (hid (nbs Hb O) H1) := hid_sub fun a h => (nbs_in h).1
  let W : Nat → Nat → St → Hp → Prop := fun i m σ2 H2 => m = l.length - i ∧ i ≤ l.length ∧ ∃ O2 δ2, Sta K (hid (nbs Hb O) H1) B O2 H2 σ2 δ2 ∧ fLoop t g F (l.drop i) δ2
  refine ⟨W, ⟨l.length, by simp, Nat.zero_le _, O, δ, S1.rebase, q⟩, ?_⟩
  rintro i m σ2 H2 ⟨rfl, hi2, O2, δ2, S2, q⟩
  have w2 := wk i H2 (hsb.trans S2.same)
  have out : ∀ O σ H δ, Sta K (hid (nbs Hb O) H1) B O H σ δ → True := fun _ _ _ _ _ => trivial
  by_cases lt : i < l.length
  · right
    obtain ⟨d, ed⟩ : ∃ d, l[i]? = some d := ⟨l[i], List.getElem?_eq_getElem lt⟩
    have dr : l.drop i = d :: l.drop (i + 1) := by
      rw [List.drop_eq_getElem_cons lt]
      rw [List.getElem?_eq_getElem lt] at ed
      rw [Option.some.inj ed]
    obtain ⟨go, yl⟩ := w2.1 d ed
    refine ⟨go, W (i + 1) (l.length - (i + 1)), fun σ' H' w => ⟨_, by omega, w⟩, fun x H3 y => ?_⟩
    obtain ⟨s3, ax⟩ := yl x H3 y
    have ax := ax O2 S2.live fun a u h => by
      obtain ⟨na, _⟩ := hid_some h
      have h' := hsb _ _ h
      have h2 := S2.same _ _ h'
      rw [hid_of fun z => ?_]
      · exact h2
      · rcases S2.fresh a z with z | z
        · exact na (S.sub a z)
        · rw [h'] at z; cases z
    have S3 := S2.grow s3
    rw [dr] at q
    refine ⟨_, B, O2, δ2, d, S3, ax, hg.mono d δ2 (fun δ' k σ' S' _ => ⟨_, B, O2, δ', _, S', k, ?_⟩) q⟩
    exact ⟨fun O σ H δ S q => ⟨rfl, lt, O, δ, S, q⟩, fun O σ H δ S' q => L.nx _ _ _ _ (S'.based S1.rebase_same S.liveB) q, fun O σ H δ S q => ⟨rfl, lt, O, δ, S, q⟩, fun v H d s a q => L.rt v H d (S1.rebase_same.trans s) a q, fun C H s q => L.ex C H (S1.rebase_same.trans s) q⟩
  · left
    have e : i = l.length := by omega
    subst e
    rw [List.drop_length] at q
    exact ⟨w2.2 (Nat.le_refl _), L.nx _ _ _ _ (S2.based S1.rebase_same S.liveB) q⟩
/-! ### raise; calls of defs that raise -/
def gRaise (C : Addr) : DS := fun F _ => F.ex C
theorem s_raise {C : Addr} {tr : TS} (h : PS X st tr) (i : ∀ D σ H, Ex (.ref C) none H → tr D σ H) : SD X K Ex st (gRaise C) := ⟨ps_weak h fun E σ H ⟨Hb, B, O, δ, F, S, q, L⟩ => i _ _ _ (L.ex C H S.same q)⟩
def MonoRx (R : Rx) : Prop := ∀ ds {Q Q' : D → Prop} {Z Z' : Addr → Prop}, (∀ d, Q d → Q' d) → (∀ C, Z C → Z' C) → R ds Q Z → R ds Q' Z'
abbrev DXX := List Sl → (D → Prop) → (Addr → Prop) → Prop
def tX (K : PySem.W.Frag) (Ex : XK) (x : DXX) : TE := fun σ H Q => ∃ Hb B O δ, Sta K Hb B O H σ δ ∧ x δ (fun d => ∀ v H', Same H H' → At K (hid O H') v d → Q v H') fun C => ∀ H', Same H H' → Ex (.ref C) none H'
structure XD (X : Cx) (K : PySem.W.Frag) (Ex : XK) (e : Expr) (x : DXX) : Prop where
  mono : ∀ δ {Q Q' : D → Prop} {Z Z' : Addr → Prop}, (∀ d, Q d → Q' d) → (∀ C, Z C → Z' C) → x δ Q Z → x δ Q' Z'
  pe : PE X e (tX K Ex x)
def xCall (R : Rx) (xs : List DX) : DXX := fun δ Q Z => dArgs xs δ fun ds => R ds Q Z
theorem x_call {k : Nat} {x : Str} {ps : List Str} {R : Rx} {es : List Expr} {xs : List DX} {p : Pos} (C : Cal X.prog X.w X.K X.mg X.base (L2.CX X.prog X.w) k x ps (spX K R)) (hm : MonoRx R) (hr : Room k X.A) (tk : Takes X fun cls d _ H => Ex cls d H) (ha : AD X K (e :: es) xs) (hg : Gl X x := by rfl) (hdb : (x == ("__debug__" : Str)) = false := by decide)
    (he : starEach (e :: es) X.env = (false, eval e X.env) :: starEach es X.env := by rfl) (hpl : (backTo pos (starEach es X.env)).any (·.1) = false := by rfl) : XD X K Ex (.Call (.Name x p) (e :: es) [] pos) (xCall R xs) := by
  obtain ⟨f, fd, h1, h2, h3, h4⟩ := C.ex
  refine ⟨fun δ Q Q' Z Z' i j q => ha.mono δ (fun ds => hm ds i j) q, pe_weak (pe_callS h4 hr hg h1 h2 h3 (fun σ => passAt tk σ) ha.pa hdb he hpl) fun σ H Q ⟨Hb, B, O, δ, S, q⟩ => ⟨Hb, B, O, δ, S, ha.mono δ (fun ds g vs H1 s1 as => ?_) q⟩⟩
  exact ⟨O, ds, fun p hp => live_same (S.live p hp) s1, as, hm ds (fun d k v H' s a => k v H' (s1.trans s) a) (fun C k H' s => k H' (s1.trans s)) g⟩
def gDropX (x : DXX) : DS := fun F δ => x δ (fun _ => F.nx δ) F.ex
theorem s_exprX {x : DXX} (h : XD X K Ex e x) (hs : swapsWith e none pos.line X.env = pure false := by rfl) : SD X K Ex (.Expr e pos) (gDropX x) :=
  ⟨ps_weak (ps_expr h.pe hs) fun E σ H ⟨Hb, B, O, δ, F, S, q, L⟩ => ⟨Hb, B, O, δ, S, h.mono δ (fun d k v H' s a => L.nx _ _ _ _ (S.grow s) k) (fun C k H' s => L.ex C H' (S.same.trans s) k) q⟩⟩
def gRetX (x : DXX) : DS := fun F δ => x δ F.rt F.ex
theorem s_retX {x : DXX} (h : XD X K Ex e x) : SD X K Ex (.Return (some e) pos) (gRetX x) :=
  ⟨ps_weak (ps_ret h.pe) fun E σ H ⟨Hb, B, O, δ, F, S, q, L⟩ => ⟨Hb, B, O, δ, S, h.mono δ (fun d k v H' s a => L.rt v H' d (S.same.trans s) ((S.grow s).out a) k) (fun C k H' s => L.ex C H' (S.same.trans s) k) q⟩⟩
def gSetX (i : Nat) (x : DXX) : DS := fun F δ => x δ (fun d => F.nx (δ.set i (.d d))) F.ex
theorem s_setX {i : Nat} {x : Str} {y : DXX} {pos' : Pos} (hN : X.N.Nodup) (hi : X.N[i]? = some x) (hx : Loc X.env.scope x) (h : XD X K Ex e y) (hs : swapsWith e (some (.Name x pos')) pos.line X.env = pure false := by rfl)
    (hf : X.fn x = true ∨ X.env.scope.names.lookup x = some .local := by first | exact .inl rfl | exact .inr rfl | assumption) : SD X K Ex (.Assign [.Name x pos'] e pos) (gSetX i y) :=
  ⟨ps_weak (ps_set hN hi hx h.pe hs hf) fun E σ H ⟨Hb, B, O, δ, F, S, q, L⟩ => ⟨Hb, B, O, δ, S, h.mono δ (fun d k v H' s a => L.nx _ _ _ _ ((S.grow s).set a) k) (fun C k H' s => L.ex C H' (S.same.trans s) k) q⟩⟩
end
/-! ### defs -/
def dstart (n : Nat) (ds : List D) : List Sl := ds.map Sl.d ++ List.replicate (n - ds.length) .no
theorem sta_start {K : PySem.W.Frag} {H : Hp} {B : List Addr} {N : List Str} {vs : List V} {ds : List D} (lb : ∀ b ∈ B, H b ≠ none) (a : AtAll K (hid B H) vs ds) : Sta K H B B H (L2.start N vs) (dstart N.length ds) := by
  have hl := a.len
  have sd : ∀ i, sl (dstart N.length ds) i = match ds[i]? with | some d => .d d | none => .no := fun i => by
    unfold dstart
    have : ∀ (ds : List D) (m i : Nat), sl (ds.map Sl.d ++ List.replicate m .no) i = match ds[i]? with | some d => .d d | none => .no := by
      intro ds
      induction ds with
      | nil =>
        intro m
        induction m with
        | zero => intro i; rfl
        | succ m ih => intro i; cases i with
          | zero => rfl
          | succ i => exact ih i
      | cons d ds ih => intro m i; cases i with
        | zero => rfl
        | succ i => exact ih m i
    exact this ds _ i
  refine ⟨?_, .refl H, fun b h => h, lb, lb, fun q h => .inl h, fun i => ?_, fun i j q h => ?_⟩
  · unfold L2.start dstart
    rw [List.length_append, List.length_append, List.length_map, List.length_map, List.length_replicate, List.length_replicate, hl]
  · rw [sd i]
    cases e : ds[i]? with
    | none => trivial
    | some d =>
      obtain ⟨v, ev, av⟩ := a.get' e
      refine ⟨v, ?_, av⟩
      unfold L2.start
      have hi := (List.getElem?_eq_some_iff.mp ev).1
      rw [List.getElem?_append_left (by rw [List.length_map]; exact hi), List.getElem?_map, ev]
      rfl
  · rw [sd i] at h
    cases e : ds[i]? with
    | none => rw [e] at h; cases h
    | some d => rw [e] at h; cases h
section
variable {P : Program} {w : World} {K : PySem.W.Frag} {mg : Str → Option Value} {base : Heap}
def endR (Q : D → Prop) : DE := ⟨fun _ => Q .non, Q, fun _ => False, fun _ => False, fun _ => False⟩
/-- a def: its body as a term of rules, and what it gives -/
theorem fn_ok {x : Str} {st : Stmt} {N ps : List Str} {k : Nat} {R : Rf} {g : DS} {f : Addr} {fd : FuncData} (F : Fun K x x st f fd) (S : FnScope N ps (defScope st)) (len : ∀ ds Q, R ds Q → ds.length = ps.length)
    (hb : ∀ (f : Addr) (cdv : Value) (A : Around) (outer : List Env) (s : Shared) (H : Hp) (E : XK), Room k (A.deeper (PyProof.Rows.envOfC x (defScope st) s.heap.objs.size f cdv)) → SDs (cxOf CX0 P w K mg base N x (defScope st) f cdv A outer s H E).nox K (fun _ _ _ => False) (defBody st) g)
    (hR : ∀ ds Q, R ds Q → g (endR Q) (dstart N.length ds)) : FnOk P w K mg base CX0 (k + 1) f fd ps (spW K R) := by
  refine F.ok S (fun vs H Q E ⟨B, ds, lb, a, r⟩ => by rw [a.len]; exact len _ _ r) fun cdv A outer s H vs Q E hr ⟨B, ds, lb, a, r⟩ => ?_
  refine ⟨_, (hb f cdv A outer s H E hr).pss, H, B, B, _, endR _, sta_start lb a, hR _ _ r, ?_⟩
  exact ⟨fun O σ H' δ S k => k .non H' S.same .non, fun _ _ _ _ _ k => k.elim, fun _ _ _ _ _ k => k.elim, fun v H' d s a k => k v H' s a, fun _ _ _ k => k.elim⟩
theorem cal_ok {x : Str} {st : Stmt} {N ps : List Str} {k : Nat} {R : Rf} {g : DS} (Df : Df K mg x st ps) (S : FnScope N ps (defScope st)) (len : ∀ ds Q, R ds Q → ds.length = ps.length)
    (hb : ∀ (f : Addr) (cdv : Value) (A : Around) (outer : List Env) (s : Shared) (H : Hp) (E : XK), Room k (A.deeper (PyProof.Rows.envOfC x (defScope st) s.heap.objs.size f cdv)) → SDs (cxOf CX0 P w K mg base N x (defScope st) f cdv A outer s H E).nox K (fun _ _ _ => False) (defBody st) g)
    (hR : ∀ ds Q, R ds Q → g (endR Q) (dstart N.length ds)) : Cal P w K mg base CX0 (k + 1) x ps (spW K R) := by
  obtain ⟨f, fd, gf, F, b⟩ := Df
  exact ⟨f, fd, gf, F.kp, b, fn_ok F S len hb hR⟩
def endX (Q : D → Prop) (Z : Addr → Prop) : DE := ⟨fun _ => Q .non, Q, fun _ => False, fun _ => False, Z⟩
theorem cal_okX {x : Str} {st : Stmt} {N ps : List Str} {k : Nat} {R : Rx} {g : DS} (Df : Df K mg x st ps) (S : FnScope N ps (defScope st)) (len : ∀ ds Q Z, R ds Q Z → ds.length = ps.length)
    (hb : ∀ (f : Addr) (cdv : Value) (A : Around) (outer : List Env) (s : Shared) (H : Hp) (E : XK), Room k (A.deeper (PyProof.Rows.envOfC x (defScope st) s.heap.objs.size f cdv)) → SDs (cxOf (L2.CX P w) P w K mg base N x (defScope st) f cdv A outer s H E) K E (defBody st) g)
    (hR : ∀ ds Q Z, R ds Q Z → g (endX Q Z) (dstart N.length ds)) : Cal P w K mg base (L2.CX P w) (k + 1) x ps (spX K R) := by
  obtain ⟨f, fd, gf, F, b⟩ := Df
  refine ⟨f, fd, gf, F.kp, b, F.okX S (fun vs H Q E ⟨B, ds, lb, a, r⟩ => by rw [a.len]; exact len _ _ _ r) fun cdv A outer s H vs Q E hr ⟨B, ds, lb, a, r⟩ => ?_⟩
  refine ⟨_, (hb f cdv A outer s H E hr).pss, H, B, B, _, endX _ _, sta_start lb a, hR _ _ _ r, ?_⟩
  exact ⟨fun O σ H' δ S k => k .non H' S.same .non, fun _ _ _ _ _ k => k.elim, fun _ _ _ _ _ k => k.elim, fun v H' d s a k => k v H' s a, fun C H' s k => k H' s⟩
end
end DL

namespace DL
open PySem L2
theorem hu64 {k : Nat} {A : Around} (hr : Room k A) : A.units + 64 < cLine := by have := hr.un; omega
theorem yT {c : Bool} {A B : Prop} (h : c = true) (a : A) : if c = true then A else B := by rw [if_pos h]; exact a
theorem yF {c : Bool} {A B : Prop} (h : c = false) (b : B) : if c = true then A else B := by rw [h, if_neg Bool.false_ne_true]; exact b
theorem yB {c : Bool} {A B : Prop} (a : c = true → A) (b : c = false → B) : if c = true then A else B := by
  cases c with
  | true => exact iteT (a rfl)
  | false => exact iteF (b rfl)
/-- of a decision -/
theorem yD {p : Prop} [Decidable p] {A B : Prop} (a : p → A) (b : ¬ p → B) : if decide p = true then A else B := yB (fun h => a (of_decide_eq_true h)) (fun h => b (of_decide_eq_false h))
theorem yN {p : Prop} [Decidable p] {A B : Prop} (a : ¬ p → A) (b : p → B) : if (!decide p) = true then A else B := by
  by_cases h : p
  · rw [decide_eq_true h]; exact iteF (b h)
  · rw [decide_eq_false h]; exact iteT (a h)
theorem yNB {c : Bool} {A B : Prop} (a : c = false → A) (b : c = true → B) : if (!c) = true then A else B := by
  cases c with
  | true => exact iteF (b rfl)
  | false => exact iteT (a rfl)
theorem lt_lim {n : Nat} (h : n < 1000000) : n < LIM := h
theorem le_lim {n : Nat} (h : n ≤ 1000000) : n ≤ LIM := h
theorem rgb {a b : Int} (h1 : -1000000 ≤ a) (h2 : a ≤ 1000000) (h3 : b ≤ 1000000) (h4 : -1000000 ≤ b) (h5 : b - a ≤ 1000000) : RgB a b := ⟨h1, h2, h4, h3, by show (b - a).toNat ≤ 1000000; omega⟩
/-- both ways of an if lead on: what follows is shown once (with apply, not refine) -/
theorem joinB {α : Type} {c : Bool} {A : Prop} {P : α → Prop} (ok : α → Prop) (L : α) (h : ok L) (hA : c = true → (∀ L, ok L → P L) → A) (t : ∀ L, ok L → P L) : if c = true then A else P L := yB (fun k => hA k t) (fun _ => t L h)
/-! ### defs by a relation -/
def relR (rr : List D → D → Prop) : Rf := fun ds Q => ∃ d, rr ds d ∧ Q d
theorem relR_mono {rr : List D → D → Prop} : MonoR (relR rr) := fun ds Q Q' i ⟨d, h, q⟩ => ⟨d, h, i _ q⟩
/-- .. not told exactly -/
def allR (dom : List D → Prop) (rr : List D → D → Prop) : Rf := fun ds Q => dom ds ∧ ∀ d, rr ds d → Q d
theorem allR_mono {dom : List D → Prop} {rr : List D → D → Prop} : MonoR (allR dom rr) := fun ds Q Q' i ⟨h, q⟩ => ⟨h, fun d r => i _ (q d r)⟩
inductive Out where
  | ret (d : D) | exc (C : Addr)
def outQ (Q : D → Prop) (Z : Addr → Prop) : Out → Prop
  | .ret d => Q d
  | .exc C => Z C
def relX (rr : List D → Out → Prop) : Rx := fun ds Q Z => ∃ o, rr ds o ∧ outQ Q Z o
theorem relX_mono {rr : List D → Out → Prop} : MonoRx (relX rr) := fun ds Q Q' Z Z' i j ⟨o, h, q⟩ => ⟨o, h, by cases o with
  | ret d => exact i _ q
  | exc C => exact j _ q⟩
/-- an own error class without more -/
structure Exc (K : PySem.W.Frag) (mg : Str → Option Value) (x : Str) (C : Addr) : Prop where
  g : mg x = some (.ref C)
  x : PySem.W.excIn K C [.type "ValueError", .type "Exception", .type "BaseException", .type "object"] "ValueError.__new__" = true
  k : PySem.W.keepIn K (.ref C) = true
  b : PySem.W.subIn K (.ref C) (.type "BaseException") = some true
  t : PySem.W.typeIn K (.ref C) = some (.type "type")
section
variable {X : Cx} {K : PySem.W.Frag} {Ex : XK} {e a b c tg : Expr} {pos : Pos}
/-- slices of lists, tuples, texts -/
def dSl (Q : D → Prop) : D → Option Int → Option Int → Prop
  | .lst l, lo, hi => Q (.lst (cutD l lo hi))
  | .scr l, lo, hi => Q (.lst (cutD l lo hi))
  | .tup l, lo, hi => Q (.tup (cutD l lo hi))
  | .str z, lo, hi => z.length ≤ LIM ∧ Q (.str (cutS z lo hi))
  | _, _, _ => False
theorem dSl_mono {Q Q' : D → Prop} (i : ∀ x, Q x → Q' x) (d : D) (lo hi : Option Int) (q : dSl Q d lo hi) : dSl Q' d lo hi := by
  unfold dSl at q ⊢
  split at q
  · exact i _ q
  · exact i _ q
  · exact i _ q
  · exact ⟨q.1, i _ q.2⟩
  · exact q
theorem cut_all {α : Type} (l : List α) {m : Nat} {lo hi : Option Int} (hl : l.length = m) (w : HT.sIx m 0 lo = 0 ∧ HT.sIx m m hi = m) : cutD l lo hi = l := by
  unfold cutD
  rw [hl, w.1, w.2, List.drop_zero, Nat.sub_zero, ← hl, List.take_length]
theorem d_slice {lo hi : Option Expr} {p2 : Pos} {x : DX} {y z : DO} (ha : QD X K a x) (hl : OD X K lo y) (hh : OD X K hi z) (hK : X.K = K := by rfl) : PD X K (.Subscript a (.Slice lo hi none p2) pos) (fun δ Q => x δ fun d => y δ fun l => z δ fun u => dSl Q d l u) := by
  subst hK
  refine ⟨fun δ Q Q' i q => ha.mono δ (fun d => hl.mono δ fun l => hh.mono δ fun u => dSl_mono i d l u) q, pe_weak (pe_slice (sl_list.or (sl_tupA.or sl_str)) ha.pe hl.po hh.po) fun σ H Q ⟨Hb, B, O, δ, S, q⟩ =>
    ⟨Hb, B, O, δ, S, ha.mono δ (fun d g u H1 s1 au => ⟨Hb, B, O, δ, S.grow s1, hl.mono δ (fun l g H2 s2 => ⟨Hb, B, O, δ, S.grow (s1.trans s2), hh.mono δ (fun h g H3 s3 => ?_) g⟩) g⟩) q⟩⟩
  have au := au.grow (s2.trans s3)
  have s := s1.trans (s2.trans s3)
  have lv : ∀ b ∈ O, H3 b ≠ none := fun b hb => live_same (S.live b hb) s
  unfold dSl at g
  split at g
  · obtain ⟨p, vs, rfl, h1, h2, h3⟩ := au.list
    exact .inl ⟨p, vs, rfl, .inl (.inl h1), fun t n => g _ _ (s.trans (same_new n)) (At.newL lv n (Nat.le_trans (cutD_len _ _ _) h2) (cut_at h3 _ _))⟩
  · obtain ⟨p, vs, rfl, h1, h2, h3⟩ := au.script
    exact .inl ⟨p, vs, rfl, h1, fun t n => g _ _ (s.trans (same_new n)) (At.newL lv n (Nat.le_trans (cutD_len _ _ _) h2) (cut_at h3 _ _))⟩
  · obtain ⟨p, vs, rfl, h1, h2, h3, h4⟩ := au.tuple
    refine .inr (.inl ⟨p, vs, rfl, h1, fun w => g _ H3 s ?_, fun w t n => g _ _ (s.trans (same_new n)) (At.newT lv n (Nat.le_trans (cutD_len _ _ _) h2) (cut_at h3 _ _))⟩)
    rw [cut_all _ h3.len.symm w]
    exact .tup h4 h2 h3
  · exact .inr (.inr ⟨_, au.str, lim_sz g.1, g.2 _ H3 s (.str _)⟩)
  · exact g.elim
end
/-! ### lists of numbers -/
def natsD (l : List Nat) : List D := l.map fun (n : Nat) => D.int (n : Int)
theorem natsD_get {l : List Nat} {k : Nat} {d : Nat} (h : l[k]? = some d) : (natsD l)[k]? = some (.int (d : Int)) := by
  unfold natsD
  rw [List.getElem?_map, h]; rfl
theorem natsD_len (l : List Nat) : (natsD l).length = l.length := List.length_map _
theorem natsD_app (l : List Nat) (n : Nat) : natsD (l ++ [n]) = natsD l ++ [.int (n : Int)] := List.map_append
theorem natsD_ints (l : List Nat) : natsD l = (l.map fun (n : Nat) => (n : Int)).map D.int := by unfold natsD; rw [List.map_map]; rfl
theorem natsD_of {l : List Nat} {k : Nat} {d : D} (h : (natsD l)[k]? = some d) : ∃ n, l[k]? = some n ∧ d = .int (n : Int) := by
  unfold natsD at h
  rw [List.getElem?_map] at h
  cases e : l[k]? with
  | none => rw [e] at h; cases h
  | some n => rw [e] at h; exact ⟨n, rfl, (Option.some.inj h).symm⟩
theorem mod_nat (x : Int) {m : Int} (h : 0 < m) : ∃ n : Nat, x % m = (n : Int) ∧ (n : Int) < m := ⟨(x % m).toNat, by have := Int.emod_nonneg x (by omega : m ≠ 0); omega, by have := Int.emod_lt_of_pos x h; have := Int.emod_nonneg x (by omega : m ≠ 0); omega⟩
theorem mulR {i j : Int} (h : -(2 ^ 64) < j ∧ j < 2 ^ 64) : mulOk i j := .inl (.inr h)
theorem mulL {i j : Int} (h : -(2 ^ 64) < i ∧ i < 2 ^ 64) : mulOk i j := .inl (.inl h)
theorem md {j : Int} (h : 0 < j) : 0 < j := h
theorem divS {i j : Int} (h : 0 < j) (h2 : j < 1000000000) : CDivW i j := wide_div (b := 30) h (by omega) (by decide) (by decide)
/-- a def that may raise, called where it does not -/
theorem d_callL {X : Cx} {K : PySem.W.Frag} {e : Expr} {pos : Pos} {k : Nat} {x : Str} {ps : List Str} {R : Rx} {es : List Expr} {xs : List DX} {p : Pos} (C : Cal X.prog X.w X.K X.mg X.base (L2.CX X.prog X.w) k x ps (spX K R)) (hm : MonoRx R) (hr : Room k X.A) (ha : AD X K (e :: es) xs) (hg : Gl X x := by rfl) (hdb : (x == ("__debug__" : Str)) = false := by decide)
    (he : starEach (e :: es) X.env = (false, eval e X.env) :: starEach es X.env := by rfl) (hpl : (backTo pos (starEach es X.env)).any (·.1) = false := by rfl) : PD X K (.Call (.Name x p) (e :: es) [] pos) (dCall (fun ds Q => R ds Q fun _ => False) xs) := by
  obtain ⟨f, fd, h1, h2, h3, h4⟩ := C.ex
  refine ⟨fun δ Q Q' i q => ha.mono δ (fun ds => hm ds i fun _ z => z) q, pe_weak (pe_call h4 hr hg h1 h2 h3 .nil passL ha.pa hdb he hpl) fun σ H Q ⟨Hb, B, O, δ, S, q⟩ => ⟨Hb, B, O, δ, S, ha.mono δ (fun ds g vs H1 s1 as => ?_) q⟩⟩
  show spX K R (vs ++ []) H1 Q E0
  rw [List.append_nil]
  exact ⟨O, ds, fun p hp => live_same (S.live p hp) s1, as, hm ds (fun d k v H' s a => k v H' (s1.trans s) a) (fun C k => k.elim) g⟩
def dNeg (x : DX) : DX := fun δ Q => x δ (asI fun i => Q (.int (-i)))
theorem d_neg {X : Cx} {K : PySem.W.Frag} {a : Expr} {pos : Pos} {x : DX} (h : QD X K a x) : PD X K (.UnaryOp .USub a pos) (dNeg x) := by
  refine ⟨fun δ Q Q' i q => h.mono δ (asI_mono fun _ => i _) q, pe_weak (pe_un un_neg h.pe) fun σ H Q ⟨Hb, B, O, δ, S, q⟩ => ⟨Hb, B, O, δ, S, h.mono δ (fun d k v H' s a => ?_) q⟩⟩
  obtain ⟨i, rfl, k⟩ := asI_at k a
  exact ⟨i, rfl, k _ H' s (.int _)⟩
/-! ### in -/
def flatD : D → Bool
  | .non | .bl _ | .int _ | .str _ => true
  | _ => false
def eqF : D → D → Bool
  | .non, .non => true
  | .bl a, .bl b => a == b
  | .bl a, .int b => (if a then 1 else 0) == b
  | .int a, .bl b => a == (if b then 1 else 0)
  | .int a, .int b => a == b
  | .str a, .str b => a == b
  | _, _ => false
def inD (x : D) (l : List D) : Bool := l.any fun y => eqF y x
def seqOf : D → Option (List D)
  | .lst l | .tup l | .scr l => some l
  | _ => none
def oInB (g : Bool → Bool) : D → D → (D → Prop) → Prop := fun x y Q => onSome (seqOf y) fun l => (flatD x = true ∧ l.all flatD = true) ∧ Q (.bl (g (inD x l)))
section
variable {X : Cx} {K : PySem.W.Frag}
theorem flat_at {H : Hp} {v : V} {d : D} (h : At K H v d) (f : flatD d = true) : flatV v = true ∧ ∀ {w : V} {e : D}, At K H w e → flatD e = true → eqV v w = eqF d e := by
  cases h with
  | non => exact ⟨rfl, fun h2 f2 => by cases h2 <;> first | rfl | cases f2⟩
  | bl b => exact ⟨rfl, fun h2 f2 => by cases h2 <;> first | rfl | cases f2⟩
  | int b => exact ⟨rfl, fun h2 f2 => by cases h2 <;> first | rfl | cases f2⟩
  | str b => exact ⟨rfl, fun h2 f2 => by cases h2 <;> first | rfl | cases f2⟩
  | _ => cases f
theorem flats_at {H : Hp} {vs : List V} {l : List D} (h : AtAll K H vs l) (f : l.all flatD = true) {w : V} {e : D} (a : At K H w e) (fe : flatD e = true) : vs.all flatV = true ∧ inV w vs = inD e l := by
  induction vs generalizing l with
  | nil => cases h; exact ⟨rfl, rfl⟩
  | cons v vs ih =>
    cases h with
    | cons h1 h2 =>
      rw [List.all_cons, Bool.and_eq_true] at f
      obtain ⟨g1, g2⟩ := ih h2 f.2
      obtain ⟨k1, k2⟩ := flat_at h1 f.1
      refine ⟨by rw [List.all_cons, k1, g1]; rfl, ?_⟩
      unfold inV inD at g2 ⊢
      rw [List.any_cons, List.any_cons, k2 a fe, g2]
theorem oIn_ok {neg : Bool} {f : Value → Value → Sem Value} (hr : OpR X f (rIn X.K neg)) (hK : X.K = K) : OpD X K f (oInB fun b => if neg then !b else b) := by
  subst hK
  refine ⟨fun a b Q Q' i q => ?_, _, hr, fun O H x y a b Q l ax ay q => ?_⟩
  · exact onSome_mono (fun l q => ⟨q.1, i _ q.2⟩) q
  · obtain ⟨m, e, ⟨f1, f2⟩, q⟩ := of_onSome q
    have go : ∀ p vs, y = .ref p → (SqL X.K H p vs ∨ SqT X.K H p vs) → AtAll X.K (hid O H) vs m → rIn X.K neg x y H Q := fun p vs ey hs h => by
      have ax' : At X.K H x a := ax.plain
      obtain ⟨g1, g2⟩ := flats_at (h.mono hid_out) f2 ax' f1
      refine ⟨p, vs, ey, hs, (flat_at ax' f1).1, g1, ?_⟩
      rw [g2]
      exact q _ H (.refl H) (.bl _)
    cases b with
    | lst l' => cases e; obtain ⟨p, vs, rfl, h1, h2, h3⟩ := ay.list; exact go p vs rfl (.inl (.inl (.inl h1))) h3
    | tup l' => cases e; obtain ⟨p, vs, rfl, h1, h2, h3, _⟩ := ay.tuple; exact go p vs rfl (.inr h1) h3
    | scr l' => cases e; obtain ⟨p, vs, rfl, h1, h2, h3⟩ := ay.script; exact go p vs rfl (.inl h1) h3
    | non | bl _ | int _ | str _ | dic _ _ | ref _ | ptp _ => cases e
theorem o_in (hK : X.K = K := by rfl) : OpD X K (compareOp .In) (oInB fun b => b) := oIn_ok (neg := false) op_in_seq hK
theorem o_notIn (hK : X.K = K := by rfl) : OpD X K (compareOp .NotIn) (oInB fun b => !b) := oIn_ok (neg := true) op_notIn_seq hK
end
/-! ### data that may be compared -/
theorem canLay_ints : ∀ l : List D, (∀ d ∈ l, ∃ i, d = .int i) → isDats l = true ∧ PyData.canLayAll0 (toPs l) = true ∧ PyData.depthAll (toPs l) = 0
  | [], _ => ⟨rfl, rfl, rfl⟩
  | d :: l, h => by
    obtain ⟨i, rfl⟩ := h d List.mem_cons_self
    obtain ⟨h1, h2, h3⟩ := canLay_ints l fun d hd => h d (List.mem_cons_of_mem _ hd)
    refine ⟨?_, ?_, ?_⟩
    · show (true && isDats l) = true
      rw [h1]; rfl
    · show (PyData.canLay0 (.int i) && PyData.canLayAll0 (toPs l)) = true
      rw [h2]; rfl
    · show max (PyData.depth (.int i)) (PyData.depthAll (toPs l)) = 0
      rw [h3]; rfl
theorem okD_ints {l : List D} (h : ∀ d ∈ l, ∃ i, d = .int i) : okD (.lst l) = true := by
  obtain ⟨h1, h2, h3⟩ := canLay_ints l h
  have e : PyData.depth (.list (toPs l)) = PyData.depthAll (toPs l) + 1 := by unfold PyData.depth; rfl
  have e2 : PyData.canLay0 (.list (toPs l)) = PyData.canLayAll0 (toPs l) := by unfold PyData.canLay0; rfl
  show (isDats l && (PyData.canLay0 (.list (toPs l)) && decide (PyData.depth (.list (toPs l)) ≤ 64))) = true
  rw [h1, e, e2, h2, h3]; rfl
theorem okD_nats (l : List Nat) : okD (.lst (natsD l)) = true := okD_ints fun d hd => by
  obtain ⟨n, _, rfl⟩ := List.mem_map.mp hd
  exact ⟨_, rfl⟩
theorem repD_map {α : Type} (f : α → D) (x : α) : ∀ n, repD [f x] n = (List.replicate n x).map f
  | 0 => rfl
  | n + 1 => by rw [repD, repD_map f x n, List.replicate_succ, List.map_cons]; rfl
/-! ### comprehensions, loops -/
theorem lc_run {t : DG} {tst : DT} {elt : DX} {δ : List Sl} {Q : List D → Prop} (keep : D → Bool) (g : D → D) : ∀ {l acc : List D}, (∀ x ∈ l, ∀ (P : D → Prop) (N : Prop), (keep x = true → P (g x)) → (keep x = false → N) → (t x δ fun δ' => tst δ' fun b => if b = true then elt δ' P else N)) →
    Q (acc ++ (l.filter keep).map g) → lcRun t tst elt δ Q l acc
  | [], acc, _, q => by rw [List.filter_nil, List.map_nil, List.append_nil] at q; exact q
  | x :: l, acc, h, q => by
    refine h x List.mem_cons_self _ _ (fun k => ?_) (fun k => ?_)
    · refine lc_run keep g (fun y hy => h y (List.mem_cons_of_mem _ hy)) ?_
      rw [List.filter_cons, if_pos k, List.map_cons] at q
      rw [List.append_assoc]
      exact q
    · refine lc_run keep g (fun y hy => h y (List.mem_cons_of_mem _ hy)) ?_
      rw [List.filter_cons, if_neg (by rw [k]; exact Bool.false_ne_true)] at q
      exact q
theorem lc_map {t : DG} {elt : DX} {δ : List Sl} {Q : List D → Prop} (g : D → D) {l : List D} (h : ∀ x ∈ l, ∀ (P : D → Prop), P (g x) → t x δ fun δ' => elt δ' P) (q : Q (l.map g)) : lcRun t tYesD elt δ Q l [] := by
  have go : ∀ {l acc : List D}, (∀ x ∈ l, ∀ (P : D → Prop), P (g x) → t x δ fun δ' => elt δ' P) → Q (acc ++ l.map g) → lcRun t tYesD elt δ Q l acc := by
    intro l
    induction l with
    | nil => intro acc _ q; rw [List.map_nil, List.append_nil] at q; exact q
    | cons x l ih =>
      intro acc h q
      refine h x List.mem_cons_self _ ?_
      refine ih (fun y hy => h y (List.mem_cons_of_mem _ hy)) ?_
      rw [List.append_assoc]
      exact q
  exact go h (by rw [List.nil_append]; exact q)
/-- over numbers lo, lo + 1, .. -/
theorem lc_rg {t : DG} {elt : DX} {δ : List Sl} {Q : List D → Prop} {lo hi : Int} (g : Nat → D) (h : ∀ i, i < (hi - lo).toNat → ∀ (P : D → Prop), P (g i) → t (.int (lo + (i : Nat))) δ fun δ' => elt δ' P) (q : Q ((List.range (hi - lo).toNat).map g)) : lcRun t tYesD elt δ Q (rgD lo hi) [] := by
  have go : ∀ {l : List Nat} {acc : List D}, (∀ x ∈ l, x < (hi - lo).toNat) → Q (acc ++ l.map g) → lcRun t tYesD elt δ Q (l.map fun i => D.int (lo + (i : Nat))) acc := by
    intro l
    induction l with
    | nil => intro acc _ q; rw [List.map_nil, List.append_nil] at q; exact q
    | cons x l ih =>
      intro acc hl q
      refine h x (hl x List.mem_cons_self) _ ?_
      refine ih (fun y hy => hl y (List.mem_cons_of_mem _ hy)) ?_
      rw [List.append_assoc]
      exact q
  exact go (fun x hx => List.mem_range.mp hx) (by rw [List.nil_append]; exact q)
/-- a loop by its invariant, by turn; N: what follows the turn -/
theorem loop_inv {t : DG} {g : DS} {F : DE} {l : List D} {δ : List Sl} (I : Nat → List Sl → Prop) (h0 : I 0 δ)
    (hs : ∀ i x δ, l[i]? = some x → I i δ → ∀ N : List Sl → Prop, (∀ δ', I (i + 1) δ' → N δ') → t x δ fun δ' => g { F with nx := N, ct := N, bk := F.nx } δ') (hd : ∀ δ, I l.length δ → F.nx δ) : fLoop t g F l δ := by
  have go : ∀ (r : List D) (i : Nat) (δ : List Sl), i + r.length = l.length → (∀ j, r[j]? = l[i + j]?) → I i δ → fLoop t g F r δ := by
    intro r
    induction r with
    | nil =>
      intro i δ hl e p
      have : i = l.length := by simpa using hl
      subst this
      exact hd δ p
    | cons x r ih =>
      intro i δ hl e p
      refine hs i x δ (e 0).symm p _ fun δ' p' => ih (i + 1) δ' (by rw [List.length_cons] at hl; omega) (fun j => ?_) p'
      have := e (j + 1)
      rw [show i + (j + 1) = i + 1 + j by omega] at this
      exact this
  exact go l 0 δ (Nat.zero_add _) (fun j => by rw [Nat.zero_add]) h0
/-- .. over numbers -/
theorem loop_rg {t : DG} {g : DS} {F : DE} {lo hi : Int} {n : Nat} {δ : List Sl} (I : Nat → List Sl → Prop) (hn : (hi - lo).toNat = n) (h0 : I 0 δ)
    (hs : ∀ (i : Nat) δ, i < n → I i δ → ∀ N : List Sl → Prop, (∀ δ', I (i + 1) δ' → N δ') → t (.int (lo + (i : Nat))) δ fun δ' => g { F with nx := N, ct := N, bk := F.nx } δ') (hd : ∀ δ, I n δ → F.nx δ) : fLoop t g F (rgD lo hi) δ := by
  subst hn
  refine loop_inv I h0 (fun i x δ e p => ?_) (fun δ p => hd δ (by rw [rg_len] at p; exact p))
  obtain ⟨h1, rfl⟩ := rgD_get e
  exact hs i δ h1 p
end DL

namespace DL
open PySem L2
/-! ## try: a call; except SpeciesError as e: return what it is -/
def tXW (K : PySem.W.Frag) (W : WX) (x : DXX) : TE := fun σ H Q => ∃ Hb B O δ, Sta K Hb B O H σ δ ∧ x δ (fun d => ∀ v H', Same H H' → At K (hid O H') v d → Q v H') fun C => ∀ H', Same H H' → W (.ref C) none σ H'
structure XW (X : Cx) (K : PySem.W.Frag) (W : WX) (e : Expr) (x : DXX) : Prop where
  mono : ∀ δ {Q Q' : D → Prop} {Z Z' : Addr → Prop}, (∀ d, Q d → Q' d) → (∀ C, Z C → Z' C) → x δ Q Z → x δ Q' Z'
  pe : PE X e (tXW K W x)
section
variable {X : Cx} {K : PySem.W.Frag} {Ex : XK} {e : Expr} {pos : Pos}
theorem xw_call {W : WX} {k : Nat} {x : Str} {ps : List Str} {R : Rx} {es : List Expr} {xs : List DX} {p : Pos} (C : Cal X.prog X.w X.K X.mg X.base (L2.CX X.prog X.w) k x ps (spX K R)) (hm : MonoRx R) (hr : Room k X.A) (tk : Takes X W) (ha : AD X K (e :: es) xs) (hg : Gl X x := by rfl) (hdb : (x == ("__debug__" : Str)) = false := by decide)
    (he : starEach (e :: es) X.env = (false, eval e X.env) :: starEach es X.env := by rfl) (hpl : (backTo pos (starEach es X.env)).any (·.1) = false := by rfl) : XW X K W (.Call (.Name x p) (e :: es) [] pos) (xCall R xs) := by
  obtain ⟨f, fd, h1, h2, h3, h4⟩ := C.ex
  refine ⟨fun δ Q Q' Z Z' i j q => ha.mono δ (fun ds => hm ds i j) q, pe_weak (pe_callS h4 hr hg h1 h2 h3 (fun σ => passAt tk σ) ha.pa hdb he hpl) fun σ H Q ⟨Hb, B, O, δ, S, q⟩ => ⟨Hb, B, O, δ, S, ha.mono δ (fun ds g vs H1 s1 as => ?_) q⟩⟩
  exact ⟨O, ds, fun p hp => live_same (S.live p hp) s1, as, hm ds (fun d k v H' s a => k v H' (s1.trans s) a) (fun C k H' s => k H' (s1.trans s)) g⟩
/-- isinstance of the error that the suite holds, whatever its class is -/
def rIsX (K : PySem.W.Frag) (a : Addr) (cls : Value) (d : Option Addr) : List V → Hp → VK → Prop := fun xs H Q => ∃ C, ExcC K C ∧ cls = .ref C ∧ d = none ∧ rIsE K C a xs H Q
theorem c_isX {a : Addr} {oe : Obj} {pn : List (Addr × Obj)} {cls : Value} {d : Option Addr} (hz : Zc cls d oe) (hf : ∃ vs, oe.data = .fields vs) : CallR (X.suite a ((a, oe) :: pn)) (.builtin "isinstance") (rIsX X.K a cls d) := by
  intro pins s σ H xs us Q I r ⟨D, C, h1, h2, h⟩
  subst h1 h2
  exact call_isE C hz hf pins s σ H xs us Q I r h
def tIs1 (K : PySem.W.Frag) (i : Nat) (a : Addr) (cls : Value) (d : Option Addr) (C : Addr) : TE := tCB (rIsX K a cls d) (tCons (tVar i) (tCons (tC (.ref C)) tNil))
def tIs (K : PySem.W.Frag) (i : Nat) (a : Addr) (cls : Value) (d : Option Addr) : List Addr → TA
  | [] => tNil
  | C :: Cs => tCons (tIs1 K i a cls d C) (tIs K i a cls d Cs)
/-- what is told of a class -/
inductive IsAll (K : PySem.W.Frag) (C : Addr) : List Addr → List Bool → Prop
  | nil : IsAll K C [] []
  | cons {D : Addr} {b : Bool} {Ds : List Addr} {bs : List Bool} : PySem.W.kitOne K (.ref C) (.ref D) = some b → IsAll K C Ds bs → IsAll K C (D :: Ds) (b :: bs)
structure Caught (K : PySem.W.Frag) (S C : Addr) : Prop where
  x : ExcC K C
  m : PySem.W.exmOne K (.ref C) (.ref S) = some true
theorem tIs1_of {i : Nat} {a C D : Addr} {b : Bool} {σ : St} {H : Hp} {Q : VK} (c : ExcC K C) (h : PySem.W.kitOne K (.ref C) (.ref D) = some b) (hs : σ[i]? = some (some (.ref a))) (q : Q (.bl b) H) : tIs1 K i a (.ref C) none D σ H Q :=
  ⟨_, hs, C, c, rfl, rfl, _, _, b, rfl, fun u r => r, h, q⟩
theorem tIs_of {i : Nat} {a C : Addr} {Ds : List Addr} {bs : List Bool} {σ : St} {H : Hp} {Q : List V → Hp → Prop} (c : ExcC K C) (h : IsAll K C Ds bs) (hs : σ[i]? = some (some (.ref a))) (q : Q (bs.map V.bl) H) : tIs K i a (.ref C) none Ds σ H Q := by
  induction h generalizing Q with
  | nil => exact q
  | cons h _ ih => exact tIs1_of c h hs (ih q)
/-- the judgement of one such call, of a list of them -/
structure IsC (X : Cx) (K : PySem.W.Frag) (i : Nat) (e : Expr) (C : Addr) : Prop where
  pe : ∀ (a : Addr) (oe : Obj) (cls : Value) (d : Option Addr) (pn : List (Addr × Obj)), Zc cls d oe → (∃ vs, oe.data = .fields vs) → PE (X.suite a ((a, oe) :: pn)) e (tIs1 K i a cls d C)
structure IsCs (X : Cx) (K : PySem.W.Frag) (i : Nat) (es : List Expr) (Cs : List Addr) : Prop where
  pa : ∀ (a : Addr) (oe : Obj) (cls : Value) (d : Option Addr) (pn : List (Addr × Obj)), Zc cls d oe → (∃ vs, oe.data = .fields vs) → PA (X.suite a ((a, oe) :: pn)) es (tIs K i a cls d Cs)
theorem is_c {i : Nat} {x n : Str} {C : Addr} {p1 p2 p3 : Pos} (hK : X.K = K) (hm : X.mg "isinstance" = none) (hC : X.mg x = some (.ref C)) (hN : X.N[i]? = some n := by rfl) (hv : Vis X.env.scope n := by first | exact Or.inl rfl | exact Or.inr (Or.inl rfl) | exact Or.inr (Or.inr rfl)) (hd : (n == ("__debug__" : Str)) = false := by decide)
    (hcd : (n == ("__classdict__" : Str)) = false := by decide) (hg : Gl X "isinstance" := by rfl) (hgC : Gl X x := by rfl) (hdx : (x == ("__debug__" : Str)) = false := by decide)
    (he : ∀ p, starEach [.Name n p2, .Name x p] X.env = (false, eval (.Name n p2) X.env) :: starEach [.Name x p] X.env := by intro _; rfl) (he2 : ∀ p, starEach [.Name x p] X.env = (false, eval (.Name x p) X.env) :: starEach [] X.env := by intro _; rfl)
    (hpl : (backTo pos (starEach [.Name x p3] X.env)).any (·.1) = false := by rfl) : IsC X K i (.Call (.Name "isinstance" p1) [.Name n p2, .Name x p3] [] pos) C := by
  subst hK
  exact ⟨fun a oe cls d pn hz hf => pe_callB (X := X.suite a ((a, oe) :: pn)) (c_isX hz hf) hg hm (by decide +kernel) (pa_cons (pe_var hN hv hd hcd) (pa_cons (pe_glob hgC hC rfl hdx) pa_nil (he2 _)) (he _)) (he := he _) (hpl := hpl)⟩
theorem is_nil {i : Nat} : IsCs X K i [] [] := ⟨fun _ _ _ _ _ _ _ => pa_nil⟩
theorem is_cons {i : Nat} {es : List Expr} {C : Addr} {Cs : List Addr} (h : IsC X K i e C) (r : IsCs X K i es Cs) (hs : starEach (e :: es) X.env = (false, eval e X.env) :: starEach es X.env := by rfl) : IsCs X K i (e :: es) (C :: Cs) :=
  ⟨fun a oe cls d pn hz hf => pa_cons (h.pe a oe cls d pn hz hf) (r.pa a oe cls d pn hz hf) hs⟩
def hasSl (i : Nat) (δ : List Sl) : Prop := ∃ s r, δ.drop i = s :: r
theorem hasSl_lt {i : Nat} {δ : List Sl} (h : hasSl i δ) : i < δ.length := by
  obtain ⟨s, r, e⟩ := h
  have := congrArg List.length e
  rw [List.length_drop, List.length_cons] at this
  omega
def gTryL (i : Nat) (K : PySem.W.Frag) (S : Addr) (x : DXX) (Cs : List Addr) : DS := fun F δ => x δ (fun _ => F.nx δ) fun C => Caught K S C ∧ hasSl i δ ∧ ∃ bs, IsAll K C Cs bs ∧ F.rt (.lst (bs.map D.bl))
def gTry1 (i : Nat) (K : PySem.W.Frag) (S : Addr) (x : DXX) (D0 : Addr) : DS := fun F δ => x δ (fun _ => F.nx δ) fun C => Caught K S C ∧ hasSl i δ ∧ ∃ b, PySem.W.kitOne K (.ref C) (.ref D0) = some b ∧ F.rt (.bl b)
variable {i : Nat} {n xS : Str} {S : Addr} {p1 p2 p3 p4 p5 : Pos} {xb : DXX} {es : List Expr} {Cs : List Addr} {D0 : Addr}
theorem isAll_len {C : Addr} {Ds : List Addr} {bs : List Bool} (h : IsAll K C Ds bs) : bs.length = Ds.length := by
  induction h with
  | nil => rfl
  | cons _ _ ih => rw [List.length_cons, List.length_cons, ih]
theorem bls_at {H : Hp} : ∀ bs : List Bool, AtAll K H (bs.map V.bl) (bs.map D.bl)
  | [] => .nil
  | b :: bs => .cons (.bl b) (bls_at bs)
theorem s_tryL (hS : X.mg xS = some (.ref S)) (hN : X.N.Nodup) (hb : ∀ (W : WX) (pn : List (Addr × Obj)) (xe : Value → Shared → Prop), Takes (X.tr pn xe) W → XW (X.tr pn xe) K W e xb) (hi : IsCs X K i es Cs) (hl : Cs.length ≤ 1000 := by exact Nat.le_of_ble_eq_true rfl) (hNi : X.N[i]? = some n := by rfl) (hK : X.K = K := by rfl)
    (hs : X.stack = X.env :: X.outer := by rfl) (hf : X.env.frame = some X.env.locals := by rfl) (hln : X.env.kindOf n = some .local := by rfl) (hc : Names X xS (.ref S) := by exact ⟨rfl, by decide, .inl (by assumption)⟩)
    (hsw : swapsWith e none p1.line X.env = pure false := by rfl) : SD X K Ex (.Try [.Expr e p1] [.ExceptHandler (some (.Name xS p2)) (some n) [.Return (some (.List es p3)) p4] p5] [] [] pos) (gTryL i K S xb Cs) := by
  subst hK
  refine ⟨ps_weak (ps_try_as (i := i) (tb := fun W => tDrop (tXW X.K W xb)) (ts := fun a cls d => tRet (tLst (tIs X.K i a cls d Cs))) (Wout := fun _ _ _ _ => False) hs hf hN hNi hln hc takes0
    (fun W pn xe tk _ => pss_one (ps_expr (hb W pn xe tk).pe hsw)) (fun a oe cls d pn hz hf => pss_one (ps_ret (pe_lst (hi.pa a oe cls d pn hz hf))))) fun E σ H ⟨Hb, B, O, δ, F, St, q, L⟩ => ?_⟩
  have q : xb δ (fun _ => F.nx δ) fun C => Caught X.K S C ∧ hasSl i δ ∧ ∃ bs, IsAll X.K C Cs bs ∧ F.rt (.lst (bs.map D.bl)) := q
  have mono := (hb (fun _ _ _ _ => False) [] (fun _ _ => False) takes0).mono
  refine ⟨Hb, B, O, δ, St, mono δ (fun d k v H' s a => L.nx _ _ _ _ (St.grow s) k) (fun C ⟨c, hsl, bs, hbs, k⟩ H' s => ?_) q⟩
  refine ⟨true, c.m, fun _ a0 ha0 => ?_, fun z => by cases z⟩
  refine tIs_of c.x hbs ?_ ⟨?_, fun p np => L.rt _ _ _ (St.same.trans (s.trans (same_new np))) (.lst ?_ ?_ (bls_at _)) k⟩
  · rw [List.getElem?_set_self]
    rw [St.len]; exact hasSl_lt hsl
  · rw [List.length_map, isAll_len hbs]; exact lim_sz (Nat.le_trans hl (by decide))
  · have := hid_of (O := B) (H := upd H' p (.lst (bs.map V.bl))) (a := p) (fun z => by
      have h1 := St.live p (St.sub p z)
      exact h1 (s.free np))
    rw [this, upd_same]
  · rw [List.length_map, isAll_len hbs]; exact Nat.le_trans hl (by decide)
theorem s_try1 {se : Expr} (hS : X.mg xS = some (.ref S)) (hN : X.N.Nodup) (hb : ∀ (W : WX) (pn : List (Addr × Obj)) (xe : Value → Shared → Prop), Takes (X.tr pn xe) W → XW (X.tr pn xe) K W e xb) (hi : IsC X K i se D0) (hNi : X.N[i]? = some n := by rfl) (hK : X.K = K := by rfl)
    (hs : X.stack = X.env :: X.outer := by rfl) (hf : X.env.frame = some X.env.locals := by rfl) (hln : X.env.kindOf n = some .local := by rfl) (hc : Names X xS (.ref S) := by exact ⟨rfl, by decide, .inl (by assumption)⟩)
    (hsw : swapsWith e none p1.line X.env = pure false := by rfl) : SD X K Ex (.Try [.Expr e p1] [.ExceptHandler (some (.Name xS p2)) (some n) [.Return (some se) p4] p5] [] [] pos) (gTry1 i K S xb D0) := by
  subst hK
  refine ⟨ps_weak (ps_try_as (i := i) (tb := fun W => tDrop (tXW X.K W xb)) (ts := fun a cls d => tRet (tIs1 X.K i a cls d D0)) (Wout := fun _ _ _ _ => False) hs hf hN hNi hln hc takes0
    (fun W pn xe tk _ => pss_one (ps_expr (hb W pn xe tk).pe hsw)) (fun a oe cls d pn hz hf => pss_one (ps_ret (hi.pe a oe cls d pn hz hf)))) fun E σ H ⟨Hb, B, O, δ, F, St, q, L⟩ => ?_⟩
  have q : xb δ (fun _ => F.nx δ) fun C => Caught X.K S C ∧ hasSl i δ ∧ ∃ b, PySem.W.kitOne X.K (.ref C) (.ref D0) = some b ∧ F.rt (.bl b) := q
  have mono := (hb (fun _ _ _ _ => False) [] (fun _ _ => False) takes0).mono
  refine ⟨Hb, B, O, δ, St, mono δ (fun d k v H' s a => L.nx _ _ _ _ (St.grow s) k) (fun C ⟨c, hsl, b, hb, k⟩ H' s => ?_) q⟩
  refine ⟨true, c.m, fun _ a0 ha0 => ?_, fun z => by cases z⟩
  refine tIs1_of c.x hb ?_ (L.rt _ _ _ (St.same.trans s) (.bl b) k)
  rw [List.getElem?_set_self]
  rw [St.len]; exact hasSl_lt hsl
end
end DL

/-! further rules: counting in tuples, sorted tuples, sets of ints -/
namespace DL
open PySem L2 PyProof.Rows
theorem sort_meets (a : Addr) : Meets (Builtin.«list.sort» { pos := [Value.ref a] }) fun _ R s => ∃ (vs : List Value) (ns : List Int) (n : Nat), s.heap.get? a = some (seqObj "list" vs.toArray n) ∧ IntsAre vs ns ∧ vs.length ≤ sizeLine ∧ ∀ (out : List Value) (ns' : List Int), IntsAre out ns' → ns'.Perm ns → ns'.Pairwise (· ≤ ·) → R (Except.ok (Flow.ret .none)) { s with heap := sortedHeap s.heap a vs out.toArray } := by
  rintro prog w A R s ⟨vs, ns, n, h1, h2, h3, q⟩
  refine SrtO.list_sort_ord (vs := vs) (n := n) (ltv := SrtO.ltIv) SrtO.swo_int h1 h3 (fun z => SrtO.ints_sortable h2 z) fun out hs hb => ?_
  obtain ⟨i1, i2, i3⟩ := SrtO.ints_out h2 hs hb
  exact q out _ i1 i2 i3
theorem iadd_tup {prog : Program} {w : World} {A : Around} {R : Result → Shared → Prop} {s : Shared} {S l : Addr} {o : Obj} {vs : List Value} {n c : Nat} (hS : s.heap.get? S = some { cls := Value.type "list", data := Data.seq #[] c }) (ho : s.heap.get? l = some o) (hc : o.cls = .type "tuple") (hd : o.data = .seq vs.toArray n) (hz : vs.length ≤ sizeLine)
    (q : R (Except.ok (Flow.ret (.ref S))) { s with heap := s.heap.update S (Obj.mapSeq fun x => x ++ vs.toArray) }) : codeAny (model prog w) A (Code.builtin "list.__iadd__" { pos := [.ref S, .ref l] }) R s := by
  refine codeAny_builtin F.entry_list_iadd ?_
  rw [Around.under_plainId F.plain_list_iadd]
  show wpAny _ _ (Builtin.List.listExtendWith (.ref S) (.ref l) (.ref S)) _ _ _
  exact wpAny_extend_seq S l _ c (.inr rfl) hS ho hc hd q (by simpa using hz)
theorem collect_tup {prog : Program} {w : World} {A : Around} {E : Value → Shared → Prop} {s : Shared} {l : Addr} {o : Obj} {vs : List Value} {n : Nat} {Q : List Value → Shared → Prop} (ho : s.heap.get? l = some o) (hc : o.cls = .type "tuple") (hd : o.data = .seq vs.toArray n) (hz : vs.length ≤ sizeLine)
    (q : Q vs { s with heap := (s.heap.push (seqObj "list" #[] 0)).update s.heap.objs.size (Obj.mapSeq fun x => x ++ vs.toArray) }) : wpAny (model prog w) A (collect (.ref l)) Q E s := by
  unfold collect
  have e0 := Heap.get?_push_size s.heap (o := seqObj "list" #[] 0) rfl
  have e1 : ((s.heap.push (seqObj "list" #[] 0)).update s.heap.objs.size (Obj.mapSeq fun x => x ++ vs.toArray)).get? s.heap.objs.size = some (Obj.mapSeq (fun x => x ++ vs.toArray) (seqObj "list" #[] 0)) := Heap.get?_update_self _ e0 rfl
  refine wpAny_bind (wpAny_runValue (codeAny_builtin F.entry_proto_collect ?_))
  rw [Around.under_plainId F.plain_proto_collect]
  unfold Builtin.«proto.collect»
  refine wpAny_bind (wpAny_newList ?_ (by decide))
  refine wpAny_pure ⟨plainId_quiet F.plain_list_iadd _, iadd_tup (c := 0) e0 (Heap.get?_push_of_some _ ho) hc hd hz ?_⟩
  refine wpAny_bind (wpAny_load e1 ?_)
  exact wpAny_pure (by simpa using q)
/-- sorted of a tuple of ints -/
theorem sorted_tup {prog : Program} {w : World} {A : Around} {E : Value → Shared → Prop} {s : Shared} {l : Addr} {o : Obj} {vs : List Value} {ns : List Int} {n : Nat} {Q : Value → Shared → Prop} (ho : s.heap.get? l = some o) (hc : o.cls = .type "tuple") (hd : o.data = .seq vs.toArray n) (ia : IntsAre vs ns) (hz : vs.length ≤ sizeLine)
    (q : ∀ (h' : Heap) (p : Addr) (out : List Value) (ns' : List Int) (e : Nat), (∀ b o, s.heap.get? b = some o → h'.get? b = some o) → s.heap.objs.size ≤ p → h'.get? p = some (seqObj "list" out.toArray e) → IntsAre out ns' → ns'.Perm ns → ns'.Pairwise (· ≤ ·) → Q (.ref p) { s with heap := h' }) :
    wpAny (model prog w) A (call (.builtin "sorted") [.ref l]) Q E s := by
  refine call_builtin_at plain_sorted entry_sorted (args_sorted1 _) fun Γ p _ hΓ => ?_
  refine (show wpAny (model prog w) A.in1 (Builtin.sorted { pos := [Value.ref l] }) _ E s from ?_) Γ p hΓ
  unfold Builtin.sorted
  refine wpAny_bind (wpAny_pure ?_)
  refine wpAny_bind (collect_tup ho hc hd hz ?_)
  refine wpAny_bind (wpAny_newList ?_ hz)
  refine wpAny_bind (wpAny_holding ?_)
  let h1 := (s.heap.push (seqObj "list" #[] 0)).update s.heap.objs.size (Obj.mapSeq fun x => x ++ vs.toArray)
  have hs1 : h1.objs.size = s.heap.objs.size + 1 := (Heap.size_update _ _ _).trans (Heap.size_push _ _)
  have e0 := Heap.get?_push_size h1 (o := seqObj "list" vs.toArray 0) rfl
  refine call_meets slot_list_sort ⟨_, e0, rfl⟩ entry_list_sort (args_list_sort _) (sort_meets _) ⟨vs, ns, 0, e0, ia, hz, fun out ns' i1 i2 i3 => ?_⟩
  obtain ⟨e, he⟩ := sortedAll_at s.heap vs out.toArray
  refine wpAny_pure ⟨_, rfl, ?_⟩
  have := q (sortedAll s.heap vs out.toArray) (s.heap.objs.size + 1) out ns' e (fun b o hb => sortedAll_old hb) (Nat.le_succ _) he i1 i2 i3
  show Q (.ref h1.objs.size) { s with heap := sortedHeap (h1.push (seqObj "list" vs.toArray 0)) h1.objs.size vs out.toArray }
  rw [hs1]
  exact this
def rSortT (K : PySem.W.Frag) : List V → Hp → VK → Prop := fun vs H Q => ∃ (a : Addr) (ns : List Int), vs = [V.ref a] ∧ SqT K H a (ns.map V.int) ∧ ∀ (ns' : List Int) (p : Addr), ns'.Perm ns → ns'.Pairwise (· ≤ ·) → H p = none → Q (.ref p) (upd H p (.lst (ns'.map V.int)))
theorem cr_sortedTup {X : Cx} : CallR X (.builtin "sorted") (rSortT X.K) := by
  intro pins s σ H xs us Q I rx q
  obtain ⟨a, ns, rfl, hs, q⟩ := q
  obtain ⟨its, rv, ⟨o, ho, hc, n, hd⟩, hz⟩ := I.tuple hs
  obtain ⟨u, rfl, ru⟩ := vals1 rx
  obtain rfl : u = Value.ref a := ru
  have ia : IntsAre its ns := Vals.ints rv
  refine sorted_tup ho hc hd ia (by rw [← rv.length]; exact hz) fun h' p out ns' e k1 k2 k3 i1 i2 i3 => ?_
  refine ⟨.ref p, upd H p (.lst (ns'.map V.int)), I.laid (t' := s.toks) k1 k2 ⟨?_, out, _, vals_ints i1, k3⟩, rfl, q _ _ i2 i3 (I.hok.fresh k2)⟩
  rw [List.length_map] at hz ⊢
  rw [i2.length_eq]
  exact hz
def rSetT (K : PySem.W.Frag) (w : World) : List V → Hp → VK → Prop := fun vs H Q => ∃ (a : Addr) (ns : List Int), vs = [V.ref a] ∧ SqT K H a (ns.map V.int) ∧ ns.length ≤ 1000 ∧ ∀ (p : Addr) (c : Nat), c ≤ ns.length → H p = none → Q (.ref p) (upd H p (SetO w p (fun j => decide (j ∈ ns)) c))
theorem cr_setTup {X : Cx} (hc : X.calm = true) : CallR X (.type "set") (rSetT X.K X.w) := by
  intro pins s σ H xs us Q I rx q
  obtain ⟨a, ns, rfl, hs, hl, q⟩ := q
  obtain ⟨its, rv, hT, hz⟩ := I.tuple hs
  obtain ⟨u, rfl, ru⟩ := vals1 rx
  obtain rfl : u = Value.ref a := ru
  have ia : IntsAre its ns := Vals.ints rv
  refine call_set_tupI ns (I.ok.hd hc) hT ia (Nat.lt_of_le_of_lt (Nat.succ_le_succ hl) (by decide)) fun h' tk c k1 k2 k3 => ?_
  exact ⟨.ref _, upd H _ (SetO X.w _ (fun j => decide (j ∈ ns)) c), I.laid (t' := tk) k3 (Nat.le_refl _) (setO_new k1), rfl, q _ c k2 (I.hok.fresh (Nat.le_refl _))⟩
theorem cr_or {X : Cx} {f : Value} {r r' : List V → Hp → VK → Prop} (h : CallR X f r) (h' : CallR X f r') : CallR X f fun vs H Q => r vs H Q ∨ r' vs H Q := fun pins s σ H xs us Q I v q => q.elim (h pins s σ H xs us Q I v) (h' pins s σ H xs us Q I v)
section
variable {X : Cx} {K : PySem.W.Frag} {Ex : XK} {e a b c tg : Expr} {pos : Pos}
/-- sorted of a list or a tuple of ints -/
def gSortA : D → (List D → Prop) → Prop
  | .lst l, Q => ∃ ns : List Int, l = ns.map D.int ∧ ∀ ns' : List Int, ns'.Perm ns → ns'.Pairwise (· ≤ ·) → Q (ns'.map D.int)
  | .tup l, Q => ∃ ns : List Int, l = ns.map D.int ∧ ∀ ns' : List Int, ns'.Perm ns → ns'.Pairwise (· ≤ ·) → Q (ns'.map D.int)
  | _, _ => False
theorem c_sortedA (hK : X.K = K := by rfl) : CaF X K (.builtin "sorted") (o1F gSortA) := by
  subst hK
  refine ca1F (cr_or cr_sortedI cr_sortedTup) (fun d Q Q' i q => ?_) fun O H v d Q l a q => ?_
  · unfold gSortA at q ⊢
    split at q
    · obtain ⟨ns, h, q⟩ := q; exact ⟨ns, h, fun m a b => i _ (q m a b)⟩
    · obtain ⟨ns, h, q⟩ := q; exact ⟨ns, h, fun m a b => i _ (q m a b)⟩
    · exact q
  · unfold gSortA at q
    split at q
    · obtain ⟨ns, rfl, q⟩ := q
      obtain ⟨p, vs, rfl, h1, h2, h3⟩ := a.list
      obtain rfl := h3.ints_of
      refine .inl ⟨p, ns, rfl, .inl (.inl h1), fun ns' t pm pw n => q ns' pm pw t _ _ (same_new n) n upd_same ?_ (.ints _)⟩
      rw [List.length_map] at h2 ⊢
      rw [pm.length_eq]; exact h2
    · obtain ⟨ns, rfl, q⟩ := q
      obtain ⟨p, vs, rfl, h1, h2, h3, _⟩ := a.tuple
      obtain rfl := h3.ints_of
      refine .inr ⟨p, ns, rfl, h1, fun ns' t pm pw n => q ns' pm pw t _ _ (same_new n) n upd_same ?_ (.ints _)⟩
      rw [List.length_map] at h2 ⊢
      rw [pm.length_eq]; exact h2
    · exact q.elim
/-- sorted(set(x)), x a tuple of ints -/
def gSortSet (Q : List D → Prop) : D → Prop
  | .tup l => ∃ ns : List Int, l = ns.map D.int ∧ ns.length < 64 ∧ ∀ ns' : List Int, ns'.Pairwise (· < ·) → (∀ k, k ∈ ns' ↔ k ∈ ns) → Q (ns'.map D.int)
  | _ => False
theorem gSortSet_mono {Q Q' : List D → Prop} (i : ∀ l, Q l → Q' l) (d : D) (q : gSortSet Q d) : gSortSet Q' d := by
  unfold gSortSet at q ⊢
  split at q
  · obtain ⟨ns, h, h2, q⟩ := q; exact ⟨ns, h, h2, fun m a b => i _ (q m a b)⟩
  · exact q
theorem f_sortedSet {x : DX} {p p2 pos2 : Pos} (hs : X.mg "sorted" = none) (ht : X.mg "set" = none) (h : QD X K a x) (hK : X.K = K := by rfl) (hc : X.calm = true := by rfl) (hg : Gl X "sorted" := by rfl) (hg2 : Gl X "set" := by rfl)
    (he : starEach [.Call (.Name "set" p2) [a] [] pos2] X.env = (false, eval (.Call (.Name "set" p2) [a] [] pos2) X.env) :: starEach [] X.env := by rfl) (he2 : starEach [a] X.env = (false, eval a X.env) :: starEach [] X.env := by rfl)
    (hpl : (backTo pos (starEach [] X.env)).any (·.1) = false := by rfl) (hpl2 : (backTo pos2 (starEach [] X.env)).any (·.1) = false := by rfl) :
    FD X K (.Call (.Name "sorted" p) [.Call (.Name "set" p2) [a] [] pos2] [] pos) (fun δ Q => x δ (gSortSet Q)) := by
  subst hK
  refine ⟨fun δ Q Q' i q => h.mono δ (gSortSet_mono i) q, pe_weak (pe_callB (cr_sortedSet hc) hg hs (by decide +kernel) (pa_cons (pe_callTy (cr_setTup hc) hg2 ht (by decide +kernel) (pa_cons h.pe pa_nil he2) (he := he2) (hpl := hpl2)) pa_nil he) (he := he) (hpl := hpl)) fun σ H Q ⟨Hb, B, O, δ, S, q⟩ => ⟨Hb, B, O, δ, S, h.mono δ (fun d k v H1 s1 a => ?_) q⟩⟩
  unfold gSortSet at k
  split at k
  · obtain ⟨ns, rfl, hl, k⟩ := k
    obtain ⟨p, vs, rfl, h1, h2, h3, _⟩ := a.tuple
    obtain rfl := h3.ints_of
    refine ⟨p, ns, rfl, h1, by omega, fun t c hc' n => ⟨t, _, c, rfl, upd_same, by omega, fun ns' u w1 w2 w3 n2 => ?_⟩⟩
    refine k ns' w1 (fun j => by rw [w2 j, decide_eq_true_iff]) u _ _ (s1.trans ((same_new n).trans (same_new n2))) (s1.free ((same_new n).free n2)) upd_same ?_ (.ints _)
    rw [List.length_map, w3]
    exact Nat.le_trans hc' (Nat.le_trans (Nat.le_of_lt hl) (by decide))
  · exact k.elim
/-- sorted(x, reverse=True) -/
def gSortRev (Q : List D → Prop) : D → Prop
  | .lst l => ∃ ns : List Int, l = ns.map D.int ∧ ∀ ns' : List Int, ns'.Perm ns → ns'.Pairwise (· ≥ ·) → Q (ns'.map D.int)
  | _ => False
theorem gSortRev_mono {Q Q' : List D → Prop} (i : ∀ l, Q l → Q' l) (d : D) (q : gSortRev Q d) : gSortRev Q' d := by
  unfold gSortRev at q ⊢
  split at q
  · obtain ⟨ns, h, q⟩ := q; exact ⟨ns, h, fun m a b => i _ (q m a b)⟩
  · exact q
theorem f_sortedRev {x : DX} {p kp cp : Pos} {j : Nat} (hs : X.mg "sorted" = none) (h : QD X K a x) (hK : X.K = K := by rfl) (hg : Gl X "sorted" := by rfl)
    (he2 : starEach [a] X.env = (false, eval a X.env) :: starEach [] X.env := by rfl)
    (w1 : backTo pos (starEach [a] X.env) = (false, eval a X.env) :: backTo pos (starEach [] X.env) := by rfl) (w2 : (backTo pos (starEach [a] X.env)).any (·.1) = false := by rfl)
    (w3 : (backToKw pos (keywordEach [⟨some "reverse", .Constant (.bool true) j cp, kp⟩] X.env)).all (·.1.isSome) = true := by rfl) (w4 : (backToKw pos (keywordEach [⟨some "reverse", .Constant (.bool true) j cp, kp⟩] X.env)).any (·.1.isNone) = false := by rfl)
    (w5 : (backToKw pos (keywordEach [⟨some "reverse", .Constant (.bool true) j cp, kp⟩] X.env)).filterMap (·.1) = ([("reverse" : Str)] : List Str) := by rfl) :
    FD X K (.Call (.Name "sorted" p) [a] [⟨some "reverse", .Constant (.bool true) j cp, kp⟩] pos) (fun δ Q => x δ (gSortRev Q)) := by
  subst hK
  refine ⟨fun δ Q Q' i q => h.mono δ (gSortRev_mono i) q, pe_weak (pe_callBK (cr_sortedRev (b := true)) hg hs (by decide +kernel) (pa_cons h.pe pa_nil he2) (pk_cons pe_bl pk_nil) (by decide) (by decide) w1 w2 w3 w4 w5) fun σ H Q ⟨Hb, B, O, δ, S, q⟩ => ⟨Hb, B, O, δ, S, h.mono δ (fun d k v H1 s1 a => ?_) q⟩⟩
  unfold gSortRev at k
  split at k
  · obtain ⟨ns, rfl, k⟩ := k
    obtain ⟨p, vs, rfl, h1, h2, h3⟩ := a.list
    obtain rfl := h3.ints_of
    refine ⟨p, ns, rfl, rfl, .inl (.inl h1), fun ns' t pm pw n => k ns' pm pw t _ _ (s1.trans (same_new n)) (s1.free n) upd_same ?_ (.ints _)⟩
    rw [List.length_map] at h2 ⊢
    rw [pm.length_eq]; exact h2
  · exact k.elim
/-- x[::-1] -/
theorem f_rev {x : DX} {k : Nat} {p1 p2 p3 : Pos} (h : QD X K a x) (hK : X.K = K := by rfl) : FD X K (.Subscript a (.Slice none none (some (.UnaryOp .USub (.Constant (.int 1) k p1) p2)) p3) pos) (fun δ Q => x δ (asLo fun l => Q l.reverse)) := by
  subst hK
  have mo : ∀ {Q Q' : List D → Prop}, (∀ l, Q l → Q' l) → ∀ d, asLo Q d → asLo Q' d := fun i d q => by
    unfold asLo at q ⊢
    split at q
    · exact i _ q
    · exact q
  refine ⟨fun δ Q Q' i q => h.mono δ (mo fun l => i _) q, pe_weak (pe_revL h.pe) fun σ H Q ⟨Hb, B, O, δ, S, q⟩ => ⟨Hb, B, O, δ, S, h.mono δ (fun d k v H1 s1 a => ?_) q⟩⟩
  unfold asLo at k
  split at k
  · obtain ⟨p, vs, rfl, h1, h2, h3⟩ := a.list
    exact ⟨p, vs, rfl, .inl (.inl h1), fun t n => k t _ _ (s1.trans (same_new n)) (s1.free n) upd_same (by rw [List.length_reverse]; exact h2) ((h3.mono (hid_new n (same_new n))).reverse)⟩
  · exact k.elim
/-- (x, *s) -/
def dTupS (x y : DX) : DX := fun δ Q => x δ fun d => y δ fun s => onSome (seqOf s) fun l => l.length + 1 ≤ LIM ∧ Q (.tup (d :: l))
theorem d_tupS {x y : DX} {k : Nat} {p : Pos} (ha : PD X K a x) (hb : QD X K b y) (hK : X.K = K := by rfl) (h1 : starEach [a, .Starred b p] X.env = (false, eval a X.env) :: starEach [.Starred b p] X.env := by rfl)
    (h2 : starEach [.Starred b p] X.env = (true, eval b X.env) :: starEach [] X.env := by rfl) : PD X K (.Tuple [a, .Starred b p] k pos) (dTupS x y) := by
  subst hK
  refine ⟨fun δ Q Q' i q => ha.mono δ (fun d => hb.mono δ fun s => onSome_mono fun l q => ⟨q.1, i _ q.2⟩) q, pe_weak (pe_tup (pa_cons ha.pe (StX.pa_star hb.pe pa_nil h2) h1)) fun σ H Q ⟨Hb, B, O, δ, S, q⟩ => ⟨Hb, B, O, δ, S, ha.mono δ (fun d q v H1 s1 a1 => ⟨Hb, B, O, δ, S.grow s1, hb.mono δ (fun s q w H2 s2 a2 => ?_) q⟩) q⟩⟩
  obtain ⟨l, e, hl, q⟩ := of_onSome q
  have fin : ∀ p vs, w = .ref p → (SqT X.K H2 p vs ∨ SqL X.K H2 p vs) → AtAll X.K (hid O H2) vs l → StX.tStar X.K (fun _ _ Q => Q w H2) tNil σ H1 fun xs H' => (v :: xs).length ≤ sizeLine ∧ ∀ p, H' p = none → Q (.ref p) (upd H' p (.tup (v :: xs))) := fun p vs ew hs al => by
    refine ⟨p, vs, ew, hs, ?_⟩
    show (v :: (vs ++ [])).length ≤ sizeLine ∧ _
    rw [List.append_nil]
    refine ⟨lim_sz (by rw [List.length_cons, al.len]; exact hl), fun t n => q _ _ (s1.trans (s2.trans (same_new n))) (At.newT (fun b hb => live_same (live_same (S.live b hb) s1) s2) n (by rw [List.length_cons]; exact hl) (.cons (a1.mono (hid_same s2)) al))⟩
  cases s with
  | lst l' => cases e; obtain ⟨p, vs, rfl, h1, h2, h3⟩ := a2.list; exact fin p vs rfl (.inr (.inl (.inl h1))) h3
  | tup l' => cases e; obtain ⟨p, vs, rfl, h1, h2, h3, _⟩ := a2.tuple; exact fin p vs rfl (.inl h1) h3
  | scr l' => cases e; obtain ⟨p, vs, rfl, h1, h2, h3⟩ := a2.script; exact fin p vs rfl (.inr h1) h3
  | non | bl _ | int _ | str _ | dic _ _ | ref _ | ptp _ => cases e
/-- range(a, b, c) -/
def rgC (i c : Int) (n : Nat) : List D := (List.range n).map fun (k : Nat) => D.int (i + (k : Int) * c)
theorem walk_rgC {H0 Hf : Hp} (lo c : Int) (n : Nat) : WalkD K H0 Hf (rgC lo c n) (Itc lo c n) := fun i H s => by
  refine ⟨fun d e => ?_, fun h => ?_⟩
  · unfold rgC at e
    rw [List.getElem?_map] at e
    cases er : (List.range n)[i]? with
    | none => rw [er] at e; cases e
    | some j =>
      rw [er] at e
      obtain ⟨h1, h2⟩ := List.getElem?_eq_some_iff.mp er
      rw [List.getElem_range] at h2
      subst h2
      obtain rfl := Option.some.inj e
      rw [List.length_range] at h1
      refine ⟨h1, fun x H' y => ?_⟩
      obtain ⟨rfl, rfl⟩ := y
      exact ⟨.refl _, fun O _ _ => .int _⟩
  · unfold rgC at h
    rw [List.length_map, List.length_range] at h
    exact h
def sR3 (x y z : DX) : DAs := fun δ Q => x δ (asI fun i => y δ (asI fun j => z δ (asI fun c => ∃ n, RgC i j c n ∧ n ≤ LIM ∧ Q (rgC i c n))))
theorem i_range3 {x y z : DX} {p : Pos} (hm : X.mg "range" = none) (ha : PD X K a x) (hb : PD X K b y) (hc : PD X K c z) (hg : Gl X "range" := by rfl)
    (h1 : starEach [a, b, c] X.env = (false, eval a X.env) :: starEach [b, c] X.env := by rfl) (h2 : starEach [b, c] X.env = (false, eval b X.env) :: starEach [c] X.env := by rfl) (h3 : starEach [c] X.env = (false, eval c X.env) :: starEach [] X.env := by rfl)
    (hp : (backTo pos (starEach [b, c] X.env)).any (·.1) = false := by rfl) : IP X K tg (.Call (.Name "range" p) [a, b, c] [] pos) (sR3 x y z) := by
  refine ⟨fun δ Q Q' i q => ha.mono δ (asI_mono fun _ => hb.mono δ (asI_mono fun _ => hc.mono δ (asI_mono fun _ ⟨n, q1, q2, q3⟩ => ⟨n, q1, q2, i _ q3⟩))) q, pi_weak (pi_range3 hg hm (pa_cons ha.pe (pa_cons hb.pe (pa_cons hc.pe pa_nil h3) h2) h1) h1 hp) fun σ H R ⟨Hb, B, O, δ, S, q⟩ => ?_⟩
  refine ⟨Hb, B, O, δ, S, ha.mono δ (fun d q v H1 s1 a1 => ?_) q⟩
  obtain ⟨i, rfl, q⟩ := asI_at q (.at_ a1)
  refine ⟨Hb, B, O, δ, S.grow s1, hb.mono δ (fun d q v2 H2 s2 a2 => ?_) q⟩
  obtain ⟨j, rfl, q⟩ := asI_at q (.at_ a2)
  refine ⟨Hb, B, O, δ, (S.grow s1).grow s2, hc.mono δ (fun d q v3 H3 s3 a3 => ?_) q⟩
  obtain ⟨cc, rfl, n, q1, q2, q3⟩ := asI_at q (.at_ a3)
  refine ⟨i, j, cc, n, ?_, q1, q3 _ H3 (s1.trans (s2.trans s3)) ?_ (walk_rgC _ _ _)⟩
  · cases a1; cases a2; cases a3; rfl
  · unfold rgC; rw [List.length_map, List.length_range]; exact q2
theorem rgC_down {i : Int} (h0 : 0 ≤ i) (h1 : i ≤ 1000000) : RgC i 0 (-1) i.toNat := by
  have e : Builtin.Range.rangeSize i 0 (-1) = i := by
    unfold Builtin.Range.rangeSize
    rw [if_neg (by decide)]
    by_cases h : i > 0
    · rw [if_pos h]
      show (i - 0 - 1) / 1 + 1 = i
      omega
    · rw [if_neg h]; omega
  refine ⟨by decide, by decide, ?_, by rw [e]; omega⟩
  unfold Builtin.Range.small
  rw [e]
  unfold Builtin.Range.rangeFitsLong
  rw [if_neg (by decide)]
  simp only [Bool.and_eq_true, Bool.or_eq_true, decide_eq_true_iff, beq_iff_eq]
  omega
/-- t.count(k), a plain tuple of ints -/
def tTC (ta tb : TE) : TE := fun σ H Q => ta σ H fun x H1 => ∃ p o vs, x = .ref p ∧ H1 p = some (.frz o (.tup vs)) ∧ o.dict = none ∧ tb σ H1 fun y H2 => ∃ (ns : List Int) (k : Int), vs = ns.map V.int ∧ y = .int k ∧ H2 p = some (.frz o (.tup vs)) ∧ Q (.int (ns.count k : Nat)) H2
theorem pe_tcount {ta tb : TE} {p2 p3 : Pos} (ha : PE X a ta) (hb : PE X b tb) (hbase : attributeBase a "count" X.env (eval a X.env) = eval a X.env)
    (hfew : ((backTo p3 (starEach [b] X.env)).all (fun x => !x.1) && (backToKw p3 (keywordEach [] X.env)).all (fun x => x.1.isSome) && decide ([b].length + ([] : List Keyword).length + (if ([] : List Keyword).isEmpty then 0 else 1) < 30)) = true)
    (hline : (p2.endLine == p3.line) = true) (hs : backTo p3 (starEach [b] X.env) = [(false, eval b X.env)]) : PE X (.Call (.Attribute a "count" p2) [b] [] p3) (tTC ta tb) := by
  refine ⟨fun pins s σ H Q I q => ?_⟩
  refine wpAny_Call_method hbase hfew hline PySem.F.plainAttrs_tuple PySem.F.slot_tuple_count PySem.F.type_tuple_count (wpAny_mono (ha.run pins s σ H _ I q) ?_ fun _ _ z => z)
  rintro u s1 ⟨x, H1, I1, rx, p, o, vs, rfl, hp, hd, q⟩
  obtain rfl : u = Value.ref p := rx
  obtain ⟨go, ok⟩ := I1.hok _ _ hp
  obtain ⟨_, its, rv, o', ho', hc, n, hdat⟩ := ok
  cases go.symm.trans ho'
  refine ⟨⟨o, go, hc⟩, fun a e => by cases e; exact ⟨o, go, hd⟩, ?_⟩
  rw [hs]
  refine method1_meets PySem.F.slot_tuple_count PySem.F.entry_tuple_count (wpAny_mono (hb.run pins s1 σ H1 _ I1 q) ?_ fun _ _ z => z)
  rintro w s2 ⟨y, H2, I2, ry, ns, k, rfl, rfl, hp2, q2⟩
  obtain ⟨t, rfl⟩ : ∃ t, w = Value.int k t := ry
  obtain ⟨go2, _⟩ := I2.hok _ _ hp2
  have ia : IntsAre its ns := Vals.ints rv
  obtain ⟨c, d, da, sl⟩ := o
  cases hc; cases hdat
  refine ⟨⟨_, go2, rfl⟩, PySem.F.args_tuple_count_2 _ _, _, SeqAt.tuple_countAt p its.toArray n d sl _ (eqk k), go2, fun y hy prog w E Q h => eqk_gives ia y (by simpa using hy) prog w _ E s2 Q h, ?_⟩
  show wants _ _ _ _
  rw [eqk_count ia]
  exact ⟨.int (ns.count k : Nat), H2, I2.tok _, ⟨_, rfl⟩, q2⟩
def gCount (Q : D → Prop) (y : (D → Prop) → Prop) : D → Prop
  | .ptp l => y (asI fun k => ∃ ns : List Int, l = ns.map D.int ∧ Q (.int (ns.count k : Nat)))
  | _ => False
def dTCount (x y : DX) : DX := fun δ Q => x δ (gCount Q (y δ))
theorem d_tcount {x y : DX} {p2 p3 : Pos} (ho : QD X K a x) (hb : QD X K b y) (hbase : attributeBase a "count" X.env (eval a X.env) = eval a X.env := by rfl)
    (hfew : ((backTo p3 (starEach [b] X.env)).all (fun x => !x.1) && (backToKw p3 (keywordEach [] X.env)).all (fun x => x.1.isSome) && decide ([b].length + ([] : List Keyword).length + (if ([] : List Keyword).isEmpty then 0 else 1) < 30)) = true := by rfl)
    (hline : (p2.endLine == p3.line) = true := by rfl) (hs : backTo p3 (starEach [b] X.env) = [(false, eval b X.env)] := by rfl) :
    PD X K (.Call (.Attribute a "count" p2) [b] [] p3) (dTCount x y) := by
  refine ⟨fun δ Q Q' i q => ho.mono δ (fun t q => ?_) q, pe_weak (pe_tcount ho.pe hb.pe hbase hfew hline hs) fun σ H Q ⟨Hb, B, O, δ, S, q⟩ => ⟨Hb, B, O, δ, S, ho.mono δ (fun t q v H1 s1 a1 => ?_) q⟩⟩
  · unfold gCount at q ⊢
    split at q
    · exact hb.mono δ (asI_mono fun k ⟨ns, h, q⟩ => ⟨ns, h, i _ q⟩) q
    · exact q.elim
  · unfold gCount at q
    split at q
    · obtain ⟨p, o, vs, rfl, h1, hd, h2, h3⟩ := a1.plainT
      refine ⟨p, o, vs, rfl, h1, hd, Hb, B, O, δ, S.grow s1, hb.mono δ (fun d q w H2 s2 a2 => ?_) q⟩
      obtain ⟨k, rfl, ns, rfl, q2⟩ := asI_at q a2
      obtain rfl := h3.ints_of
      exact ⟨ns, k, rfl, rfl, s2 _ _ h1, q2 _ H2 (s1.trans s2) (.int _)⟩
    · exact q.elim
/-! ### plain tuples made -/
theorem laidT {pins : List (Addr × Obj)} {σ : L2.St} {H : Hp} {s : Shared} {xs : List V} {its : List Value} (I : L2.Inv X pins σ H s) (r : Vals xs its) (hz : xs.length ≤ sizeLine) :
    L2.Inv X pins σ (upd H s.heap.objs.size (.frz { cls := Value.type "tuple", data := Data.seq its.toArray } (.tup xs))) { s with heap := s.heap.push { cls := Value.type "tuple", data := Data.seq its.toArray } } := by
  have g := Heap.get?_push_size s.heap (o := { cls := Value.type "tuple", data := Data.seq its.toArray }) rfl
  exact I.laid (t' := s.toks) (fun b u hb => Heap.get?_push_of_some _ hb) (Nat.le_refl _) ⟨g, hz, its, r, _, g, rfl, _, rfl⟩
def tTupP (t : TA) : TE := fun σ H Q => t σ H fun xs H1 => xs.length ≤ sizeLine ∧ ∀ (p : Addr) (o : Obj), H1 p = none → o.dict = none → Q (.ref p) (upd H1 p (.frz o (.tup xs)))
theorem pe_tupP {es : List Expr} {t : TA} {k : Nat} (h : PA X es t) : PE X (.Tuple es k pos) (tTupP t) := by
  refine ⟨fun pins s σ H Q I q => wpAny_Tuple_spliced (wpAny_mono (h.run pos pins s σ H _ I q) ?_ fun _ _ z => z)⟩
  rintro us s1 ⟨xs, H1, I1, r, hz, q⟩
  exact ⟨by rw [← r.length]; exact hz, .ref s1.heap.objs.size, _, laidT I1 r hz, rfl, q _ _ I1.fresh rfl⟩
def rTupP (K : PySem.W.Frag) : List V → Hp → VK → Prop := fun vs H Q => ∃ (a : Addr) (xs : List V), vs = [V.ref a] ∧ SqL K H a xs ∧ ∀ (p : Addr) (o : Obj), H p = none → o.dict = none → Q (.ref p) (upd H p (.frz o (.tup xs)))
theorem cr_tupP : CallR X (.type "tuple") (rTupP X.K) := by
  intro pins s σ H vs us Q I r q
  obtain ⟨a, xs, rfl, hs, q⟩ := q
  obtain ⟨its, rv, hl, hz⟩ := I.list hs
  obtain ⟨u, rfl, ru⟩ := vals1 r
  obtain rfl : u = Value.ref a := ru
  refine call_tuple_list hl.isList (fun h' k => ?_) (by rw [List.size_toArray, ← rv.length]; exact hz)
  have I1 := I.kept (t' := s.toks) k
  exact ⟨.ref h'.objs.size, _, laidT I1 rv hz, rfl, q _ _ I1.fresh rfl⟩
theorem At.newP {O : List Addr} {H : Hp} {p : Addr} {o : Obj} {vs : List V} {l : List D} (live : ∀ b ∈ O, H b ≠ none) (n : H p = none) (e : o.dict = none) (hl : l.length ≤ LIM) (a : AtAll K (hid O H) vs l) : At K (hid O (upd H p (.frz o (.tup vs)))) (.ref p) (.ptp l) := by
  have np : p ∉ O := fun z => live p z n
  exact .ptp (by rw [hid_of np, upd_same]) e hl (a.mono (hid_same (same_new n)))
/-- (x, *s), plain -/
def dTupSP (x y : DX) : DX := fun δ Q => x δ fun d => y δ fun s => onSome (seqOf s) fun l => l.length + 1 ≤ LIM ∧ Q (.ptp (d :: l))
theorem d_tupSP {x y : DX} {k : Nat} {p : Pos} (ha : PD X K a x) (hb : QD X K b y) (hK : X.K = K := by rfl) (h1 : starEach [a, .Starred b p] X.env = (false, eval a X.env) :: starEach [.Starred b p] X.env := by rfl)
    (h2 : starEach [.Starred b p] X.env = (true, eval b X.env) :: starEach [] X.env := by rfl) : PD X K (.Tuple [a, .Starred b p] k pos) (dTupSP x y) := by
  subst hK
  refine ⟨fun δ Q Q' i q => ha.mono δ (fun d => hb.mono δ fun s => onSome_mono fun l q => ⟨q.1, i _ q.2⟩) q, pe_weak (pe_tupP (pa_cons ha.pe (StX.pa_star hb.pe pa_nil h2) h1)) fun σ H Q ⟨Hb, B, O, δ, S, q⟩ => ⟨Hb, B, O, δ, S, ha.mono δ (fun d q v H1 s1 a1 => ⟨Hb, B, O, δ, S.grow s1, hb.mono δ (fun s q w H2 s2 a2 => ?_) q⟩) q⟩⟩
  obtain ⟨l, e, hl, q⟩ := of_onSome q
  have fin : ∀ p vs, w = .ref p → (SqT X.K H2 p vs ∨ SqL X.K H2 p vs) → AtAll X.K (hid O H2) vs l → StX.tStar X.K (fun _ _ Q => Q w H2) tNil σ H1 fun xs H' => (v :: xs).length ≤ sizeLine ∧ ∀ (p : Addr) (o : Obj), H' p = none → o.dict = none → Q (.ref p) (upd H' p (.frz o (.tup (v :: xs)))) := fun p vs ew hs al => by
    refine ⟨p, vs, ew, hs, ?_⟩
    show (v :: (vs ++ [])).length ≤ sizeLine ∧ _
    rw [List.append_nil]
    refine ⟨lim_sz (by rw [List.length_cons, al.len]; exact hl), fun t o n e => q _ _ (s1.trans (s2.trans (same_new n))) (At.newP (fun b hb => live_same (live_same (S.live b hb) s1) s2) n e (by rw [List.length_cons]; exact hl) (.cons (a1.mono (hid_same s2)) al))⟩
  cases s with
  | lst l' => cases e; obtain ⟨p, vs, rfl, h1, h2, h3⟩ := a2.list; exact fin p vs rfl (.inr (.inl (.inl h1))) h3
  | tup l' => cases e; obtain ⟨p, vs, rfl, h1, h2, h3, _⟩ := a2.tuple; exact fin p vs rfl (.inl h1) h3
  | scr l' => cases e; obtain ⟨p, vs, rfl, h1, h2, h3⟩ := a2.script; exact fin p vs rfl (.inr h1) h3
  | non | bl _ | int _ | str _ | dic _ _ | ref _ | ptp _ => cases e
/-- a tuple written out, plain -/
def dTupP (x : DAs) : DX := fun δ Q => x δ fun ds => Q (.ptp ds)
theorem d_tupP {es : List Expr} {xs : List DX} {k : Nat} (h : AD X K es xs) (hn : xs.length ≤ 1000 := by exact Nat.le_of_ble_eq_true rfl) : PD X K (.Tuple es k pos) (dTupP (dArgs xs)) := by
  refine ⟨fun δ Q Q' i q => h.mono δ (fun ds q => i _ q) q, pe_weak (pe_tupP h.pa) fun σ H Q ⟨Hb, B, O, δ, S, q⟩ => ⟨Hb, B, O, δ, S, h.mono δ (fun ds ⟨hl, k⟩ vs H1 s1 a => ⟨?_, fun p o n e => ?_⟩) (h.len δ _ q)⟩⟩
  · rw [a.len, hl]; exact Nat.le_of_lt (Nat.lt_of_le_of_lt (Nat.le_trans hn (by decide)) LIM_size)
  · exact k _ _ (s1.trans (same_new n)) (At.newP (fun b hb => live_same (S.live b hb) s1) n e (by rw [hl]; exact Nat.le_trans hn (by decide)) a)
/-- tuple(list), plain -/
def gTupleP : D → (D → Prop) → Prop
  | .lst l, Q => Q (.ptp l)
  | _, _ => False
theorem c_tupleP (hK : X.K = K := by rfl) : CaD X K (.type "tuple") (o1 gTupleP) := by
  subst hK
  refine ca1 cr_tupP (fun d Q Q' i q => ?_) fun O H v d Q l a q => ?_
  · unfold gTupleP at q ⊢
    split at q
    · exact i _ q
    · exact q
  · unfold gTupleP at q
    split at q
    · obtain ⟨p, vs, rfl, h1, h2, h3⟩ := a.list
      exact ⟨p, vs, rfl, .inl (.inl h1), fun t o n e => q _ _ (same_new n) (At.newP l n e h2 h3)⟩
    · exact q.elim
/-! ### own dicts -/
def keyD : D → Option L2.Key
  | .int i => some (.inl i)
  | .str z => some (.inr z)
  | _ => none
theorem keyD_at {O : List Addr} {H : Hp} {v : V} {d : D} {k : L2.Key} (e : keyD d = some k) (a : OAt K O H v d) : v = kV k := by
  cases d with
  | int i => cases e; exact a.int
  | str z => cases e; exact a.str
  | non | bl _ | tup _ | lst _ | scr _ | dic _ _ | ref _ | ptp _ => cases e
def hasK (ks : List L2.Key) (k : L2.Key) : Bool := ks.any fun j => decide (j = k)
theorem zip_any (k : L2.Key) : ∀ (ks : List L2.Key) (vs : List V), ks.length = vs.length → ((ks.zip vs).any fun kv => decide (kv.1 = k)) = hasK ks k
  | [], [], _ => rfl
  | j :: ks, v :: vs, h => by
    have ih := zip_any k ks vs (by simpa using h)
    rw [List.zip_cons_cons, List.any_cons, ih]; rfl
theorem valV_zip (k : L2.Key) (ks : List L2.Key) (vs : List V) (h : ks.length = vs.length) : (valV (ks.zip vs) k).isSome = hasK ks k := by
  rw [← valV_any, zip_any k ks vs h]
def dKs (ks : List L2.Key) (k : L2.Key) : List L2.Key := if hasK ks k = true then ks else ks ++ [k]
def dVs {α : Type} (ks : List L2.Key) (l : List α) (k : L2.Key) (d : α) : List α := if hasK ks k = true then List.zipWith (fun j x => if j = k then d else x) ks l else l ++ [d]
theorem zip_put (k : L2.Key) (v : V) : ∀ (ks : List L2.Key) (vs : List V), ks.length = vs.length → ((ks.zip vs).map fun kv => if kv.1 = k then (kv.1, v) else kv) = ks.zip (List.zipWith (fun j x => if j = k then v else x) ks vs)
  | [], [], _ => rfl
  | j :: ks, x :: vs, h => by
    have ih := zip_put k v ks vs (by simpa using h)
    rw [List.zip_cons_cons, List.map_cons, ih, List.zipWith_cons_cons, List.zip_cons_cons]
    by_cases e : j = k
    · rw [if_pos e, if_pos e]
    · rw [if_neg e, if_neg e]
theorem putK_zip {ks : List L2.Key} {vs : List V} (h : ks.length = vs.length) (k : L2.Key) (v : V) : putK (ks.zip vs) k v = (dKs ks k).zip (dVs ks vs k v) := by
  unfold putK dKs dVs
  rw [zip_any k ks vs h]
  cases m : hasK ks k
  · rw [if_neg Bool.false_ne_true, if_neg Bool.false_ne_true, if_neg Bool.false_ne_true, List.zip_append h]; rfl
  · rw [if_pos rfl, if_pos rfl, if_pos rfl]
    exact zip_put k v ks vs h
theorem dVs_len {α : Type} {ks : List L2.Key} {l : List α} (h : ks.length = l.length) (k : L2.Key) (d : α) : (dKs ks k).length = (dVs ks l k d).length := by
  unfold dKs dVs
  cases m : hasK ks k
  · rw [if_neg Bool.false_ne_true, if_neg Bool.false_ne_true, List.length_append, List.length_append, h]; rfl
  · rw [if_pos rfl, if_pos rfl, List.length_zipWith, h, Nat.min_self]
theorem dKs_len (ks : List L2.Key) (k : L2.Key) : (dKs ks k).length ≤ ks.length + 1 := by
  unfold dKs
  cases m : hasK ks k
  · rw [if_neg Bool.false_ne_true, List.length_append]; exact Nat.le_refl _
  · rw [if_pos rfl]; omega
theorem zipW_at {H : Hp} {v : V} {d : D} (a : At K H v d) (k : L2.Key) : ∀ {ks : List L2.Key} {vs : List V} {l : List D}, AtAll K H vs l → AtAll K H (List.zipWith (fun j x => if j = k then v else x) ks vs) (List.zipWith (fun j x => if j = k then d else x) ks l)
  | [], _, _, _ => by rw [List.zipWith_nil_left, List.zipWith_nil_left]; exact .nil
  | _ :: _, _, _, .nil => .nil
  | j :: ks, _, _, .cons h r => by
    rw [List.zipWith_cons_cons, List.zipWith_cons_cons]
    refine .cons ?_ (zipW_at a k r)
    by_cases e : j = k
    · rw [if_pos e, if_pos e]; exact a
    · rw [if_neg e, if_neg e]; exact h
theorem dVs_at {H : Hp} {v : V} {d : D} (a : At K H v d) (k : L2.Key) {ks : List L2.Key} {vs : List V} {l : List D} (h : AtAll K H vs l) : AtAll K H (dVs ks vs k v) (dVs ks l k d) := by
  unfold dVs
  cases m : hasK ks k
  · rw [if_neg Bool.false_ne_true, if_neg Bool.false_ne_true]; exact h.append (.cons a .nil)
  · rw [if_pos rfl, if_pos rfl]; exact zipW_at a k h
/-- name = {} -/
def gNewD (i : Nat) : DS := fun F δ => F.nx (δ.set i (.owk [] []))
theorem s_newD {i : Nat} {x : Str} {pos' p : Pos} (hN : X.N.Nodup) (hi : X.N[i]? = some x) (hx : Loc X.env.scope x) (hs : swapsWith (.Dict [] [] p) (some (.Name x pos')) pos.line X.env = pure false := by rfl)
    (hf : X.fn x = true ∨ X.env.scope.names.lookup x = some .local := by first | exact .inl rfl | exact .inr rfl | assumption) : SD X K Ex (.Assign [.Name x pos'] (.Dict [] [] p) pos) (gNewD i) :=
  ⟨ps_weak (ps_set hN hi hx pe_dnewK hs hf) fun E σ H ⟨Hb, B, O, δ, F, S, q, L⟩ p n => L.nx _ _ _ _ (S.own_new (s := .owk [] []) n (same_new n) rfl ⟨p, [], rfl, List.mem_cons_self, S.same.free n, upd_same, rfl, Nat.zero_le _, .nil⟩ (by rw [upd_same]; exact fun z => by cases z)) q⟩
/-- key in dict -/
def gIn (g : Bool → Bool) (Q : Bool → Prop) (d : D) : D → Prop
  | .dic ks _ => onSome (keyD d) fun k => Q (g (hasK ks k))
  | _ => False
theorem gIn_mono {g : Bool → Bool} {Q Q' : Bool → Prop} (i : ∀ b, Q b → Q' b) (d e : D) (q : gIn g Q d e) : gIn g Q' d e := by
  unfold gIn at q ⊢
  split at q
  · exact onSome_mono (fun _ => i _) q
  · exact q
def tDicIn (g : Bool → Bool) (x y : DX) : DT := fun δ Q => x δ fun d => y δ fun e => gIn g Q d e
theorem t_din {x y : DX} (ha : QD X K a x) (hb : QD X K b y) (hu : X.A.units + 64 < cLine) (hm : behindInMarks .In b = false := by rfl) : TD X K (.Compare a [.In] [b] pos) (tDicIn (fun b => b) x y) := by
  refine ⟨fun δ Q Q' i q => ha.mono δ (fun d => hb.mono δ fun e => gIn_mono i d e) q, pt_weak (pt_cmp (pc_din (by omega) ha.pe hb.pe) hm) fun σ H Q ⟨Hb, B, O, δ, S, q⟩ => ⟨Hb, B, O, δ, S, ha.mono δ (fun d q v H1 s1 a1 => ⟨Hb, B, O, δ, S.grow s1, hb.mono δ (fun e q w H2 s2 a2 => ?_) q⟩) q⟩⟩
  unfold gIn at q
  split at q
  · obtain ⟨k, e, q⟩ := of_onSome q
    obtain ⟨p, vs, rfl, h1, h2, h3, h4⟩ := a2.dict
    refine ⟨p, _, rfl, .inl ⟨_, k, h1, keyD_at e (a1.grow s2), rfl⟩, _, rfl, ?_⟩
    rw [valV_zip k _ _ h2]
    exact q H2 (s1.trans s2)
  · exact q.elim
theorem t_dnin {x y : DX} (ha : QD X K a x) (hb : QD X K b y) (hu : X.A.units + 64 < cLine) (hm : behindInMarks .NotIn b = false := by rfl) : TD X K (.Compare a [.NotIn] [b] pos) (tDicIn (fun b => !b) x y) := by
  refine ⟨fun δ Q Q' i q => ha.mono δ (fun d => hb.mono δ fun e => gIn_mono i d e) q, pt_weak (pt_cmp (pc_dnotin (by omega) ha.pe hb.pe) hm) fun σ H Q ⟨Hb, B, O, δ, S, q⟩ => ⟨Hb, B, O, δ, S, ha.mono δ (fun d q v H1 s1 a1 => ⟨Hb, B, O, δ, S.grow s1, hb.mono δ (fun e q w H2 s2 a2 => ?_) q⟩) q⟩⟩
  unfold gIn at q
  split at q
  · obtain ⟨k, e, q⟩ := of_onSome q
    obtain ⟨p, vs, rfl, h1, h2, h3, h4⟩ := a2.dict
    refine ⟨p, _, rfl, .inl ⟨_, k, h1, keyD_at e (a1.grow s2), rfl⟩, _, rfl, ?_⟩
    rw [valV_zip k _ _ h2]
    exact q H2 (s1.trans s2)
  · exact q.elim
/-- own[key] = e -/
def onOwk (g : List L2.Key → List D → Prop) : Sl → Prop
  | .owk ks l => g ks l
  | _ => False
theorem onOwk_at {Hb H : Hp} {O : List Addr} {g : List L2.Key → List D → Prop} {s : Sl} {o : Option (Option V)} (q : onOwk g s) (h : SlOk K Hb O H o s) : ∃ ks l r vs, s = .owk ks l ∧ g ks l ∧ o = some (some (.ref r)) ∧ r ∈ O ∧ Hb r = none ∧ H r = some (.dK (ks.zip vs)) ∧ ks.length = vs.length ∧ ks.length ≤ LIM ∧ AtAll K (hid O H) vs l := by
  cases s with
  | owk ks l => obtain ⟨r, vs, h1, h2, h3, h4, h5, h6, h7⟩ := h; exact ⟨ks, l, r, vs, rfl, q, h1, h2, h3, h4, h5, h6, h7⟩
  | no => exact q.elim
  | d _ => exact q.elim
  | own _ => exact q.elim
def gDput (i : Nat) (x y : DX) : DS := fun F δ => y δ fun d => onOwk (fun ks l => x δ fun e => onSome (keyD e) fun k => ks.length < LIM ∧ F.nx (δ.set i (.owk (dKs ks k) (dVs ks l k d)))) (sl δ i)
theorem s_dput (i : Nat) {x : Str} {ie : Expr} {u v : DX} {p1 p2 : Pos} (hu : X.A.units + 64 < cLine) (hi : QD X K ie u) (h : PD X K e v) (hN : X.N[i]? = some x := by rfl) (hv : Vis X.env.scope x := by first | exact Or.inl rfl | exact Or.inr (Or.inl rfl) | exact Or.inr (Or.inr rfl)) (hd : (x == ("__debug__" : Str)) = false := by decide)
    (hcd : (x == ("__classdict__" : Str)) = false := by decide)
    (ha : ∀ v, assign (.Subscript (.Name x p1) ie p2) X.env v = (do
      let ov ← holding [v] (eval (.Name x p1) X.env)
      let iv ← holding [v, ov] (eval ie X.env)
      standAt p2
      holding [v, ov, iv] (setItem ov iv v)
      release [v, ov, iv] []) := by intro _; rfl)
    (hs : swapsWithSole [.Subscript (.Name x p1) ie p2] e pos.line X.env = pure false := by rfl) (hw : swappedStores [.Subscript (.Name x p1) ie p2] e X.env = pure none := by rfl)
    (h1 : (assignEach [.Subscript (.Name x p1) ie p2] X.env).map (·.2) = [assign (.Subscript (.Name x p1) ie p2) X.env] := by rfl) :
    SD X K Ex (.Assign [.Subscript (.Name x p1) ie p2] e pos) (gDput i u v) := by
  refine ⟨ps_weak (ps_asg h.pe (pg_sub (pe_var hN hv hd hcd) hi.pe (set_dict (by omega)) ha) hs hw h1) fun E σ H ⟨Hb, B, O, δ, F, S, q, L⟩ => ⟨Hb, B, O, δ, S, h.mono δ (fun d q w H1 s1 aw => ?_) q⟩⟩
  have S1 := S.grow s1
  obtain ⟨ks, l, r, vs, e1, q, h1, h2, h3, h4, h5, h6, h7⟩ := onOwk_at q (S1.at_ i)
  refine ⟨_, h1, Hb, B, O, δ, S1, hi.mono δ (fun ix q z H2 s2 az => ?_) q⟩
  obtain ⟨k, ek, hl, q⟩ := of_onSome q
  have e7 : ks.length = l.length := by rw [h5, h7.len]
  refine ⟨r, _, rfl, .inl ⟨ks.zip vs, k, s2 _ _ h4, keyD_at ek az, ?_, rfl⟩, ?_⟩
  · rw [List.length_zip, ← h5, Nat.min_self]; exact Nat.lt_trans hl LIM_size
  · refine L.nx _ _ _ _ ((S1.grow s2).own_upd (s := .owk (dKs ks k) (dVs ks l k d)) (by rw [e1]; rfl) h1 h2 h3 ⟨r, dVs ks vs k w, rfl, h2, h3, ?_, ?_, Nat.le_trans (dKs_len _ _) hl, ?_⟩) q
    · rw [upd_same, putK_zip h5]
    · exact dVs_len h5 k w
    · rw [hid_upd h2]; exact dVs_at (aw.mono (hid_same s2)) k (h7.mono (hid_same s2))
/-- a, b = own, own / own, value -/
def gParOO (i j : Nat) (x y : DAs) : DS := fun F δ => x δ fun l => y δ fun m => F.nx ((δ.set i (.own l)).set j (.own m))
def gParOV (i j : Nat) (x : DAs) (y : DX) : DS := fun F δ => x δ fun l => y δ fun d => F.nx ((δ.set i (.own l)).set j (.d d))
theorem s_parOO {i j : Nat} {x y : Str} {a b : Expr} {u v : DAs} {px py pt : Pos} {kt k2 pt2} (hN : X.N.Nodup) (hi : X.N[i]? = some x) (hj : X.N[j]? = some y) (ha : FD X K a u) (hb : FD X K b v)
    (hij : i ≠ j := by decide) (hx : X.env.scope.names.lookup x = some .local := by rfl) (hy : X.env.scope.names.lookup y = some .local := by rfl)
    (hw : swappedStores [.Tuple [.Name x px, .Name y py] kt pt] (.Tuple [a, b] k2 pt2) X.env = pure (some [x, y]) := by rfl)
    (hs : swapsWithSole [.Tuple [.Name x px, .Name y py] kt pt] (.Tuple [a, b] k2 pt2) pos.line X.env = pure false := by rfl)
    (h1 : starEach [a, b] X.env = (false, eval a X.env) :: starEach [b] X.env := by rfl) (h2 : starEach [b] X.env = (false, eval b X.env) :: starEach [] X.env := by rfl) (hc : X.calm = true := by rfl) :
    SD X K Ex (.Assign [.Tuple [.Name x px, .Name y py] kt pt] (.Tuple [a, b] k2 pt2) pos) (gParOO i j u v) := by
  refine ⟨ps_weak (ps_par hc hN hi hj hij hx hy (pa_cons ha.pe (pa_cons hb.pe pa_nil h2) h1) hw hs) fun E σ H ⟨Hb, B, O, δ, F, S, q, L⟩ => ⟨Hb, B, O, δ, S, ha.mono δ (fun l q p vs H1 s1 n hp hl al => ?_) q⟩⟩
  have lp : H1 p ≠ none := by rw [hp]; exact fun z => by cases z
  refine ⟨Hb, B, p :: O, δ, S.more n s1 lp, hb.mono δ (fun m q r ws H2 s2 n2 hr hm am => ?_) q⟩
  refine ⟨_, _, rfl, L.nx _ _ _ _ (own_imp (own_imp S s1 n hp hl al) s2 n2 hr hm am) q⟩
theorem s_parOV {i j : Nat} {x y : Str} {a b : Expr} {u : DAs} {v : DX} {px py pt : Pos} {kt k2 pt2} (hN : X.N.Nodup) (hi : X.N[i]? = some x) (hj : X.N[j]? = some y) (ha : FD X K a u) (hb : PD X K b v)
    (hij : i ≠ j := by decide) (hx : X.env.scope.names.lookup x = some .local := by rfl) (hy : X.env.scope.names.lookup y = some .local := by rfl)
    (hw : swappedStores [.Tuple [.Name x px, .Name y py] kt pt] (.Tuple [a, b] k2 pt2) X.env = pure (some [x, y]) := by rfl)
    (hs : swapsWithSole [.Tuple [.Name x px, .Name y py] kt pt] (.Tuple [a, b] k2 pt2) pos.line X.env = pure false := by rfl)
    (h1 : starEach [a, b] X.env = (false, eval a X.env) :: starEach [b] X.env := by rfl) (h2 : starEach [b] X.env = (false, eval b X.env) :: starEach [] X.env := by rfl) (hc : X.calm = true := by rfl) :
    SD X K Ex (.Assign [.Tuple [.Name x px, .Name y py] kt pt] (.Tuple [a, b] k2 pt2) pos) (gParOV i j u v) := by
  refine ⟨ps_weak (ps_par hc hN hi hj hij hx hy (pa_cons ha.pe (pa_cons hb.pe pa_nil h2) h1) hw hs) fun E σ H ⟨Hb, B, O, δ, F, S, q, L⟩ => ⟨Hb, B, O, δ, S, ha.mono δ (fun l q p vs H1 s1 n hp hl al => ?_) q⟩⟩
  have lp : H1 p ≠ none := by rw [hp]; exact fun z => by cases z
  refine ⟨Hb, B, p :: O, δ, S.more n s1 lp, hb.mono δ (fun d q w H2 s2 aw => ?_) q⟩
  exact ⟨_, _, rfl, L.nx _ _ _ _ (((own_imp S s1 n hp hl al).grow s2).set aw) q⟩
/-- name = name + (own.pop(e),) -/
def asTup (Q : List D → Prop) : D → Prop
  | .tup l => Q l
  | _ => False
def gPopCat (i j : Nat) (x : DX) : DS := fun F δ => qV i δ (asTup fun l => onOwn (fun m => x δ (asI fun k => onSome (seqIndex? k m.length) fun t => onSome m[t]? fun d => (-(2 ^ 63) ≤ k ∧ k < 2 ^ 63 ∧ l.length + 1 ≤ LIM) ∧ F.nx ((δ.set j (.own (m.eraseIdx t))).set i (.d (.tup (l ++ [d])))))) (sl δ j))
theorem erase_at {H : Hp} {vs : List V} {l : List D} (h : AtAll K H vs l) (t : Nat) : AtAll K H (vs.eraseIdx t) (l.eraseIdx t) := by
  rw [List.eraseIdx_eq_take_drop_succ, List.eraseIdx_eq_take_drop_succ]
  exact (h.take t).append (h.drop (t + 1))
theorem s_popCat {i j : Nat} {x y : Str} {u : DX} {pos' p0 p1 p2 p3 p4 pb : Pos} {kt : Nat} (hN : X.N.Nodup) (hi : X.N[i]? = some x) (hx : Loc X.env.scope x) (hj : X.N[j]? = some y) (h : QD X K e u) (hij : i ≠ j := by decide) (hK : X.K = K := by rfl)
    (hv : Vis X.env.scope x := by first | exact Or.inl rfl | exact Or.inr (Or.inl rfl) | exact Or.inr (Or.inr rfl)) (hd : (x == ("__debug__" : Str)) = false := by decide) (hcd : (x == ("__classdict__" : Str)) = false := by decide)
    (hv2 : Vis X.env.scope y := by first | exact Or.inl rfl | exact Or.inr (Or.inl rfl) | exact Or.inr (Or.inr rfl)) (hd2 : (y == ("__debug__" : Str)) = false := by decide) (hcd2 : (y == ("__classdict__" : Str)) = false := by decide)
    (hbase : attributeBase (.Name y p1) "pop" X.env (eval (.Name y p1) X.env) = eval (.Name y p1) X.env := by rfl)
    (hfew : ((backTo p3 (starEach [e] X.env)).all (fun x => !x.1) && (backToKw p3 (keywordEach [] X.env)).all (fun x => x.1.isSome) && decide ([e].length + ([] : List Keyword).length + (if ([] : List Keyword).isEmpty then 0 else 1) < 30)) = true := by rfl)
    (hline : (p2.endLine == p3.line) = true := by rfl) (hst : starEach [e] X.env = (false, eval e X.env) :: starEach [] X.env := by rfl) (hpl : (backTo p3 (starEach [] X.env)).any (·.1) = false := by rfl)
    (hs2 : starEach [.Call (.Attribute (.Name y p1) "pop" p2) [e] [] p3] X.env = (false, eval (.Call (.Attribute (.Name y p1) "pop" p2) [e] [] p3) X.env) :: starEach [] X.env := by rfl)
    (hs : swapsWith (.BinOp (.Name x p0) .Add (.Tuple [.Call (.Attribute (.Name y p1) "pop" p2) [e] [] p3] kt p4) pb) (some (.Name x pos')) pos.line X.env = pure false := by rfl)
    (hf : X.fn x = true ∨ X.env.scope.names.lookup x = some .local := by first | exact .inl rfl | exact .inr rfl | assumption) :
    SD X K Ex (.Assign [.Name x pos'] (.BinOp (.Name x p0) .Add (.Tuple [.Call (.Attribute (.Name y p1) "pop" p2) [e] [] p3] kt p4) pb) pos) (gPopCat i j u) := by
  subst hK
  refine ⟨ps_weak (ps_set hN hi hx (pe_op op_catA (pe_var hi hv hd hcd) (pe_tup (pa_cons (pe_bm PySem.F.plainAttrs_list PySem.F.slot_list_pop PySem.F.type_list_pop mt_popAt (pe_var hj hv2 hd2 hcd2) (pa_cons h.pe pa_nil hst) hbase hfew hline hst hpl) pa_nil hs2))) hs hf) fun E σ H ⟨Hb, B, O, δ, F, S, q, L⟩ => ?_⟩
  have a := S.at_ i
  unfold gPopCat qV at q
  have q : ∃ l, sl δ i = .d (.tup l) ∧ onOwn (fun m => u δ (asI fun k => onSome (seqIndex? k m.length) fun t => onSome m[t]? fun d => (-(2 ^ 63) ≤ k ∧ k < 2 ^ 63 ∧ l.length + 1 ≤ LIM) ∧ F.nx ((δ.set j (.own (m.eraseIdx t))).set i (.d (.tup (l ++ [d])))))) (sl δ j) := by
    split at q
    · rename_i d hd
      cases d with
      | tup l => exact ⟨l, hd, q⟩
      | non | bl _ | int _ | str _ | lst _ | scr _ | dic _ _ | ref _ | ptp _ => exact q.elim
    · exact q.elim
    · exact q.elim
    · exact q.elim
  obtain ⟨l, el, q⟩ := q
  rw [el] at a
  obtain ⟨v, h1, h2⟩ := a
  cases h2 with
  | tup e1 e2 e3 =>
    rename_i a0 xs0
    refine ⟨_, h1, ?_⟩
    obtain ⟨m, r, vs, w1, q, w2, w3, w4, w5, w6, w7⟩ := onOwn_at q (S.at_ j)
    refine ⟨_, w2, .inl ⟨rfl, _, .inl (.inl w5)⟩, Hb, B, O, δ, S, h.mono δ (fun z q w H1 s1 aw => ?_) q⟩
    obtain ⟨k, rfl, q⟩ := asI_at q aw
    obtain ⟨t, et, q⟩ := of_onSome q
    obtain ⟨d, ed, ⟨k1, k2, k3⟩, q⟩ := of_onSome q
    obtain ⟨v, ev, av⟩ := (w7.mono (hid_same s1)).get' ed
    have S1 := S.grow s1
    have S2 := own_upd (l' := m.eraseIdx t) (vs := vs.eraseIdx t) S1 w1 w2 w3 w4 (Nat.le_trans (List.length_eraseIdx_le _ _) w6) (erase_at (w7.mono (hid_same s1)) t)
    have av2 : At X.K (hid O (upd H1 r (.lst (vs.eraseIdx t)))) v d := by rw [hid_upd w3]; exact av
    have e3' : AtAll X.K (hid O (upd H1 r (.lst (vs.eraseIdx t)))) xs0 l := by rw [hid_upd w3]; exact e3.mono (hid_same s1)
    have e1' : SqT X.K (hid O (upd H1 r (.lst (vs.eraseIdx t)))) a0 xs0 := by rw [hid_upd w3]; exact sqT_mono (hid_same s1) e1
    refine ⟨r, vs, k, t, v, rfl, rfl, s1 _ _ w5, k1, k2, by rw [w7.len]; exact et, ev, Nat.le_of_ble_eq_true rfl, fun p n => ?_⟩
    have tn : At X.K (hid O (upd (upd H1 r (.lst (vs.eraseIdx t))) p (.tup [v]))) (.ref p) (.tup [d]) := At.newT S2.live n (Nat.le_of_ble_eq_true rfl) (.cons av2 .nil)
    refine ⟨_, _, _, _, rfl, rfl, sqT_mono (hid_out.trans (same_new n)) e1', .inl (.inl upd_same), ?_, fun z => ?_, (fun _ z => nomatch z), fun _ _ p2 n2 => ?_⟩
    · exact lim_sz (by rw [e3.len]; exact k3)
    · subst z
      cases e3
      exact L.nx _ _ _ _ ((S2.grow (same_new n)).set tn) q
    · exact L.nx _ _ _ _ (((S2.grow (same_new n)).grow (same_new n2)).set (At.newT (fun b hb => live_same (S2.live b hb) (same_new n)) n2 (by rw [List.length_append]; exact k3) ((e3'.append (.cons av2 .nil)).mono (hid_same (same_new n))))) q
/-- tuple * int -/
def oRepT : D → D → (D → Prop) → Prop
  | .tup l, .int k, Q => (l ≠ [] ∧ 2 ≤ k ∧ k ≤ 1000 ∧ l.length ≤ 1000) ∧ Q (.tup (repD l k.toNat))
  | _, _, _ => False
theorem o_repT (hK : X.K = K := by rfl) : OpD X K (binaryOp .Mult) oRepT := by
  subst hK
  refine ⟨fun a b Q Q' i q => ?_, _, op_repT, fun O H x y a b Q l ax ay q => ?_⟩
  · unfold oRepT at q ⊢
    split at q
    · exact ⟨q.1, i _ q.2⟩
    · exact q
  · unfold oRepT at q
    split at q
    · obtain ⟨p, vs, rfl, h1, h2, h3, _⟩ := ax.tuple
      obtain ⟨⟨k0, k1, k2, k3⟩, q⟩ := q
      refine ⟨p, _, vs, rfl, ay.int, h1, fun z => k0 ?_, k1, k2, by rw [h3.len]; exact k3, fun t n => q _ _ (same_new n) (At.newT l n ?_ (rep_at h3 _))⟩
      · subst z; cases h3; rfl
      · rw [rep_len]
        exact Nat.le_trans (Nat.mul_le_mul k3 (by omega : _ ≤ 1000)) (Nat.le_refl _)
    · exact q.elim
/-! ### try: if .. / elif .. / else: calls; except as e: return isinstance(e, A) and isinstance(e, T) -/
def tIsT (K : PySem.W.Frag) (i : Nat) (a : Addr) (cls : Value) (d : Option Addr) (T : String) : TE := tCB (rIsX K a cls d) (tCons (tVar i) (tCons (tC (.ty T)) tNil))
structure IsT (X : Cx) (K : PySem.W.Frag) (i : Nat) (e : Expr) (T : String) : Prop where
  pe : ∀ (a : Addr) (oe : Obj) (cls : Value) (d : Option Addr) (pn : List (Addr × Obj)), Zc cls d oe → (∃ vs, oe.data = .fields vs) → PE (X.suite a ((a, oe) :: pn)) e (tIsT K i a cls d T)
theorem is_t {i : Nat} {x n : Str} {T : String} {p1 p2 p3 : Pos} (hK : X.K = K) (hm : X.mg "isinstance" = none) (hT : X.mg x = none) (hb : bootBuiltins x = some (.type T) := by decide +kernel) (hN : X.N[i]? = some n := by rfl) (hv : Vis X.env.scope n := by first | exact Or.inl rfl | exact Or.inr (Or.inl rfl) | exact Or.inr (Or.inr rfl)) (hd : (n == ("__debug__" : Str)) = false := by decide)
    (hcd : (n == ("__classdict__" : Str)) = false := by decide) (hg : Gl X "isinstance" := by rfl) (hgC : Gl X x := by rfl) (hdx : (x == ("__debug__" : Str)) = false := by decide) (hnx : x ≠ "__name__" := by decide)
    (he : ∀ p, starEach [.Name n p2, .Name x p] X.env = (false, eval (.Name n p2) X.env) :: starEach [.Name x p] X.env := by intro _; rfl) (he2 : ∀ p, starEach [.Name x p] X.env = (false, eval (.Name x p) X.env) :: starEach [] X.env := by intro _; rfl)
    (hpl : (backTo pos (starEach [.Name x p3] X.env)).any (·.1) = false := by rfl) : IsT X K i (.Call (.Name "isinstance" p1) [.Name n p2, .Name x p3] [] pos) T := by
  subst hK
  exact ⟨fun a oe cls d pn hz hf => pe_callB (X := X.suite a ((a, oe) :: pn)) (c_isX hz hf) hg hm (by decide +kernel) (pa_cons (pe_var hN hv hd hcd) (pa_cons (pe_bltn (v := .ty T) hgC hT hb rfl hnx hdx) pa_nil (he2 _)) (he _)) (he := he _) (hpl := hpl)⟩
theorem tIsT_of {i : Nat} {a C : Addr} {T : String} {b : Bool} {σ : L2.St} {H : Hp} {Q : VK} (c : ExcC K C) (h : PySem.W.kitOne K (.ref C) (.type T) = some b) (hs : σ[i]? = some (some (.ref a))) (q : Q (.bl b) H) : tIsT K i a (.ref C) none T σ H Q :=
  ⟨_, hs, C, c, rfl, rfl, _, _, b, rfl, fun u r => r, h, q⟩
def gHd (i : Nat) (K : PySem.W.Frag) (S : Addr) (D0 : Addr) (T : String) (F : DE) (δ : List Sl) (C : Addr) : Prop := Caught K S C ∧ hasSl i δ ∧ ∃ b, PySem.W.kitOne K (.ref C) (.ref D0) = some b ∧ ∃ c, PySem.W.kitOne K (.ref C) (.type T) = some c ∧ F.rt (.bl (b && c))
def gTryIf (i : Nat) (K : PySem.W.Frag) (S : Addr) (t1 t2 : DT) (x1 x2 x3 : DXX) (D0 : Addr) (T : String) : DS := fun F δ => t1 δ fun b => if b = true then x1 δ (fun _ => F.nx δ) (gHd i K S D0 T F δ) else t2 δ fun c => if c = true then x2 δ (fun _ => F.nx δ) (gHd i K S D0 T F δ) else x3 δ (fun _ => F.nx δ) (gHd i K S D0 T F δ)
theorem s_tryIf {i : Nat} {n xS : Str} {S : Addr} {p2 p3 p4 p5 q1 q2 q3 q4 q5 : Pos} {t1 t2 : DT} {x1 x2 x3 : DXX} {c1 c2 e1 e2 e3 se1 se2 : Expr} {D0 : Addr} {T : String} (hS : X.mg xS = some (.ref S)) (hN : X.N.Nodup)
    (ht1 : ∀ (pn : List (Addr × Obj)) (xe : Value → Shared → Prop), TD (X.tr pn xe) K c1 t1) (ht2 : ∀ (pn : List (Addr × Obj)) (xe : Value → Shared → Prop), TD (X.tr pn xe) K c2 t2)
    (h1 : ∀ (W : WX) (pn : List (Addr × Obj)) (xe : Value → Shared → Prop), Takes (X.tr pn xe) W → XW (X.tr pn xe) K W e1 x1) (h2 : ∀ (W : WX) (pn : List (Addr × Obj)) (xe : Value → Shared → Prop), Takes (X.tr pn xe) W → XW (X.tr pn xe) K W e2 x2)
    (h3 : ∀ (W : WX) (pn : List (Addr × Obj)) (xe : Value → Shared → Prop), Takes (X.tr pn xe) W → XW (X.tr pn xe) K W e3 x3) (hi : IsC X K i se1 D0) (hi2 : IsT X K i se2 T) (hNi : X.N[i]? = some n) (hK : X.K = K := by rfl)
    (hs : X.stack = X.env :: X.outer := by rfl) (hf : X.env.frame = some X.env.locals := by rfl) (hln : X.env.kindOf n = some .local := by rfl) (hc : Names X xS (.ref S) := by exact ⟨rfl, by decide, .inl (by assumption)⟩)
    (w1 : swapsWith e1 none q1.line X.env = pure false := by rfl) (w2 : swapsWith e2 none q2.line X.env = pure false := by rfl) (w3 : swapsWith e3 none q3.line X.env = pure false := by rfl) :
    SD X K Ex (.Try [.If c1 [.Expr e1 q1] [.If c2 [.Expr e2 q2] [.Expr e3 q3] q4] q5] [.ExceptHandler (some (.Name xS p2)) (some n) [.Return (some (.BoolOp .And [se1, se2] p3)) p4] p5] [] [] pos) (gTryIf i K S t1 t2 x1 x2 x3 D0 T) := by
  subst hK
  refine ⟨ps_weak (ps_try_as (i := i) (tb := fun W => tIfS (tT X.K t1) (tDrop (tXW X.K W x1)) (tIfS (tT X.K t2) (tDrop (tXW X.K W x2)) (tDrop (tXW X.K W x3)))) (ts := fun a cls d => tRet (tAndV (tIs1 X.K i a cls d D0) (tIsT X.K i a cls d T))) (Wout := fun _ _ _ _ => False) hs hf hN hNi hln hc takes0
    (fun W pn xe tk _ => pss_one (ps_if (ht1 pn xe).pt (pss_one (ps_expr (h1 W pn xe tk).pe w1)) (pss_one (ps_if (ht2 pn xe).pt (pss_one (ps_expr (h2 W pn xe tk).pe w2)) (pss_one (ps_expr (h3 W pn xe tk).pe w3)))))) (fun a oe cls d pn hz hf => pss_one (ps_ret (pe_and (hi.pe a oe cls d pn hz hf) (pe_one (hi2.pe a oe cls d pn hz hf)))))) fun E σ H ⟨Hb, B, O, δ, F, S0, q, L⟩ => ?_⟩
  have run : ∀ {x : DXX} (mono : ∀ δ {Q Q' : D → Prop} {Z Z' : Addr → Prop}, (∀ d, Q d → Q' d) → (∀ C, Z C → Z' C) → x δ Q Z → x δ Q' Z') {H1 : Hp}, Same H H1 → x δ (fun _ => F.nx δ) (gHd i X.K S D0 T F δ) → tDrop (tXW X.K (wAs X.K (.ref S) i (fun a cls d => tRet (tAndV (tIs1 X.K i a cls d D0) (tIsT X.K i a cls d T))) (fun _ _ _ _ => False) E) x) E σ H1 := fun {x} mono {H1} s1 q => by
    have S1 := S0.grow s1
    refine ⟨Hb, B, O, δ, S1, mono δ (fun d k v H' s a => L.nx _ _ _ _ (S1.grow s) k) (fun C ⟨c, hsl, b, hb, b2, hb2, k⟩ H' s => ?_) q⟩
    refine ⟨true, c.m, fun _ a0 ha0 => ?_, fun z => by cases z⟩
    have hx : (σ.set i (some (.ref a0)))[i]? = some (some (.ref a0)) := by
      rw [List.getElem?_set_self]
      rw [S0.len]; exact hasSl_lt hsl
    refine tIs1_of c.x hb hx ⟨b, rfl, ?_⟩
    cases b with
    | true => exact tIsT_of c.x hb2 hx (L.rt _ _ _ (S1.same.trans s) (.bl _) k)
    | false => exact L.rt _ _ _ (S1.same.trans s) (.bl _) k
  have m1 := (h1 (fun _ _ _ _ => False) [] (fun _ _ => False) takes0).mono
  have m2 := (h2 (fun _ _ _ _ => False) [] (fun _ _ => False) takes0).mono
  have m3 := (h3 (fun _ _ _ _ => False) [] (fun _ _ => False) takes0).mono
  refine ⟨Hb, B, O, δ, S0, (ht1 [] (fun _ _ => False)).mono δ (fun b k H1 s1 => ?_) q⟩
  refine ite_mono b (fun k => run m1 s1 k) (fun k => ⟨Hb, B, O, δ, S0.grow s1, (ht2 [] (fun _ _ => False)).mono δ (fun c k H2 s2 => ?_) k⟩) k
  exact ite_mono c (fun k => run m2 (s1.trans s2) k) (fun k => run m3 (s1.trans s2) k) k
/-! ### a function of a module; factorial -/
theorem d_callG {o : List D → (D → Prop) → Prop} {x : Str} {id : String} {p : Pos} {es : List Expr} {xs : List DX} (ho : CaD X K (.builtin id) o) (hm : X.mg x = some (.builtin id)) (ha : BD X K (e :: es) xs) (hg : Gl X x := by rfl) (hdb : (x == ("__debug__" : Str)) = false := by decide)
    (he : starEach (e :: es) X.env = (false, eval e X.env) :: starEach es X.env := by rfl) (hpl : (backTo pos (starEach es X.env)).any (·.1) = false := by rfl) : PD X K (.Call (.Name x p) (e :: es) [] pos) (dCa o xs) := by
  obtain ⟨r, hr, hi⟩ := ho.ex
  refine ⟨fun δ Q Q' i q => ha.mono δ (fun ds => ho.mono ds i) q, pe_weak (pe_callBfun hr hg hm ha.pa hdb he hpl) fun σ H Q ⟨Hb, B, O, δ, S, q⟩ => ⟨Hb, B, O, δ, S, ha.mono δ (fun ds g vs H1 s1 as => ?_) q⟩⟩
  exact hi O H1 vs ds Q (fun p hp => live_same (S.live p hp) s1) as (ho.mono ds (fun d k v H' s a => k v H' (s1.trans s) a) g)
def rFact : List V → Hp → VK → Prop := fun vs H Q => ∃ a : Int, vs = [.int a] ∧ 0 ≤ a ∧ a ≤ 20000 ∧ Q (.int ((Builtin.Math.factorialNat a.toNat : Nat) : Int)) H
theorem cr_factorial : CallR X (.builtin "math.factorial") rFact := by
  intro pins s σ H vs us Q I r h
  obtain ⟨a, rfl, h1, h2, q⟩ := h
  obtain ⟨u, rfl, t, rfl⟩ := vals1 r
  exact PySem.W.mc_factorial h1 h2 fun z => ⟨.int _, H, I.tok _, ⟨_, rfl⟩, q⟩
def gFact : D → (D → Prop) → Prop := fun d Q => asI (fun i => (0 ≤ i ∧ i ≤ 20000) ∧ Q (.int ((Builtin.Math.factorialNat i.toNat : Nat) : Int))) d
theorem c_factorial : CaD X K (.builtin "math.factorial") (o1 gFact) := by
  refine ca1 cr_factorial (fun d Q Q' i q => asI_mono (fun _ q => ⟨q.1, i _ q.2⟩) d q) fun O H v d Q l a q => ?_
  obtain ⟨i, rfl, ⟨k1, k2⟩, q⟩ := asI_at q a
  exact ⟨i, rfl, k1, k2, q _ H (.refl H) (.int _)⟩
end
/-- the bottom of a recursion: nothing is asked -/
theorem cal_bot {P : Program} {w : World} {K : PySem.W.Frag} {mg : Str → Option Value} {base : Heap} {x : Str} {st : Stmt} {N ps : List Str} {R : Rf} (Dd : Df K mg x st ps) (S : FnScope N ps (defScope st)) (h : ∀ ds Q, ¬ R ds Q) : Cal P w K mg base CX0 1 x ps (spW K R) := by
  obtain ⟨f, fd, gf, F, b⟩ := Dd
  exact ⟨f, fd, gf, F.kp, b, F.ok (k := 0) S (fun vs H Q E ⟨B, ds, lb, a, r⟩ => absurd r (h _ _)) fun cdv A outer s H vs Q E hr ⟨B, ds, lb, a, r⟩ => absurd r (h _ _)⟩
section
variable {X : Cx} {K : PySem.W.Frag} {Ex : XK} {e a b c tg : Expr} {pos : Pos}
end
/-! ### sum of a tuple of ints -/
theorem int_pairs {its : List Value} {ns : List Int} (h : IntsAre its ns) : ∃ ps : List (Int × Tok), its = ps.map (fun p => Value.int p.1 p.2) ∧ ps.map (·.1) = ns := by
  induction h with
  | nil => exact ⟨[], rfl, rfl⟩
  | cons n t _ ih => obtain ⟨ps, h1, h2⟩ := ih; exact ⟨(n, t) :: ps, by rw [h1]; rfl, by rw [← h2]; rfl⟩
def rSumT (K : PySem.W.Frag) : List V → Hp → VK → Prop := fun vs H Q => ∃ (a : Addr) (ns : List Int), vs = [V.ref a] ∧ SqT K H a (ns.map V.int) ∧ Q (.int ns.sum) H
theorem cr_sumT {X : Cx} (hc : X.calm = true) : CallR X (.builtin "sum") (rSumT X.K) := by
  intro pins s σ H vs us Q I r q
  obtain ⟨a, ns, rfl, hs, q⟩ := q
  obtain ⟨its, rv, hT, hz⟩ := I.tuple hs
  obtain ⟨u, rfl, ru⟩ := vals1 r
  obtain rfl : u = Value.ref a := ru
  obtain ⟨ps, e1, e2⟩ := int_pairs (show IntsAre its ns from Vals.ints rv)
  have hT2 : s.heap.IsTuple a (intItems ps.toArray) := by
    have : intItems ps.toArray = its.toArray := by unfold intItems; rw [e1, List.map_toArray]
    rw [this]; exact hT
  refine PySem.W.ktm_sumG (I.ok.hd hc) hT2 fun h' tk t' k => ?_
  have es : preSum (numAt ps.toArray) ps.toArray.size = ns.sum := by
    rw [preSum_eq]
    show (List.take ps.toArray.size (List.map (·.1) ps)).sum = ns.sum
    rw [e2, List.take_of_length_le (by rw [← e2, List.length_map, List.size_toArray]; exact Nat.le_refl _)]
  rw [es]
  exact ⟨.int ns.sum, H, I.kept (t' := tk) k, ⟨_, rfl⟩, q⟩
section
variable {X : Cx} {K : PySem.W.Frag} {Ex : XK} {e a b c tg : Expr} {pos : Pos}
def gSumA : D → (D → Prop) → Prop
  | .lst l, Q => ∃ ns : List Int, l = ns.map D.int ∧ Q (.int ns.sum)
  | .tup l, Q => ∃ ns : List Int, l = ns.map D.int ∧ Q (.int ns.sum)
  | _, _ => False
theorem c_sumA (hc : X.calm = true := by rfl) (hK : X.K = K := by rfl) : CaD X K (.builtin "sum") (o1 gSumA) := by
  subst hK
  refine ca1 (cr_or (cr_sum hc) (cr_sumT hc)) (fun d Q Q' i q => ?_) fun O H v d Q l a q => ?_
  · unfold gSumA at q ⊢
    split at q
    · obtain ⟨ns, h, q⟩ := q; exact ⟨ns, h, i _ q⟩
    · obtain ⟨ns, h, q⟩ := q; exact ⟨ns, h, i _ q⟩
    · exact q
  · unfold gSumA at q
    split at q
    · obtain ⟨ns, rfl, q⟩ := q
      obtain ⟨p, vs, rfl, h1, h2, h3⟩ := a.list
      obtain rfl := h3.ints_of
      exact .inl ⟨p, ns, rfl, .inl (.inl h1), q _ H (.refl H) (.int _)⟩
    · obtain ⟨ns, rfl, q⟩ := q
      obtain ⟨p, vs, rfl, h1, h2, h3, _⟩ := a.tuple
      obtain rfl := h3.ints_of
      exact .inr ⟨p, ns, rfl, h1, q _ H (.refl H) (.int _)⟩
    · exact q.elim
end
end DL

/-! Shapes: plain mathematics for k50. -/
namespace SMath50
def fct : Nat → Nat
  | 0 => 1
  | n + 1 => (n + 1) * fct n
/-- descending rows that add up to n, none above most; so many turns are left -/
def rowsF : Nat → Nat → Nat → List (List Nat)
  | _, 0, _ => [[]]
  | 0, _ + 1, _ => []
  | f + 1, n + 1, most => (List.range (min (n + 1) most)).reverse.flatMap fun k => (rowsF f (n - k) (k + 1)).map ((k + 1) :: ·)
def rows (n : Nat) : List (List Nat) := rowsF n n n
/-- how often each length stands in the row -/
def wt (s : List Nat) : Nat := (s.foldl (· * ·) 1) * ((s.eraseDups).map fun k => fct (s.count k)).foldl (· * ·) 1
def okN (n : Nat) : Bool := decide ((((rows n).map fun s => fct n / wt s).foldl (· + ·) 0) = fct n) && (rows n).all fun s => decide (0 < wt s ∧ fct n % wt s = 0 ∧ s.foldl (· + ·) 0 = n)
theorem ok_all : ((List.range 21).all okN) = true := by decide +kernel
theorem ok_t {n : Nat} (h : n ≤ 20) : okN n = true := by
  have h2 := ok_all
  rw [List.all_eq_true] at h2
  exact h2 n (List.mem_range.mpr (by omega))
/-! ### the small ones: how many commute -/
def perms : Nat → List Nat → List (List Nat)
  | 0, _ => [[]]
  | k + 1, l => l.flatMap fun x => (perms k (l.erase x)).map (x :: ·)
/-- first a, then b -/
def comp (a b : List Nat) : List Nat := b.map fun x => a.getD (x - 1) 0
def commute (a b : List Nat) : Bool := comp a b == comp b a
/-- the length of the round from x on -/
def round (a : List Nat) : Nat → Nat → Nat → Nat
  | 0, _, _ => 0
  | f + 1, x, here => if a.getD (here - 1) 0 = x then 1 else 1 + round a f x (a.getD (here - 1) 0)
/-- the least one of each round tells its length -/
def least (a : List Nat) : Nat → Nat → Nat → Bool
  | 0, _, _ => true
  | f + 1, x, here => decide (x ≤ here) && least a f x (a.getD (here - 1) 0)
def shapeP (a : List Nat) : List Nat := ((List.range a.length).filter fun k => least a a.length (k + 1) (k + 1)).map fun k => round a a.length (k + 1) (k + 1)
def okC (n : Nat) : Bool := (perms n ((List.range n).map (· + 1))).all fun a => decide (((perms n ((List.range n).map (· + 1))).filter fun b => commute a b).length = wt (shapeP a))
theorem okC_all : ((List.range 5).all okC) = true := by decide +kernel
end SMath50

/-! Shapes: the weight, plain. -/
namespace SMath50
def fac1 (L : List Nat) (k : Nat) : Nat := k ^ L.count k * fct (L.count k)
def dst (L : List Nat) : List Nat := (List.range 21).filter fun k => L.contains k
def wt2 (L : List Nat) : Nat := (dst L).foldl (fun a k => a * k ^ L.count k * fct (L.count k)) 1
theorem asc_eq : ∀ {a b : List Nat}, a.Pairwise (· < ·) → b.Pairwise (· < ·) → (∀ k, k ∈ a ↔ k ∈ b) → a = b
  | [], [], _, _, _ => rfl
  | [], y :: b, _, _, h => absurd ((h y).mpr List.mem_cons_self) (by simp)
  | x :: a, [], _, _, h => absurd ((h x).mp List.mem_cons_self) (by simp)
  | x :: a, y :: b, h1, h2, h => by
    rw [List.pairwise_cons] at h1 h2
    have e : x = y := by
      rcases List.mem_cons.mp ((h x).mp List.mem_cons_self) with e | m
      · exact e
      · rcases List.mem_cons.mp ((h y).mpr List.mem_cons_self) with e2 | m2
        · exact e2.symm
        · have := h2.1 x m; have := h1.1 y m2; omega
    subst e
    congr 1
    refine asc_eq h1.2 h2.2 fun k => ⟨fun m => ?_, fun m => ?_⟩
    · rcases List.mem_cons.mp ((h k).mp (List.mem_cons_of_mem _ m)) with e | m'
      · subst e; exact absurd (h1.1 k m) (Nat.lt_irrefl _)
      · exact m'
    · rcases List.mem_cons.mp ((h k).mpr (List.mem_cons_of_mem _ m)) with e | m'
      · subst e; exact absurd (h2.1 k m) (Nat.lt_irrefl _)
      · exact m'
theorem dst_asc (L : List Nat) : (dst L).Pairwise (· < ·) := (List.pairwise_lt_range).filter _
theorem dst_mem {L : List Nat} (h : ∀ x ∈ L, x ≤ 20) (k : Nat) : k ∈ dst L ↔ k ∈ L := by
  unfold dst
  rw [List.mem_filter, List.mem_range]
  constructor
  · intro z; exact List.contains_iff_mem.mp z.2
  · intro z; exact ⟨by have := h k z; omega, List.contains_iff_mem.mpr z⟩
theorem fct_small : ((List.range 21).all fun n => decide (fct n < 2 ^ 62)) = true := by decide +kernel
theorem fct_lt {n : Nat} (h : n ≤ 20) : fct n < 2 ^ 62 := by
  have h2 := fct_small
  rw [List.all_eq_true] at h2
  exact of_decide_eq_true (h2 n (List.mem_range.mpr (by omega)))
def okN2 (n : Nat) : Bool := decide ((((rows n).map fun s => fct n / wt2 s).foldl (· + ·) 0) = fct n) && (rows n).all fun s => decide (0 < wt2 s ∧ s.foldr (· + ·) 0 ≤ 20 ∧ s.length ≤ 20)
theorem ok2_all : ((List.range 21).all okN2) = true := by decide +kernel
end SMath50

/-! Rounds of a permutation: plain mathematics for k50. -/
namespace SMath50
def nx (p : List Nat) (x : Nat) : Nat := p.getD (x - 1) 0
def itr (p : List Nat) : Nat → Nat → Nat
  | 0, x => x
  | k + 1, x => nx p (itr p k x)
/-- what is newly seen from x on -/
def walkF (p : List Nat) : Nat → List Nat → Nat → List Nat
  | 0, _, _ => []
  | f + 1, T, x => if T.contains x = true then [] else x :: walkF p f (T ++ [x]) (nx p x)
/-- how many of 1 to n are not in T -/
def un (n : Nat) (T : List Nat) : Nat := (List.range n).countP fun i => !T.contains (i + 1)
theorem countP_less {α : Type} {p q : α → Bool} : ∀ {l : List α}, (∀ x ∈ l, q x = true → p x = true) → l.countP q ≤ l.countP p
  | [], _ => Nat.le_refl _
  | x :: l, h => by
    have ih := countP_less (l := l) fun y hy => h y (List.mem_cons_of_mem _ hy)
    rw [List.countP_cons, List.countP_cons]
    by_cases e : q x = true
    · rw [if_pos e, if_pos (h x List.mem_cons_self e)]; omega
    · rw [if_neg e]; omega
theorem countP_lt {α : Type} {p q : α → Bool} {a : α} : ∀ {l : List α}, (∀ x ∈ l, q x = true → p x = true) → a ∈ l → p a = true → q a = false → l.countP q < l.countP p
  | x :: l, h, m, hp, hq => by
    rw [List.countP_cons, List.countP_cons]
    rcases List.mem_cons.mp m with rfl | m
    · rw [if_pos hp, if_neg (by rw [hq]; exact Bool.false_ne_true)]
      have := countP_less (l := l) fun y hy => h y (List.mem_cons_of_mem _ hy)
      omega
    · have ih := countP_lt (l := l) (fun y hy => h y (List.mem_cons_of_mem _ hy)) m hp hq
      by_cases e : q x = true
      · rw [if_pos e, if_pos (h x List.mem_cons_self e)]; omega
      · rw [if_neg e]; omega
theorem nc {T : List Nat} {x : Nat} : (!T.contains x) = true ↔ ¬ x ∈ T := by rw [Bool.not_eq_true', ← Bool.not_eq_true, List.contains_iff_mem]
theorem un_lt {n : Nat} {T : List Nat} {x : Nat} (h1 : 1 ≤ x) (h2 : x ≤ n) (h : ¬ x ∈ T) : un n (T ++ [x]) < un n T := by
  refine countP_lt (a := x - 1) (fun y _ hy => ?_) (List.mem_range.mpr (by omega)) ?_ ?_
  · rw [nc] at hy ⊢
    exact fun z => hy (List.mem_append_left _ z)
  · rw [nc, show x - 1 + 1 = x by omega]; exact h
  · rw [show x - 1 + 1 = x by omega]
    have : (T ++ [x]).contains x = true := List.contains_iff_mem.mpr (List.mem_append_right _ List.mem_cons_self)
    rw [this]; rfl
theorem un_0 {n : Nat} {T : List Nat} (h : un n T = 0) {x : Nat} (h1 : 1 ≤ x) (h2 : x ≤ n) : x ∈ T := by
  unfold un at h
  rw [List.countP_eq_zero] at h
  have := h (x - 1) (List.mem_range.mpr (by omega))
  rw [show x - 1 + 1 = x by omega] at this
  have : T.contains x = true := by
    cases e : T.contains x
    · rw [e] at this; exact absurd rfl this
    · rfl
  exact List.contains_iff_mem.mp this
/-- a permutation of 1 to n -/
structure Pm (n : Nat) (p : List Nat) : Prop where
  dom : ∀ x, 1 ≤ x → x ≤ n → 1 ≤ nx p x ∧ nx p x ≤ n
  inj : ∀ x y, 1 ≤ x → x ≤ n → 1 ≤ y → y ≤ n → nx p x = nx p y → x = y
theorem itr_dom {n : Nat} {p : List Nat} (h : Pm n p) {x : Nat} (h1 : 1 ≤ x) (h2 : x ≤ n) : ∀ k, 1 ≤ itr p k x ∧ itr p k x ≤ n
  | 0 => ⟨h1, h2⟩
  | k + 1 => h.dom _ (itr_dom h h1 h2 k).1 (itr_dom h h1 h2 k).2
theorem itr_nx (p : List Nat) (x : Nat) : ∀ k, itr p k (nx p x) = itr p (k + 1) x
  | 0 => rfl
  | k + 1 => by show nx p (itr p k (nx p x)) = _; rw [itr_nx p x k]; rfl
/-- closed both ways -/
def Cl (n : Nat) (p S : List Nat) : Prop := ∀ y, 1 ≤ y → y ≤ n → (nx p y ∈ S ↔ y ∈ S)
theorem cl_itr {n : Nat} {p S : List Nat} (h : Pm n p) (c : Cl n p S) {x : Nat} (h1 : 1 ≤ x) (h2 : x ≤ n) : ∀ k, itr p k x ∈ S ↔ x ∈ S
  | 0 => Iff.rfl
  | k + 1 => (c _ (itr_dom h h1 h2 k).1 (itr_dom h h1 h2 k).2).trans (cl_itr h c h1 h2 k)
def rnd (p : List Nat) (x l : Nat) : List Nat := (List.range l).map fun j => itr p j x
theorem rnd_s (p : List Nat) (x l : Nat) : rnd p x (l + 1) = rnd p x l ++ [itr p l x] := by unfold rnd; rw [List.range_succ, List.map_append]; rfl
theorem rnd_mem {p : List Nat} {x l y : Nat} : y ∈ rnd p x l ↔ ∃ j, j < l ∧ itr p j x = y := by
  unfold rnd
  rw [List.mem_map]
  constructor
  · rintro ⟨j, h, e⟩; exact ⟨j, List.mem_range.mp h, e⟩
  · rintro ⟨j, h, e⟩; exact ⟨j, List.mem_range.mpr h, e⟩
theorem walk_go {n : Nat} {p S : List Nat} (h : Pm n p) (c : Cl n p S) {x : Nat} (h1 : 1 ≤ x) (h2 : x ≤ n) (hx : ¬ x ∈ S) : ∀ (f j : Nat), un n (S ++ rnd p x j) ≤ f → (rnd p x j).Nodup → ∃ l, j ≤ l ∧ 1 ≤ l ∧ l ≤ j + f ∧ rnd p x j ++ walkF p f (S ++ rnd p x j) (itr p j x) = rnd p x l ∧ itr p l x = x ∧ (rnd p x l).Nodup := by
  have stop : ∀ j, (rnd p x j).Nodup → itr p j x ∈ S ++ rnd p x j → 1 ≤ j ∧ itr p j x = x := fun j nd m => by
    rcases List.mem_append.mp m with m | m
    · exact absurd ((cl_itr h c h1 h2 j).mp m) hx
    · obtain ⟨i, hi, e⟩ := rnd_mem.mp m
      refine ⟨by omega, ?_⟩
      cases i with
      | zero => exact e.symm
      | succ i =>
        cases j with
        | zero => omega
        | succ j =>
          have e2 := h.inj _ _ (itr_dom h h1 h2 i).1 (itr_dom h h1 h2 i).2 (itr_dom h h1 h2 j).1 (itr_dom h h1 h2 j).2 e
          exfalso
          rw [rnd_s] at nd
          have := (List.nodup_append.mp nd).2.2 (itr p i x) (rnd_mem.mpr ⟨i, by omega, rfl⟩) (itr p j x) List.mem_cons_self
          exact this e2
  intro f
  induction f with
  | zero =>
    intro j hu nd
    have m := un_0 (by omega : un n (S ++ rnd p x j) = 0) (itr_dom h h1 h2 j).1 (itr_dom h h1 h2 j).2
    obtain ⟨g1, g2⟩ := stop j nd m
    exact ⟨j, Nat.le_refl _, g1, by omega, List.append_nil _, g2, nd⟩
  | succ f ih =>
    intro j hu nd
    by_cases m : itr p j x ∈ S ++ rnd p x j
    · obtain ⟨g1, g2⟩ := stop j nd m
      refine ⟨j, Nat.le_refl _, g1, by omega, ?_, g2, nd⟩
      unfold walkF
      rw [if_pos (List.contains_iff_mem.mpr m), List.append_nil]
    · have u := un_lt (itr_dom h h1 h2 j).1 (itr_dom h h1 h2 j).2 m
      have nd2 : (rnd p x (j + 1)).Nodup := by
        rw [rnd_s]
        refine List.nodup_append.mpr ⟨nd, by simp, fun a ha b hb => ?_⟩
        rw [List.mem_singleton.mp hb]
        exact fun z => m (List.mem_append_right _ (by rw [← z]; exact ha))
      have e : S ++ rnd p x j ++ [itr p j x] = S ++ rnd p x (j + 1) := by rw [rnd_s, List.append_assoc]
      obtain ⟨l, g1, g2, g3, g4, g5, g6⟩ := ih (j + 1) (by rw [← e]; omega) nd2
      refine ⟨l, by omega, g2, by omega, ?_, g5, g6⟩
      rw [← g4]
      conv => lhs; unfold walkF
      rw [if_neg (by rw [List.contains_iff_mem]; exact m), e, rnd_s, List.append_assoc]
      rfl
theorem walk_spec {n : Nat} {p S : List Nat} (h : Pm n p) (c : Cl n p S) {x : Nat} (h1 : 1 ≤ x) (h2 : x ≤ n) (hx : ¬ x ∈ S) : ∃ l, 1 ≤ l ∧ l ≤ n ∧ walkF p n S x = rnd p x l ∧ itr p l x = x ∧ (rnd p x l).Nodup := by
  have u : un n (S ++ rnd p x 0) ≤ n := by
    unfold un
    exact Nat.le_trans List.countP_le_length (by rw [List.length_range]; exact Nat.le_refl _)
  obtain ⟨l, g1, g2, g3, g4, g5, g6⟩ := walk_go h c h1 h2 hx n 0 u (by unfold rnd; simp)
  refine ⟨l, g2, by omega, ?_, g5, g6⟩
  have e : rnd p x 0 = [] := rfl
  rw [e, List.append_nil, List.nil_append] at g4
  exact g4
theorem cl_app {n : Nat} {p S : List Nat} (h : Pm n p) (c : Cl n p S) {x l : Nat} (h1 : 1 ≤ x) (h2 : x ≤ n) (hl : 1 ≤ l) (e : itr p l x = x) : Cl n p (S ++ rnd p x l) := by
  intro y y1 y2
  rw [List.mem_append, List.mem_append, c y y1 y2]
  constructor
  · rintro (m | m)
    · exact .inl m
    · obtain ⟨j, hj, e2⟩ := rnd_mem.mp m
      refine .inr (rnd_mem.mpr ?_)
      cases j with
      | zero =>
        obtain ⟨l', rfl⟩ : ∃ l', l = l' + 1 := ⟨l - 1, by omega⟩
        exact ⟨l', by omega, h.inj _ _ (itr_dom h h1 h2 l').1 (itr_dom h h1 h2 l').2 y1 y2 (e.trans e2)⟩
      | succ j => exact ⟨j, by omega, h.inj _ _ (itr_dom h h1 h2 j).1 (itr_dom h h1 h2 j).2 y1 y2 e2⟩
  · rintro (m | m)
    · exact .inl m
    · obtain ⟨j, hj, e2⟩ := rnd_mem.mp m
      refine .inr (rnd_mem.mpr ?_)
      by_cases q : j + 1 < l
      · exact ⟨j + 1, q, by rw [← e2]; rfl⟩
      · refine ⟨0, by omega, ?_⟩
        have : j + 1 = l := by omega
        rw [← e2]
        show x = itr p (j + 1) x
        rw [this, e]
theorem itr_add (p : List Nat) (x : Nat) (j : Nat) : ∀ i, itr p (i + j) x = itr p i (itr p j x)
  | 0 => by rw [Nat.zero_add]; rfl
  | i + 1 => by
    rw [show i + 1 + j = (i + j) + 1 by omega]
    show nx p (itr p (i + j) x) = nx p (itr p i (itr p j x))
    rw [itr_add p x j i]
theorem itr_inj {n : Nat} {p : List Nat} (h : Pm n p) {x y : Nat} (h1 : 1 ≤ x) (h2 : x ≤ n) (h3 : 1 ≤ y) (h4 : y ≤ n) : ∀ i, itr p i x = itr p i y → x = y
  | 0, e => e
  | i + 1, e => itr_inj h h1 h2 h3 h4 i (h.inj _ _ (itr_dom h h1 h2 i).1 (itr_dom h h1 h2 i).2 (itr_dom h h3 h4 i).1 (itr_dom h h3 h4 i).2 e)
def prF (p : List Nat) (y : Nat) : Nat → Nat → Nat
  | 0, _ => 0
  | f + 1, k => if itr p k y = y then k else prF p y f (k + 1)
def per (n : Nat) (p : List Nat) (y : Nat) : Nat := prF p y n 1
theorem prF_eq {p : List Nat} {y l : Nat} (e : itr p l y = y) : ∀ f k, k ≤ l → l < k + f → (∀ j, k ≤ j → j < l → itr p j y ≠ y) → prF p y f k = l
  | 0, k, h1, h2, _ => by omega
  | f + 1, k, h1, h2, h3 => by
    unfold prF
    by_cases q : k = l
    · subst q; rw [if_pos e]
    · rw [if_neg (h3 k (Nat.le_refl _) (by omega))]
      exact prF_eq e f (k + 1) (by omega) (by omega) fun j a b => h3 j (by omega) b
theorem per_rnd {n : Nat} {p : List Nat} (h : Pm n p) {x l y : Nat} (h1 : 1 ≤ x) (h2 : x ≤ n) (g1 : 1 ≤ l) (g2 : l ≤ n) (e : itr p l x = x) (nd : (rnd p x l).Nodup) (m : y ∈ rnd p x l) : per n p y = l := by
  obtain ⟨i, hi, rfl⟩ := rnd_mem.mp m
  refine prF_eq ?_ n 1 g1 (by omega) fun j a b z => ?_
  · rw [← itr_add, Nat.add_comm, itr_add, e]
  · rw [← itr_add, Nat.add_comm, itr_add] at z
    have z2 := itr_inj h (itr_dom h h1 h2 j).1 (itr_dom h h1 h2 j).2 h1 h2 i z
    unfold rnd at nd
    have q := List.pairwise_iff_getElem.mp nd 0 j (by rw [List.length_map, List.length_range]; omega) (by rw [List.length_map, List.length_range]; omega) (by omega)
    rw [List.getElem_map, List.getElem_map, List.getElem_range, List.getElem_range] at q
    exact q z2.symm
def lensF (p : List Nat) (n : Nat) : List Nat → List Nat → List Nat
  | [], _ => []
  | s :: L, S => (if (walkF p n S s).length = 0 then [] else [(walkF p n S s).length]) ++ lensF p n L (S ++ walkF p n S s)
def seenF (p : List Nat) (n : Nat) : List Nat → List Nat → List Nat
  | [], S => S
  | s :: L, S => seenF p n L (S ++ walkF p n S s)
theorem walk_in {p S : List Nat} {x : Nat} (h : x ∈ S) : ∀ f, walkF p f S x = []
  | 0 => rfl
  | f + 1 => by unfold walkF; rw [if_pos (List.contains_iff_mem.mpr h)]
structure Good (n : Nat) (p S : List Nat) : Prop where
  cl : Cl n p S
  nd : S.Nodup
  dom : ∀ y ∈ S, 1 ≤ y ∧ y ≤ n
theorem good_app {n : Nat} {p S : List Nat} (h : Pm n p) (g : Good n p S) {x l : Nat} (h1 : 1 ≤ x) (h2 : x ≤ n) (hx : ¬ x ∈ S) (g1 : 1 ≤ l) (e : itr p l x = x) (nd : (rnd p x l).Nodup) : Good n p (S ++ rnd p x l) := by
  refine ⟨cl_app h g.cl h1 h2 g1 e, List.nodup_append.mpr ⟨g.nd, nd, fun a ha b hb z => ?_⟩, fun y hy => ?_⟩
  · obtain ⟨j, _, e2⟩ := rnd_mem.mp hb
    exact hx ((cl_itr h g.cl h1 h2 j).mp (by rw [e2, ← z]; exact ha))
  · rcases List.mem_append.mp hy with m | m
    · exact g.dom y m
    · obtain ⟨j, _, e2⟩ := rnd_mem.mp m
      rw [← e2]; exact itr_dom h h1 h2 j
theorem countP_all {p : Nat → Bool} {l : List Nat} (h : ∀ y ∈ l, p y = true) : l.countP p = l.length := List.countP_eq_length.mpr h
theorem countP_no {p : Nat → Bool} {l : List Nat} (h : ∀ y ∈ l, p y = false) : l.countP p = 0 := List.countP_eq_zero.mpr fun y hy => by rw [h y hy]; exact Bool.false_ne_true
theorem lens_count {n : Nat} {p : List Nat} (h : Pm n p) : ∀ (L S : List Nat), (∀ s ∈ L, 1 ≤ s ∧ s ≤ n) → Good n p S →
    (∀ k, 1 ≤ k → (lensF p n L S).count k * k + S.countP (fun y => per n p y == k) = (seenF p n L S).countP (fun y => per n p y == k)) ∧ (lensF p n L S).count 0 = 0 ∧ Good n p (seenF p n L S) ∧ ∀ y, y ∈ S ∨ y ∈ L → y ∈ seenF p n L S
  | [], S, _, g => ⟨fun k _ => by show 0 * k + List.countP _ S = List.countP _ S; rw [Nat.zero_mul, Nat.zero_add], rfl, g, fun y hy => hy.elim id fun z => by cases z⟩
  | s :: L, S, hL, g => by
    have hs := hL s List.mem_cons_self
    have hL' : ∀ s ∈ L, 1 ≤ s ∧ s ≤ n := fun t ht => hL t (List.mem_cons_of_mem _ ht)
    by_cases m : s ∈ S
    · have e := walk_in (p := p) m n
      have e1 : lensF p n (s :: L) S = lensF p n L S := by
        show (if (walkF p n S s).length = 0 then [] else [(walkF p n S s).length]) ++ lensF p n L (S ++ walkF p n S s) = _
        rw [e]
        show [] ++ lensF p n L (S ++ []) = _
        rw [List.append_nil, List.nil_append]
      have e2 : seenF p n (s :: L) S = seenF p n L S := by
        show seenF p n L (S ++ walkF p n S s) = _
        rw [e, List.append_nil]
      rw [e1, e2]
      obtain ⟨i1, i2, i3, i4⟩ := lens_count h L S hL' g
      refine ⟨i1, i2, i3, fun y hy => i4 y ?_⟩
      rcases hy with hy | hy
      · exact .inl hy
      · rcases List.mem_cons.mp hy with rfl | hy
        · exact .inl m
        · exact .inr hy
    · obtain ⟨l, g1, g2, g3, g4, g5⟩ := walk_spec h g.cl hs.1 hs.2 m
      have ga := good_app h g hs.1 hs.2 m g1 g4 g5
      have ln : (rnd p s l).length = l := by unfold rnd; rw [List.length_map, List.length_range]
      have e1 : lensF p n (s :: L) S = l :: lensF p n L (S ++ rnd p s l) := by
        show (if (walkF p n S s).length = 0 then [] else [(walkF p n S s).length]) ++ lensF p n L (S ++ walkF p n S s) = _
        rw [g3, ln, if_neg (by omega)]; rfl
      have e2 : seenF p n (s :: L) S = seenF p n L (S ++ rnd p s l) := by
        show seenF p n L (S ++ walkF p n S s) = _
        rw [g3]
      obtain ⟨i1, i2, i3, i4⟩ := lens_count h L (S ++ rnd p s l) hL' ga
      rw [e1, e2]
      have pr : ∀ y ∈ rnd p s l, per n p y = l := fun y hy => per_rnd h hs.1 hs.2 g1 g2 g4 g5 hy
      refine ⟨fun k hk => ?_, ?_, i3, fun y hy => i4 y ?_⟩
      · have i := i1 k hk
        rw [List.countP_append] at i
        rw [List.count_cons]
        by_cases q : l = k
        · subst q
          rw [countP_all (l := rnd p s l) fun y hy => by rw [pr y hy]; exact beq_self_eq_true _, ln] at i
          rw [if_pos (beq_self_eq_true _), Nat.add_mul]
          omega
        · rw [countP_no (l := rnd p s l) fun y hy => by rw [pr y hy]; exact beq_eq_false_iff_ne.mpr q] at i
          rw [if_neg (by rw [beq_iff_eq]; exact q)]
          omega
      · rw [List.count_cons, if_neg (by rw [beq_iff_eq]; omega)]
        omega
      · rcases hy with hy | hy
        · exact .inl (List.mem_append_left _ hy)
        · rcases List.mem_cons.mp hy with rfl | hy
          · exact .inl (List.mem_append_right _ (rnd_mem.mpr ⟨0, by omega, rfl⟩))
          · exact .inr hy
/-- the lengths are the same whatever order is taken -/
theorem lens_perm {n : Nat} {p L L' : List Nat} (h : Pm n p) (h1 : ∀ s, s ∈ L ↔ 1 ≤ s ∧ s ≤ n) (h2 : ∀ s, s ∈ L' ↔ 1 ≤ s ∧ s ≤ n) : (lensF p n L []).Perm (lensF p n L' []) := by
  have g0 : Good n p [] := ⟨fun y _ _ => by simp, List.nodup_nil, fun y hy => by cases hy⟩
  obtain ⟨a1, a2, a3, a4⟩ := lens_count h L [] (fun s hs => (h1 s).mp hs) g0
  obtain ⟨b1, b2, b3, b4⟩ := lens_count h L' [] (fun s hs => (h2 s).mp hs) g0
  have pp : (seenF p n L []).Perm (seenF p n L' []) := (List.perm_ext_iff_of_nodup a3.nd b3.nd).mpr fun y => ⟨fun m => b4 y (.inr ((h2 y).mpr (a3.dom y m))), fun m => a4 y (.inr ((h1 y).mpr (b3.dom y m)))⟩
  rw [List.perm_iff_count]
  intro k
  by_cases hk : 1 ≤ k
  · have e1 := a1 k hk
    have e2 := b1 k hk
    rw [pp.countP_eq] at e1
    rw [← e2, List.countP_nil, Nat.add_zero] at e1
    exact Nat.eq_of_mul_eq_mul_right hk e1
  · obtain rfl : k = 0 := by omega
    rw [a2, b2]
end SMath50

namespace DL
open PySem L2
def topS (i : Nat) : Stmt := PySem.Challenge.pw_speciesmill_k50_shapes.main.body.getD i (.Pass ⟨0, 0, 0, 0⟩)
abbrev s_is_whole : Stmt := topS 5
theorem sc_is_whole : FnScope ["value"] ["value"] (defScope s_is_whole) := ⟨rfl, rfl, rfl, by decide +kernel, rfl, by decide +kernel, by decide +kernel⟩
abbrev s_power : Stmt := topS 6
theorem sc_power : FnScope ["base", "times", "total", "_"] ["base", "times"] (defScope s_power) := ⟨rfl, rfl, rfl, by decide +kernel, rfl, by decide +kernel, by decide +kernel⟩
abbrev s_shapes : Stmt := topS 9
theorem sc_shapes : FnScope ["n"] ["n"] (defScope s_shapes) := ⟨rfl, rfl, rfl, by decide +kernel, rfl, by decide +kernel, by decide +kernel⟩
abbrev s__shapes_within : Stmt := topS 10
theorem sc__shapes_within : FnScope ["n", "longest", "found", "first", "others"] ["n", "longest"] (defScope s__shapes_within) := ⟨rfl, rfl, rfl, by decide +kernel, rfl, by decide +kernel, by decide +kernel⟩
abbrev s_shape_of : Stmt := topS 11
theorem sc_shape_of : FnScope ["images", "lengths", "seen", "start", "length", "number"] ["images"] (defScope s_shape_of) := ⟨rfl, rfl, rfl, by decide +kernel, rfl, by decide +kernel, by decide +kernel⟩
abbrev s__check_permutation : Stmt := topS 12
theorem sc__check_permutation : FnScope ["images", "number"] ["images"] (defScope s__check_permutation) := ⟨rfl, rfl, rfl, by decide +kernel, rfl, by decide +kernel, by decide +kernel⟩
abbrev s_weight : Stmt := topS 13
theorem sc_weight : FnScope ["shape", "ways", "length", "many"] ["shape"] (defScope s_weight) := ⟨rfl, rfl, rfl, by decide +kernel, rfl, by decide +kernel, by decide +kernel⟩
abbrev s_check_shape : Stmt := topS 14
theorem sc_check_shape : FnScope ["shape", "at", "length"] ["shape"] (defScope s_check_shape) := ⟨rfl, rfl, rfl, by decide +kernel, rfl, by decide +kernel, by decide +kernel⟩
abbrev s__law_draws : Stmt := topS 16
theorem sc__law_draws : FnScope ["script", "many", "draws", "seed", "cell", "number", "k"] ["script", "many"] (defScope s__law_draws) := ⟨rfl, rfl, rfl, by decide +kernel, rfl, by decide +kernel, by decide +kernel⟩
abbrev s__law_orders : Stmt := topS 17
theorem sc__law_orders : FnScope ["n", "found", "j", "longer", "one", "k"] ["n"] (defScope s__law_orders) := ⟨rfl, rfl, rfl, by decide +kernel, rfl, by decide +kernel, by decide +kernel⟩
abbrev s__law_cycles : Stmt := topS 18
theorem sc__law_cycles : FnScope ["images", "found", "seen", "start", "length", "here", "turn"] ["images"] (defScope s__law_cycles) := ⟨rfl, rfl, rfl, by decide +kernel, rfl, by decide +kernel, by decide +kernel⟩
abbrev s__law_rows : Stmt := topS 19
theorem sc__law_rows : FnScope ["n", "most", "found", "first", "rest"] ["n", "most"] (defScope s__law_rows) := ⟨rfl, rfl, rfl, by decide +kernel, rfl, by decide +kernel, by decide +kernel⟩
abbrev s__law_refused : Stmt := topS 20
theorem sc__law_refused : FnScope ["word", "value", "e"] ["word", "value"] (defScope s__law_refused) := ⟨rfl, rfl, rfl, by decide +kernel, rfl, by decide +kernel, by decide +kernel⟩
abbrev s_law : Stmt := topS 21
theorem sc_law : FnScope ["script", "draws", "n", "told", "factorial_v", "k", "left", "images", "small", "few", "other", "value", "one"] ["script"] (defScope s_law) := ⟨rfl, rfl, rfl, by decide +kernel, rfl, by decide +kernel, by decide +kernel⟩
structure Ad where
  cSpeciesError : Addr
  cBadShape : Addr
  vMOST_THINGS : Value
structure Tx (K : PySem.W.Frag) (mg : Str → Option Value) (W : Ad) : Prop where
  n_isinstance : mg "isinstance" = none
  n_int : mg "int" = none
  n_bool : mg "bool" = none
  n_range : mg "range" = none
  n_min : mg "min" = none
  n_tuple : mg "tuple" = none
  n_sorted : mg "sorted" = none
  n_any : mg "any" = none
  n_len : mg "len" = none
  n_list : mg "list" = none
  n_sum : mg "sum" = none
  n_set : mg "set" = none
  n_abs : mg "abs" = none
  n_ValueError : mg "ValueError" = none
  n_all : mg "all" = none
  m_factorial : mg "factorial" = some (.builtin "math.factorial")
  g_MOST_THINGS : mg "MOST_THINGS" = some W.vMOST_THINGS
  r_MOST_THINGS : RelV (.int 20) W.vMOST_THINGS
  a_MOST_THINGS : ∀ H, At K H (.int 20) (.int 20)
  e_BadShape : Exc K mg "BadShape" W.cBadShape
  g_SpeciesError : mg "SpeciesError" = some (.ref W.cSpeciesError)
structure Ex (K : PySem.W.Frag) (W : Ad) : Prop where
  x_BadShape : Caught K W.cSpeciesError W.cBadShape
  is_BadShape_BadShape : PySem.W.kitOne K (.ref W.cBadShape) (.ref W.cBadShape) = some true
  v_BadShape : PySem.W.kitOne K (.ref W.cBadShape) (.type "ValueError") = some true
end DL

namespace DL
open PySem L2
open SMath50
section
variable {P : Program} {w : World} {K : PySem.W.Frag} {mg : Str → Option Value} {base : Heap} {W : Ad}
def isWh : D → Bool
  | .int _ => true
  | _ => false
def r_is_whole (ds : List D) (d : D) : Prop := ∃ x, ds = [x] ∧ notRef x = true ∧ d = .bl (isWh x)
theorem ok_is_whole (T : Tx K mg W) (Dd : Df K mg "is_whole" s_is_whole ["value"]) : Cal P w K mg base CX0 1 "is_whole" ["value"] (spW K (relR r_is_whole)) := by
  refine cal_ok Dd sc_is_whole (fun ds Q h => ?_) (fun f cdv A outer s H E hr => 
  (ss_one (s_ret (d_and (d_isi k_int T.n_isinstance T.n_int (qv 0)) (d_one (d_not (d_isi k_bool T.n_isinstance T.n_bool (qv 0)))))))) (fun ds Q h => ?_)

  · obtain ⟨d, ⟨x, rfl, _⟩, _⟩ := h; rfl
  · obtain ⟨d, ⟨x, rfl, n, rfl⟩, q⟩ := h
    refine ⟨n, ?_⟩
    cases x with
    | int i => exact ⟨rfl, q⟩
    | bl b => exact ⟨rfl, q⟩
    | ref a => cases n
    | _ => exact q
def r_power (ds : List D) (d : D) : Prop := ∃ b n : Nat, ds = [.int b, .int n] ∧ b ≤ 20 ∧ n ≤ 20 ∧ d = .int ((b ^ n : Nat) : Int)
theorem ok_power (T : Tx K mg W) (Dd : Df K mg "power" s_power ["base", "times"]) : Cal P w K mg base CX0 1 "power" ["base", "times"] (spW K (relR r_power)) := by
  refine cal_ok Dd sc_power (fun ds Q h => ?_) (fun f cdv A outer s H E hr => 
  (ss_cons (s_set (i := 2) sc_power.nd rfl (.inl rfl) d_int)
  (ss_cons (s_for PassesOwn.never (i_range1 T.n_range (qv 1)) (g_name (i := 3) sc_power.nd rfl (.inl rfl)) (
    (ss_one (s_set (i := 2) sc_power.nd rfl (.inl rfl) (d_op (o_mul) (qv 2) (qv 0))))))
  (ss_one (s_ret (dv 2)))))) (fun ds Q h => ?_)

  · obtain ⟨d, ⟨b, n, rfl, _⟩, _⟩ := h; rfl
  · obtain ⟨d, ⟨b, n, rfl, hb, hn, rfl⟩, q⟩ := h
    refine ⟨rgb (by decide) (by decide) (by omega) (by omega) (by omega), loop_rg (n := n) (fun j δ => ∃ x3 : Sl, δ = [.d (.int b), .d (.int n), .d (.int ((b ^ j : Nat) : Int)), x3]) (by omega) ⟨_, rfl⟩ ?_ ?_⟩
    · rintro j δ hj ⟨x3, rfl⟩ N hN
      exact ⟨mulR (j := (b : Int)) ⟨by omega, by omega⟩, hN _ ⟨.d (.int (0 + (j : Int))), by rw [Nat.pow_succ, Int.natCast_mul]; rfl⟩⟩
    · rintro δ ⟨x3, rfl⟩
      exact q
/-! ### the rows -/
def ptpD (r : List Nat) : D := .ptp (natsD r)
def tupD (r : List Nat) : D := .tup (natsD r)
theorem rowsF_fuel : ∀ (f g n most : Nat), n ≤ f → n ≤ g → rowsF f n most = rowsF g n most
  | _, _, 0, _, _, _ => by unfold rowsF; rfl
  | f + 1, g + 1, n + 1, most, h1, h2 => by
    show (List.flatMap _ _) = (List.flatMap _ _)
    congr 1
    funext k
    rw [rowsF_fuel f g (n - k) (k + 1) (by omega) (by omega)]
  | 0, _, _ + 1, _, h1, _ => absurd h1 (by omega)
  | _, 0, _ + 1, _, _, h2 => absurd h2 (by omega)
def rw2 (n most : Nat) : List (List Nat) := rowsF n n most
theorem rw2_s (n most : Nat) : rw2 (n + 1) most = (List.range (min (n + 1) most)).reverse.flatMap fun k => (rw2 (n - k) (k + 1)).map ((k + 1) :: ·) := by
  show (List.flatMap _ _) = (List.flatMap _ _)
  congr 1
  funext k
  rw [rw2, rowsF_fuel n (n - k) (n - k) (k + 1) (by omega) (Nat.le_refl _)]
def r__shapes_within (m : Nat) (ds : List D) (d : D) : Prop := ∃ n most : Nat, ds = [.int n, .int most] ∧ n < m ∧ n ≤ 20 ∧ most ≤ 20 ∧ d = .lst ((rw2 n most).map ptpD)
def okLen : Bool := (List.range 21).all fun n => (List.range 21).all fun m => decide ((rw2 n m).length ≤ 1000) && (rw2 n m).all fun r => decide (r.length ≤ 20)
theorem okLen_t : okLen = true := by decide +kernel
theorem rw2_ok {n m : Nat} (h1 : n ≤ 20) (h2 : m ≤ 20) : (rw2 n m).length ≤ 1000 ∧ ∀ r ∈ rw2 n m, r.length ≤ 20 := by
  have h := okLen_t
  unfold okLen at h
  rw [List.all_eq_true] at h
  have h := h n (List.mem_range.mpr (by omega))
  rw [List.all_eq_true] at h
  have h := h m (List.mem_range.mpr (by omega))
  rw [Bool.and_eq_true, List.all_eq_true] at h
  exact ⟨of_decide_eq_true h.1, fun r hr => of_decide_eq_true (h.2 r hr)⟩
theorem rw2_len {n m : Nat} (h1 : n ≤ 20) (h2 : m ≤ 20) : (rw2 n m).length ≤ 1000 := (rw2_ok h1 h2).1
def consP (k : Nat) : D → D
  | .ptp l => .ptp (.int (k : Nat) :: l)
  | d => d
theorem consP_map (k : Nat) (L : List (List Nat)) : (L.map ptpD).map (consP k) = (L.map (k :: ·)).map ptpD := by
  rw [List.map_map, List.map_map]; rfl
theorem rgC_get {lo c : Int} {n i : Nat} {x : D} (h : (rgC lo c n)[i]? = some x) : i < n ∧ x = .int (lo + (i : Int) * c) := by
  unfold rgC at h
  rw [List.getElem?_map] at h
  cases er : (List.range n)[i]? with
  | none => rw [er] at h; cases h
  | some j =>
    rw [er] at h
    obtain ⟨h1, h2⟩ := List.getElem?_eq_some_iff.mp er
    rw [List.getElem_range] at h2
    rw [List.length_range] at h1
    subst h2
    exact ⟨h1, (Option.some.inj h).symm⟩
def stepF (n k : Nat) : List (List Nat) := (rw2 (n - k) (k + 1)).map ((k + 1) :: ·)
def upTo (n M i : Nat) : List (List Nat) := ((List.range M).reverse.take i).flatMap (stepF n)
theorem upTo_all (n most : Nat) : upTo n (min (n + 1) most) (min (n + 1) most) = rw2 (n + 1) most := by
  unfold upTo
  rw [List.take_of_length_le (by rw [List.length_reverse, List.length_range]; exact Nat.le_refl _), rw2_s]; rfl
theorem upTo_len {n most i : Nat} (h1 : n + 1 ≤ 20) (h2 : most ≤ 20) : (upTo n (min (n + 1) most) i).length ≤ 1000 := by
  have h := rw2_len h1 h2
  rw [← upTo_all] at h
  refine Nat.le_trans ?_ h
  unfold upTo
  rw [List.take_of_length_le (i := min (n + 1) most) (by rw [List.length_reverse, List.length_range]; exact Nat.le_refl _)]
  conv => rhs; rw [← List.take_append_drop i (List.range (min (n + 1) most)).reverse]
  rw [List.flatMap_append, List.length_append]
  exact Nat.le_add_right _ _
theorem upTo_s {n M i : Nat} (h : i < M) : upTo n M (i + 1) = upTo n M i ++ stepF n (M - 1 - i) := by
  unfold upTo
  have e : (List.range M).reverse[i]? = some (M - 1 - i) := by
    rw [List.getElem?_reverse (by rw [List.length_range]; exact h), List.length_range, List.getElem?_range (by omega)]
  rw [List.take_add_one, e, List.flatMap_append]
  simp
theorem ok__shapes_within_s (m : Nat) (T : Tx K mg W) (Dd : Df K mg "_shapes_within" s__shapes_within ["n", "longest"]) (C__shapes_within : Cal P w K mg base CX0 (1 + m) "_shapes_within" ["n", "longest"] (spW K (relR (r__shapes_within m)))) : Cal P w K mg base CX0 (1 + m + 1) "_shapes_within" ["n", "longest"] (spW K (relR (r__shapes_within (m + 1)))) := by
  refine cal_ok Dd sc__shapes_within (fun ds Q h => ?_) (fun f cdv A outer s H E hr => 
  (ss_cons (s_if (t_cmp (o_eq (hu64 hr)) (qv 0) d_int.q) (
    (ss_one (s_ret (f_lst (a_cons (d_tupP a_nil) a_nil)).p))) (ss_nil))
  (ss_cons (s_own (i := 2) sc__shapes_within.nd rfl (.inl rfl) (f_lst a_nil))
  (ss_cons (s_for PassesOwn.never (i_range3 T.n_range (d_callB (c_min2) T.n_min (b_cons (qv 0) (b_cons (qv 1) b_nil))) d_int (d_neg d_int.q)) (g_name (i := 3) sc__shapes_within.nd rfl (.inr rfl)) (
    (ss_one (s_extend 2 (f_lc sc__shapes_within.nd (i_listQ (d_call C__shapes_within relR_mono (hr.mono (by omega)) (a_cons (d_op o_sub (qv 0) (qv 3)) (a_cons (dv 3) a_nil))).q) (blkOk_by (own := [("others", 4)]) (N := ["n", "longest", "found", "first", "others"]) (sc := defScope s__shapes_within) (by decide +kernel)) (fun _ _ _ _ _ => (g_name (i := 4) sc__shapes_within.nd rfl (.inl rfl))) (fun _ _ _ _ _ => ts_nil) (fun _ _ _ _ _ => (d_tupSP (dv 3) (qv 4).u))).p))))
  (ss_one (s_frz 2 (s_ret (dv 2)))))))) (fun ds Q h => ?_)

  · obtain ⟨d, ⟨n, most, rfl, _⟩, _⟩ := h; rfl
  · obtain ⟨d, ⟨n, most, rfl, hm, hn, hl, rfl⟩, q⟩ := h
    cases n with
    | zero => exact q
    | succ n =>
      have hM : (if (most : Int) < ((n + 1 : Nat) : Int) then (most : Int) else ((n + 1 : Nat) : Int)) = ((min (n + 1) most : Nat) : Int) := by
        split <;> omega
      generalize hMM : min (n + 1) most = M at *
      have hM1 : M ≤ n + 1 := by omega
      have hM2 : M ≤ most := by omega
      refine ⟨M, ?_, le_lim (by omega), ?_⟩
      · show RgC (if (most : Int) < ((n + 1 : Nat) : Int) then (most : Int) else ((n + 1 : Nat) : Int)) 0 (-1) M
        rw [hM]
        exact rgC_down (by omega) (by omega)
      show fLoop _ _ _ (rgC (if (most : Int) < ((n + 1 : Nat) : Int) then (most : Int) else ((n + 1 : Nat) : Int)) (-1) M) _
      rw [hM]
      refine loop_inv (fun i δ => ∃ x3 : Sl, δ = [.d (.int ((n + 1 : Nat) : Int)), .d (.int most), .own ((upTo n M i).map ptpD), x3, .no]) ⟨.no, rfl⟩ ?_ ?_
      · rintro i x δ ex ⟨x3, rfl⟩ N hN
        obtain ⟨hi, rfl⟩ := rgC_get ex
        obtain ⟨k, hk⟩ : ∃ k, k = M - 1 - i := ⟨_, rfl⟩
        have e1 : (M : Int) + (i : Int) * (-1) = ((k + 1 : Nat) : Int) := by omega
        have e2 : ((n + 1 : Nat) : Int) - ((k + 1 : Nat) : Int) = ((n - k : Nat) : Int) := by omega
        rw [e1]
        refine ⟨_, ⟨n - k, k + 1, by show [D.int (((n + 1 : Nat) : Int) - ((k + 1 : Nat) : Int)), _] = _; rw [e2], by omega, by omega, by omega, rfl⟩, ?_⟩
        refine lc_map (consP (k + 1)) (fun x hx P p => ?_) ?_
        · obtain ⟨r, hr, rfl⟩ := List.mem_map.mp hx
          have := (rw2_ok (n := n - k) (m := k + 1) (by omega) (by omega)).2 r hr
          exact ⟨le_lim (by rw [natsD_len]; omega), p⟩
        · rw [consP_map]
          have l1 := upTo_len (n := n) (most := most) (i := i) hn hl
          rw [hMM] at l1
          have l2 := (rw2_ok (n := n - k) (m := k + 1) (by omega) (by omega)).1
          refine ⟨le_lim (by rw [List.length_map, List.length_map, List.length_map]; omega), hN _ ⟨.d (.int ((k + 1 : Nat) : Int)), ?_⟩⟩
          rw [upTo_s hi, List.map_append, ← hk]; rfl
      · rintro δ ⟨x3, rfl⟩
        have e : (rgC (M : Int) (-1) M).length = M := by unfold rgC; rw [List.length_map, List.length_range]
        have e2 := upTo_all n most
        rw [hMM] at e2
        rw [e, e2]
        exact q
/-! ### _law_rows -/
def consT (k : Nat) : D → D
  | .tup l => .tup (.int (k : Nat) :: l)
  | d => d
theorem consT_map (k : Nat) (L : List (List Nat)) : (L.map tupD).map (consT k) = (L.map (k :: ·)).map tupD := by
  rw [List.map_map, List.map_map]; rfl
def r__law_rows (m : Nat) (ds : List D) (d : D) : Prop := ∃ n most : Nat, ds = [.int n, .int most] ∧ n < m ∧ n ≤ 20 ∧ most ≤ 20 ∧ d = .lst ((rw2 n most).map tupD)
theorem ok__law_rows_s (m : Nat) (T : Tx K mg W) (Dd : Df K mg "_law_rows" s__law_rows ["n", "most"]) (C__law_rows : Cal P w K mg base CX0 (1 + m) "_law_rows" ["n", "most"] (spW K (relR (r__law_rows m)))) : Cal P w K mg base CX0 (1 + m + 1) "_law_rows" ["n", "most"] (spW K (relR (r__law_rows (m + 1)))) := by
  refine cal_ok Dd sc__law_rows (fun ds Q h => ?_) (fun f cdv A outer s H E hr => 
  (ss_cons (s_if (t_cmp (o_eq (hu64 hr)) (qv 0) d_int.q) (
    (ss_one (s_ret (f_lst (a_cons (d_tup a_nil) a_nil)).p))) (ss_nil))
  (ss_cons (s_set (i := 2) sc__law_rows.nd rfl (.inl rfl) (f_lst a_nil).p)
  (ss_cons (s_for PassesOwn.never (i_range3 T.n_range (d_callB (c_min2) T.n_min (b_cons (qv 0) (b_cons (qv 1) b_nil))) d_int (d_neg d_int.q)) (g_name (i := 3) sc__law_rows.nd rfl (.inr rfl)) (
    (ss_one (s_set (i := 2) sc__law_rows.nd rfl (.inl rfl) (d_op (o_add) (qv 2) (f_lc sc__law_rows.nd (i_listQ (d_call C__law_rows relR_mono (hr.mono (by omega)) (a_cons (d_op o_sub (qv 0) (qv 3)) (a_cons (dv 3) a_nil))).q) (blkOk_by (own := [("rest", 4)]) (N := ["n", "most", "found", "first", "rest"]) (sc := defScope s__law_rows) (by decide +kernel)) (fun _ _ _ _ _ => (g_name (i := 4) sc__law_rows.nd rfl (.inl rfl))) (fun _ _ _ _ _ => ts_nil) (fun _ _ _ _ _ => (d_op (o_add) (d_tup (a_cons (dv 3) a_nil)).q (qv 4)))).p.q)))))
  (ss_one (s_ret (dv 2))))))) (fun ds Q h => ?_)

  · obtain ⟨d, ⟨n, most, rfl, _⟩, _⟩ := h; rfl
  · obtain ⟨d, ⟨n, most, rfl, hm, hn, hl, rfl⟩, q⟩ := h
    cases n with
    | zero => exact q
    | succ n =>
      have hM : (if (most : Int) < ((n + 1 : Nat) : Int) then (most : Int) else ((n + 1 : Nat) : Int)) = ((min (n + 1) most : Nat) : Int) := by
        split <;> omega
      generalize hMM : min (n + 1) most = M at *
      have hM1 : M ≤ n + 1 := by omega
      have hM2 : M ≤ most := by omega
      refine ⟨M, ?_, le_lim (by omega), ?_⟩
      · show RgC (if (most : Int) < ((n + 1 : Nat) : Int) then (most : Int) else ((n + 1 : Nat) : Int)) 0 (-1) M
        rw [hM]
        exact rgC_down (by omega) (by omega)
      show fLoop _ _ _ (rgC (if (most : Int) < ((n + 1 : Nat) : Int) then (most : Int) else ((n + 1 : Nat) : Int)) (-1) M) _
      rw [hM]
      refine loop_inv (fun i δ => ∃ x3 : Sl, δ = [.d (.int ((n + 1 : Nat) : Int)), .d (.int most), .d (.lst ((upTo n M i).map tupD)), x3, .no]) ⟨.no, rfl⟩ ?_ ?_
      · rintro i x δ ex ⟨x3, rfl⟩ N hN
        obtain ⟨hi, rfl⟩ := rgC_get ex
        obtain ⟨k, hk⟩ : ∃ k, k = M - 1 - i := ⟨_, rfl⟩
        have e1 : (M : Int) + (i : Int) * (-1) = ((k + 1 : Nat) : Int) := by omega
        have e2 : ((n + 1 : Nat) : Int) - ((k + 1 : Nat) : Int) = ((n - k : Nat) : Int) := by omega
        rw [e1]
        refine ⟨_, ⟨n - k, k + 1, by show [D.int (((n + 1 : Nat) : Int) - ((k + 1 : Nat) : Int)), _] = _; rw [e2], by omega, by omega, by omega, rfl⟩, ?_⟩
        refine lc_map (consT (k + 1)) (fun x hx P p => ?_) ?_
        · obtain ⟨r, hr, rfl⟩ := List.mem_map.mp hx
          have := (rw2_ok (n := n - k) (m := k + 1) (by omega) (by omega)).2 r hr
          exact ⟨le_lim (by show 1 + (natsD r).length ≤ 1000000; rw [natsD_len]; omega), p⟩
        · rw [consT_map]
          have l1 := upTo_len (n := n) (most := most) (i := i) hn hl
          rw [hMM] at l1
          have l2 := (rw2_ok (n := n - k) (m := k + 1) (by omega) (by omega)).1
          refine ⟨le_lim (by rw [List.length_map, List.length_map, List.length_map]; omega), hN _ ⟨.d (.int ((k + 1 : Nat) : Int)), ?_⟩⟩
          rw [upTo_s hi, List.map_append, ← hk]; rfl
      · rintro δ ⟨x3, rfl⟩
        have e : (rgC (M : Int) (-1) M).length = M := by unfold rgC; rw [List.length_map, List.length_range]
        have e2 := upTo_all n most
        rw [hMM] at e2
        rw [e, e2]
        exact q
/-! ### shapes -/
def okNn : D → Bool
  | .int i => decide (0 ≤ i) && decide (i ≤ 20)
  | _ => false
end
end DL

namespace DL
open PySem L2
open SMath50
section
variable {P : Program} {w : World} {K : PySem.W.Frag} {mg : Str → Option Value} {base : Heap} {W : Ad}
theorem rows_all {T : Tx K mg W} (Dd : Df K mg "_shapes_within" s__shapes_within ["n", "longest"]) : ∀ m, Cal P w K mg base CX0 (1 + m) "_shapes_within" ["n", "longest"] (spW K (relR (r__shapes_within m)))
  | 0 => cal_bot Dd sc__shapes_within fun ds Q ⟨d, ⟨n, most, _, h, _⟩, _⟩ => absurd h (Nat.not_lt_zero _)
  | m + 1 => ok__shapes_within_s m T Dd (rows_all (T := T) Dd m)
theorem lrows_all {T : Tx K mg W} (Dd : Df K mg "_law_rows" s__law_rows ["n", "most"]) : ∀ m, Cal P w K mg base CX0 (1 + m) "_law_rows" ["n", "most"] (spW K (relR (r__law_rows m)))
  | 0 => cal_bot Dd sc__law_rows fun ds Q ⟨d, ⟨n, most, _, h, _⟩, _⟩ => absurd h (Nat.not_lt_zero _)
  | m + 1 => ok__law_rows_s m T Dd (lrows_all (T := T) Dd m)
/-! ### shapes -/
def r_shapes (W : Ad) (ds : List D) (o : Out) : Prop :=
  (∃ n : Nat, ds = [.int n] ∧ n ≤ 20 ∧ o = .ret (.lst ((rw2 n n).map ptpD))) ∨ ∃ x, ds = [x] ∧ notRef x = true ∧ okNn x = false ∧ o = .exc W.cBadShape
theorem ok_shapes (T : Tx K mg W) (Dd : Df K mg "shapes" s_shapes ["n"]) (C__shapes_within : Cal P w K mg base CX0 22 "_shapes_within" ["n", "longest"] (spW K (relR (r__shapes_within 21)))) (C_is_whole : Cal P w K mg base CX0 1 "is_whole" ["value"] (spW K (relR r_is_whole))) : Cal P w K mg base (L2.CX P w) 23 "shapes" ["n"] (spX K (relX (r_shapes W))) := by
  refine cal_okX Dd sc_shapes (fun ds Q Z h => ?_) (fun f cdv A outer s H E hr => 
  (ss_cons (s_if (w_or (t_not (t_val (d_call C_is_whole relR_mono (hr.mono (by decide)) (a_cons (dv 0) a_nil)).q)) (w_or1 (t_not (t_chain o_le o_le d_int.q (qv 0) (d_glob T.g_MOST_THINGS T.r_MOST_THINGS T.a_MOST_THINGS).q)))).t (
    (ss_one (s_raise (C := W.cBadShape) (ps_raise rfl (takes_of rfl rfl rfl rfl) (pmk_ownA PySem.F.excBase_ValueError T.e_BadShape.x T.e_BadShape.g T.e_BadShape.k (raises_own T.e_BadShape.b T.e_BadShape.t) rfl (pa_cons (pe_joined (PJ.cons pe_str (PJ.cons (pe_fmt (pe_glob (by rfl) T.g_MOST_THINGS T.r_MOST_THINGS)) (PJ.cons pe_str PJ.nil)))) pa_nil))) (fun _ _ _ h => ⟨_, rfl, by decide +kernel, .inr ⟨_, rfl, by decide +kernel, _, rfl, by decide +kernel, ⟨_, rfl, by decide +kernel, ⟨by decide +kernel, h⟩⟩⟩⟩)))) (ss_nil))
  (ss_one (s_ret (d_call C__shapes_within relR_mono (hr.mono (by decide)) (a_cons (dv 0) (a_cons (dv 0) a_nil))))))) (fun ds Q Z h => ?_)

  · obtain ⟨o, ⟨n, rfl, _⟩ | ⟨x, rfl, _⟩, _⟩ := h <;> rfl
  · obtain ⟨o, ⟨n, rfl, hn, rfl⟩ | ⟨x, rfl, hx, hk, rfl⟩, q⟩ := h
    · refine ⟨_, ⟨_, rfl, rfl, rfl⟩, ?_⟩
      refine yN (fun h => absurd (by omega) h) (fun _ => ?_)
      exact ⟨_, ⟨n, n, rfl, by omega, hn, hn, rfl⟩, q⟩
    · refine ⟨_, ⟨_, rfl, hx, rfl⟩, ?_⟩
      cases x with
      | int i =>
        refine yD (fun h => ?_) (fun h => q)
        refine yN (fun _ => q) (fun h2 => ?_)
        have : okNn (.int i) = true := by show (decide _ && decide _) = true; rw [decide_eq_true h, decide_eq_true h2]; rfl
        rw [this] at hk
        cases hk
      | ref a => cases hx
      | _ => exact q
/-! ### check_shape -/
def posB (i : Int) : Bool := decide (1 ≤ i)
def descB (ns : List Int) : Bool := (List.range (ns.length - 1)).all fun i => !decide (ns.getD i 0 < ns.getD (i + 1) 0)
def okS (ns : List Int) : Bool := ns.all posB && descB ns
theorem any_nota {α : Type} (p : α → Bool) : ∀ l : List α, (List.any (l.map fun i => !p i) id) = !l.all p
  | [] => rfl
  | x :: l => by
    rw [List.map_cons, List.any_cons, List.all_cons, any_nota p l]
    cases p x <;> simp
def r_check_shape (W : Ad) (ds : List D) (o : Out) : Prop := ∃ ns : List Int, ds = [.tup (ns.map D.int)] ∧ ns.length ≤ 1000 ∧ o = if okS ns = true then .ret .non else .exc W.cBadShape
theorem ok_check_shape (T : Tx K mg W) (Dd : Df K mg "check_shape" s_check_shape ["shape"]) (C_is_whole : Cal P w K mg base CX0 1 "is_whole" ["value"] (spW K (relR r_is_whole))) : Cal P w K mg base (L2.CX P w) 2 "check_shape" ["shape"] (spX K (relX (r_check_shape W))) := by
  refine cal_okX Dd sc_check_shape (fun ds Q Z h => ?_) (fun f cdv A outer s H E hr => 
  (ss_cons (s_if (w_or (t_not (t_val (d_isi k_tuple T.n_isinstance T.n_tuple (qv 0)).q)) (w_or1 (t_val (d_callB (c_any) T.n_any (b_cons (f_lc sc_check_shape.nd (i_tup (dv 0)).q (blkOk_by (own := [("length", 2)]) (N := ["shape", "at", "length"]) (sc := defScope s_check_shape) (by decide +kernel)) (fun _ _ _ _ _ => (g_name (i := 2) sc_check_shape.nd rfl (.inl rfl))) (fun _ _ _ _ _ => ts_nil) (fun _ _ _ _ _ => (d_or (d_not (d_call C_is_whole relR_mono (hr.mono (by decide)) (a_cons (dv 2) a_nil))) (d_one (d_cmp o_lt (qv 2) d_int.q))))).p.q b_nil)).q))).t (
    (ss_one (s_raise (C := W.cBadShape) (ps_raise rfl (takes_of rfl rfl rfl rfl) (pmk_own PySem.F.excBase_ValueError T.e_BadShape.x T.e_BadShape.g T.e_BadShape.k (raises_own T.e_BadShape.b T.e_BadShape.t) rfl)) (fun _ _ _ h => h)))) (ss_nil))
  (ss_one (s_if (t_val (d_callB (c_any) T.n_any (b_cons (f_lc sc_check_shape.nd (i_range1 T.n_range (d_op o_sub (d_callB (c_len) T.n_len (b_cons (qv 0) b_nil)).q d_int.q).q).q (blkOk_by (own := [("at", 1)]) (N := ["shape", "at", "length"]) (sc := defScope s_check_shape) (by decide +kernel)) (fun _ _ _ _ _ => (g_name (i := 1) sc_check_shape.nd rfl (.inl rfl))) (fun _ _ _ _ _ => ts_nil) (fun _ _ _ _ _ => (d_cmp o_lt (d_ix (qv 0) (qv 1)).q (d_ix (qv 0) (d_op (o_add) (qv 1) d_int.q).q).q))).p.q b_nil)).q) (
    (ss_one (s_raise (C := W.cBadShape) (ps_raise rfl (takes_of rfl rfl rfl rfl) (pmk_own PySem.F.excBase_ValueError T.e_BadShape.x T.e_BadShape.g T.e_BadShape.k (raises_own T.e_BadShape.b T.e_BadShape.t) rfl)) (fun _ _ _ h => h)))) (ss_nil))))) (fun ds Q Z h => ?_)

  · obtain ⟨o, ⟨ns, rfl, _⟩, _⟩ := h; rfl
  · obtain ⟨o, ⟨ns, rfl, hn, rfl⟩, q⟩ := h
    refine ⟨rfl, ?_⟩
    refine lc_map (fun x => .bl (match x with | .int i => !posB i | _ => false)) (fun x hx P p => ?_) ⟨ns.map fun i => !posB i, by rw [List.map_map, List.map_map]; rfl, ?_⟩
    · obtain ⟨i, _, rfl⟩ := List.mem_map.mp hx
      refine ⟨_, ⟨_, rfl, rfl, rfl⟩, ?_⟩
      have e : (!posB i) = decide (i < 1) := by
        unfold posB
        by_cases h : 1 ≤ i
        · rw [decide_eq_true h, decide_eq_false (by omega)]; rfl
        · rw [decide_eq_false h, decide_eq_true (by omega)]; rfl
      have p : P (.bl (!posB i)) := p
      rw [e] at p
      exact p
    · show asB _ (.bl (List.any _ id))
      rw [any_nota]
      show if (!ns.all posB) = true then _ else _
      cases e1 : ns.all posB with
      | false =>
        have : okS ns = false := by unfold okS; rw [e1]; rfl
        rw [this] at q; exact q
      | true =>
        have eS : okS ns = descB ns := by unfold okS; rw [e1]; rfl
        rw [eS] at q
        have hl : (ns.map D.int).length = ns.length := List.length_map _
        refine ⟨rgb (by decide) (by decide) (by rw [hl]; omega) (by rw [hl]; omega) (by rw [hl]; omega), lc_rg (fun i => .bl (decide (ns.getD i 0 < ns.getD (i + 1) 0))) (fun i hi P p => ?_) ?_⟩
        · rw [hl] at hi
          have g : ∀ j, j < ns.length → (ns.map D.int)[j]? = some (.int (ns.getD j 0)) := fun j hj => by
            rw [List.getElem?_map, List.getD_eq_getElem?_getD, List.getElem?_eq_getElem hj]; rfl
          have g1 : (ns.map D.int)[0 + i]? = some (.int (ns.getD i 0)) := by rw [Nat.zero_add]; exact g i (by omega)
          have g2 : (ns.map D.int)[0 + i + 1]? = some (.int (ns.getD (i + 1) 0)) := by rw [Nat.zero_add]; exact g (i + 1) (by omega)
          exact onSome_of g1 (onSome_of g2 p)
        · rw [hl]
          have e2 : ((ns.length : Int) - 1 - 0).toNat = ns.length - 1 := by omega
          rw [e2]
          refine ⟨(List.range (ns.length - 1)).map fun i => !!decide (ns.getD i 0 < ns.getD (i + 1) 0), by rw [List.map_map]; congr 1; funext i; exact congrArg D.bl (Bool.not_not _).symm, ?_⟩
          show asB _ (.bl (List.any _ id))
          rw [any_nota]
          show if (!descB ns) = true then _ else _
          cases e3 : descB ns with
          | false => rw [e3] at q; exact q
          | true => rw [e3] at q; exact q
end
end DL

namespace DL
open PySem L2
open SMath50
section
variable {P : Program} {w : World} {K : PySem.W.Frag} {mg : Str → Option Value} {base : Heap} {W : Ad}
theorem factN : ((List.range 21).all fun n => Builtin.Math.factorialNat n == fct n) = true := by decide +kernel
theorem fact_eq {n : Nat} (h : n ≤ 20) : Builtin.Math.factorialNat n = fct n := by
  have h2 := factN
  rw [List.all_eq_true] at h2
  exact beq_iff_eq.mp (h2 n (List.mem_range.mpr (by omega)))
def zs (L : List Nat) : List Int := L.map fun (n : Nat) => (n : Int)
theorem natsD_i (L : List Nat) : natsD L = (zs L).map D.int := natsD_ints L
def r_weight (W : Ad) (ds : List D) (o : Out) : Prop :=
  (∃ L : List Nat, ds = [.ptp (natsD L)] ∧ okS (zs L) = true ∧ L.length ≤ 20 ∧ (zs L).sum ≤ 20 ∧ (∀ x ∈ L, x ≤ 20) ∧ o = .ret (.int (wt2 L : Nat))) ∨
  ∃ ns : List Int, ds = [.tup (ns.map D.int)] ∧ ns.length ≤ 1000 ∧ (okS ns = false ∨ okS ns = true ∧ 20 < ns.sum) ∧ o = .exc W.cBadShape
theorem zs_mem {L : List Nat} {k : Nat} : (k : Int) ∈ zs L ↔ k ∈ L := by
  unfold zs
  rw [List.mem_map]
  constructor
  · rintro ⟨j, h, e⟩
    have : j = k := by omega
    rw [← this]; exact h
  · intro h; exact ⟨k, h, rfl⟩
theorem zs_count (L : List Nat) (k : Nat) : (zs L).count (k : Int) = L.count k := by
  induction L with
  | nil => rfl
  | cons x L ih =>
    show List.count (k : Int) ((x : Int) :: zs L) = _
    rw [List.count_cons, List.count_cons, ih]
    by_cases e : x = k
    · subst e; rw [if_pos (beq_self_eq_true _), if_pos (beq_self_eq_true _)]
    · rw [if_neg (fun z => e (by have := beq_iff_eq.mp z; omega)), if_neg (fun z => e (beq_iff_eq.mp z))]
theorem asc_nat {ns : List Int} {L : List Nat} (h1 : ns.Pairwise (· < ·)) (h2 : ∀ k, k ∈ ns ↔ k ∈ zs L) (h3 : ∀ x ∈ L, x ≤ 20) : ns = zs (dst L) := by
  have p : ∀ k ∈ ns, ∃ j : Nat, k = (j : Int) := fun k hk => by
    have := (h2 k).mp hk
    unfold zs at this
    obtain ⟨j, _, e⟩ := List.mem_map.mp this
    exact ⟨j, e.symm⟩
  have e1 : ns = zs (ns.map Int.toNat) := by
    unfold zs
    rw [List.map_map]
    conv => lhs; rw [← List.map_id ns]
    refine List.map_congr_left fun k hk => ?_
    obtain ⟨j, rfl⟩ := p k hk
    rfl
  have e2 : ns.map Int.toNat = dst L := by
    refine asc_eq ?_ (dst_asc L) fun k => ?_
    · rw [List.pairwise_map]
      refine h1.imp_of_mem fun {a b} ha hb hab => ?_
      obtain ⟨i, rfl⟩ := p a ha
      obtain ⟨j, rfl⟩ := p b hb
      show i < j
      omega
    · rw [dst_mem h3]
      refine Iff.trans ?_ zs_mem
      rw [← h2]
      constructor
      · intro z
        obtain ⟨x, hx, e⟩ := List.mem_map.mp z
        obtain ⟨j, rfl⟩ := p x hx
        have : j = k := e
        rw [← this]; exact hx
      · intro z; exact List.mem_map.mpr ⟨_, z, rfl⟩
  rw [e1, e2]
def acc (L : List Nat) (i : Nat) : Nat := ((dst L).take i).foldl (fun a k => a * k ^ L.count k * fct (L.count k)) 1
theorem acc_s {L : List Nat} {i k : Nat} (h : (dst L)[i]? = some k) : acc L (i + 1) = acc L i * k ^ L.count k * fct (L.count k) := by
  unfold acc
  rw [List.take_add_one, h, List.foldl_append]; rfl
theorem dst_le (L : List Nat) : (dst L).length ≤ 21 := by
  unfold dst
  exact Nat.le_trans (List.length_filter_le _ _) (by rw [List.length_range]; exact Nat.le_refl _)
theorem pow_lt {k c : Nat} (h1 : k ≤ 20) (h2 : c ≤ 20) : k ^ c < 2 ^ 101 := by
  have a1 : k ^ c ≤ 32 ^ c := Nat.pow_le_pow_left (by omega) c
  have a2 : (32 : Nat) ^ c ≤ 32 ^ 20 := Nat.pow_le_pow_right (by decide) h2
  have a3 : (32 : Nat) ^ 20 < 2 ^ 101 := by decide
  exact Nat.lt_of_le_of_lt (Nat.le_trans a1 a2) a3
theorem acc_lt {L : List Nat} (hl : L.length ≤ 20) : ∀ i, acc L i < 2 ^ (200 * i + 1)
  | 0 => by show 1 < 2; decide
  | i + 1 => by
    have ih := acc_lt hl i
    cases e : (dst L)[i]? with
    | none =>
      have : acc L (i + 1) = acc L i := by unfold acc; rw [List.take_add_one, e]; simp
      rw [this]
      exact Nat.lt_of_lt_of_le ih (Nat.pow_le_pow_right (by decide) (by omega))
    | some k =>
      have hk : k ≤ 20 := by
        have := List.mem_of_getElem? e
        unfold dst at this
        have := List.mem_range.mp (List.mem_filter.mp this).1
        omega
      have hc : L.count k ≤ 20 := Nat.le_trans List.count_le_length hl
      rw [acc_s e]
      have b1 : acc L i * k ^ L.count k < 2 ^ (200 * i + 1) * 2 ^ 101 := Nat.mul_lt_mul'' ih (pow_lt hk hc)
      have b2 := Nat.mul_lt_mul'' b1 (fct_lt hc)
      rw [← Nat.pow_add, ← Nat.pow_add] at b2
      exact Nat.lt_of_lt_of_le b2 (Nat.pow_le_pow_right (by decide) (by omega))
theorem ok_weight (T : Tx K mg W) (Dd : Df K mg "weight" s_weight ["shape"]) (C_check_shape : Cal P w K mg base (L2.CX P w) 2 "check_shape" ["shape"] (spX K (relX (r_check_shape W)))) (C_power : Cal P w K mg base CX0 1 "power" ["base", "times"] (spW K (relR r_power))) : Cal P w K mg base (L2.CX P w) 3 "weight" ["shape"] (spX K (relX (r_weight W))) := by
  refine cal_okX Dd sc_weight (fun ds Q Z h => ?_) (fun f cdv A outer s H E hr => 
  (ss_cons (s_exprX (x_call C_check_shape relX_mono (hr.mono (by decide)) (takes_of rfl rfl rfl rfl) (a_cons (dv 0).u a_nil)))
  (ss_cons (s_if (t_cmp o_gt (d_callB (c_sumA) T.n_sum (b_cons (qv 0).u b_nil)).q (d_glob T.g_MOST_THINGS T.r_MOST_THINGS T.a_MOST_THINGS).q) (
    (ss_one (s_raise (C := W.cBadShape) (ps_raise rfl (takes_of rfl rfl rfl rfl) (pmk_ownA PySem.F.excBase_ValueError T.e_BadShape.x T.e_BadShape.g T.e_BadShape.k (raises_own T.e_BadShape.b T.e_BadShape.t) rfl (pa_cons (pe_joined (PJ.cons pe_str (PJ.cons (pe_fmt (pe_glob (by rfl) T.g_MOST_THINGS T.r_MOST_THINGS)) (PJ.cons pe_str PJ.nil)))) pa_nil))) (fun _ _ _ h => ⟨_, rfl, by decide +kernel, .inr ⟨_, rfl, by decide +kernel, _, rfl, by decide +kernel, ⟨_, rfl, by decide +kernel, ⟨by decide +kernel, h⟩⟩⟩⟩)))) (ss_nil))
  (ss_cons (s_set (i := 1) sc_weight.nd rfl (.inl rfl) d_int)
  (ss_cons (s_for (passes_of rfl) (i_list (f_sortedSet T.n_sorted T.n_set (qv 0).u).p) (g_name (i := 2) sc_weight.nd rfl (.inl rfl)) (
    (ss_cons (s_set (i := 3) sc_weight.nd rfl (.inl rfl) (d_tcount (qv 0) (qv 2)))
    (ss_one (s_set (i := 1) sc_weight.nd rfl (.inl rfl) (d_op (o_mul) (d_op (o_mul) (qv 1) (d_call C_power relR_mono (hr.mono (by decide)) (a_cons (dv 2) (a_cons (dv 3) a_nil))).q).q (d_callG c_factorial T.m_factorial (b_cons (qv 3) b_nil)).q))))))
  (ss_one (s_ret (dv 1)))))))) (fun ds Q Z h => ?_)

  · obtain ⟨o, ⟨L, rfl, _⟩ | ⟨x, rfl, _⟩, _⟩ := h <;> rfl
  · obtain ⟨o, ⟨L, rfl, h1, h2, h3, h4, rfl⟩ | ⟨ns, rfl, hn, hk, rfl⟩, q⟩ := h
    · refine ⟨_, ⟨zs L, by show [D.tup (natsD L)] = _; rw [natsD_i], by unfold zs; rw [List.length_map]; omega, rfl⟩, ?_⟩
      rw [h1]
      refine ⟨zs L, natsD_i L, ?_⟩
      refine yD (fun h => absurd h (by show ¬ ((zs L).sum > 20); omega)) (fun _ => ?_)
      refine ⟨zs L, natsD_i L, by unfold zs; rw [List.length_map]; omega, fun ns' w1 w2 => ?_⟩
      obtain rfl := asc_nat w1 w2 h4
      rw [← natsD_i]
      refine loop_inv (fun i δ => ∃ x2 x3 : Sl, δ = [.d (.ptp (natsD L)), .d (.int (acc L i : Nat)), x2, x3]) ⟨.no, .no, rfl⟩ ?_ ?_
      · rintro i x δ ex ⟨x2, x3, rfl⟩ N hN
        obtain ⟨k, ek, rfl⟩ := natsD_of ex
        have hk : k ≤ 20 := by
          have := List.mem_of_getElem? ek
          unfold dst at this
          have := List.mem_range.mp (List.mem_filter.mp this).1
          omega
        have hc : L.count k ≤ 20 := Nat.le_trans List.count_le_length h2
        have hi : i < 21 := Nat.lt_of_lt_of_le (List.getElem?_eq_some_iff.mp ek).1 (dst_le L)
        have ha := acc_lt h2 i
        refine ⟨zs L, natsD_i L, ?_⟩
        rw [zs_count]
        refine ⟨_, ⟨k, L.count k, rfl, hk, hc, rfl⟩, ?_⟩
        have wide : ∀ {a b : Nat}, a < 2 ^ (200 * i + 103) → b < 2 ^ 101 → mulOk (a : Int) (b : Int) := fun {a b} h1 h2 => .inr (wide_mul (a := 200 * i + 103) (b := 101) (by rw [Int.natAbs_natCast]; exact h1) (by rw [Int.natAbs_natCast]; exact h2) (by omega) (by decide) (by omega))
        have b1 : acc L i * k ^ L.count k < 2 ^ (200 * i + 1) * 2 ^ 101 := Nat.mul_lt_mul'' ha (pow_lt hk hc)
        rw [← Nat.pow_add] at b1
        have b0 : acc L i < 2 ^ (200 * i + 103) := Nat.lt_of_lt_of_le ha (Nat.pow_le_pow_right (by decide) (by omega))
        have b2 : acc L i * k ^ L.count k < 2 ^ (200 * i + 103) := Nat.lt_of_lt_of_le b1 (Nat.pow_le_pow_right (by decide) (by omega))
        have b3 : fct (L.count k) < 2 ^ 101 := Nat.lt_trans (fct_lt hc) (Nat.pow_lt_pow_right (by decide) (by decide))
        refine ⟨wide b0 (pow_lt hk hc), ⟨by omega, by omega⟩, ?_⟩
        show oMul (.int (((acc L i : Nat) : Int) * ((k ^ L.count k : Nat) : Int))) (.int ((Builtin.Math.factorialNat (L.count k) : Nat) : Int)) _
        rw [fact_eq hc, ← Int.natCast_mul]
        refine ⟨wide b2 b3, hN _ ⟨.d (.int (k : Nat)), .d (.int (L.count k : Nat)), ?_⟩⟩
        rw [acc_s ek, Int.natCast_mul]
        rfl
      · rintro δ ⟨x2, x3, rfl⟩
        have e : acc L (natsD (dst L)).length = wt2 L := by
          unfold acc wt2
          rw [natsD_len, List.take_length]
        rw [e]
        exact q
    · refine ⟨_, ⟨ns, rfl, hn, rfl⟩, ?_⟩
      rcases hk with hk | ⟨hk, hs⟩
      · rw [hk]; exact q
      · rw [hk]
        exact ⟨ns, rfl, yD (fun _ => q) (fun h => absurd hs h)⟩
end
end DL

namespace DL
open PySem L2
open SMath50
section
variable {P : Program} {w : World} {K : PySem.W.Frag} {mg : Str → Option Value} {base : Heap} {W : Ad}
/-! ### lists of ints compared -/
theorem eqvAll_ints : ∀ a b : List Int, PyData.eqvAll (toPs (a.map D.int)) (toPs (b.map D.int)) = decide (a = b)
  | [], [] => by unfold PyData.eqvAll; rfl
  | [], y :: b => by rw [decide_eq_false (by simp)]; rfl
  | x :: a, [] => by rw [decide_eq_false (by simp)]; rfl
  | x :: a, y :: b => by
    show PyData.eqvAll (.int x :: toPs (a.map D.int)) (.int y :: toPs (b.map D.int)) = _
    unfold PyData.eqvAll
    rw [eqvAll_ints a b]
    have : PyData.eqv (.int x) (.int y) = decide (x = y) := Bool.beq_eq_decide_eq x y
    rw [this]
    by_cases h1 : x = y
    · subst h1
      rw [decide_eq_true rfl, Bool.true_and]
      exact decide_eq_decide.mpr ⟨fun h => by rw [h], fun h => (List.cons.inj h).2⟩
    · rw [decide_eq_false h1, Bool.false_and, decide_eq_false fun h => h1 (List.cons.inj h).1]
theorem eqD_lst (a b : List Int) : eqD (.lst (a.map D.int)) (.lst (b.map D.int)) = decide (a = b) := by
  unfold eqD
  show PyData.eqv (.list (toPs (a.map D.int))) (.list (toPs (b.map D.int))) = _
  unfold PyData.eqv
  exact eqvAll_ints a b
theorem okD_lst (a : List Int) : okD (.lst (a.map D.int)) = true := okD_ints fun d h => by
  obtain ⟨i, _, e⟩ := List.mem_map.mp h
  exact ⟨i, e.symm⟩
theorem oNe_lst {a b : List Int} {Q : D → Prop} (q : Q (.bl (!decide (a = b)))) : oNe (.lst (a.map D.int)) (.lst (b.map D.int)) Q :=
  ⟨⟨okD_lst a, okD_lst b⟩, by rw [eqD_lst]; exact q⟩
/-! ### _check_permutation -/
def oneTo (n : Nat) : List Int := (List.range n).map fun (i : Nat) => 1 + (i : Int)
def PermP (ns : List Int) : Prop := ns.length ≤ 20 ∧ ns.Perm (oneTo ns.length)
theorem oneTo_asc (n : Nat) : (oneTo n).Pairwise (· ≤ ·) := by
  unfold oneTo
  rw [List.pairwise_map]
  exact List.pairwise_lt_range.imp fun h => by omega
theorem sorted_eq : ∀ {a b : List Int}, a.Perm b → a.Pairwise (· ≤ ·) → b.Pairwise (· ≤ ·) → a = b := fun {a b} p h1 h2 =>
  p.eq_of_pairwise (fun x y _ _ h3 h4 => by omega) h1 h2
def r__check_permutation (W : Ad) (ds : List D) (o : Out) : Prop := ∃ ns : List Int, ds = [.tup (ns.map D.int)] ∧ ns.length ≤ 1000 ∧ ((PermP ns ∧ o = .ret .non) ∨ (¬ PermP ns ∧ o = .exc W.cBadShape))
theorem ok__check_permutation (T : Tx K mg W) (Dd : Df K mg "_check_permutation" s__check_permutation ["images"]) (C_is_whole : Cal P w K mg base CX0 1 "is_whole" ["value"] (spW K (relR r_is_whole))) : Cal P w K mg base (L2.CX P w) 2 "_check_permutation" ["images"] (spX K (relX (r__check_permutation W))) := by
  refine cal_okX Dd sc__check_permutation (fun ds Q Z h => ?_) (fun f cdv A outer s H E hr => 
  (ss_cons (s_if (w_or (t_not (t_val (d_isi k_tuple T.n_isinstance T.n_tuple (qv 0)).q)) (w_or1 (t_cmp o_gt (d_callB (c_len) T.n_len (b_cons (qv 0) b_nil)).q (d_glob T.g_MOST_THINGS T.r_MOST_THINGS T.a_MOST_THINGS).q))).t (
    (ss_one (s_raise (C := W.cBadShape) (ps_raise rfl (takes_of rfl rfl rfl rfl) (pmk_ownA PySem.F.excBase_ValueError T.e_BadShape.x T.e_BadShape.g T.e_BadShape.k (raises_own T.e_BadShape.b T.e_BadShape.t) rfl (pa_cons (pe_joined (PJ.cons pe_str (PJ.cons (pe_fmt (pe_glob (by rfl) T.g_MOST_THINGS T.r_MOST_THINGS)) (PJ.cons pe_str PJ.nil)))) pa_nil))) (fun _ _ _ h => ⟨_, rfl, by decide +kernel, .inr ⟨_, rfl, by decide +kernel, _, rfl, by decide +kernel, ⟨_, rfl, by decide +kernel, ⟨by decide +kernel, h⟩⟩⟩⟩)))) (ss_nil))
  (ss_one (s_if (w_or (t_val (d_callB (c_any) T.n_any (b_cons (f_lc sc__check_permutation.nd (i_tup (dv 0)).q (blkOk_by (own := [("number", 1)]) (N := ["images", "number"]) (sc := defScope s__check_permutation) (by decide +kernel)) (fun _ _ _ _ _ => (g_name (i := 1) sc__check_permutation.nd rfl (.inl rfl))) (fun _ _ _ _ _ => ts_nil) (fun _ _ _ _ _ => (d_not (d_call C_is_whole relR_mono (hr.mono (by decide)) (a_cons (dv 1) a_nil))))).p.q b_nil)).q) (w_or1 (t_cmp (o_ne (hu64 hr)) (f_callB c_sortedA T.n_sorted (b_cons (qv 0) b_nil)).p.q (f_listRg T.n_list (r_2 T.n_range d_int.q (d_op (o_add) (d_callB (c_len) T.n_len (b_cons (qv 0) b_nil)).q d_int.q).q)).p.q))).t (
    (ss_one (s_raise (C := W.cBadShape) (ps_raise rfl (takes_of rfl rfl rfl rfl) (pmk_own PySem.F.excBase_ValueError T.e_BadShape.x T.e_BadShape.g T.e_BadShape.k (raises_own T.e_BadShape.b T.e_BadShape.t) rfl)) (fun _ _ _ h => h)))) (ss_nil))))) (fun ds Q Z h => ?_)

  · obtain ⟨o, ⟨ns, rfl, _⟩, _⟩ := h; rfl
  · obtain ⟨o, ⟨ns, rfl, hn, hk⟩, q⟩ := h
    have hl : (ns.map D.int).length = ns.length := List.length_map _
    refine ⟨rfl, ?_⟩
    show ite (decide ((((ns.map D.int).length : Nat) : Int) > 20) = true) _ _
    refine yD (fun h => ?_) (fun h => ?_)
    · rcases hk with ⟨hk, rfl⟩ | ⟨hk, rfl⟩
      · have := hk.1
        rw [hl] at h
        omega
      · exact q
    rw [hl] at h
    refine lc_map (fun x => .bl false) (fun x hx P p => ?_) ⟨ns.map fun i => false, by rw [List.map_map, List.map_map]; rfl, ?_⟩
    · obtain ⟨i, _, rfl⟩ := List.mem_map.mp hx
      exact ⟨_, ⟨_, rfl, rfl, rfl⟩, p⟩
    show asB _ (.bl (List.any _ id))
    rw [show List.any (ns.map fun _ => false) id = false by rw [List.any_map]; exact List.any_eq_false.mpr fun x _ => by simp]
    refine ⟨ns, rfl, fun ns' w1 w2 => ?_⟩
    refine ⟨rgb (by decide) (by decide) (by rw [hl]; omega) (by rw [hl]; omega) (by rw [hl]; omega), ?_⟩
    have e1 : rgD 1 (((ns.map D.int).length : Nat) + 1 : Int) = (oneTo ns.length).map D.int := by
      rw [hl]
      unfold rgD oneTo
      rw [List.map_map, show ((ns.length : Int) + 1 - 1).toNat = ns.length by omega]; rfl
    rw [e1]
    refine oNe_lst ?_
    rcases hk with ⟨hk, rfl⟩ | ⟨hk, rfl⟩
    · have : ns' = oneTo ns.length := sorted_eq (w1.trans hk.2) w2 (oneTo_asc _)
      rw [decide_eq_true this]
      exact q
    · have : ns' ≠ oneTo ns.length := fun z => hk ⟨by omega, by rw [z] at w1; exact w1.symm⟩
      rw [decide_eq_false this]
      exact q
end
end DL

namespace DL
open PySem L2
open SMath50
section
variable {P : Program} {w : World} {K : PySem.W.Frag} {mg : Str → Option Value} {base : Heap} {W : Ad}
/-! ### _law_orders -/
def more (n : Nat) (one : List Nat) : List (List Nat) := (((List.range n).map (· + 1)).filter fun k => !one.contains k).map fun k => one ++ [k]
def ordF (n : Nat) : Nat → List (List Nat)
  | 0 => [[]]
  | j + 1 => (ordF n j).flatMap (more n)
def okOrd : Bool := (List.range 5).all fun n => (List.range 5).all fun j => decide ((ordF n j).length ≤ 1000) && (ordF n j).all fun r => decide (r.length ≤ 20)
theorem okOrd_t : okOrd = true := by decide +kernel
theorem ord_ok {n j : Nat} (h1 : n ≤ 4) (h2 : j ≤ 4) : (ordF n j).length ≤ 1000 ∧ ∀ r ∈ ordF n j, r.length ≤ 20 := by
  have h := okOrd_t
  unfold okOrd at h
  rw [List.all_eq_true] at h
  have h := h n (List.mem_range.mpr (by omega))
  rw [List.all_eq_true] at h
  have h := h j (List.mem_range.mpr (by omega))
  rw [Bool.and_eq_true, List.all_eq_true] at h
  exact ⟨of_decide_eq_true h.1, fun r hr => of_decide_eq_true (h.2 r hr)⟩
def r__law_orders (ds : List D) (d : D) : Prop := ∃ n : Nat, ds = [.int n] ∧ n ≤ 4 ∧ d = .lst ((ordF n n).map tupD)
theorem inD_nats (k : Nat) : ∀ L : List Nat, inD (.int (k : Int)) (natsD L) = L.contains k
  | [] => rfl
  | x :: L => by
    show (((x : Int) == (k : Int)) || inD (.int (k : Int)) (natsD L)) = _
    rw [inD_nats k L, List.contains_cons]
    congr 1
    by_cases h : x = k
    · subst h; rw [beq_self_eq_true, beq_self_eq_true]
    · rw [beq_eq_false_iff_ne.mpr (by omega), beq_eq_false_iff_ne.mpr (fun z => h z.symm)]
theorem flat_nats (L : List Nat) : (natsD L).all flatD = true := by
  rw [List.all_eq_true]
  intro d hd
  obtain ⟨n, _, rfl⟩ := List.mem_map.mp hd
  rfl
theorem filt_nats (r : List Nat) : ∀ L : List Nat, (natsD L).filter (fun x => !inD x (natsD r)) = natsD (L.filter fun k => !r.contains k)
  | [] => rfl
  | x :: L => by
    show List.filter _ (D.int x :: natsD L) = _
    rw [List.filter_cons, inD_nats, filt_nats r L, List.filter_cons]
    by_cases h : (!r.contains x) = true
    · rw [if_pos h, if_pos h]; rfl
    · rw [if_neg h, if_neg h]
theorem map_more (r : List Nat) (M : List Nat) : (natsD M).map (fun x => D.tup (natsD r ++ [x])) = (M.map fun k => r ++ [k]).map tupD := by
  unfold natsD tupD
  rw [List.map_map, List.map_map]
  refine List.map_congr_left fun k _ => ?_
  show D.tup _ = D.tup (natsD (r ++ [k]))
  rw [natsD_app]; rfl
theorem rg_nats (n : Nat) : rgD 1 ((n : Int) + 1) = natsD ((List.range n).map (· + 1)) := by
  unfold rgD natsD
  rw [List.map_map, show ((n : Int) + 1 - 1).toNat = n by omega]
  refine List.map_congr_left fun k _ => ?_
  show D.int (1 + (k : Int)) = D.int ((k + 1 : Nat) : Int)
  congr 1
  omega
theorem take_flat {α β : Type} (f : α → List β) {l : List α} {i : Nat} {x : α} (h : l[i]? = some x) : (l.take (i + 1)).flatMap f = (l.take i).flatMap f ++ f x := by
  rw [List.take_add_one, h, List.flatMap_append]; simp
theorem take_flat_le {α β : Type} (f : α → List β) (l : List α) (i : Nat) : ((l.take i).flatMap f).length ≤ (l.flatMap f).length := by
  conv => rhs; rw [← List.take_append_drop i l]
  rw [List.flatMap_append, List.length_append]
  exact Nat.le_add_right _ _
theorem ok__law_orders (T : Tx K mg W) (Dd : Df K mg "_law_orders" s__law_orders ["n"]) : Cal P w K mg base CX0 1 "_law_orders" ["n"] (spW K (relR r__law_orders)) := by
  refine cal_ok Dd sc__law_orders (fun ds Q h => ?_) (fun f cdv A outer s H E hr => 
  (ss_cons (s_set (i := 1) sc__law_orders.nd rfl (.inl rfl) (f_lst (a_cons (d_tup a_nil) a_nil)).p)
  (ss_cons (s_for PassesOwn.never (i_range1 T.n_range (qv 0)) (g_name (i := 2) sc__law_orders.nd rfl (.inl rfl)) (
    (ss_cons (s_set (i := 3) sc__law_orders.nd rfl (.inl rfl) (f_lst a_nil).p)
    (ss_cons (s_for PassesOwn.never (i_list (dv 1)) (g_name (i := 4) sc__law_orders.nd rfl (.inr rfl)) (
      (ss_one (s_set (i := 3) sc__law_orders.nd rfl (.inl rfl) (d_op (o_add) (qv 3) (f_lc sc__law_orders.nd (i_range2 T.n_range d_int.q (d_op (o_add) (qv 0) d_int.q).q).q (blkOk_by (own := [("k", 5)]) (N := ["n", "found", "j", "longer", "one", "k"]) (sc := defScope s__law_orders) (by decide +kernel)) (fun _ _ _ _ _ => (g_name (i := 5) sc__law_orders.nd rfl (.inl rfl))) (fun _ _ _ _ _ => ts_one (t_cmp (o_notIn) (qv 5) (qv 4))) (fun _ _ _ _ _ => (d_op (o_add) (qv 4) (d_tup (a_cons (dv 5) a_nil)).q))).p.q)))))
    (ss_one (s_set (i := 1) sc__law_orders.nd rfl (.inl rfl) (dv 3)))))))
  (ss_one (s_ret (dv 1)))))) (fun ds Q h => ?_)

  · obtain ⟨d, ⟨n, rfl, _⟩, _⟩ := h; rfl
  · obtain ⟨d, ⟨n, rfl, hn, rfl⟩, q⟩ := h
    refine ⟨rgb (by decide) (by decide) (by omega) (by omega) (by omega), loop_rg (n := n) (fun j δ => ∃ x2 x3 x4 : Sl, δ = [.d (.int n), .d (.lst ((ordF n j).map tupD)), x2, x3, x4, .no]) (by omega) ⟨.no, .no, .no, rfl⟩ ?_ ?_⟩
    · rintro j δ hj ⟨x2, x3, x4, rfl⟩ N hN
      refine loop_inv (fun i δ => ∃ x4 : Sl, δ = [.d (.int n), .d (.lst ((ordF n j).map tupD)), .d (.int (0 + (j : Int))), .d (.lst ((((ordF n j).take i).flatMap (more n)).map tupD)), x4, .no]) ⟨x4, rfl⟩ ?_ ?_
      · rintro i x δ ex ⟨x4, rfl⟩ N2 hN2
        rw [List.getElem?_map] at ex
        cases er : (ordF n j)[i]? with
        | none => rw [er] at ex; cases ex
        | some r =>
          rw [er] at ex
          obtain rfl := Option.some.inj ex
          have hr := (ord_ok hn (by omega : j ≤ 4)).2 r (List.mem_of_getElem? er)
          refine ⟨rgb (by decide) (by decide) (by omega) (by omega) (by omega), lc_run (fun x => !inD x (natsD r)) (fun x => .tup (natsD r ++ [x])) (fun x hx P0 N0 p0 n0 => ?_) ?_⟩
          · rw [rg_nats] at hx
            obtain ⟨k, _, rfl⟩ := List.mem_map.mp hx
            refine ⟨⟨rfl, flat_nats r⟩, ?_⟩
            refine yNB (fun h => ?_) (fun h => n0 (by rw [h]; rfl))
            exact ⟨le_lim (by rw [natsD_len]; show r.length + 1 ≤ _; omega), p0 (by rw [h]; rfl)⟩
          · rw [rg_nats, filt_nats, List.nil_append, map_more]
            have hl := take_flat_le (more n) (ordF n j) (i + 1)
            have hl2 := (ord_ok hn (by omega : j + 1 ≤ 4)).1
            have hl3 : (ordF n (j + 1)).length = ((ordF n j).flatMap (more n)).length := rfl
            rw [take_flat (more n) er, List.length_append] at hl
            refine ⟨le_lim (by rw [List.length_map, List.length_map]; show _ + (more n r).length ≤ _; omega), hN2 _ ⟨.d (tupD r), ?_⟩⟩
            rw [take_flat (more n) er, List.map_append]; rfl
      · rintro δ ⟨x4, rfl⟩
        rw [List.length_map, List.take_length]
        exact hN _ ⟨.d (.int (0 + (j : Int))), .d (.lst ((ordF n (j + 1)).map tupD)), x4, rfl⟩
    · rintro δ ⟨x2, x3, x4, rfl⟩
      exact q
end
end DL

namespace DL
open PySem L2
open SMath50
section
variable {P : Program} {w : World} {K : PySem.W.Frag} {mg : Str → Option Value} {base : Heap} {W : Ad}
/-! ### _law_draws -/
theorem cutD_mem {α : Type} {l : List α} {lo hi : Option Int} {x : α} (h : x ∈ cutD l lo hi) : x ∈ l := List.mem_of_mem_drop (List.mem_of_mem_take h)
def dom__law_draws (ds : List D) : Prop := ∃ (ns : List Int) (m : Nat), ds = [.scr (ns.map D.int), .int m] ∧ ns.length ≤ 63 ∧ m ≤ 1000
def r__law_draws (ds : List D) (d : D) : Prop := ∃ (m : Nat) (l : List Nat), ds[1]? = some (.int (m : Int)) ∧ d = .lst (natsD l) ∧ l.length = m ∧ ∀ x ∈ l, x < 65537
theorem bd_app {l : List Nat} {B n : Nat} (h : ∀ x ∈ l, x < B) (hn : n < B) : ∀ x ∈ l ++ [n], x < B := fun x hx => by
  rcases List.mem_append.mp hx with hx | hx
  · exact h x hx
  · rw [List.mem_singleton.mp hx]; exact hn
theorem ok__law_draws (T : Tx K mg W) (Dd : Df K mg "_law_draws" s__law_draws ["script", "many"]) : Cal P w K mg base CX0 1 "_law_draws" ["script", "many"] (spW K (allR dom__law_draws r__law_draws)) := by
  refine cal_ok Dd sc__law_draws (fun ds Q h => ?_) (fun f cdv A outer s H E hr => 
  (ss_cons (s_own (i := 2) sc__law_draws.nd rfl (.inl rfl) (f_lst a_nil))
  (ss_cons (s_set (i := 3) sc__law_draws.nd rfl (.inl rfl) d_int)
  (ss_cons (s_for PassesOwn.never (i_list (d_slice (qv 0) o_none (o_some d_int.q))) (g_name (i := 4) sc__law_draws.nd rfl (.inl rfl)) (
    (ss_cons (s_set (i := 5) sc__law_draws.nd rfl (.inl rfl) (d_callB c_abs T.n_abs (b_cons (qv 4) b_nil)))
    (ss_cons (s_set (i := 3) sc__law_draws.nd rfl (.inl rfl) (d_op o_mod (d_callT c_int T.n_int (b_cons (d_op (o_add) (d_op (o_add) (d_op (o_mul) (qv 3) d_int.q).q (qv 5)).q d_int.q).q b_nil)).q d_int.q))
    (ss_one (s_if (t_cmp o_ge (qv 5) (d_op o_pow d_int.q d_int.q).q) (
      (ss_one (s_for PassesOwn.never (i_range1 T.n_range d_int.q) (g_name (i := 6) sc__law_draws.nd rfl (.inl rfl)) (
        (ss_one (s_if (t_cmp o_gt (qv 5) d_int.q) (
          (ss_cons (s_append 2 (d_op o_mod (d_callT c_int T.n_int (b_cons (qv 5) b_nil)).q d_int.q))
          (ss_one (s_set (i := 5) sc__law_draws.nd rfl (.inl rfl) (d_op o_div (qv 5) d_int.q))))) (ss_nil))))))) (
      (ss_one (s_append 2 (d_op o_mod (d_op o_div (d_callT c_int T.n_int (b_cons (d_op (o_add) (d_op (o_mul) (qv 3) d_int.q).q d_int.q).q b_nil)).q d_int.q).q d_int.q))))))))))
  (ss_cons (s_for PassesOwn.never (i_range1 T.n_range (qv 1)) (g_name (i := 6) sc__law_draws.nd rfl (.inl rfl)) (
    (ss_one (s_if (t_cmp o_lt (d_callB (c_len) T.n_len (b_cons (qv 2) b_nil)).q (qv 1)) (
      (ss_cons (s_set (i := 3) sc__law_draws.nd rfl (.inl rfl) (d_op o_mod (d_callT c_int T.n_int (b_cons (d_op (o_add) (d_op (o_add) (d_op (o_mul) (qv 3) d_int.q).q (qv 6)).q d_int.q).q b_nil)).q d_int.q))
      (ss_one (s_append 2 (d_op o_mod (d_op o_div (d_callT c_int T.n_int (b_cons (qv 3) b_nil)).q d_int.q).q d_int.q))))) (ss_nil)))))
  (ss_one (s_ret (d_slice (qv 2) o_none (o_some (qv 1)))))))))) (fun ds Q h => ?_)

  · obtain ⟨⟨ns, m, rfl, _⟩, _⟩ := h; rfl
  · obtain ⟨⟨ns, m, rfl, hn, hm⟩, q⟩ := h
    refine loop_inv (fun i δ => ∃ (l : List Nat) (sd : Nat) (x4 x5 x6 : Sl), δ = [.d (.scr (ns.map D.int)), .d (.int m), .own (natsD l), .d (.int (sd : Nat)), x4, x5, x6] ∧ sd < 2147483647 ∧ l.length ≤ 60 * i ∧ ∀ x ∈ l, x < 65537) ⟨[], 7, _, _, _, rfl, by decide, Nat.zero_le _, fun x h => by cases h⟩ ?_ ?_
    · rintro i x δ ex ⟨l, sd, x4, x5, x6, rfl, hsd, hl, hb⟩ N hN
      obtain ⟨z, rfl⟩ : ∃ z, x = .int z := by
        obtain ⟨z, _, rfl⟩ := List.mem_map.mp (cutD_mem (List.mem_of_getElem? ex))
        exact ⟨z, rfl⟩
      have hi : i < 63 := by
        have h1 := (List.getElem?_eq_some_iff.mp ex).1
        have h2 := cutD_len (ns.map D.int) none (some 63)
        rw [List.length_map] at h2
        omega
      obtain ⟨y, hy⟩ : ∃ y : Int, (if z < 0 then -z else z) = y := ⟨_, rfl⟩
      have hy0 : 0 ≤ y := by rw [← hy]; split <;> omega
      obtain ⟨s2, e2, hs2⟩ := mod_nat ((sd : Int) * 48271 + y + 11) (m := 2147483647) (by decide)
      refine ⟨mulR ⟨by decide, by decide⟩, md (by decide), ⟨by decide, by decide, by decide⟩, ?_⟩
      refine yD (fun h => ?_) (fun h => ?_)
      · refine ⟨rgb (by decide) (by decide) (by decide) (by decide) (by decide), loop_rg (n := 60) (fun j δ => ∃ (l' : List Nat) (y' : Int) (x6 : Sl), δ = [.d (.scr (ns.map D.int)), .d (.int m), .own (natsD l'), .d (.int (s2 : Nat)), .d (.int z), .d (.int y'), x6] ∧ l'.length ≤ 60 * i + j ∧ ∀ x ∈ l', x < 65537) rfl ⟨l, y, x6, by rw [← e2, ← hy]; rfl, by omega, hb⟩ ?_ ?_⟩
        · rintro j δ hj ⟨l', y', x6, rfl, hl', hb'⟩ N' hN'
          refine yD (fun _ => ?_) (fun _ => hN' _ ⟨l', y', .d (.int (0 + (j : Int))), rfl, by omega, hb'⟩)
          obtain ⟨n, e, en⟩ := mod_nat y' (m := 1009) (by decide)
          refine ⟨md (by decide), lt_lim (by rw [natsD_len]; omega), divS (by decide) (by decide), hN' _ ⟨l' ++ [n], y' / 1009, .d (.int (0 + (j : Int))), ?_, by rw [List.length_append, List.length_singleton]; omega, bd_app hb' (by omega)⟩⟩
          rw [natsD_app, ← e]; rfl
        · rintro δ ⟨l', y', x6, rfl, hl', hb'⟩
          exact hN _ ⟨l', s2, _, _, _, rfl, by omega, by omega, hb'⟩
      · obtain ⟨n, e, en⟩ := mod_nat (((s2 : Int) * 16807 + 5) / 3) (m := 65521) (by decide)
        refine ⟨mulR ⟨by decide, by decide⟩, divS (by decide) (by decide), md (by decide), lt_lim (by rw [natsD_len]; omega), hN _ ⟨l ++ [n], s2, .d (.int z), .d (.int y), x6, ?_, by omega, by rw [List.length_append, List.length_singleton]; omega, bd_app hb (by omega)⟩⟩
        rw [natsD_app, ← e, ← e2, ← hy]; rfl
    · rintro δ ⟨l, sd, x4, x5, x6, rfl, hsd, hl, hb⟩
      have hl2 : l.length ≤ 60 * 63 := by
        have h2 := cutD_len (ns.map D.int) none (some 63)
        rw [List.length_map] at h2
        omega
      refine ⟨rgb (by decide) (by decide) (by omega) (by omega) (by omega), loop_rg (n := m) (fun j δ => ∃ (l' : List Nat) (sd : Nat) (x6 : Sl), δ = [.d (.scr (ns.map D.int)), .d (.int m), .own (natsD l'), .d (.int (sd : Nat)), x4, x5, x6] ∧ sd < 2147483647 ∧ l'.length ≤ 60 * 63 + j ∧ j ≤ l'.length ∧ ∀ x ∈ l', x < 65537) (by omega) ⟨l, sd, x6, rfl, hsd, by omega, Nat.zero_le _, hb⟩ ?_ ?_⟩
      · rintro j δ hj ⟨l', sd, x6, rfl, hsd, hl', hj', hb'⟩ N' hN'
        refine yD (fun hc => ?_) (fun hc => hN' _ ⟨l', sd, .d (.int (0 + (j : Int))), rfl, hsd, by omega, ?_, hb'⟩)
        · obtain ⟨s2, e2, hs2⟩ := mod_nat ((sd : Int) * 69621 + (0 + (j : Int)) + 1) (m := 2147483647) (by decide)
          obtain ⟨n, e, en⟩ := mod_nat ((s2 : Int) / 7) (m := 65521) (by decide)
          refine ⟨mulR ⟨by decide, by decide⟩, md (by decide), divS (by decide) (by decide), md (by decide), lt_lim (by rw [natsD_len]; omega), hN' _ ⟨l' ++ [n], s2, .d (.int (0 + (j : Int))), ?_, by omega, by rw [List.length_append, List.length_singleton]; omega, by rw [List.length_append, List.length_singleton]; omega, bd_app hb' (by omega)⟩⟩
          rw [natsD_app, ← e, ← e2]; rfl
        · have : ¬ (((natsD l').length : Int) < (m : Int)) := hc
          rw [natsD_len] at this
          omega
      · rintro δ ⟨l', sd, x6, rfl, hsd, hl', hj', hb'⟩
        refine q _ ⟨m, l'.take m, rfl, ?_, by rw [List.length_take]; omega, fun x hx => hb' x (List.mem_of_mem_take hx)⟩
        have : cutD (natsD l') none (some (m : Int)) = natsD (l'.take m) := by
          unfold cutD natsD
          rw [HT.sIx_none, HT.sIx_nat, List.drop_zero, List.length_map, Nat.min_eq_left hj', Nat.sub_zero, List.map_take]
        show D.lst (cutD (natsD l') none (some (m : Int))) = _
        rw [this]
end
end DL

namespace DL
open PySem L2
open SMath50
section
variable {P : Program} {w : World} {K : PySem.W.Frag} {mg : Str → Option Value} {base : Heap} {W : Ad}
/-! ### _law_cycles -/
theorem lensF_app (p : List Nat) (n s : Nat) : ∀ (L S : List Nat), lensF p n (L ++ [s]) S = lensF p n L S ++ (if (walkF p n (seenF p n L S) s).length = 0 then [] else [(walkF p n (seenF p n L S) s).length])
  | [], S => by show _ ++ [] = [] ++ _; rw [List.append_nil, List.nil_append]; rfl
  | t :: L, S => by
    show _ ++ lensF p n (L ++ [s]) _ = (_ ++ lensF p n L _) ++ _
    rw [lensF_app p n s L, List.append_assoc]; rfl
theorem seenF_app (p : List Nat) (n s : Nat) : ∀ (L S : List Nat), seenF p n (L ++ [s]) S = seenF p n L S ++ walkF p n (seenF p n L S) s
  | [], S => rfl
  | t :: L, S => seenF_app p n s L _
def upN (n : Nat) : List Nat := (List.range n).map (· + 1)
theorem upN_s (n : Nat) : upN (n + 1) = upN n ++ [n + 1] := by unfold upN; rw [List.range_succ, List.map_append]; rfl
structure Desc (R l : List Nat) : Prop where
  pm : R.Perm l
  ord : R.Pairwise (· ≥ ·)
theorem desc_eq {R R' l l' : List Nat} (h : Desc R l) (h' : Desc R' l') (e : l.Perm l') : R = R' :=
  (h.pm.trans (e.trans h'.pm.symm)).eq_of_pairwise (fun x y _ _ h3 h4 => by omega) h.ord h'.ord
theorem walk_len (p : List Nat) : ∀ f S x, (walkF p f S x).length ≤ f
  | 0, _, _ => Nat.le_refl _
  | f + 1, S, x => by
    unfold walkF
    split
    · exact Nat.zero_le _
    · rw [List.length_cons]; exact Nat.succ_le_succ (walk_len p f _ _)
def r__law_cycles (ds : List D) (d : D) : Prop := ∃ p R : List Nat, ds = [.tup (natsD p)] ∧ p.length ≤ 20 ∧ Pm p.length p ∧ Desc R (lensF p p.length (upN p.length) []) ∧ d = .tup (natsD R)
theorem lens_le (p : List Nat) (n : Nat) : ∀ L S, (lensF p n L S).length ≤ L.length
  | [], _ => Nat.le_refl _
  | s :: L, S => by
    show (_ ++ lensF p n L _).length ≤ L.length + 1
    rw [List.length_append]
    have := lens_le p n L (S ++ walkF p n S s)
    split <;> simp <;> omega
theorem seen_le (p : List Nat) (n : Nat) : ∀ L S, (seenF p n L S).length ≤ S.length + L.length * n
  | [], S => by show S.length ≤ _; omega
  | s :: L, S => by
    have h := seen_le p n L (S ++ walkF p n S s)
    have h2 := walk_len p n S s
    rw [List.length_append] at h
    show (seenF p n L _).length ≤ S.length + (L.length + 1) * n
    rw [Nat.add_mul]
    omega
theorem ok__law_cycles (T : Tx K mg W) (Dd : Df K mg "_law_cycles" s__law_cycles ["images"]) : Cal P w K mg base CX0 1 "_law_cycles" ["images"] (spW K (relR r__law_cycles)) := by
  refine cal_ok Dd sc__law_cycles (fun ds Q h => ?_) (fun f cdv A outer s H E hr => 
  (ss_cons (s_parOO (i := 1) (j := 2) sc__law_cycles.nd rfl rfl (f_lst a_nil) (f_lst a_nil))
  (ss_cons (s_for PassesOwn.never (i_range2 T.n_range d_int.q (d_op (o_add) (d_callB (c_len) T.n_len (b_cons (qv 0) b_nil)).q d_int.q).q) (g_name (i := 3) sc__law_cycles.nd rfl (.inl rfl)) (
    (ss_cons (s_par (i := 4) (j := 5) sc__law_cycles.nd rfl rfl d_int (dv 3))
    (ss_cons (s_for PassesOwn.never (i_range1 T.n_range (d_callB (c_len) T.n_len (b_cons (qv 0) b_nil)).q) (g_name (i := 6) sc__law_cycles.nd rfl (.inl rfl)) (
      (ss_one (s_if (t_cmp (o_notIn) (qv 5) (qv 2)) (
        (ss_cons (s_append 2 (dv 5))
        (ss_one (s_par (i := 5) (j := 4) sc__law_cycles.nd rfl rfl (d_ix (qv 0) (d_op o_sub (qv 5) d_int.q).q) (d_op (o_add) (qv 4) d_int.q))))) (ss_nil)))))
    (ss_one (s_if (t_cmp o_gt (qv 4) d_int.q) (
      (ss_one (s_append 1 (dv 4)))) (ss_nil)))))))
  (ss_one (s_ret (d_callT c_tuple T.n_tuple (b_cons (f_rev (f_callB c_sortedA T.n_sorted (b_cons (qv 1) b_nil)).p.q).p.q b_nil))))))) (fun ds Q h => ?_)

  · obtain ⟨d, ⟨p, R, rfl, _⟩, _⟩ := h; rfl
  · obtain ⟨d, ⟨p, R, rfl, hn, hp, hR, rfl⟩, q⟩ := h
    have ln : (natsD p).length = p.length := natsD_len p
    refine ⟨rgb (by decide) (by decide) (by rw [ln]; omega) (by rw [ln]; omega) (by rw [ln]; omega), loop_rg (n := p.length) (fun i δ => ∃ x3 x4 x5 x6 : Sl, δ = [.d (.tup (natsD p)), .own (natsD (lensF p p.length (upN i) [])), .own (natsD (seenF p p.length (upN i) [])), x3, x4, x5, x6]) (by rw [ln]; omega) ⟨.no, .no, .no, .no, rfl⟩ ?_ ?_⟩
    · rintro i δ hi ⟨x3, x4, x5, x6, rfl⟩ N hN
      generalize hS : seenF p p.length (upN i) [] = S
      have hSl : S.length ≤ 400 := by
        have := seen_le p p.length (upN i) []
        rw [hS] at this
        have u : (upN i).length ≤ 20 := by unfold upN; rw [List.length_map, List.length_range]; omega
        have : (upN i).length * p.length ≤ 20 * 20 := Nat.mul_le_mul u hn
        simp at *
        omega
      refine ⟨rgb (by decide) (by decide) (by rw [ln]; omega) (by rw [ln]; omega) (by rw [ln]; omega), loop_rg (n := p.length) (fun t δ => ∃ (A : List Nat) (here : Nat) (x6 : Sl), δ = [.d (.tup (natsD p)), .own (natsD (lensF p p.length (upN i) [])), .own (natsD (S ++ A)), .d (.int (1 + (i : Int))), .d (.int (A.length : Nat)), .d (.int (here : Nat)), x6] ∧ 1 ≤ here ∧ here ≤ p.length ∧ A.length ≤ t ∧ walkF p p.length S (i + 1) = A ++ walkF p (p.length - t) (S ++ A) here) (by rw [ln]; omega) ⟨[], i + 1, x6, by rw [List.append_nil]; rw [show ((i + 1 : Nat) : Int) = 1 + (i : Int) by omega]; rfl, by omega, by omega, Nat.le_refl _, by rw [List.append_nil]; rfl⟩ ?_ ?_⟩
      · rintro t δ ht ⟨A, here, x6, rfl, h1, h2, h3, h4⟩ N2 hN2
        obtain ⟨f, hf⟩ : ∃ f, p.length - t = f + 1 := ⟨p.length - t - 1, by omega⟩
        have hf2 : p.length - (t + 1) = f := by omega
        refine ⟨⟨rfl, flat_nats _⟩, yNB (fun h => ?_) (fun h => ?_)⟩
        · rw [inD_nats] at h
          refine ⟨lt_lim (by rw [natsD_len, List.length_append]; omega), ?_⟩
          obtain ⟨h', rfl⟩ : ∃ h', here = h' + 1 := ⟨here - 1, by omega⟩
          have eg : (natsD p)[h']? = some (.int (nx p (h' + 1) : Nat)) := natsD_get (by
            show p[h']? = some (p.getD (h' + 1 - 1) 0)
            rw [Nat.add_sub_cancel, List.getD_eq_getElem?_getD, List.getElem?_eq_getElem (by omega)]; rfl)
          show onSome (ixD (natsD p) (((h' + 1 : Nat) : Int) - 1)) _
          rw [show ((h' + 1 : Nat) : Int) - 1 = (h' : Int) by omega]
          refine onSome_of eg (hN2 _ ⟨A ++ [h' + 1], nx p (h' + 1), .d (.int (0 + (t : Int))), ?_, (hp.dom _ h1 h2).1, (hp.dom _ h1 h2).2, by rw [List.length_append, List.length_singleton]; omega, ?_⟩)
          · rw [← List.append_assoc, natsD_app, List.length_append]; rfl
          · rw [h4, hf, hf2]
            conv => lhs; unfold walkF
            rw [if_neg (by rw [h]; exact Bool.false_ne_true), ← List.append_assoc, List.append_assoc (bs := [h' + 1])]; rfl
        · rw [inD_nats] at h
          have m := List.contains_iff_mem.mp h
          refine hN2 _ ⟨A, here, .d (.int (0 + (t : Int))), rfl, h1, h2, by omega, ?_⟩
          rw [h4, walk_in m, walk_in m]
      · rintro δ ⟨A, here, x6, rfl, h1, h2, h3, h4⟩
        rw [Nat.sub_self] at h4
        have h5 : walkF p p.length S (i + 1) = A := by rw [h4]; exact List.append_nil A
        have e1 : lensF p p.length (upN (i + 1)) [] = lensF p p.length (upN i) [] ++ (if A.length = 0 then [] else [A.length]) := by rw [upN_s, lensF_app, hS, h5]
        have e2 : seenF p p.length (upN (i + 1)) [] = S ++ A := by rw [upN_s, seenF_app, hS, h5]
        have fl := lens_le p p.length (upN i) []
        have u : (upN i).length ≤ 20 := by unfold upN; rw [List.length_map, List.length_range]; omega
        refine yD (fun h => ?_) (fun h => ?_)
        · refine ⟨lt_lim (by rw [natsD_len]; omega), hN _ ⟨.d (.int (1 + (i : Int))), .d (.int (A.length : Nat)), .d (.int (here : Nat)), x6, ?_⟩⟩
          have : ¬ A.length = 0 := by
            have h : (0 : Int) < (A.length : Int) := h
            omega
          rw [e1, e2, if_neg this, natsD_app]; rfl
        · refine hN _ ⟨.d (.int (1 + (i : Int))), .d (.int (A.length : Nat)), .d (.int (here : Nat)), x6, ?_⟩
          have : A.length = 0 := by
            have h : ¬ (0 : Int) < (A.length : Int) := h
            omega
          rw [e1, e2, if_pos this, List.append_nil]
    · rintro δ ⟨x3, x4, x5, x6, rfl⟩
      refine ⟨zs (lensF p p.length (upN p.length) []), natsD_i _, fun ns' w1 w2 => ?_⟩
      have e : ns' = (zs R).reverse := by
        refine sorted_eq (w1.trans ?_) w2 ?_
        · exact ((hR.pm.map _).symm).trans (List.reverse_perm _).symm
        · rw [List.pairwise_reverse]
          unfold zs
          rw [List.pairwise_map]
          exact hR.ord.imp fun h => by omega
      show Q (.tup (ns'.map D.int).reverse)
      rw [e, ← List.map_reverse, List.reverse_reverse, ← natsD_i]
      exact q
end
end DL

namespace DL
open PySem L2
open SMath50
section
variable {P : Program} {w : World} {K : PySem.W.Frag} {mg : Str → Option Value} {base : Heap} {W : Ad}
/-! ### shape_of -/
def keysT (T : List Nat) : List L2.Key := T.map fun (x : Nat) => (Sum.inl (x : Int) : L2.Key)
def valsT (T : List Nat) : List D := T.map fun _ => D.bl true
theorem hasK_T (x : Nat) : ∀ T : List Nat, hasK (keysT T) (.inl (x : Int)) = T.contains x
  | [] => rfl
  | y :: T => by
    show (decide ((Sum.inl (y : Int) : L2.Key) = Sum.inl (x : Int)) || hasK (keysT T) (.inl (x : Int))) = _
    rw [hasK_T x T, List.contains_cons]
    congr 1
    by_cases h : x = y
    · subst h; rw [decide_eq_true rfl, beq_self_eq_true]
    · rw [decide_eq_false (fun z => h (by injection z with z; omega)), beq_eq_false_iff_ne.mpr h]
theorem keysT_s {T : List Nat} {x : Nat} (h : T.contains x = false) : dKs (keysT T) (.inl (x : Int)) = keysT (T ++ [x]) := by
  unfold dKs
  rw [hasK_T, h, if_neg Bool.false_ne_true]
  unfold keysT
  rw [List.map_append]; rfl
theorem valsT_s {T : List Nat} {x : Nat} (h : T.contains x = false) : dVs (keysT T) (valsT T) (.inl (x : Int)) (.bl true) = valsT (T ++ [x]) := by
  unfold dVs
  rw [hasK_T, h, if_neg Bool.false_ne_true]
  unfold valsT
  rw [List.map_append]; rfl
def r_shape_of (W : Ad) (ds : List D) (o : Out) : Prop :=
  (∃ p R : List Nat, ds = [.tup (natsD p)] ∧ p.length ≤ 20 ∧ PermP (zs p) ∧ Pm p.length p ∧ (∀ s ∈ p, 1 ≤ s ∧ s ≤ p.length) ∧ Desc R (lensF p p.length p []) ∧ o = .ret (.ptp (natsD R))) ∨
  ∃ ns : List Int, ds = [.tup (ns.map D.int)] ∧ ns.length ≤ 1000 ∧ ¬ PermP ns ∧ o = .exc W.cBadShape
theorem ok_shape_of (T : Tx K mg W) (Dd : Df K mg "shape_of" s_shape_of ["images"]) (C__check_permutation : Cal P w K mg base (L2.CX P w) 2 "_check_permutation" ["images"] (spX K (relX (r__check_permutation W)))) : Cal P w K mg base (L2.CX P w) 3 "shape_of" ["images"] (spX K (relX (r_shape_of W))) := by
  refine cal_okX Dd sc_shape_of (fun ds Q Z h => ?_) (fun f cdv A outer s H E hr => 
  (ss_cons (s_exprX (x_call C__check_permutation relX_mono (hr.mono (by decide)) (takes_of rfl rfl rfl rfl) (a_cons (dv 0) a_nil)))
  (ss_cons (s_own (i := 1) sc_shape_of.nd rfl (.inl rfl) (f_lst a_nil))
  (ss_cons (s_newD (i := 2) sc_shape_of.nd rfl (.inl rfl))
  (ss_cons (s_for (passes_of rfl) (i_tup (dv 0)) (g_name (i := 3) sc_shape_of.nd rfl (.inl rfl)) (
    (ss_cons (s_set (i := 4) sc_shape_of.nd rfl (.inl rfl) d_int)
    (ss_cons (s_set (i := 5) sc_shape_of.nd rfl (.inl rfl) (dv 3))
    (ss_cons (s_while (passes_of rfl) (t_dnin (qv 5) (qv 2) (hu64 hr)) (
      (ss_cons (s_dput 2 (hu64 hr) (qv 5) d_bl)
      (ss_cons (s_aug (i := 4) sc_shape_of.nd rfl (.inl rfl) d_int.q ip_add)
      (ss_one (s_set (i := 5) sc_shape_of.nd rfl (.inl rfl) (d_ix (qv 0) (d_op o_sub (qv 5) d_int.q).q)))))))
    (ss_one (s_if (t_cmp o_gt (qv 4) d_int.q) (
      (ss_one (s_append 1 (dv 4)))) (ss_nil))))))))
  (ss_one (s_ret (d_callT c_tupleP T.n_tuple (b_cons (f_sortedRev T.n_sorted (qv 1)).p.q b_nil))))))))) (fun ds Q Z h => ?_)

  · obtain ⟨o, ⟨p, R, rfl, _⟩ | ⟨ns, rfl, _⟩, _⟩ := h <;> rfl
  · obtain ⟨o, ⟨p, R, rfl, hn, hP, hp, hd, hR, rfl⟩ | ⟨ns, rfl, hn, hk, rfl⟩, q⟩ := h
    · have ln : (natsD p).length = p.length := natsD_len p
      refine ⟨.ret .non, ⟨zs p, by rw [natsD_i], by unfold zs; rw [List.length_map]; omega, .inl ⟨hP, rfl⟩⟩, ?_⟩
      refine loop_inv (fun i δ => ∃ x3 x4 x5 : Sl, δ = [.d (.tup (natsD p)), .own (natsD (lensF p p.length (p.take i) [])), .owk (keysT (seenF p p.length (p.take i) [])) (valsT (seenF p p.length (p.take i) [])), x3, x4, x5]) ⟨.no, .no, .no, rfl⟩ ?_ ?_
      · rintro i x δ ex ⟨x3, x4, x5, rfl⟩ N hN
        obtain ⟨s, es, rfl⟩ := natsD_of ex
        have hi : i < p.length := (List.getElem?_eq_some_iff.mp es).1
        have hs := hd s (List.mem_of_getElem? es)
        have tk : p.take (i + 1) = p.take i ++ [s] := by rw [List.take_add_one, es]; rfl
        generalize hS : seenF p p.length (p.take i) [] = S
        have hSl : S.length ≤ 400 := by
          have := seen_le p p.length (p.take i) []
          rw [hS] at this
          have u : (p.take i).length ≤ 20 := by rw [List.length_take]; omega
          have : (p.take i).length * p.length ≤ 20 * 20 := Nat.mul_le_mul u hn
          simp at *
          omega
        refine ⟨fun f δ => ∃ (A : List Nat) (num : Nat), δ = [.d (.tup (natsD p)), .own (natsD (lensF p p.length (p.take i) [])), .owk (keysT (S ++ A)) (valsT (S ++ A)), .d (.int (s : Nat)), .d (.int (A.length : Nat)), .d (.int (num : Nat))] ∧ 1 ≤ num ∧ num ≤ p.length ∧ A.length + f = p.length ∧ un p.length (S ++ A) ≤ f ∧ walkF p p.length S s = A ++ walkF p f (S ++ A) num, ⟨p.length, [], s, by rw [List.append_nil]; rfl, hs.1, hs.2, by simp, ?_, by rw [List.append_nil]; rfl⟩, ?_⟩
        · unfold un
          exact Nat.le_trans List.countP_le_length (by rw [List.length_range]; exact Nat.le_refl _)
        · rintro f δ ⟨A, num, rfl, h1, h2, h3, h4, h5⟩
          show ite ((!hasK (keysT (S ++ A)) (.inl (num : Int))) = true) _ _
          rw [hasK_T]
          refine yNB (fun h => ?_) (fun h => ?_)
          · have m : ¬ num ∈ S ++ A := fun z => by rw [List.contains_iff_mem.mpr z] at h; cases h
            have u := un_lt h1 h2 m
            obtain ⟨f', rfl⟩ : ∃ f', f = f' + 1 := ⟨f - 1, by omega⟩
            refine ⟨lt_lim (by unfold keysT; rw [List.length_map, List.length_append]; omega), ?_⟩
            obtain ⟨h', rfl⟩ : ∃ h', num = h' + 1 := ⟨num - 1, by omega⟩
            have eg : (natsD p)[h']? = some (.int (nx p (h' + 1) : Nat)) := natsD_get (by
              show p[h']? = some (p.getD (h' + 1 - 1) 0)
              rw [Nat.add_sub_cancel, List.getD_eq_getElem?_getD, List.getElem?_eq_getElem (by omega)]; rfl)
            show onSome (ixD (natsD p) (((h' + 1 : Nat) : Int) - 1)) _
            rw [show ((h' + 1 : Nat) : Int) - 1 = (h' : Int) by omega]
            refine onSome_of eg ⟨f', by omega, A ++ [h' + 1], nx p (h' + 1), ?_, (hp.dom _ h1 h2).1, (hp.dom _ h1 h2).2, by rw [List.length_append, List.length_singleton]; omega, by rw [← List.append_assoc]; omega, ?_⟩
            · rw [← List.append_assoc, ← keysT_s h, ← valsT_s h, List.length_append]; rfl
            · rw [h5]
              conv => lhs; unfold walkF
              rw [if_neg (by rw [h]; exact Bool.false_ne_true), ← List.append_assoc, List.append_assoc (bs := [h' + 1])]; rfl
          · have m := List.contains_iff_mem.mp h
            rw [walk_in m, List.append_nil] at h5
            have e1 : lensF p p.length (p.take (i + 1)) [] = lensF p p.length (p.take i) [] ++ (if A.length = 0 then [] else [A.length]) := by rw [tk, lensF_app, hS, h5]
            have e2 : seenF p p.length (p.take (i + 1)) [] = S ++ A := by rw [tk, seenF_app, hS, h5]
            have fl := lens_le p p.length (p.take i) []
            rw [List.length_take] at fl
            refine yD (fun h => ?_) (fun h => ?_)
            · refine ⟨lt_lim (by rw [natsD_len]; omega), hN _ ⟨.d (.int (s : Nat)), .d (.int (A.length : Nat)), .d (.int (num : Nat)), ?_⟩⟩
              have : ¬ A.length = 0 := by
                have h : (0 : Int) < (A.length : Int) := h
                omega
              rw [e1, e2, if_neg this, natsD_app]; rfl
            · refine hN _ ⟨.d (.int (s : Nat)), .d (.int (A.length : Nat)), .d (.int (num : Nat)), ?_⟩
              have : A.length = 0 := by
                have h : ¬ (0 : Int) < (A.length : Int) := h
                omega
              rw [e1, e2, if_pos this, List.append_nil]
      · rintro δ ⟨x3, x4, x5, rfl⟩
        refine ⟨zs (lensF p p.length p []), by rw [ln, List.take_length]; exact natsD_i _, fun ns' w1 w2 => ?_⟩
        have e : ns' = zs R := by
          refine (w1.trans ((hR.pm.map _).symm)).eq_of_pairwise (fun x y _ _ h3 h4 => by omega) w2 ?_
          unfold zs
          rw [List.pairwise_map]
          exact hR.ord.imp fun h => by omega
        show Q (.ptp (ns'.map D.int))
        rw [e, ← natsD_i]
        exact q
    · exact ⟨.exc W.cBadShape, ⟨ns, rfl, hn, .inr ⟨hk, rfl⟩⟩, q⟩
end
end DL

namespace DL
open PySem L2
open SMath50
section
variable {P : Program} {w : World} {K : PySem.W.Frag} {mg : Str → Option Value} {base : Heap} {W : Ad}
/-! ### _law_refused -/
theorem perm1 : PermP (zs [1]) := ⟨by decide, List.Perm.refl _⟩
theorem pm1 : Pm [1].length [1] := ⟨fun x h1 h2 => by obtain rfl : x = 1 := by (simp at h2; omega)
                                                      exact ⟨by decide, by decide⟩, fun x y h1 h2 h3 h4 _ => by simp at h2 h4; omega⟩
def r__law_refused (ds : List D) (d : D) : Prop :=
  (∃ i : Int, ds = [.str "shapes", .int i] ∧ okNn (.int i) = false ∧ d = .bl true) ∨
  (∃ ns : List Int, ds = [.str "of", .tup (ns.map D.int)] ∧ ns.length ≤ 1000 ∧ ¬ PermP ns ∧ d = .bl true) ∨
  (ds = [.str "of", .tup [.int 1]] ∧ d = .bl false) ∨
  ∃ ns : List Int, ds = [.str "weight", .tup (ns.map D.int)] ∧ ns.length ≤ 1000 ∧ (okS ns = false ∨ okS ns = true ∧ 20 < ns.sum) ∧ d = .bl true
theorem e_ss : eqD (.str "shapes") (.str "shapes") = true := rfl
theorem e_os : eqD (.str "of") (.str "shapes") = false := rfl
theorem e_oo : eqD (.str "of") (.str "of") = true := rfl
theorem e_ws : eqD (.str "weight") (.str "shapes") = false := rfl
theorem e_wo : eqD (.str "weight") (.str "of") = false := rfl
theorem oEq_str {a b : Str} {r : Bool} {Q : D → Prop} (e : eqD (.str a) (.str b) = r) (h1 : okD (.str a) = true) (h2 : okD (.str b) = true) (q : Q (.bl r)) : oEq (.str a) (.str b) Q := ⟨⟨h1, h2⟩, by rw [e]; exact q⟩
theorem ok__law_refused (T : Tx K mg W) (Dd : Df K mg "_law_refused" s__law_refused ["word", "value"]) (E : Ex K W) (C_shapes : Cal P w K mg base (L2.CX P w) 23 "shapes" ["n"] (spX K (relX (r_shapes W)))) (C_shape_of : Cal P w K mg base (L2.CX P w) 3 "shape_of" ["images"] (spX K (relX (r_shape_of W)))) (C_weight : Cal P w K mg base (L2.CX P w) 3 "weight" ["shape"] (spX K (relX (r_weight W)))) : Cal P w K mg base CX0 24 "_law_refused" ["word", "value"] (spW K (relR r__law_refused)) := by
  refine cal_ok Dd sc__law_refused (fun ds Q h => ?_) (fun f cdv A outer s H E hr => 
  (ss_cons (s_tryIf (i := 2) T.g_SpeciesError sc__law_refused.nd (fun pn xe => (t_cmp (o_eq (hu64 hr)) (qv 0) d_str.q)) (fun pn xe => (t_cmp (o_eq (hu64 hr)) (qv 0) d_str.q)) (fun W' pn xe tk => xw_call C_shapes relX_mono (hr.mono (by decide)) tk (a_cons (dv 1) a_nil)) (fun W' pn xe tk => xw_call C_shape_of relX_mono (hr.mono (by decide)) tk (a_cons (dv 1) a_nil)) (fun W' pn xe tk => xw_call C_weight relX_mono (hr.mono (by decide)) tk (a_cons (dv 1) a_nil)) (is_c rfl T.n_isinstance T.e_BadShape.g) (is_t (T := "ValueError") rfl T.n_isinstance T.n_ValueError) rfl (hc := ⟨rfl, by decide, .inl T.g_SpeciesError⟩))
  (ss_one (s_ret d_bl)))) (fun ds Q h => ?_)

  · obtain ⟨d, ⟨i, rfl, _⟩ | ⟨ns, rfl, _⟩ | ⟨rfl, _⟩ | ⟨ns, rfl, _⟩, _⟩ := h <;> rfl
  · have hd : ∀ {b : Bool} {R : Prop}, R → R := fun r => r
    obtain ⟨d, ⟨i, rfl, hi, rfl⟩ | ⟨ns, rfl, hn, hk, rfl⟩ | ⟨rfl, rfl⟩ | ⟨ns, rfl, hn, hk, rfl⟩, q⟩ := h
    · refine oEq_str e_ss (by decide +kernel) (by decide +kernel) ?_
      exact ⟨.exc W.cBadShape, .inr ⟨.int i, rfl, rfl, hi, rfl⟩, E.x_BadShape, ⟨_, _, rfl⟩, _, E.is_BadShape_BadShape, _, E.v_BadShape, q⟩
    · refine oEq_str e_os (by decide +kernel) (by decide +kernel) (oEq_str e_oo (by decide +kernel) (by decide +kernel) ?_)
      exact ⟨.exc W.cBadShape, .inr ⟨ns, rfl, hn, hk, rfl⟩, E.x_BadShape, ⟨_, _, rfl⟩, _, E.is_BadShape_BadShape, _, E.v_BadShape, q⟩
    · refine oEq_str e_os (by decide +kernel) (by decide +kernel) (oEq_str e_oo (by decide +kernel) (by decide +kernel) ?_)
      exact ⟨.ret (.ptp (natsD [1])), .inl ⟨[1], [1], rfl, by decide, perm1, pm1, by simp, ⟨List.Perm.refl _, by simp⟩, rfl⟩, q⟩
    · refine oEq_str e_ws (by decide +kernel) (by decide +kernel) (oEq_str e_wo (by decide +kernel) (by decide +kernel) ?_)
      exact ⟨.exc W.cBadShape, .inr ⟨ns, rfl, hn, hk, rfl⟩, E.x_BadShape, ⟨_, _, rfl⟩, _, E.is_BadShape_BadShape, _, E.v_BadShape, q⟩
end
end DL

namespace DL
open PySem L2
open SMath50
/-! ### for the law -/
def insD (x : Nat) : List Nat → List Nat
  | [] => [x]
  | y :: l => if y ≤ x then x :: y :: l else y :: insD x l
def isD : List Nat → List Nat
  | [] => []
  | x :: l => insD x (isD l)
theorem insD_perm (x : Nat) : ∀ l, (insD x l).Perm (x :: l)
  | [] => List.Perm.refl _
  | y :: l => by
    unfold insD
    split
    · exact List.Perm.refl _
    · exact ((insD_perm x l).cons y).trans (List.Perm.swap x y l)
theorem insD_ord (x : Nat) : ∀ l : List Nat, l.Pairwise (· ≥ ·) → (insD x l).Pairwise (· ≥ ·)
  | [], _ => by unfold insD; simp
  | y :: l, h => by
    rw [List.pairwise_cons] at h
    unfold insD
    by_cases c : y ≤ x
    · rw [if_pos c]
      refine List.pairwise_cons.mpr ⟨fun z hz => ?_, List.pairwise_cons.mpr h⟩
      rcases List.mem_cons.mp hz with rfl | hz
      · exact c
      · have := h.1 z hz; show x ≥ z; omega
    · rw [if_neg c]
      refine List.pairwise_cons.mpr ⟨fun z hz => ?_, insD_ord x l h.2⟩
      rcases List.mem_cons.mp ((insD_perm x l).mem_iff.mp hz) with rfl | hz
      · show y ≥ z; omega
      · exact h.1 z hz
theorem isD_desc : ∀ l, Desc (isD l) l
  | [] => ⟨List.Perm.refl _, List.Pairwise.nil⟩
  | x :: l => ⟨(insD_perm x _).trans ((isD_desc l).pm.cons x), insD_ord x _ (isD_desc l).ord⟩
/-- each row of j different ones of 1 to n is among the orders -/
theorem mem_ord {n : Nat} : ∀ (j : Nat) (r : List Nat), r.length = j → r.Nodup → (∀ x ∈ r, 1 ≤ x ∧ x ≤ n) → r ∈ ordF n j
  | 0, r, h, _, _ => by rw [List.length_eq_zero_iff.mp h]; exact List.mem_cons_self
  | j + 1, r, h, nd, hd => by
    have hne : r ≠ [] := fun z => by rw [z] at h; cases h
    have e := (List.dropLast_concat_getLast hne).symm
    generalize hx : r.getLast hne = x at e
    generalize hq : r.dropLast = q at e
    rw [e] at nd hd h
    rw [e]
    obtain ⟨n1, _, n3⟩ := List.nodup_append.mp nd
    have hq2 := mem_ord j q (by simpa using h) n1 fun y hy => hd y (List.mem_append_left _ hy)
    refine List.mem_flatMap.mpr ⟨q, hq2, ?_⟩
    unfold more
    have hxd := hd x (List.mem_append_right _ List.mem_cons_self)
    refine List.mem_map.mpr ⟨x, List.mem_filter.mpr ⟨List.mem_map.mpr ⟨x - 1, List.mem_range.mpr (by omega), by omega⟩, nc.mpr fun z => n3 x z x List.mem_cons_self rfl⟩, rfl⟩
/-- orders that commute -/
def comR (s o : List Nat) : Bool := (o.map fun x => nx s x) == (s.map fun x => nx o x)
def okCom : Bool := (List.range 5).all fun n => (ordF n n).all fun s => decide (wt2 (isD (lensF s n s [])) = ((ordF n n).filter fun o => comR s o).length) && (okS (zs (isD (lensF s n s []))) && decide ((isD (lensF s n s [])).length ≤ 20) && decide ((zs (isD (lensF s n s []))).sum ≤ 20) && (isD (lensF s n s [])).all fun x => decide (x ≤ 20))
theorem okCom_t : okCom = true := by decide +kernel
def okRow : Bool := (List.range 21).all fun n => decide ((((rw2 n n).map fun s => fct n / wt2 s).foldl (· + ·) 0) = fct n) && (rw2 n n).all fun r => okS (zs r) && decide (r.length ≤ 20) && decide ((zs r).sum ≤ 20) && decide (0 < wt2 r) && r.all fun x => decide (x ≤ 20)
theorem okRow_t : okRow = true := by decide +kernel
theorem upN_mem {n x : Nat} : x ∈ upN n ↔ 1 ≤ x ∧ x ≤ n := by
  unfold upN
  rw [List.mem_map]
  constructor
  · rintro ⟨i, h, rfl⟩; have := List.mem_range.mp h; omega
  · rintro ⟨h1, h2⟩; exact ⟨x - 1, List.mem_range.mpr (by omega), by omega⟩
theorem upN_nd (n : Nat) : (upN n).Nodup := by
  unfold upN
  refine List.Pairwise.map _ ?_ (List.nodup_range (n := n))
  intro a b h z
  exact h (by omega)
theorem zs_up (n : Nat) : zs (upN n) = oneTo n := by
  unfold zs upN oneTo
  rw [List.map_map]
  refine List.map_congr_left fun i _ => ?_
  show ((i + 1 : Nat) : Int) = 1 + (i : Int)
  omega
/-- a permutation of 1 to n -/
theorem pm_of {p : List Nat} (h : p.Perm (upN p.length)) (hl : p.length ≤ 20) : Pm p.length p ∧ PermP (zs p) ∧ ∀ s, s ∈ p ↔ 1 ≤ s ∧ s ≤ p.length := by
  have mem : ∀ s, s ∈ p ↔ 1 ≤ s ∧ s ≤ p.length := fun s => h.mem_iff.trans upN_mem
  have nd : p.Nodup := h.nodup_iff.mpr (upN_nd _)
  have get : ∀ x, (h1 : 1 ≤ x) → (hx : x ≤ p.length) → nx p x = p[x - 1]'(by omega) := fun x h1 hx => by
    show p.getD (x - 1) 0 = _
    rw [List.getD_eq_getElem?_getD, List.getElem?_eq_getElem (by omega)]; rfl
  refine ⟨⟨fun x h1 h2 => ?_, fun x y h1 h2 h3 h4 e => ?_⟩, ?_, mem⟩
  · rw [get x h1 h2]
    exact (mem _).mp (List.getElem_mem _)
  · rw [get x h1 h2, get y h3 h4] at e
    have q := List.pairwise_iff_getElem.mp nd
    rcases Nat.lt_trichotomy (x - 1) (y - 1) with c | c | c
    · exact absurd e (q _ _ (by omega) (by omega) c)
    · omega
    · exact absurd e.symm (q _ _ (by omega) (by omega) c)
  · have lz : (zs p).length = p.length := by unfold zs; rw [List.length_map]
    refine ⟨by rw [lz]; exact hl, ?_⟩
    rw [lz, ← zs_up]
    exact h.map _
end DL

namespace DL
open PySem L2
open SMath50
/-! ### lists of rows compared -/
theorem row_ok (r : List Nat) : isDat (tupD r) = true ∧ PyData.canLay0 (toP (tupD r)) = true ∧ PyData.depth (toP (tupD r)) ≤ 1 := by
  obtain ⟨h1, h2, h3⟩ := canLay_ints (natsD r) fun d hd => by
    obtain ⟨n, _, rfl⟩ := List.mem_map.mp hd
    exact ⟨n, rfl⟩
  refine ⟨h1, ?_, ?_⟩
  · show PyData.canLay0 (.tuple (toPs (natsD r))) = true
    unfold PyData.canLay0
    exact h2
  · show PyData.depth (.tuple (toPs (natsD r))) ≤ 1
    unfold PyData.depth
    rw [h3]
    exact Nat.le_refl _
theorem rows_ok : ∀ L : List (List Nat), isDats (L.map tupD) = true ∧ PyData.canLayAll0 (toPs (L.map tupD)) = true ∧ PyData.depthAll (toPs (L.map tupD)) ≤ 1
  | [] => ⟨rfl, rfl, Nat.zero_le _⟩
  | r :: L => by
    obtain ⟨h1, h2, h3⟩ := row_ok r
    obtain ⟨g1, g2, g3⟩ := rows_ok L
    refine ⟨?_, ?_, ?_⟩
    · show (isDat (tupD r) && isDats (L.map tupD)) = true
      rw [h1, g1]; rfl
    · show (PyData.canLay0 (toP (tupD r)) && PyData.canLayAll0 (toPs (L.map tupD))) = true
      rw [h2, g2]; rfl
    · show max (PyData.depth (toP (tupD r))) (PyData.depthAll (toPs (L.map tupD))) ≤ 1
      omega
theorem okD_rows (L : List (List Nat)) : okD (.lst (L.map tupD)) = true := by
  obtain ⟨h1, h2, h3⟩ := rows_ok L
  have e : PyData.depth (.list (toPs (L.map tupD))) = PyData.depthAll (toPs (L.map tupD)) + 1 := by unfold PyData.depth; rfl
  have e2 : PyData.canLay0 (.list (toPs (L.map tupD))) = PyData.canLayAll0 (toPs (L.map tupD)) := by unfold PyData.canLay0; rfl
  show (isDats (L.map tupD) && (PyData.canLay0 (.list (toPs (L.map tupD))) && decide (PyData.depth (.list (toPs (L.map tupD))) ≤ 64))) = true
  rw [h1, e, e2, h2, decide_eq_true (by omega)]; rfl
theorem toPs_rows : ∀ L : List (List Nat), toPs (L.map ptpD) = toPs (L.map tupD)
  | [] => rfl
  | r :: L => by
    show toP (ptpD r) :: toPs (L.map ptpD) = toP (tupD r) :: toPs (L.map tupD)
    rw [toPs_rows L]; rfl
theorem isDats_rows : ∀ L : List (List Nat), isDats (L.map ptpD) = isDats (L.map tupD)
  | [] => rfl
  | r :: L => by
    show (isDat (ptpD r) && isDats (L.map ptpD)) = (isDat (tupD r) && isDats (L.map tupD))
    rw [isDats_rows L]; rfl
theorem oNe_rows (L : List (List Nat)) {Q : D → Prop} (q : Q (.bl false)) : oNe (.lst (L.map ptpD)) (.lst (L.map tupD)) Q := by
  have e : toP (.lst (L.map ptpD)) = toP (.lst (L.map tupD)) := congrArg PyData.list (toPs_rows L)
  have k : okD (.lst (L.map ptpD)) = true := by
    have h := okD_rows L
    unfold okD at h ⊢
    rw [e]
    rw [Bool.and_eq_true] at h ⊢
    exact ⟨(isDats_rows L).trans h.1, h.2⟩
  refine ⟨⟨k, okD_rows L⟩, ?_⟩
  have : eqD (.lst (L.map ptpD)) (.lst (L.map tupD)) = true := by
    unfold eqD
    rw [e]
    exact eqD_refl (okD_rows L)
  rw [this]
  exact q
theorem oNe_row (r : List Nat) {Q : D → Prop} (q : Q (.bl false)) : oNe (ptpD r) (tupD r) Q := by
  obtain ⟨h1, h2, h3⟩ := row_ok r
  have k : okD (tupD r) = true := by
    show (isDat (tupD r) && (PyData.canLay0 (toP (tupD r)) && decide (PyData.depth (toP (tupD r)) ≤ 64))) = true
    rw [h1, h2, decide_eq_true (by omega)]; rfl
  have k2 : okD (ptpD r) = true := k
  refine ⟨⟨k2, k⟩, ?_⟩
  have : eqD (ptpD r) (tupD r) = true := eqD_refl k
  rw [this]
  exact q
end DL

namespace DL
open PySem L2
open SMath50
section
variable {P : Program} {w : World} {K : PySem.W.Frag} {mg : Str → Option Value} {base : Heap} {W : Ad}
def r_law (ds : List D) (d : D) : Prop := ∃ ns : List Int, ds = [.scr (ns.map D.int)] ∧ ns.length ≤ 63 ∧ d = .bl true
def rowOf (l : List D) : List Nat := l.map fun d => match d with | .int i => i.toNat | _ => 0
theorem rowOf_nats (r : List Nat) : rowOf (natsD r) = r := by
  unfold rowOf natsD
  rw [List.map_map]
  conv => rhs; rw [← List.map_id r]
  rfl
def quoD (n : Nat) : D → D
  | .ptp l => .int ((fct n / wt2 (rowOf l) : Nat) : Int)
  | d => d
theorem wt2_lt {L : List Nat} (hl : L.length ≤ 20) : wt2 L < 2 ^ 4201 := by
  have h := acc_lt hl (dst L).length
  have e : acc L (dst L).length = wt2 L := by unfold acc wt2; rw [List.take_length]
  rw [e] at h
  have := dst_le L
  exact Nat.lt_of_lt_of_le h (Nat.pow_le_pow_right (by decide) (by omega))
theorem row_t {n : Nat} (hn : n ≤ 20) : (((rw2 n n).map fun s => fct n / wt2 s).foldl (· + ·) 0) = fct n ∧ ∀ r ∈ rw2 n n, okS (zs r) = true ∧ r.length ≤ 20 ∧ (zs r).sum ≤ 20 ∧ 0 < wt2 r ∧ ∀ x ∈ r, x ≤ 20 := by
  have h := okRow_t
  unfold okRow at h
  rw [List.all_eq_true] at h
  have h := h n (List.mem_range.mpr (by omega))
  rw [Bool.and_eq_true, List.all_eq_true] at h
  refine ⟨of_decide_eq_true h.1, fun r hr => ?_⟩
  have k := h.2 r hr
  rw [Bool.and_eq_true, Bool.and_eq_true, Bool.and_eq_true, Bool.and_eq_true, List.all_eq_true] at k
  exact ⟨k.1.1.1.1, of_decide_eq_true k.1.1.1.2, of_decide_eq_true k.1.1.2, of_decide_eq_true k.1.2, fun x hx => of_decide_eq_true (k.2 x hx)⟩
theorem sum_cast (l : List Nat) : (l.map fun (x : Nat) => (x : Int)).sum = ((l.foldl (· + ·) 0 : Nat) : Int) := by
  have go : ∀ (l : List Nat) (a : Nat), (a : Int) + (l.map fun (x : Nat) => (x : Int)).sum = ((l.foldl (· + ·) a : Nat) : Int) := fun l => by
    induction l with
    | nil => intro a; simp
    | cons x l ih =>
      intro a
      rw [List.map_cons, List.sum_cons, List.foldl_cons, ← ih (a + x)]
      omega
  have := go l 0
  rw [← this]
  omega
theorem quo_rows (n : Nat) (L : List (List Nat)) : (L.map ptpD).map (quoD n) = ((L.map fun s => fct n / wt2 s).map fun (x : Nat) => (x : Int)).map D.int := by
  rw [List.map_map, List.map_map, List.map_map]
  refine List.map_congr_left fun r _ => ?_
  show D.int ((fct n / wt2 (rowOf (natsD r)) : Nat) : Int) = _
  rw [rowOf_nats]; rfl
theorem seqIx {x m : Nat} (h : 0 < m) : seqIndex? ((x : Int) % (m : Int)) m = some (x % m) := by
  have e : (x : Int) % (m : Int) = ((x % m : Nat) : Int) := (Int.natCast_emod x m).symm
  have l := Nat.mod_lt x h
  rw [e]
  have j0 : ¬ ((x % m : Nat) : Int) < 0 := by omega
  unfold seqIndex?
  simp only [if_neg j0]
  rw [if_pos (by rw [Bool.and_eq_true, decide_eq_true_iff, decide_eq_true_iff]; omega)]
  rfl
theorem natsD_erase (l : List Nat) (t : Nat) : (natsD l).eraseIdx t = natsD (l.eraseIdx t) := by
  unfold natsD
  rw [List.eraseIdx_eq_take_drop_succ, List.eraseIdx_eq_take_drop_succ, List.map_append, List.map_take, List.map_drop]
theorem upN_len (n : Nat) : (upN n).length = n := by unfold upN; rw [List.length_map, List.length_range]
theorem erase_perm : ∀ {l : List Nat} {t : Nat} (h : t < l.length), (l[t] :: l.eraseIdx t).Perm l
  | x :: l, 0, _ => List.Perm.refl _
  | x :: l, t + 1, h => by
    have := erase_perm (l := l) (t := t) (by simpa using h)
    exact (List.Perm.swap x _ _).trans (this.cons x)
def le4 : D → Bool
  | .int i => decide (i ≤ 4)
  | _ => false
theorem filt_le4 : ∀ l : List Nat, (natsD l).filter le4 = natsD (l.filter fun x => decide (x ≤ 4))
  | [] => rfl
  | x :: l => by
    show List.filter _ (D.int x :: natsD l) = _
    rw [List.filter_cons, filt_le4 l, List.filter_cons]
    by_cases h : x ≤ 4
    · rw [if_pos (decide_eq_true h), if_pos (show le4 (.int x) = true from decide_eq_true (by omega))]; rfl
    · have h2 : le4 (.int x) = false := decide_eq_false (by omega)
      rw [if_neg (by rw [h2]; exact Bool.false_ne_true), if_neg (by rw [decide_eq_false h]; exact Bool.false_ne_true)]
theorem up_le4 (n : Nat) : (upN n).filter (fun x => decide (x ≤ 4)) = upN (min n 4) := by
  by_cases h : n ≤ 4
  · rw [Nat.min_eq_left h, List.filter_eq_self]
    intro x hx
    have := upN_mem.mp hx
    exact decide_eq_true (by omega)
  · obtain ⟨m, rfl⟩ : ∃ m, n = 4 + m := ⟨n - 4, by omega⟩
    rw [Nat.min_eq_right (by omega)]
    clear h
    induction m with
    | zero => rfl
    | succ m ih => rw [show 4 + (m + 1) = (4 + m) + 1 by omega, upN_s, List.filter_append, ih, List.filter_cons, if_neg (by simp; omega)]; simp
def ixP (p : List Nat) : D → D
  | .int i => .int (nx p i.toNat : Nat)
  | d => d
theorem map_ixP (p o : List Nat) : (natsD o).map (ixP p) = natsD (o.map fun x => nx p x) := by
  unfold natsD
  rw [List.map_map, List.map_map]; rfl
theorem ix_at {p : List Nat} {x : Nat} (h1 : 1 ≤ x) (h2 : x ≤ p.length) : ixD (natsD p) ((x : Int) - 1) = some (.int (nx p x : Nat)) := by
  obtain ⟨y, rfl⟩ : ∃ y, x = y + 1 := ⟨x - 1, by omega⟩
  rw [show ((y + 1 : Nat) : Int) - 1 = (y : Int) by omega]
  refine natsD_get ?_
  show p[y]? = some (p.getD (y + 1 - 1) 0)
  rw [Nat.add_sub_cancel, List.getD_eq_getElem?_getD, List.getElem?_eq_getElem (by omega)]; rfl
theorem zs_inj : ∀ {a b : List Nat}, zs a = zs b → a = b
  | [], [], _ => rfl
  | [], _ :: _, h => by cases h
  | _ :: _, [], h => by cases h
  | x :: a, y :: b, h => by
    injection h with h1 h2
    rw [zs_inj h2, Int.ofNat.inj h1]
theorem oEq_nats (a b : List Nat) {Q : D → Prop} (q : Q (.bl (a == b))) : oEq (.lst (natsD a)) (.lst (natsD b)) Q := by
  rw [natsD_i, natsD_i]
  refine ⟨⟨okD_lst _, okD_lst _⟩, ?_⟩
  have : eqD (.lst ((zs a).map D.int)) (.lst ((zs b).map D.int)) = (a == b) := by
    rw [eqD_lst]
    by_cases h : a = b
    · rw [h, decide_eq_true rfl, beq_self_eq_true]
    · rw [decide_eq_false (fun z => h (zs_inj z)), beq_eq_false_iff_ne.mpr h]
  rw [this]; exact q
def okEl : Bool := (List.range 5).all fun n => (ordF n n).all fun o => decide (o.length = n) && o.all fun x => decide (1 ≤ x ∧ x ≤ n)
theorem okEl_t : okEl = true := by decide +kernel
theorem ord_el {n : Nat} (hn : n ≤ 4) : ∀ o ∈ ordF n n, o.length = n ∧ ∀ x ∈ o, 1 ≤ x ∧ x ≤ n := by
  have h := okEl_t
  unfold okEl at h
  rw [List.all_eq_true] at h
  have h := h n (List.mem_range.mpr (by omega))
  rw [List.all_eq_true] at h
  intro o ho
  have h := h o ho
  rw [Bool.and_eq_true, List.all_eq_true] at h
  exact ⟨of_decide_eq_true h.1, fun x hx => of_decide_eq_true (h.2 x hx)⟩
theorem com_t {n : Nat} (hn : n ≤ 4) {s : List Nat} (hs : s ∈ ordF n n) : wt2 (isD (lensF s n s [])) = ((ordF n n).filter fun o => comR s o).length ∧ okS (zs (isD (lensF s n s []))) = true ∧ (isD (lensF s n s [])).length ≤ 20 ∧ (zs (isD (lensF s n s []))).sum ≤ 20 ∧ ∀ x ∈ isD (lensF s n s []), x ≤ 20 := by
  have h := okCom_t
  unfold okCom at h
  rw [List.all_eq_true] at h
  have h := h n (List.mem_range.mpr (by omega))
  rw [List.all_eq_true] at h
  have h := h s hs
  rw [Bool.and_eq_true, Bool.and_eq_true, Bool.and_eq_true, Bool.and_eq_true, List.all_eq_true] at h
  exact ⟨of_decide_eq_true h.1, h.2.1.1.1, of_decide_eq_true h.2.1.1.2, of_decide_eq_true h.2.1.2, fun x hx => of_decide_eq_true (h.2.2 x hx)⟩
theorem cp9 : CPow 10 9 := ⟨by decide, by decide, by decide⟩
theorem np {ns : List Int} (h : ¬ ns.Perm (oneTo ns.length)) : ¬ PermP ns := fun z => h z.2
theorem oneTo_nd (n : Nat) : (oneTo n).Nodup := by
  rw [← zs_up]
  unfold zs
  exact List.Pairwise.map _ (fun a b h z => h (by omega)) (upN_nd n)
theorem np_im {im : List Nat} (h : ∀ s, s ∈ im ↔ 1 ≤ s ∧ s ≤ im.length) (h0 : im ≠ []) : ¬ PermP (zs im ++ [1]) := fun z => by
  have nd := z.2.nodup_iff.mpr (oneTo_nd _)
  obtain ⟨_, _, n3⟩ := List.nodup_append.mp nd
  have hl : 1 ≤ im.length := by
    cases im with
    | nil => exact absurd rfl h0
    | cons x im => simp
  exact n3 1 (zs_mem.mpr ((h 1).mpr ⟨Nat.le_refl _, hl⟩)) 1 List.mem_cons_self rfl
theorem ok_one : okD (.tup [.int 1]) = true := by decide +kernel
def wBad : List (List Int) := [[1, 2], [0], [3, -1], [21], [3, 0], List.replicate 21 1, [2, 3, 1]]
theorem wBad_t : (wBad.all fun ns => decide (ns.length ≤ 1000) && (!okS ns || (okS ns && decide (20 < ns.sum)))) = true := by decide +kernel
theorem wl {x : D} {P : D → Prop} (hx : x ∈ wBad.map fun ns => D.tup (ns.map D.int)) (p : P (.bl true)) : ∃ d, r__law_refused [.str "weight", x] d ∧ P d := by
  obtain ⟨ns, h, rfl⟩ := List.mem_map.mp hx
  have t := wBad_t
  rw [List.all_eq_true] at t
  have t := t ns h
  rw [Bool.and_eq_true, Bool.or_eq_true, Bool.and_eq_true] at t
  refine ⟨_, .inr (.inr (.inr ⟨ns, rfl, of_decide_eq_true t.1, ?_, rfl⟩)), p⟩
  rcases t.2 with k | k
  · exact .inl (by cases e : okS ns with
      | true => rw [e] at k; cases k
      | false => rfl)
  · exact .inr ⟨k.1, of_decide_eq_true k.2⟩
theorem srcW_t {δ : List Sl} {Q : List D → Prop} (q : Q (wBad.map fun ns => D.tup (ns.map D.int))) : sL (ofF (fLst (dArgs [dTup (dArgs [dC (D.int 1), dC (D.int 2)]), dTup (dArgs [dC (D.int 0)]), dTup (dArgs [dC (D.int 3), dNeg (dC (D.int 1))]), dTup (dArgs [dC (D.int 21)]), dTup (dArgs [dC (D.int 3), dC (D.int 0)]),
  dOp oRepT (dTup (dArgs [dC (D.int 1)])) (dC (D.int 21)), dTup (dArgs [dC (D.int 2), dC (D.int 3), dC (D.int 1)])]))) δ Q := by
  refine ⟨⟨by decide, by decide, by decide⟩, ?_⟩
  exact q
theorem fin_t {src : DAs} {vs : List Nat} {s0 s1 s2 s3 s4 s5 s6 s7 s8 s9 s10 s11 s12 : Sl} {Q : D → Prop} (q : Q (.bl true)) (hv : vs = [11]) (hs : ∀ {δ} {Q : List D → Prop}, Q (wBad.map fun ns => D.tup (ns.map D.int)) → src δ Q) :
    gRet (dCa (o1 (gAny fun bs => bs.all id)) [ofF (fLc src (gN 11) tYesD (dCall (relR r__law_refused) [dC (D.str (Str.ofString "weight")), dV 11]) vs)]) (endR Q) [s0, s1, s2, s3, s4, s5, s6, s7, s8, s9, s10, s11, s12] := by
  subst hv
  refine hs ?_
  refine lc_map (fun _ => .bl true) (fun x hx P p => ?_) ⟨List.replicate 7 true, rfl, q⟩
  exact wl hx p
theorem loopS {src : DAs} {L : List D} {g : DS} {F : DE} {s0 s1 s2 s3 s4 s5 s6 s7 s8 s9 s10 s11 s12 : Sl} (hs : ∀ {Q : List D → Prop}, Q L → src [s0, s1, s2, s3, s4, s5, s6, s7, s8, s9, s10, s11, s12] Q) (hL : ∀ x ∈ L, r__law_refused [.str "shapes", x] (.bl true))
    (h : ∀ v, g F [s0, s1, s2, s3, s4, s5, s6, s7, s8, s9, s10, v, s12]) : gSeq (gFor src (gN 11) (gIf (tNotD (tOf (dCall (relR r__law_refused) [dC (D.str (Str.ofString "shapes")), dV 11]))) (gRet (dC (D.bl false))) gNext)) g F [s0, s1, s2, s3, s4, s5, s6, s7, s8, s9, s10, s11, s12] := by
  refine hs ?_
  refine loop_inv (fun i δ => ∃ v, δ = [s0, s1, s2, s3, s4, s5, s6, s7, s8, s9, s10, v, s12]) ⟨s11, rfl⟩ ?_ ?_
  · rintro i x δ ex ⟨v, rfl⟩ N hN
    exact ⟨_, hL x (List.mem_of_getElem? ex), hN _ ⟨.d x, rfl⟩⟩
  · rintro δ ⟨v, rfl⟩
    exact h v
theorem loopO {src : DAs} {L : List D} {g : DS} {F : DE} {s0 s1 s2 s3 s4 s5 s6 s7 s8 s9 s10 s11 s12 : Sl} (hs : ∀ {Q : List D → Prop}, Q L → src [s0, s1, s2, s3, s4, s5, s6, s7, s8, s9, s10, s11, s12] Q) (hL : ∀ x ∈ L, r__law_refused [.str "of", x] (.bl true) ∨ x = .tup [.int 1])
    (h : ∀ v, g F [s0, s1, s2, s3, s4, s5, s6, s7, s8, s9, s10, v, s12]) : gSeq (gFor src (gN 11) (gIf (tAndD (tNotD (tOf (dCall (relR r__law_refused) [dC (D.str (Str.ofString "of")), dV 11]))) (tOf (dOp oNe (qV 11) (dTup (dArgs [dC (D.int 1)]))))) (gRet (dC (D.bl false))) gNext)) g F [s0, s1, s2, s3, s4, s5, s6, s7, s8, s9, s10, s11, s12] := by
  refine hs ?_
  refine loop_inv (fun i δ => ∃ v, δ = [s0, s1, s2, s3, s4, s5, s6, s7, s8, s9, s10, v, s12]) ⟨s11, rfl⟩ ?_ ?_
  · rintro i x δ ex ⟨v, rfl⟩ N hN
    rcases hL x (List.mem_of_getElem? ex) with h | rfl
    · exact ⟨_, h, hN _ ⟨.d x, rfl⟩⟩
    · refine ⟨_, .inr (.inr (.inl ⟨rfl, rfl⟩)), ?_⟩
      show oNe (.tup [.int 1]) (.tup [.int 1]) _
      exact oEqB_refl (d := .tup [.int 1]) ok_one (hN _ ⟨.d (.tup [.int 1]), rfl⟩)
  · rintro δ ⟨v, rfl⟩
    exact h v
theorem s3_t {δ : List Sl} {Q : List D → Prop} (q : Q [.int (-1), .int 21, .int (10 ^ 9)]) : sL (ofF (fLst (dArgs [dNeg (dC (D.int 1)), dC (D.int 21), dOp oPow (dC (D.int 10)) (dC (D.int 9))]))) δ Q := by
  refine ⟨cp9, ?_⟩
  exact q
theorem s3_r : ∀ x ∈ [D.int (-1), .int 21, .int (10 ^ 9)], r__law_refused [.str "shapes", x] (.bl true) := fun x hx => by
  rcases List.mem_cons.mp hx with rfl | hx
  · exact .inl ⟨_, rfl, by decide, rfl⟩
  rcases List.mem_cons.mp hx with rfl | hx
  · exact .inl ⟨_, rfl, by decide, rfl⟩
  rcases List.mem_cons.mp hx with rfl | hx
  · exact .inl ⟨_, rfl, by decide, rfl⟩
  cases hx
theorem s6_t {s0 s1 s2 s3 s4 s5 s6 s8 s9 s10 s11 s12 : Sl} {im : List Nat} {Q : List D → Prop} (hi : im.length ≤ 20) (q : Q [.tup [.int 0], .tup [.int 1, .int 1], .tup [.int 2], .tup [.int 1, .int 3, .int 2, .int 5], .tup (natsD im ++ [.int 1]), .tup (rgD 1 22)]) :
    sL (ofF (fLst (dArgs [dTup (dArgs [dC (D.int 0)]), dTup (dArgs [dC (D.int 1), dC (D.int 1)]), dTup (dArgs [dC (D.int 2)]), dTup (dArgs [dC (D.int 1), dC (D.int 3), dC (D.int 2), dC (D.int 5)]), dOp oAdd (qV 7) (dTup (dArgs [dC (D.int 1)])), dRg fun δ Q => dC (D.int 1) δ (asI fun n => dC (D.int 22) δ (asI fun m => Q n m))])))
      [s0, s1, s2, s3, s4, s5, s6, .d (.tup (natsD im)), s8, s9, s10, s11, s12] Q := by
  refine ⟨le_lim (by rw [natsD_len]; show im.length + 1 ≤ _; omega), rgb (by decide) (by decide) (by decide) (by decide) (by decide), ?_⟩
  exact q
theorem s6_r {im : List Nat} (hi : im.length ≤ 20) (pm3 : ∀ s, s ∈ im ↔ 1 ≤ s ∧ s ≤ im.length) : ∀ x ∈ [D.tup [.int 0], .tup [.int 1, .int 1], .tup [.int 2], .tup [.int 1, .int 3, .int 2, .int 5], .tup (natsD im ++ [.int 1]), .tup (rgD 1 22)], r__law_refused [.str "of", x] (.bl true) ∨ x = .tup [.int 1] := fun x hx => by
  rcases List.mem_cons.mp hx with rfl | hx
  · exact .inl (.inr (.inl ⟨[0], rfl, by decide, np (by decide), rfl⟩))
  rcases List.mem_cons.mp hx with rfl | hx
  · exact .inl (.inr (.inl ⟨[1, 1], rfl, by decide, np (by decide), rfl⟩))
  rcases List.mem_cons.mp hx with rfl | hx
  · exact .inl (.inr (.inl ⟨[2], rfl, by decide, np (by decide), rfl⟩))
  rcases List.mem_cons.mp hx with rfl | hx
  · exact .inl (.inr (.inl ⟨[1, 3, 2, 5], rfl, by decide, np (by decide), rfl⟩))
  rcases List.mem_cons.mp hx with rfl | hx
  · by_cases h0 : im = []
    · subst h0; exact .inr rfl
    · exact .inl (.inr (.inl ⟨zs im ++ [1], by rw [List.map_append, ← natsD_i]; rfl, by rw [List.length_append]; unfold zs; rw [List.length_map]; show im.length + 1 ≤ 1000; omega, np_im pm3 h0, rfl⟩))
  rcases List.mem_cons.mp hx with rfl | hx
  · exact .inl (.inr (.inl ⟨oneTo 21, rfl, by decide, fun z => absurd z.1 (by decide), rfl⟩))
  cases hx
theorem ok_law (T : Tx K mg W) {fa : Addr} {fd : FuncData} (Dd : Fun K "law" "law" s_law fa fd) (C__law_draws : Cal P w K mg base CX0 1 "_law_draws" ["script", "many"] (spW K (allR dom__law_draws r__law_draws))) (C__law_orders : Cal P w K mg base CX0 1 "_law_orders" ["n"] (spW K (relR r__law_orders))) (C_shapes : Cal P w K mg base (L2.CX P w) 23 "shapes" ["n"] (spX K (relX (r_shapes W)))) (C_shape_of : Cal P w K mg base (L2.CX P w) 3 "shape_of" ["images"] (spX K (relX (r_shape_of W)))) (C__law_cycles : Cal P w K mg base CX0 1 "_law_cycles" ["images"] (spW K (relR r__law_cycles))) (C__law_rows : Cal P w K mg base CX0 22 "_law_rows" ["n", "most"] (spW K (relR (r__law_rows 21)))) (C_weight : Cal P w K mg base (L2.CX P w) 3 "weight" ["shape"] (spX K (relX (r_weight W)))) (C__law_refused : Cal P w K mg base CX0 24 "_law_refused" ["word", "value"] (spW K (relR r__law_refused))) : FnOk P w K mg base CX0 25 fa fd ["script"] (spW K (relR r_law)) := by
  refine fn_ok Dd sc_law (fun ds Q h => ?_) (fun f cdv A outer s H E hr => 
  (ss_cons (s_set (i := 1) sc_law.nd rfl (.inl rfl) (d_call C__law_draws allR_mono (hr.mono (by decide)) (a_cons (dv 0) (a_cons d_int a_nil))))
  (ss_cons (s_set (i := 2) sc_law.nd rfl (.inl rfl) (d_op o_mod (d_callT c_int T.n_int (b_cons (d_ix (qv 1) d_int.q).q b_nil)).q d_int.q))
  (ss_cons (s_if (t_cmp (o_eq (hu64 hr)) (d_op o_mod (d_callT c_int T.n_int (b_cons (d_ix (qv 1) d_int.q).q b_nil)).q d_int.q).q d_int.q) (
    (ss_one (s_set (i := 2) sc_law.nd rfl (.inl rfl) (d_op (o_add) d_int.q (d_op o_mod (d_callT c_int T.n_int (b_cons (d_ix (qv 1) d_int.q).q b_nil)).q d_int.q).q)))) (ss_nil))
  (ss_cons (s_asg (d_tup (a_cons (d_callL C_shapes relX_mono (hr.mono (by decide)) (a_cons (dv 2) a_nil)) (a_cons d_int a_nil))) (g_tup (gs_cons (g_name (i := 3) sc_law.nd rfl (.inl rfl)) (gs_cons (g_name (i := 4) sc_law.nd rfl (.inr rfl)) gs_nil))))
  (ss_cons (s_for PassesOwn.never (i_range2 T.n_range d_int.q (d_op (o_add) (qv 2) d_int.q).q) (g_name (i := 5) sc_law.nd rfl (.inl rfl)) (
    (ss_one (s_set (i := 4) sc_law.nd rfl (.inr rfl) (d_op (o_mul) (qv 4) (qv 5))))))
  (ss_cons (s_if (w_or (t_not (t_val (d_isi k_list T.n_isinstance T.n_list (qv 3)).q)) (w_or (t_cmp (o_ne (hu64 hr)) (qv 3) (d_call C__law_rows relR_mono (hr.mono (by decide)) (a_cons (dv 2) (a_cons (dv 2) a_nil))).q) (w_or1 (t_cmp (o_ne (hu64 hr)) (d_callB (c_sumA) T.n_sum (b_cons (f_lc sc_law.nd (i_listQ (qv 3)) (blkOk_by (own := [("one", 12)]) (N := ["script", "draws", "n", "told", "factorial_v", "k", "left", "images", "small", "few", "other", "value", "one"]) (sc := defScope s_law) (by decide +kernel)) (fun _ _ _ _ _ => (g_name (i := 12) sc_law.nd rfl (.inl rfl))) (fun _ _ _ _ _ => ts_nil) (fun _ _ _ _ _ => (d_op o_div (qv 4) (d_callL C_weight relX_mono (hr.mono (by decide)) (a_cons (dv 12) a_nil)).q))).p.q b_nil)).q (qv 4))))).t (
    (ss_one (s_ret d_bl))) (ss_nil))
  (ss_cons (s_parOV (i := 6) (j := 7) sc_law.nd rfl rfl (f_listRg T.n_list (r_2 T.n_range d_int.q (d_op (o_add) (d_callB (c_min2) T.n_min (b_cons (qv 2) (b_cons d_int.q b_nil))).q d_int.q).q)) (d_tup a_nil))
  (ss_cons (s_for PassesOwn.never (i_range1 T.n_range (d_callB (c_len) T.n_len (b_cons (qv 6) b_nil)).q) (g_name (i := 5) sc_law.nd rfl (.inl rfl)) (
    (ss_one (s_popCat (i := 7) (j := 6) sc_law.nd rfl (.inl rfl) rfl (d_op o_mod (d_callT c_int T.n_int (b_cons (d_ix (qv 1) (d_op (o_add) d_int.q (qv 5)).q).q b_nil)).q (d_callB (c_len) T.n_len (b_cons (qv 6) b_nil)).q).q))))
  (ss_cons (s_if (t_cmp (o_ne (hu64 hr)) (d_callL C_shape_of relX_mono (hr.mono (by decide)) (a_cons (dv 7) a_nil)).q (d_call C__law_cycles relR_mono (hr.mono (by decide)) (a_cons (dv 7) a_nil)).q) (
    (ss_one (s_ret d_bl))) (ss_nil))
  (ss_cons (s_asg (d_tup (a_cons (d_callT c_tuple T.n_tuple (b_cons (f_lc sc_law.nd (i_tup (dv 7)).q (blkOk_by (own := [("one", 12)]) (N := ["script", "draws", "n", "told", "factorial_v", "k", "left", "images", "small", "few", "other", "value", "one"]) (sc := defScope s_law) (by decide +kernel)) (fun _ _ _ _ _ => (g_name (i := 12) sc_law.nd rfl (.inl rfl))) (fun _ _ _ _ _ => ts_one (t_cmp o_le (qv 12) d_int.q)) (fun _ _ _ _ _ => (dv 12))).p.q b_nil)) (a_cons d_int a_nil))) (g_tup (gs_cons (g_name (i := 8) sc_law.nd rfl (.inr rfl)) (gs_cons (g_name (i := 9) sc_law.nd rfl (.inl rfl)) gs_nil))))
  (ss_cons (s_for PassesOwn.never (i_list (d_call C__law_orders relR_mono (hr.mono (by decide)) (a_cons (d_callB (c_len) T.n_len (b_cons (qv 8) b_nil)) a_nil))) (g_name (i := 10) sc_law.nd rfl (.inr rfl)) (
    (ss_one (s_if (t_cmp (o_eq (hu64 hr)) (f_lc sc_law.nd (i_tup (dv 10)).q (blkOk_by (own := [("one", 12)]) (N := ["script", "draws", "n", "told", "factorial_v", "k", "left", "images", "small", "few", "other", "value", "one"]) (sc := defScope s_law) (by decide +kernel)) (fun _ _ _ _ _ => (g_name (i := 12) sc_law.nd rfl (.inl rfl))) (fun _ _ _ _ _ => ts_nil) (fun _ _ _ _ _ => (d_ix (qv 8) (d_op o_sub (qv 12) d_int.q).q))).p.q (f_lc sc_law.nd (i_tup (dv 8)).q (blkOk_by (own := [("one", 12)]) (N := ["script", "draws", "n", "told", "factorial_v", "k", "left", "images", "small", "few", "other", "value", "one"]) (sc := defScope s_law) (by decide +kernel)) (fun _ _ _ _ _ => (g_name (i := 12) sc_law.nd rfl (.inl rfl))) (fun _ _ _ _ _ => ts_nil) (fun _ _ _ _ _ => (d_ix (qv 10) (d_op o_sub (qv 12) d_int.q).q))).p.q) (
      (ss_one (s_set (i := 9) sc_law.nd rfl (.inl rfl) (d_op (o_add) (qv 9) d_int.q)))) (ss_nil)))))
  (ss_cons (s_if (w_or (t_cmp (o_ne (hu64 hr)) (d_callL C_weight relX_mono (hr.mono (by decide)) (a_cons (d_callL C_shape_of relX_mono (hr.mono (by decide)) (a_cons (dv 8) a_nil)) a_nil)).q (qv 9)) (w_or1 (t_val (d_isi k_bool T.n_isinstance T.n_bool (d_callL C_weight relX_mono (hr.mono (by decide)) (a_cons (d_callL C_shape_of relX_mono (hr.mono (by decide)) (a_cons (dv 8) a_nil)) a_nil)).q).q))).t (
    (ss_one (s_ret d_bl))) (ss_nil))
  (ss_cons (s_for PassesOwn.never (i_list (f_lst (a_cons (d_neg d_int.q) (a_cons d_int (a_cons (d_op o_pow d_int.q d_int.q) a_nil)))).p) (g_name (i := 11) sc_law.nd rfl (.inl rfl)) (
    (ss_one (s_if (t_not (t_val (d_call C__law_refused relR_mono (hr.mono (by decide)) (a_cons d_str (a_cons (dv 11) a_nil))).q)) (
      (ss_one (s_ret d_bl))) (ss_nil)))))
  (ss_cons (s_for PassesOwn.never (i_list (f_lst (a_cons (d_tup (a_cons d_int a_nil)) (a_cons (d_tup (a_cons d_int (a_cons d_int a_nil))) (a_cons (d_tup (a_cons d_int a_nil)) (a_cons (d_tup (a_cons d_int (a_cons d_int (a_cons d_int (a_cons d_int a_nil))))) (a_cons (d_op (o_add) (qv 7) (d_tup (a_cons d_int a_nil)).q) (a_cons (d_tupRg T.n_tuple (r_2 T.n_range d_int.q d_int.q)) a_nil))))))).p) (g_name (i := 11) sc_law.nd rfl (.inl rfl)) (
    (ss_one (s_if (w_and (t_not (t_val (d_call C__law_refused relR_mono (hr.mono (by decide)) (a_cons d_str (a_cons (dv 11) a_nil))).q)) (w_and1 (t_cmp (o_ne (hu64 hr)) (qv 11) (d_tup (a_cons d_int a_nil)).q))).t (
      (ss_one (s_ret d_bl))) (ss_nil)))))
  (ss_one (s_ret (d_callB (c_all) T.n_all (b_cons (f_lc sc_law.nd (i_listQ (f_lst (a_cons (d_tup (a_cons d_int (a_cons d_int a_nil))) (a_cons (d_tup (a_cons d_int a_nil)) (a_cons (d_tup (a_cons d_int (a_cons (d_neg d_int.q) a_nil))) (a_cons (d_tup (a_cons d_int a_nil)) (a_cons (d_tup (a_cons d_int (a_cons d_int a_nil))) (a_cons (d_op o_repT (d_tup (a_cons d_int a_nil)).q d_int.q) (a_cons (d_tup (a_cons d_int (a_cons d_int (a_cons d_int a_nil)))) a_nil)))))))).p.q) (blkOk_by (own := [("value", 11)]) (N := ["script", "draws", "n", "told", "factorial_v", "k", "left", "images", "small", "few", "other", "value", "one"]) (sc := defScope s_law) (by decide +kernel)) (fun _ _ _ _ _ => (g_name (i := 11) sc_law.nd rfl (.inl rfl))) (fun _ _ _ _ _ => ts_nil) (fun _ _ _ _ _ => (d_call C__law_refused relR_mono (hr.mono (by decide)) (a_cons d_str (a_cons (dv 11) a_nil))))).p.q b_nil))))))))))))))))))) (fun ds Q h => ?_)

  · obtain ⟨d, ⟨ns, rfl, _⟩, _⟩ := h; rfl
  · obtain ⟨d, ⟨ns, rfl, hn, rfl⟩, q⟩ := h
    refine ⟨⟨ns, 40, rfl, hn, by decide⟩, ?_⟩
    rintro d ⟨m, dr, em, rfl, hl, hb⟩
    obtain rfl : m = 40 := by
      have := Option.some.inj em
      injection this with this
      omega
    clear em
    have g : ∀ m, m < 40 → ∃ x : Nat, dr[m]? = some x ∧ (natsD dr)[m]? = some (.int (x : Int)) := fun m hm => ⟨_, List.getElem?_eq_getElem (by omega), natsD_get (List.getElem?_eq_getElem (by omega))⟩
    obtain ⟨x0, _, e0⟩ := g 0 (by decide)
    obtain ⟨x1, _, e1⟩ := g 1 (by decide)
    obtain ⟨n0, en0, hn0⟩ := mod_nat (x0 : Int) (m := 10) (by decide)
    obtain ⟨n1, en1, hn1⟩ := mod_nat (x0 : Int) (m := 11) (by decide)
    refine onSome_of e0 ⟨md (by decide), ?_⟩
    dsimp (config := { proj := false }) only
    rw [en0]
    refine onSome_of e1 ⟨md (by decide), ?_⟩
    show ite (decide ((x1 : Int) % 20 = 0) = true) _ _
    apply joinB (fun n : Nat => n ≤ 20) n0 (by omega)
    · intro _ hN
      refine onSome_of e0 ⟨md (by decide), ?_⟩
      dsimp (config := { proj := false }) only
      rw [en1]
      exact hN (10 + n1) (by omega)
    · intro n hn20
      refine ⟨_, .inl ⟨n, rfl, hn20, rfl⟩, ?_⟩
      refine ⟨rgb (by decide) (by decide) (by omega) (by omega) (by omega), loop_rg (n := n - 1) (fun j δ => ∃ x5 : Sl, δ = [.d (.scr (ns.map D.int)), .d (.lst (natsD dr)), .d (.int n), .d (.lst ((rw2 n n).map ptpD)), .d (.int (fct (j + 1) : Nat)), x5, .no, .no, .no, .no, .no, .no, .no]) (by omega) ⟨.no, rfl⟩ ?_ ?_⟩
      · rintro j δ hj ⟨x5, rfl⟩ N hN
        refine ⟨mulR ⟨by omega, by omega⟩, hN _ ⟨.d (.int (2 + (j : Int))), ?_⟩⟩
        have : ((fct (j + 1) : Nat) : Int) * (2 + (j : Int)) = ((fct (j + 1 + 1) : Nat) : Int) := by
          show _ = (((j + 1 + 1) * fct (j + 1) : Nat) : Int)
          rw [Int.natCast_mul, Int.mul_comm, show ((j + 1 + 1 : Nat) : Int) = 2 + (j : Int) by omega]
        rw [← this]; rfl
      · rintro δ ⟨x5, rfl⟩
        have ef : fct (n - 1 + 1) = fct n := by
          cases n with
          | zero => rfl
          | succ n => rfl
        rw [ef]
        refine ⟨rfl, ?_⟩
        refine ⟨_, ⟨n, n, rfl, by omega, hn20, hn20, rfl⟩, ?_⟩
        show oNe (.lst ((rw2 n n).map ptpD)) (.lst ((rw2 n n).map tupD)) _
        refine oNe_rows _ ?_
        obtain ⟨rt1, rt2⟩ := row_t hn20
        refine lc_map (quoD n) (fun x hx P p => ?_) ?_
        · obtain ⟨r, hr, rfl⟩ := List.mem_map.mp hx
          obtain ⟨k1, k2, k3, k4, k5⟩ := rt2 r hr
          have p : P (.int ((fct n / wt2 r : Nat) : Int)) := by
            have p : P (.int ((fct n / wt2 (rowOf (natsD r)) : Nat) : Int)) := p
            rw [rowOf_nats] at p
            exact p
          refine ⟨.ret (.int (wt2 r : Nat)), .inl ⟨r, rfl, k1, k2, k3, k5, rfl⟩, ?_⟩
          refine ⟨wide_div (b := 4201) (by omega) (by have := wt2_lt k2; exact_mod_cast this) (by decide) (by decide), p⟩
        · rw [quo_rows]
          refine ⟨_, rfl, ?_⟩
          rw [sum_cast, rt1]
          show ite ((!decide (((fct n : Nat) : Int) = ((fct n : Nat) : Int))) = true) _ _
          refine yN (fun h => absurd rfl h) (fun _ => ?_)
          obtain ⟨mm, hmm⟩ : ∃ mm, mm = min n 12 := ⟨_, rfl⟩
          have hM : (if (12 : Int) < (n : Int) then (12 : Int) else (n : Int)) = (mm : Int) := by
            split <;> omega
          show RgB 1 ((if (12 : Int) < (n : Int) then (12 : Int) else (n : Int)) + 1) ∧ _
          rw [hM]
          refine ⟨rgb (by decide) (by decide) (by omega) (by omega) (by omega), ?_⟩
          rw [rg_nats]
          have ul : (natsD ((List.range mm).map (· + 1))).length = mm := by rw [natsD_len, List.length_map, List.length_range]
          refine ⟨rgb (by decide) (by decide) (by rw [ul]; omega) (by rw [ul]; omega) (by rw [ul]; omega), loop_rg (n := mm) (fun j δ => ∃ (l im : List Nat) (x5 : Sl), δ = [.d (.scr (ns.map D.int)), .d (.lst (natsD dr)), .d (.int n), .d (.lst ((rw2 n n).map ptpD)), .d (.int (fct n : Nat)), x5, .own (natsD l), .d (.tup (natsD im)), .no, .no, .no, .no, .no] ∧ (im ++ l).Perm (upN mm) ∧ im.length = j) (by rw [ul]; omega) ⟨upN mm, [], x5, rfl, List.Perm.refl _, rfl⟩ ?_ ?_⟩
          · rintro j δ hj ⟨l, im, x5, rfl, hp, hi⟩ N hN
            have pl := hp.length_eq
            rw [List.length_append, upN_len] at pl
            have ll : 0 < l.length := by omega
            obtain ⟨x, _, ex⟩ := g (2 + j) (by omega)
            have ex : ixD (natsD dr) (2 + (0 + (j : Int))) = some (.int (x : Int)) := by
              rw [show (2 + (0 + (j : Int)) : Int) = ((2 + j : Nat) : Int) by omega]; exact ex
            have lt := Nat.mod_lt x ll
            refine onSome_of ex ⟨md (by rw [natsD_len]; omega), ?_⟩
            show onSome (seqIndex? ((x : Int) % ((natsD l).length : Int)) (natsD l).length) _
            rw [natsD_len]
            refine onSome_of (seqIx ll) ?_
            refine onSome_of (natsD_get (List.getElem?_eq_getElem lt)) ⟨⟨?_, ?_, le_lim (by rw [natsD_len]; omega)⟩, hN _ ⟨l.eraseIdx (x % l.length), im ++ [l[x % l.length]], .d (.int (0 + (j : Int))), ?_, ?_, by rw [List.length_append, List.length_singleton]; omega⟩⟩
            · have := Int.emod_nonneg (x : Int) (by omega : (l.length : Int) ≠ 0); omega
            · have := Int.emod_lt_of_pos (x : Int) (by omega : 0 < (l.length : Int)); omega
            · rw [natsD_app, ← natsD_erase]; rfl
            · rw [List.append_assoc, List.singleton_append]
              refine List.Perm.trans ?_ hp
              exact List.Perm.append_left _ (erase_perm lt)
          · rintro δ ⟨l, im, x5, rfl, hp, hi⟩
            have pl := hp.length_eq
            rw [List.length_append, upN_len] at pl
            obtain rfl : l = [] := List.length_eq_zero_iff.mp (by omega)
            rw [List.append_nil] at hp
            obtain ⟨pm1, pm2, pm3⟩ := pm_of (p := im) (by rw [hi]; exact hp) (by omega)
            have hpi : im.Perm (upN im.length) := by rw [hi]; exact hp
            refine ⟨_, .inl ⟨im, isD (lensF im im.length im []), rfl, by omega, pm2, pm1, fun s hs => (pm3 s).mp hs, isD_desc _, rfl⟩, ?_⟩
            refine ⟨_, ⟨im, isD (lensF im im.length im []), rfl, by omega, pm1, ?_, rfl⟩, ?_⟩
            · exact ⟨(isD_desc _).pm.trans (lens_perm pm1 pm3 fun s => upN_mem), (isD_desc _).ord⟩
            refine oNe_row _ ?_
            obtain ⟨sm, hsm⟩ : ∃ sm, sm = im.filter (fun x => decide (x ≤ 4)) := ⟨_, rfl⟩
            refine lc_run le4 id (fun x hx P0 N0 p0 n0 => ?_) ?_
            · obtain ⟨k, _, rfl⟩ := List.mem_map.mp hx
              refine yD (fun h => p0 (by show decide ((k : Int) ≤ 4) = true; exact decide_eq_true h)) (fun h => n0 (by show decide ((k : Int) ≤ 4) = false; exact decide_eq_false h))
            rw [filt_le4, ← hsm, List.map_id, List.nil_append]
            have smp : sm.Perm (upN (min mm 4)) := by
              rw [hsm, ← up_le4]; exact hp.filter _
            have sl := smp.length_eq
            rw [upN_len] at sl
            obtain ⟨k, hk⟩ : ∃ k, k = sm.length := ⟨_, rfl⟩
            have hk4 : k ≤ 4 := by omega
            have smk : sm.Perm (upN sm.length) := by rw [sl]; exact smp
            obtain ⟨qm1, qm2, qm3⟩ := pm_of (p := sm) smk (by omega)
            have hso : sm ∈ ordF k k := mem_ord k sm hk.symm (smk.nodup_iff.mpr (upN_nd _)) fun x hx => by have := (qm3 x).mp hx; omega
            refine ⟨_, ⟨k, by rw [natsD_len, hk], hk4, rfl⟩, ?_⟩
            refine loop_inv (fun i δ => ∃ x10 : Sl, δ = [.d (.scr (ns.map D.int)), .d (.lst (natsD dr)), .d (.int n), .d (.lst ((rw2 n n).map ptpD)), .d (.int (fct n : Nat)), x5, .own (natsD []), .d (.tup (natsD im)), .d (.tup (natsD sm)), .d (.int ((((ordF k k).take i).filter fun o => comR sm o).length : Nat)), x10, .no, .no]) ⟨.no, rfl⟩ ?_ ?_
            · rintro i x δ ex ⟨x10, rfl⟩ N hN
              rw [List.getElem?_map] at ex
              cases er : (ordF k k)[i]? with
              | none => rw [er] at ex; cases ex
              | some o =>
                rw [er] at ex
                obtain rfl := Option.some.inj ex
                obtain ⟨ol, od⟩ := ord_el hk4 o (List.mem_of_getElem? er)
                have tk : (ordF k k).take (i + 1) = (ordF k k).take i ++ [o] := by rw [List.take_add_one, er]; rfl
                refine lc_map (ixP sm) (fun x hx P p => ?_) ?_
                · obtain ⟨y, hy, rfl⟩ := List.mem_map.mp hx
                  have := od y hy
                  exact onSome_of (ix_at this.1 (by omega)) p
                rw [map_ixP]
                refine lc_map (ixP o) (fun x hx P p => ?_) ?_
                · obtain ⟨y, hy, rfl⟩ := List.mem_map.mp hx
                  have := (qm3 y).mp hy
                  exact onSome_of (ix_at this.1 (by omega)) p
                rw [map_ixP]
                refine oEq_nats _ _ ?_
                show ite (comR sm o = true) _ _
                refine yB (fun h => ?_) (fun h => ?_)
                · refine hN _ ⟨.d (tupD o), ?_⟩
                  rw [tk, List.filter_append, List.filter_cons, if_pos h, List.length_append]; rfl
                · refine hN _ ⟨.d (tupD o), ?_⟩
                  rw [tk, List.filter_append, List.filter_cons, if_neg (by rw [h]; exact Bool.false_ne_true), List.filter_nil, List.append_nil]; rfl
            · rintro δ ⟨x10, rfl⟩
              rw [List.length_map, List.take_length]
              obtain ⟨c1, c2, c3, c4, c5⟩ := com_t hk4 hso
              rw [hk] at c1 c2 c3 c4 c5
              have sh : r_shape_of W [.tup (natsD sm)] (.ret (.ptp (natsD (isD (lensF sm sm.length sm []))))) := .inl ⟨sm, isD (lensF sm sm.length sm []), rfl, by omega, qm2, qm1, fun s hs => (qm3 s).mp hs, isD_desc _, rfl⟩
              have we : r_weight W [.ptp (natsD (isD (lensF sm sm.length sm [])))] (.ret (.int (wt2 (isD (lensF sm sm.length sm [])) : Nat))) := .inl ⟨_, rfl, c2, c3, c4, c5, rfl⟩
              refine ⟨_, sh, _, we, ?_⟩
              show ite ((!decide (((wt2 (isD (lensF sm sm.length sm [])) : Nat) : Int) = (((ordF k k).filter fun o => comR sm o).length : Nat))) = true) _ _
              refine yN (fun h => absurd (by rw [c1, hk]) h) (fun _ => ?_)
              refine ⟨_, sh, _, we, rfl, ?_⟩
              dsimp only [asB, gNext]
              refine yF rfl ?_
              refine loopS s3_t s3_r fun v => ?_
              refine loopO (s6_t (by omega)) (s6_r (by omega) pm3) fun v => ?_
              exact fin_t q rfl srcW_t
end
end DL

set_option maxHeartbeats 8000000
namespace DL
open PySem L2
theorem kit_ref {K : PySem.W.Frag} {C D : Addr} (e0 : PySem.W.subIn K (.ref C) (.ref C) = some true) (i : PySem.W.isClsIn K D = true) (t : PySem.W.typeIn K (.ref D) = some (.type "type")) (e : PySem.W.subIn K (.ref C) (.ref D) = some false) : PySem.W.kitOne K (.ref C) (.ref D) = some false := by
  unfold PySem.W.kitOne
  rw [if_neg (by
    intro z
    have z' := beq_iff_eq.mp z
    rw [← z', e0] at e
    cases e)]
  show (if ((PySem.W.clsIn K D).isSome && PySem.W.typeIn K (.ref D) == some (.type "type")) = true then _ else none) = _
  rw [if_pos (by rw [show (PySem.W.clsIn K D).isSome = true from i, t]; rfl)]
  exact e
theorem kit_type {K : PySem.W.Frag} {C : Addr} {T : String} {b : Bool} (h : PySem.W.kitMeta T = true) (e : PySem.W.subIn K (.ref C) (.type T) = some b) : PySem.W.kitOne K (.ref C) (.type T) = some b := by
  unfold PySem.W.kitOne
  rw [if_neg (by intro z; cases beq_iff_eq.mp z)]
  show (if PySem.W.kitMeta T = true then _ else none) = _
  rw [if_pos h]
  exact e
theorem law_start {K : PySem.W.Frag} {H : Hp} {a : Addr} {ns : List Int} {E : XK} (hl : ns.length ≤ 63) (hS : SqL K H a (ns.map V.int)) : spW K (relR r_law) [.ref a] H (fun v _ => v = .bl true) E := by
  have e : hid [] H = H := by funext x; exact hid_of (by simp)
  have ai : ∀ l : List Int, AtAll K H (l.map V.int) (l.map D.int) := fun l => by
    induction l with
    | nil => exact .nil
    | cons i l ih => exact .cons (.int i) ih
  refine ⟨[], [.scr (ns.map D.int)], nofun, ?_, .bl true, ⟨ns, rfl, hl, rfl⟩, fun v H' _ h => ?_⟩
  · rw [e]
    exact .cons (.scr hS (by rw [List.length_map]; exact Nat.le_trans hl (by decide)) (ai ns)) .nil
  · cases h
    rfl
theorem all_mk {l : PySem.W.OpenLaw} {w : World} {K : PySem.W.Frag} {h : Heap} {mg : Str → Option Value} {fa : Addr} (X : K.In h) (G : h.Ns mainGlobals mg) (hfa : mg "law" = some (.ref fa))
    {f0 : Addr} {oc0 kV0 dc0 pm0 cd0 ct0 : Value} {od0 an0 : Option Addr} {sl0 : Array (Option Value)}
    {f1 : Addr} {oc1 kV1 dc1 pm1 cd1 ct1 : Value} {od1 an1 : Option Addr} {sl1 : Array (Option Value)}
    {f2 : Addr} {oc2 kV2 dc2 pm2 cd2 ct2 : Value} {od2 an2 : Option Addr} {sl2 : Array (Option Value)}
    {f3 : Addr} {oc3 kV3 dc3 pm3 cd3 ct3 : Value} {od3 an3 : Option Addr} {sl3 : Array (Option Value)}
    {f4 : Addr} {oc4 kV4 dc4 pm4 cd4 ct4 : Value} {od4 an4 : Option Addr} {sl4 : Array (Option Value)}
    {f5 : Addr} {oc5 kV5 dc5 pm5 cd5 ct5 : Value} {od5 an5 : Option Addr} {sl5 : Array (Option Value)}
    {f6 : Addr} {oc6 kV6 dc6 pm6 cd6 ct6 : Value} {od6 an6 : Option Addr} {sl6 : Array (Option Value)}
    {f7 : Addr} {oc7 kV7 dc7 pm7 cd7 ct7 : Value} {od7 an7 : Option Addr} {sl7 : Array (Option Value)}
    {f8 : Addr} {oc8 kV8 dc8 pm8 cd8 ct8 : Value} {od8 an8 : Option Addr} {sl8 : Array (Option Value)}
    {f9 : Addr} {oc9 kV9 dc9 pm9 cd9 ct9 : Value} {od9 an9 : Option Addr} {sl9 : Array (Option Value)}
    {f10 : Addr} {oc10 kV10 dc10 pm10 cd10 ct10 : Value} {od10 an10 : Option Addr} {sl10 : Array (Option Value)}
    {f11 : Addr} {oc11 kV11 dc11 pm11 cd11 ct11 : Value} {od11 an11 : Option Addr} {sl11 : Array (Option Value)}
    {f12 : Addr} {oc12 kV12 dc12 pm12 cd12 ct12 : Value} {od12 an12 : Option Addr} {sl12 : Array (Option Value)}
    {f13 : Addr} {oc13 kV13 dc13 pm13 cd13 ct13 : Value} {od13 an13 : Option Addr} {sl13 : Array (Option Value)}
    {cSpeciesError cBadShape : Addr}
    {tMOST_THINGS : Tok}
    (a0 : PySem.W.nsIn K mainGlobals "is_whole" = some (some (.ref f0)))
    (l0 : K.lookup f0 = some ⟨oc0, od0, .func (PySem.W.fnOf "is_whole" "is_whole" (defArgs s_is_whole) (defBody s_is_whole) (defScope s_is_whole) .none kV0 dc0 pm0 an0 cd0 ct0), sl0⟩)
    (c0 : PySem.W.codeIn K cd0 "is_whole" = true)
    (k0 : PySem.W.keepIn K (.ref f0) = true)
    (a1 : PySem.W.nsIn K mainGlobals "power" = some (some (.ref f1)))
    (l1 : K.lookup f1 = some ⟨oc1, od1, .func (PySem.W.fnOf "power" "power" (defArgs s_power) (defBody s_power) (defScope s_power) .none kV1 dc1 pm1 an1 cd1 ct1), sl1⟩)
    (c1 : PySem.W.codeIn K cd1 "power" = true)
    (k1 : PySem.W.keepIn K (.ref f1) = true)
    (a2 : PySem.W.nsIn K mainGlobals "shapes" = some (some (.ref f2)))
    (l2 : K.lookup f2 = some ⟨oc2, od2, .func (PySem.W.fnOf "shapes" "shapes" (defArgs s_shapes) (defBody s_shapes) (defScope s_shapes) .none kV2 dc2 pm2 an2 cd2 ct2), sl2⟩)
    (c2 : PySem.W.codeIn K cd2 "shapes" = true)
    (k2 : PySem.W.keepIn K (.ref f2) = true)
    (a3 : PySem.W.nsIn K mainGlobals "_shapes_within" = some (some (.ref f3)))
    (l3 : K.lookup f3 = some ⟨oc3, od3, .func (PySem.W.fnOf "_shapes_within" "_shapes_within" (defArgs s__shapes_within) (defBody s__shapes_within) (defScope s__shapes_within) .none kV3 dc3 pm3 an3 cd3 ct3), sl3⟩)
    (c3 : PySem.W.codeIn K cd3 "_shapes_within" = true)
    (k3 : PySem.W.keepIn K (.ref f3) = true)
    (a4 : PySem.W.nsIn K mainGlobals "shape_of" = some (some (.ref f4)))
    (l4 : K.lookup f4 = some ⟨oc4, od4, .func (PySem.W.fnOf "shape_of" "shape_of" (defArgs s_shape_of) (defBody s_shape_of) (defScope s_shape_of) .none kV4 dc4 pm4 an4 cd4 ct4), sl4⟩)
    (c4 : PySem.W.codeIn K cd4 "shape_of" = true)
    (k4 : PySem.W.keepIn K (.ref f4) = true)
    (a5 : PySem.W.nsIn K mainGlobals "_check_permutation" = some (some (.ref f5)))
    (l5 : K.lookup f5 = some ⟨oc5, od5, .func (PySem.W.fnOf "_check_permutation" "_check_permutation" (defArgs s__check_permutation) (defBody s__check_permutation) (defScope s__check_permutation) .none kV5 dc5 pm5 an5 cd5 ct5), sl5⟩)
    (c5 : PySem.W.codeIn K cd5 "_check_permutation" = true)
    (k5 : PySem.W.keepIn K (.ref f5) = true)
    (a6 : PySem.W.nsIn K mainGlobals "weight" = some (some (.ref f6)))
    (l6 : K.lookup f6 = some ⟨oc6, od6, .func (PySem.W.fnOf "weight" "weight" (defArgs s_weight) (defBody s_weight) (defScope s_weight) .none kV6 dc6 pm6 an6 cd6 ct6), sl6⟩)
    (c6 : PySem.W.codeIn K cd6 "weight" = true)
    (k6 : PySem.W.keepIn K (.ref f6) = true)
    (a7 : PySem.W.nsIn K mainGlobals "check_shape" = some (some (.ref f7)))
    (l7 : K.lookup f7 = some ⟨oc7, od7, .func (PySem.W.fnOf "check_shape" "check_shape" (defArgs s_check_shape) (defBody s_check_shape) (defScope s_check_shape) .none kV7 dc7 pm7 an7 cd7 ct7), sl7⟩)
    (c7 : PySem.W.codeIn K cd7 "check_shape" = true)
    (k7 : PySem.W.keepIn K (.ref f7) = true)
    (a8 : PySem.W.nsIn K mainGlobals "_law_draws" = some (some (.ref f8)))
    (l8 : K.lookup f8 = some ⟨oc8, od8, .func (PySem.W.fnOf "_law_draws" "_law_draws" (defArgs s__law_draws) (defBody s__law_draws) (defScope s__law_draws) .none kV8 dc8 pm8 an8 cd8 ct8), sl8⟩)
    (c8 : PySem.W.codeIn K cd8 "_law_draws" = true)
    (k8 : PySem.W.keepIn K (.ref f8) = true)
    (a9 : PySem.W.nsIn K mainGlobals "_law_orders" = some (some (.ref f9)))
    (l9 : K.lookup f9 = some ⟨oc9, od9, .func (PySem.W.fnOf "_law_orders" "_law_orders" (defArgs s__law_orders) (defBody s__law_orders) (defScope s__law_orders) .none kV9 dc9 pm9 an9 cd9 ct9), sl9⟩)
    (c9 : PySem.W.codeIn K cd9 "_law_orders" = true)
    (k9 : PySem.W.keepIn K (.ref f9) = true)
    (a10 : PySem.W.nsIn K mainGlobals "_law_cycles" = some (some (.ref f10)))
    (l10 : K.lookup f10 = some ⟨oc10, od10, .func (PySem.W.fnOf "_law_cycles" "_law_cycles" (defArgs s__law_cycles) (defBody s__law_cycles) (defScope s__law_cycles) .none kV10 dc10 pm10 an10 cd10 ct10), sl10⟩)
    (c10 : PySem.W.codeIn K cd10 "_law_cycles" = true)
    (k10 : PySem.W.keepIn K (.ref f10) = true)
    (a11 : PySem.W.nsIn K mainGlobals "_law_rows" = some (some (.ref f11)))
    (l11 : K.lookup f11 = some ⟨oc11, od11, .func (PySem.W.fnOf "_law_rows" "_law_rows" (defArgs s__law_rows) (defBody s__law_rows) (defScope s__law_rows) .none kV11 dc11 pm11 an11 cd11 ct11), sl11⟩)
    (c11 : PySem.W.codeIn K cd11 "_law_rows" = true)
    (k11 : PySem.W.keepIn K (.ref f11) = true)
    (a12 : PySem.W.nsIn K mainGlobals "_law_refused" = some (some (.ref f12)))
    (l12 : K.lookup f12 = some ⟨oc12, od12, .func (PySem.W.fnOf "_law_refused" "_law_refused" (defArgs s__law_refused) (defBody s__law_refused) (defScope s__law_refused) .none kV12 dc12 pm12 an12 cd12 ct12), sl12⟩)
    (c12 : PySem.W.codeIn K cd12 "_law_refused" = true)
    (k12 : PySem.W.keepIn K (.ref f12) = true)
    (a13 : PySem.W.nsIn K mainGlobals "law" = some (some (.ref f13)))
    (l13 : K.lookup f13 = some ⟨oc13, od13, .func (PySem.W.fnOf "law" "law" (defArgs s_law) (defBody s_law) (defScope s_law) .none kV13 dc13 pm13 an13 cd13 ct13), sl13⟩)
    (c13 : PySem.W.codeIn K cd13 "law" = true)
    (k13 : PySem.W.keepIn K (.ref f13) = true)
    (g_SpeciesError : PySem.W.nsIn K mainGlobals "SpeciesError" = some (some (.ref cSpeciesError)))
    (g_BadShape : PySem.W.nsIn K mainGlobals "BadShape" = some (some (.ref cBadShape)))
    (n_isinstance : PySem.W.nsIn K mainGlobals "isinstance" = some none)
    (n_int : PySem.W.nsIn K mainGlobals "int" = some none)
    (n_bool : PySem.W.nsIn K mainGlobals "bool" = some none)
    (n_range : PySem.W.nsIn K mainGlobals "range" = some none)
    (n_min : PySem.W.nsIn K mainGlobals "min" = some none)
    (n_tuple : PySem.W.nsIn K mainGlobals "tuple" = some none)
    (n_sorted : PySem.W.nsIn K mainGlobals "sorted" = some none)
    (n_any : PySem.W.nsIn K mainGlobals "any" = some none)
    (n_len : PySem.W.nsIn K mainGlobals "len" = some none)
    (n_list : PySem.W.nsIn K mainGlobals "list" = some none)
    (n_sum : PySem.W.nsIn K mainGlobals "sum" = some none)
    (n_set : PySem.W.nsIn K mainGlobals "set" = some none)
    (n_abs : PySem.W.nsIn K mainGlobals "abs" = some none)
    (n_ValueError : PySem.W.nsIn K mainGlobals "ValueError" = some none)
    (n_all : PySem.W.nsIn K mainGlobals "all" = some none)
    (m_factorial : PySem.W.nsIn K mainGlobals "factorial" = some (some (.builtin "math.factorial")))
    (g_MOST_THINGS : PySem.W.nsIn K mainGlobals "MOST_THINGS" = some (some (.int 20 tMOST_THINGS)))
    (BadShape_x : PySem.W.excIn K cBadShape [.type "ValueError", .type "Exception", .type "BaseException", .type "object"] "ValueError.__new__" = true)
    (BadShape_k : PySem.W.keepIn K (.ref cBadShape) = true)
    (BadShape_b : PySem.W.subIn K (.ref cBadShape) (.type "BaseException") = some true)
    (BadShape_t : PySem.W.typeIn K (.ref cBadShape) = some (.type "type"))
    (BadShape_ga : PySem.W.findIn K (.ref cBadShape) "__getattribute__" = some (some (.builtin "BaseException.__getattribute__")))
    (BadShape_gt : PySem.W.findIn K (.ref cBadShape) "__getattr__" = some none)
    (BadShape_hd : PySem.W.hasDictIn K cBadShape = true)
    (BadShape_ca : PySem.W.findIn K (.ref cBadShape) "__class__" = some (some (.builtin "object.__class__")))
    (BadShape_cm : PySem.W.mroIn K cBadShape (.type "object") = some true)
    (BadShape_s : PySem.W.subIn K (.ref cBadShape) (.ref cSpeciesError) = some true)
    (BadShape_e : PySem.W.subIn K (.ref cBadShape) (.ref cBadShape) = some true)
    (BadShape_i : PySem.W.isClsIn K cBadShape = true)
    (B_cn : PySem.W.specialIn K (.builtin "object.__class__") "__get__" = some (some (.builtin "getset_descriptor.__get__")))
    (B_ct : PySem.W.takesIn K (.builtin "object.__class__") = some true)
    (S_b : PySem.W.subIn K (.ref cSpeciesError) (.type "BaseException") = some true)
    (S_hd : PySem.W.hasDictIn K cSpeciesError = true)
    (S_t : PySem.W.typeIn K (.ref cSpeciesError) = some (.type "type"))
    (BadShape_v : PySem.W.subIn K (.ref cBadShape) (.type "ValueError") = some true) :
    ∃ fd : FuncData, (∀ (s : Shared) (v : Value), BindsTo s fd ⟨[v], []⟩ [("script", v)]) ∧ ∀ base : Heap, K.In base → base.Ns mainGlobals mg → FnOk l.prog w K mg base CX0 25 fa fd ["script"] (spW K (relR r_law)) := by
  have e := hfa.symm.trans (PySem.W.mg_of X G a13)
  cases e
  have F0 := fun_mk (st := s_is_whole) l0 c0 k0
  have D0 : Df K mg "is_whole" s_is_whole ["value"] := ⟨f0, _, PySem.W.mg_of X G a0, F0, F0.binds (ps := ["value"]) fun _ _ _ _ _ _ us hl => match us, hl with | [_], _ => rfl⟩
  have F1 := fun_mk (st := s_power) l1 c1 k1
  have D1 : Df K mg "power" s_power ["base", "times"] := ⟨f1, _, PySem.W.mg_of X G a1, F1, F1.binds (ps := ["base", "times"]) fun _ _ _ _ _ _ us hl => match us, hl with | [_, _], _ => rfl⟩
  have F2 := fun_mk (st := s_shapes) l2 c2 k2
  have D2 : Df K mg "shapes" s_shapes ["n"] := ⟨f2, _, PySem.W.mg_of X G a2, F2, F2.binds (ps := ["n"]) fun _ _ _ _ _ _ us hl => match us, hl with | [_], _ => rfl⟩
  have F3 := fun_mk (st := s__shapes_within) l3 c3 k3
  have D3 : Df K mg "_shapes_within" s__shapes_within ["n", "longest"] := ⟨f3, _, PySem.W.mg_of X G a3, F3, F3.binds (ps := ["n", "longest"]) fun _ _ _ _ _ _ us hl => match us, hl with | [_, _], _ => rfl⟩
  have F4 := fun_mk (st := s_shape_of) l4 c4 k4
  have D4 : Df K mg "shape_of" s_shape_of ["images"] := ⟨f4, _, PySem.W.mg_of X G a4, F4, F4.binds (ps := ["images"]) fun _ _ _ _ _ _ us hl => match us, hl with | [_], _ => rfl⟩
  have F5 := fun_mk (st := s__check_permutation) l5 c5 k5
  have D5 : Df K mg "_check_permutation" s__check_permutation ["images"] := ⟨f5, _, PySem.W.mg_of X G a5, F5, F5.binds (ps := ["images"]) fun _ _ _ _ _ _ us hl => match us, hl with | [_], _ => rfl⟩
  have F6 := fun_mk (st := s_weight) l6 c6 k6
  have D6 : Df K mg "weight" s_weight ["shape"] := ⟨f6, _, PySem.W.mg_of X G a6, F6, F6.binds (ps := ["shape"]) fun _ _ _ _ _ _ us hl => match us, hl with | [_], _ => rfl⟩
  have F7 := fun_mk (st := s_check_shape) l7 c7 k7
  have D7 : Df K mg "check_shape" s_check_shape ["shape"] := ⟨f7, _, PySem.W.mg_of X G a7, F7, F7.binds (ps := ["shape"]) fun _ _ _ _ _ _ us hl => match us, hl with | [_], _ => rfl⟩
  have F8 := fun_mk (st := s__law_draws) l8 c8 k8
  have D8 : Df K mg "_law_draws" s__law_draws ["script", "many"] := ⟨f8, _, PySem.W.mg_of X G a8, F8, F8.binds (ps := ["script", "many"]) fun _ _ _ _ _ _ us hl => match us, hl with | [_, _], _ => rfl⟩
  have F9 := fun_mk (st := s__law_orders) l9 c9 k9
  have D9 : Df K mg "_law_orders" s__law_orders ["n"] := ⟨f9, _, PySem.W.mg_of X G a9, F9, F9.binds (ps := ["n"]) fun _ _ _ _ _ _ us hl => match us, hl with | [_], _ => rfl⟩
  have F10 := fun_mk (st := s__law_cycles) l10 c10 k10
  have D10 : Df K mg "_law_cycles" s__law_cycles ["images"] := ⟨f10, _, PySem.W.mg_of X G a10, F10, F10.binds (ps := ["images"]) fun _ _ _ _ _ _ us hl => match us, hl with | [_], _ => rfl⟩
  have F11 := fun_mk (st := s__law_rows) l11 c11 k11
  have D11 : Df K mg "_law_rows" s__law_rows ["n", "most"] := ⟨f11, _, PySem.W.mg_of X G a11, F11, F11.binds (ps := ["n", "most"]) fun _ _ _ _ _ _ us hl => match us, hl with | [_, _], _ => rfl⟩
  have F12 := fun_mk (st := s__law_refused) l12 c12 k12
  have D12 : Df K mg "_law_refused" s__law_refused ["word", "value"] := ⟨f12, _, PySem.W.mg_of X G a12, F12, F12.binds (ps := ["word", "value"]) fun _ _ _ _ _ _ us hl => match us, hl with | [_, _], _ => rfl⟩
  have F13 := fun_mk (st := s_law) l13 c13 k13
  have T : Tx K mg ⟨cSpeciesError, cBadShape, (.int 20 tMOST_THINGS)⟩ := ⟨PySem.W.mg_none_of X G n_isinstance, PySem.W.mg_none_of X G n_int, PySem.W.mg_none_of X G n_bool, PySem.W.mg_none_of X G n_range, PySem.W.mg_none_of X G n_min, PySem.W.mg_none_of X G n_tuple, PySem.W.mg_none_of X G n_sorted, PySem.W.mg_none_of X G n_any, PySem.W.mg_none_of X G n_len, PySem.W.mg_none_of X G n_list, PySem.W.mg_none_of X G n_sum, PySem.W.mg_none_of X G n_set, PySem.W.mg_none_of X G n_abs, PySem.W.mg_none_of X G n_ValueError, PySem.W.mg_none_of X G n_all, PySem.W.mg_of X G m_factorial, PySem.W.mg_of X G g_MOST_THINGS, ⟨_, rfl⟩, fun H => .int _, ⟨PySem.W.mg_of X G g_BadShape, BadShape_x, BadShape_k, BadShape_b, BadShape_t⟩, PySem.W.mg_of X G g_SpeciesError⟩
  have kk : ∀ c : Addr, PySem.W.kitOne K (.ref c) (.ref c) = some true := fun c => by (unfold PySem.W.kitOne; rw [if_pos (beq_self_eq_true _)])
  have XX : Ex K ⟨cSpeciesError, cBadShape, (.int 20 tMOST_THINGS)⟩ := ⟨⟨⟨BadShape_ga, BadShape_gt, BadShape_b, BadShape_hd, BadShape_ca, B_cn, B_ct, BadShape_cm⟩, PySem.W.exm_ref S_b S_hd S_t BadShape_s⟩, kk cBadShape, kit_type rfl BadShape_v⟩
  refine ⟨PySem.W.fnOf "law" "law" (defArgs s_law) (defBody s_law) (defScope s_law) .none kV13 dc13 pm13 an13 cd13 ct13, fun s v => .of_eq rfl, fun base _ _ => ?_⟩
  have C__law_draws := ok__law_draws (P := l.prog) (w := w) (base := base) T D8
  have C__law_orders := ok__law_orders (P := l.prog) (w := w) (base := base) T D9
  have C__shapes_within := rows_all (P := l.prog) (w := w) (base := base) (T := T) D3 21
  have C_is_whole := ok_is_whole (P := l.prog) (w := w) (base := base) T D0
  have C_shapes := ok_shapes (P := l.prog) (w := w) (base := base) T D2 C__shapes_within C_is_whole
  have C__check_permutation := ok__check_permutation (P := l.prog) (w := w) (base := base) T D5 C_is_whole
  have C_shape_of := ok_shape_of (P := l.prog) (w := w) (base := base) T D4 C__check_permutation
  have C__law_cycles := ok__law_cycles (P := l.prog) (w := w) (base := base) T D10
  have C__law_rows := lrows_all (P := l.prog) (w := w) (base := base) (T := T) D11 21
  have C_check_shape := ok_check_shape (P := l.prog) (w := w) (base := base) T D7 C_is_whole
  have C_power := ok_power (P := l.prog) (w := w) (base := base) T D1
  have C_weight := ok_weight (P := l.prog) (w := w) (base := base) T D6 C_check_shape C_power
  have C__law_refused := ok__law_refused (P := l.prog) (w := w) (base := base) T D12 XX C_shapes C_shape_of C_weight
  exact ok_law T F13 C__law_draws C__law_orders C_shapes C_shape_of C__law_cycles C__law_rows C_weight C__law_refused
theorem walk {l : PySem.W.OpenLaw} {q : Program} {loose : List Str} {XP : (Str → Option Value) → Heap → Prop} {YP : World → Heap → Prop} {d : DefRec} {K : Params → PySem.W.Frag} (hn : l.most = some 63) (hdf : d.params.defaults = [])
    (hY : ∀ (w : World) (h : Heap), YP w h → (K w.params).In h)
    (F : ∀ (w : World) (mg : Str → Option Value) (fa : Addr) (h : Heap), (K w.params).In h → h.Ns mainGlobals mg → mg d.name = some (.ref fa) →
      ∃ fd : FuncData, (∀ (s : Shared) (u : Value), BindsTo s fd ⟨[u], []⟩ [("script", u)]) ∧ ∀ base : Heap, (K w.params).In base → base.Ns mainGlobals mg → FnOk l.prog w (K w.params) mg base CX0 25 fa fd ["script"] (spW (K w.params) (relR r_law))) :
    PySem.W.WalkO q loose XP YP l.row.toRowW d [] (fun f vs => PySem.call f vs) :=
  L2.walk_of (n := 63) (k := 25) (x := "script") (CX := fun _ => CX0) (sp := fun w => spW (K w.params) (relR r_law)) hn (by decide) hdf ⟨rfl, by decide, by decide⟩ hY F (fun _ _ a ns hl _ hS => law_start hl hS) fun _ _ _ _ _ z => z
end DL

open PySem PySem.W PyProof.Rows
set_option maxRecDepth 100000 in
set_option maxHeartbeats 0 in
theorem PySem.Challenge.cw_speciesmill_k50_shapes_holds : PySem.Challenge.rw_speciesmill_k50_shapes.Holds := by
  w_on; o_law; k_head; (case hw => w_witness2)
  k_fill
  refine DL.walk (l := PySem.Challenge.rw_speciesmill_k50_shapes) rfl rfl (fun w h Y => PySem.W.kIn_of Y) ?F
  case F =>
    intro w mg fa h KX G hmg
    refine' DL.all_mk KX G hmg ?a0 ?l0 ?c0 ?k0 ?a1 ?l1 ?c1 ?k1 ?a2 ?l2 ?c2 ?k2 ?a3 ?l3 ?c3 ?k3 ?a4 ?l4 ?c4 ?k4 ?a5 ?l5 ?c5 ?k5 ?a6 ?l6 ?c6 ?k6 ?a7 ?l7 ?c7 ?k7 ?a8 ?l8 ?c8 ?k8 ?a9 ?l9 ?c9 ?k9 ?a10 ?l10 ?c10 ?k10 ?a11 ?l11 ?c11 ?k11 ?a12 ?l12 ?c12 ?k12 ?a13 ?l13 ?c13 ?k13 ?g_SpeciesError ?g_BadShape ?n_isinstance ?n_int ?n_bool ?n_range ?n_min ?n_tuple ?n_sorted ?n_any ?n_len ?n_list ?n_sum ?n_set ?n_abs ?n_ValueError ?n_all ?m_factorial ?g_MOST_THINGS ?BadShape_x ?BadShape_k ?BadShape_b ?BadShape_t ?BadShape_ga ?BadShape_gt ?BadShape_hd ?BadShape_ca ?BadShape_cm ?BadShape_s ?BadShape_e ?BadShape_i ?B_cn ?B_ct ?S_b ?S_hd ?S_t ?BadShape_v
    (case g_SpeciesError => k_is); (case g_BadShape => k_is); (case a0 => k_is); (case l0 => k_is); (case c0 => k_is); (case k0 => k_is); (case a1 => k_is); (case l1 => k_is)
    (case c1 => k_is); (case k1 => k_is); (case a2 => k_is); (case l2 => k_is); (case c2 => k_is); (case k2 => k_is); (case a3 => k_is); (case l3 => k_is)
    (case c3 => k_is); (case k3 => k_is); (case a4 => k_is); (case l4 => k_is); (case c4 => k_is); (case k4 => k_is); (case a5 => k_is); (case l5 => k_is)
    (case c5 => k_is); (case k5 => k_is); (case a6 => k_is); (case l6 => k_is); (case c6 => k_is); (case k6 => k_is); (case a7 => k_is); (case l7 => k_is)
    (case c7 => k_is); (case k7 => k_is); (case a8 => k_is); (case l8 => k_is); (case c8 => k_is); (case k8 => k_is); (case a9 => k_is); (case l9 => k_is)
    (case c9 => k_is); (case k9 => k_is); (case a10 => k_is); (case l10 => k_is); (case c10 => k_is); (case k10 => k_is); (case a11 => k_is); (case l11 => k_is)
    (case c11 => k_is); (case k11 => k_is); (case a12 => k_is); (case l12 => k_is); (case c12 => k_is); (case k12 => k_is); (case a13 => k_is); (case l13 => k_is)
    (case c13 => k_is); (case k13 => k_is); (case n_isinstance => k_is); (case n_int => k_is); (case n_bool => k_is); (case n_range => k_is); (case n_min => k_is); (case n_tuple => k_is)
    (case n_sorted => k_is); (case n_any => k_is); (case n_len => k_is); (case n_list => k_is); (case n_sum => k_is); (case n_set => k_is); (case n_abs => k_is); (case n_ValueError => k_is)
    (case n_all => k_is); (case m_factorial => k_is); (case g_MOST_THINGS => k_is); (case BadShape_x => k_exc); (case BadShape_k => k_is); (case BadShape_b => k_is); (case BadShape_t => k_is); (case BadShape_ga => k_is)
    (case BadShape_gt => k_is); (case BadShape_hd => k_is); (case BadShape_ca => k_is); (case BadShape_cm => k_is); (case BadShape_s => first | k_is | rfl); (case BadShape_e => first | k_is | rfl); (case BadShape_i => k_is); (case B_cn => k_is)
    (case B_ct => k_is); (case S_b => k_is); (case S_hd => k_is); (case S_t => k_is); (case BadShape_v => k_is)
#print axioms PySem.Challenge.cw_speciesmill_k50_shapes_holds

